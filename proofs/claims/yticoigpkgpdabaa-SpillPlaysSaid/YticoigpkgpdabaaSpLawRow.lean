/-
  SpillRow answers true, and leaves memory as it was. Conditions: numbers of 64 bits.
-/
import Derived.Test.YticoigpkgpdabaaSpLawRowNo
namespace Go.Proofs.Yticoigpkgpdabaa
open Go Go.RowKit

theorem tmod4 (x : Int) : -4 < x.tmod 4 ∧ x.tmod 4 < 4 := by
  by_cases h : x < 0
  · have e : x.tmod 4 = -((-x).tmod 4) := by rw [Int.neg_tmod, Int.neg_neg]
    rw [e, Int.tmod_eq_emod_of_nonneg (by omega)]
    omega
  · rw [Int.tmod_eq_emod_of_nonneg (by omega)]
    omega
theorem tmod4b {x : Int} (h : -4 < x) : (x + 4).tmod 4 = 0 ∨ (x + 4).tmod 4 = 1 ∨ (x + 4).tmod 4 = 2 ∨ (x + 4).tmod 4 = 3 := by
  rw [Int.tmod_eq_emod_of_nonneg (by omega)]
  omega
/-- How much two buffers have. -/
theorem held_two {w : World} {B pb q M C tot ba bb : Nat} {b1 b2 : Bs} (h : All w B pb q M C [(ba, some b1), (bb, some b2)] tot) : b1.all.length ≤ tot ∧ b2.all.length ≤ tot ∧ b1.gone ≤ b1.all.length ∧ b2.gone ≤ b2.all.length ∧ tally heldOf [(ba, some b1), (bb, some b2)] = (b1.all.length - b1.gone) + (b2.all.length - b2.gone) := by
  have g1 := (all_used h (k := 0) rfl).2.2.2.2
  have g2 := (all_used h (k := 1) rfl).2.2.2.2
  obtain ⟨_, _, _, h⟩ := h
  exact ⟨h.long 0 ba b1 rfl, h.long 1 bb b2 rfl, g1, g2, by simp [tally, heldOf]⟩

set_option maxHeartbeats 16000000 in
set_option maxRecDepth 100000 in
theorem lawRow_ok (l : List Opd) (a b : Nat) (v : Value) (w : World) (h : Ops w v l) (hf : fewB l = true) (ha : 1 ≤ a) (ha2 : a ≤ 40) (hb : 1 ≤ b) (hb2 : b ≤ 40) :
    Calls Try.prog 4 #[v, .agg #[.int .i64 (a : Int), .int .i64 (b : Int)]] w fun e w' => e = .returned (.bool true) ∧ w.grownBy w' none := by
  obtain ⟨w1, hW1⟩ : ∃ w1, w.alloc (.cells #[.int .i64 (a : Int), .int .i64 (b : Int)] 51) = w1 := ⟨_, rfl⟩
  have hb1 : Blk w1 w.heap.size [.int .i64 (a : Int), .int .i64 (b : Int)] 51 := by rw [← hW1]; exact Blk.new w _ _
  have hg1 : w.grownBy w1 none := by rw [← hW1]; exact World.grownBy_alloc w _ none
  have hops : Ops w1 v l := by rw [← hW1]; exact h.alloc _
  have hfw := few_any l v w1 hops
  have haw := fun W => awake_any W
  rw [hf] at hfw
  have k0 := hb1.cell (i := 0) rfl
  have k1 := hb1.cell (i := 1) rfl
  have hz := hb1.lt
  have hnew := all_new (w := w1) (B := w1.heap.size) 100000 a b (by decide) (by omega) hb (by omega) (Nat.le_refl _)
  obtain ⟨A, c, rfl, hc, hcm⟩ := h.form
  obtain ⟨hl40, hl300⟩ := few_true hf
  have hkeep := fun wr hm => ops_keep (wr := wr) hops hm
  obtain ⟨B, hB⟩ : ∃ B, w1.heap.size = B := ⟨_, rfl⟩
  rw [hB] at hnew hkeep
  obtain ⟨KL, hKL⟩ : ∃ KL, l.length = KL := ⟨_, rfl⟩
  rw [hKL] at hc hl40 hfw ⊢
  unfold maxLen at hcm
  clear h hops hb1 hf
  replace hB := Lib.hid hB
  replace hg1 := Lib.hid hg1
  replace hKL := Lib.hid hKL
  replace hkeep := Lib.hid hkeep
  replace hl300 := Lib.hid hl300
  replace haw := Lib.hid haw
  have i0 : ¬ (a : Int) < 1 := by omega
  have i1 : ¬ (40 : Int) < (a : Int) := by omega
  have i2 : ¬ (b : Int) < 1 := by omega
  have i3 : ¬ (40 : Int) < (b : Int) := by omega
  go_enter Try.func4, Try.ntmps4
  go_upto_region 1 with fail
  obtain ⟨z, hzz⟩ : ∃ z, w.heap.size = z := ⟨_, rfl⟩
  rw [hzz] at k0 k1 hz ⊢
  replace hW1 := Lib.hid hW1
  replace hzz := Lib.hid hzz
  go_wp2_with fail
  refine hfw.mono ?_
  rintro e w' ⟨rfl, hw⟩
  obtain rfl := hw.symm
  clear hfw hw
  go_wp2_with fail
  refine hnew.mono ?_
  rintro e w2 ⟨rfl, h2, m2, hs2⟩
  clear hnew k0 k1 hz i0 i1 i2 i3
  have hop := all_open h2 (by decide)
  simp only [List.nil_append] at hop
  obtain ⟨ba, hba⟩ : ∃ ba, w2.heap.size = ba := ⟨_, rfl⟩
  rw [hba] at hop
  clear h2 hs2 hba
  replace m2 := Lib.hid m2
  go_wp2_with fail
  refine hop.mono ?_
  rintro e w3 ⟨rfl, h3, m3', hs3⟩
  have m3 := Lib.hid (m2.out.trans m3')
  have hop2 := all_open h3 (by simp)
  simp only [List.cons_append, List.nil_append] at hop2
  obtain ⟨bc, hbc⟩ : ∃ bc, w3.heap.size = bc := ⟨_, rfl⟩
  rw [hbc] at hop2
  clear hop m2 m3' h3 hs3 hbc
  go_wp2_with fail
  refine hop2.mono ?_
  rintro e w4 ⟨rfl, h4, m4', hs4⟩
  have m4 := Lib.hid (m3.out.trans m4')
  clear hop2 m3 m4' hs4
  replace h4 := Lib.hid h4
  go_wp2
  go_loopw [9, 10, 11] (fun iv ov nv wr => ∃ (n : Nat) (b1 b2 : Bs) (tot : Nat) (I O : ByteArray), n ≤ KL ∧ nv = .int .i64 (n : Int) ∧ iv = .string I ∧ ov = .string O ∧ tot ≤ n * 300 ∧ Hid (All wr B B 100000 a b [(ba, some b1), (bc, some b2)] tot) ∧ Hid (Mv B (fun _ => True) w1 wr) ∧
      Hid (tl I = b1.all) ∧ Hid (tl O = b1.all.take b1.gone)) (fun _ _ nv _ => KL - (intOf nv).toNat)
  case atStart => exact ⟨0, _, _, 0, ⟨#[]⟩, ⟨#[]⟩, Nat.zero_le _, rfl, rfl, rfl, Nat.zero_le _, h4, m4, Lib.hid rfl, Lib.hid rfl⟩
  case round =>
    clear h4 m4
    obtain ⟨n, b1, b2, tot, I, O, hn, rfl, rfl, rfl, htot, hA, hm, h1, h2⟩ := hrel
    by_cases hlt : n < KL
    · have hlt' : n < l.length := by rw [hKL.out]; exact hlt
      obtain ⟨blk, off, rfl, hb, c0, c1, c2, c3⟩ := hkeep.out wr hm.out n hlt'
      have hsz := hl300.out n hlt'
      generalize l[n] = o at c0 c1 c2 c3 hsz
      obtain ⟨ask, oat, num, s⟩ := o
      simp only at c0 c1 c2 c3 hsz
      have hwr : B ≤ wr.heap.size := by have := hm.out.size; have := hB.out; omega
      have hth := held_two hA.out
      have hIs : I.size = b1.all.length := by rw [← tl_len, h1.out]
      have hOs : O.size ≤ b1.all.length := by rw [← tl_len, h2.out, List.length_take]; omega
      have tb := tmod4 ask
      have hr : (ask.tmod 4 + 4).tmod 4 = 0 ∨ (ask.tmod 4 + 4).tmod 4 = 1 ∨ (ask.tmod 4 + 4).tmod 4 = 2 ∨ (ask.tmod 4 + 4).tmod 4 = 3 := tmod4b tb.1
      rcases hr with hr | hr | hr | hr
      · have happ := all_append s hA.out (k := 1) rfl (by omega)
        go_upto_region 26 with (go_at_call 14; refine happ.mono ?_; rintro e w5 ⟨⟨hqq, rfl, b2', h5, ha5, hg5⟩ | ⟨hqq, _, _⟩, m5'⟩; rotate_left; (exfalso; omega))
        have hm5 := Lib.hid (hm.out.trans m5')
        simp only [List.set_cons_succ, List.set_cons_zero] at h5
        replace h5 := Lib.hid h5
        clear happ m5' ha5 hg5 hqq hIs hOs hth
        have ht := held_two h5.out
        obtain ⟨t1, t2, t3, t4, t5⟩ := ht
        have hIs : (I).size = b1.all.length := by rw [← tl_len, h1.out]
        have hOs : (O).size = b1.gone := by rw [← tl_len, h2.out, List.length_take]; omega
        have hcmp : (((I).extract 0 (O).size).toList == (O).toList) = true := by
          rw [toL, toL, tl_upto, h1.out, h2.out, hOs, beq_self_eq_true]
        obtain ⟨I2, hIg⟩ : ∃ I2, I = I2 := ⟨_, rfl⟩
        obtain ⟨O2, hOg⟩ : ∃ O2, O = O2 := ⟨_, rfl⟩
        rw [hIg] at hIs hcmp h1
        rw [hOg] at hOs hcmp h2
        try rw [hIg]
        try rw [hOg]
        clear hIg hOg
        obtain ⟨X, hX⟩ : ∃ X, b1.all.length - b1.gone = X := ⟨_, rfl⟩
        obtain ⟨Y, hY⟩ : ∃ Y, b2'.all.length - b2'.gone = Y := ⟨_, rfl⟩
        rw [hX, hY] at t5
        have q1 : ¬ (I2.size : Int) < (O2.size : Int) := by omega
        have q2 : (0 : Int) ≤ (O2.size : Int) := by omega
        have q3 : (O2.size : Int) ≤ (I2.size : Int) := by omega
        have q4 : (I2.size : Int) - (O2.size : Int) = (X : Int) := by omega
        have q5 : ((X : Int) == (X : Int)) = true := by simp
        have q6 : (((X + Y : Nat) : Int) == (X : Int) + (Y : Int)) = true := by simp
        have q7 : ((X : Int) + (Y : Int) == (X : Int) + (Y : Int)) = true := by simp
        have q8 : X ≤ 20000 := by omega
        have q9 : Y ≤ 20000 := by omega
        have q10 : I2.size ≤ 20000 := by omega
        clear t1 t2 t3 t4 hIs hOs
        replace t5 := Lib.hid t5
        replace hX := Lib.hid hX
        replace hY := Lib.hid hY
        have hl := all_len h5.out (k := 0) rfl (by omega)
        rw [hX.out] at hl
        go_wp2_with fail
        refine hl.mono ?_
        rintro e wx ⟨rfl, nq, hw⟩
        have g1 := h5.out.drewN nq
        have n1 := hm5.out.trans (heap_mv (B := B) (S := fun _ => True) ⟨nq, rfl⟩)
        rw [← hw] at g1 n1
        replace g1 := Lib.hid g1
        replace n1 := Lib.hid n1
        clear hl hw
        have hl := all_held g1.out
        rw [t5.out] at hl
        go_wp2_with fail
        refine hl.mono ?_
        rintro e w' ⟨rfl, hw⟩
        obtain rfl := hw.symm
        clear hl hw
        have hl := all_len g1.out (k := 0) rfl (by omega)
        rw [hX.out] at hl
        go_wp2_with fail
        refine hl.mono ?_
        rintro e wx ⟨rfl, nq, hw⟩
        have g2 := g1.out.drewN nq
        have n2 := n1.out.trans (heap_mv (B := B) (S := fun _ => True) ⟨nq, rfl⟩)
        rw [← hw] at g2 n2
        replace g2 := Lib.hid g2
        replace n2 := Lib.hid n2
        clear hl hw
        have hl := all_len g2.out (k := 1) rfl (by omega)
        rw [hY.out] at hl
        go_wp2_with fail
        refine hl.mono ?_
        rintro e wx ⟨rfl, nq, hw⟩
        have g3 := g2.out.drewN nq
        have n3 := n2.out.trans (heap_mv (B := B) (S := fun _ => True) ⟨nq, rfl⟩)
        rw [← hw] at g3 n3
        replace g3 := Lib.hid g3
        replace n3 := Lib.hid n3
        clear hl hw
        clear g1 g2 n1 n2
        go_wp2
        go_roundw
        case rel => exact ⟨n + 1, b1, b2', tot + s.size, I2, O2, by omega, by go_num, rfl, rfl, by omega, g3, n3, h1, h2⟩
        case measure => simp [intOf]; omega
      · have happ := all_append s hA.out (k := 0) rfl (by omega)
        have j1 : I.size + s.size ≤ 9223372036854775807 := by omega
        have j2 : ¬ 9223372036854775807 < I.size + s.size := by omega
        go_upto_region 26 with (go_at_call 14; refine happ.mono ?_; rintro e w5 ⟨⟨hqq, rfl, b1', h5, ha5, hg5⟩ | ⟨hqq, _, _⟩, m5'⟩; rotate_left; (exfalso; omega); replace c3 := mv_cell m5' (p := ⟨blk, off + n * 4 + 3, none⟩) hb hwr c3)
        have hm5 := Lib.hid (hm.out.trans m5')
        simp only [List.set_cons_zero] at h5
        replace h5 := Lib.hid h5
        replace h1 : Hid (tl (I ++ s) = b1'.all) := by show _ = _; rw [tl_app, h1.out, ha5]
        replace h2 : Hid (tl O = b1'.all.take b1'.gone) := by
          show _ = _
          rw [h2.out, ha5, hg5, List.take_append_of_le_length hth.2.2.1]
        clear happ m5' ha5 hg5 hqq hIs hOs hth j1 j2
        have ht := held_two h5.out
        obtain ⟨t1, t2, t3, t4, t5⟩ := ht
        have hIs : ((I ++ s)).size = b1'.all.length := by rw [← tl_len, h1.out]
        have hOs : (O).size = b1'.gone := by rw [← tl_len, h2.out, List.length_take]; omega
        have hcmp : ((((I ++ s)).extract 0 (O).size).toList == (O).toList) = true := by
          rw [toL, toL, tl_upto, h1.out, h2.out, hOs, beq_self_eq_true]
        obtain ⟨I2, hIg⟩ : ∃ I2, (I ++ s) = I2 := ⟨_, rfl⟩
        obtain ⟨O2, hOg⟩ : ∃ O2, O = O2 := ⟨_, rfl⟩
        rw [hIg] at hIs hcmp h1
        rw [hOg] at hOs hcmp h2
        try rw [hIg]
        try rw [hOg]
        clear hIg hOg
        obtain ⟨X, hX⟩ : ∃ X, b1'.all.length - b1'.gone = X := ⟨_, rfl⟩
        obtain ⟨Y, hY⟩ : ∃ Y, b2.all.length - b2.gone = Y := ⟨_, rfl⟩
        rw [hX, hY] at t5
        have q1 : ¬ (I2.size : Int) < (O2.size : Int) := by omega
        have q2 : (0 : Int) ≤ (O2.size : Int) := by omega
        have q3 : (O2.size : Int) ≤ (I2.size : Int) := by omega
        have q4 : (I2.size : Int) - (O2.size : Int) = (X : Int) := by omega
        have q5 : ((X : Int) == (X : Int)) = true := by simp
        have q6 : (((X + Y : Nat) : Int) == (X : Int) + (Y : Int)) = true := by simp
        have q7 : ((X : Int) + (Y : Int) == (X : Int) + (Y : Int)) = true := by simp
        have q8 : X ≤ 20000 := by omega
        have q9 : Y ≤ 20000 := by omega
        have q10 : I2.size ≤ 20000 := by omega
        clear t1 t2 t3 t4 hIs hOs
        replace t5 := Lib.hid t5
        replace hX := Lib.hid hX
        replace hY := Lib.hid hY
        have hl := all_len h5.out (k := 0) rfl (by omega)
        rw [hX.out] at hl
        go_wp2_with fail
        refine hl.mono ?_
        rintro e wx ⟨rfl, nq, hw⟩
        have g1 := h5.out.drewN nq
        have n1 := hm5.out.trans (heap_mv (B := B) (S := fun _ => True) ⟨nq, rfl⟩)
        rw [← hw] at g1 n1
        replace g1 := Lib.hid g1
        replace n1 := Lib.hid n1
        clear hl hw
        have hl := all_held g1.out
        rw [t5.out] at hl
        go_wp2_with fail
        refine hl.mono ?_
        rintro e w' ⟨rfl, hw⟩
        obtain rfl := hw.symm
        clear hl hw
        have hl := all_len g1.out (k := 0) rfl (by omega)
        rw [hX.out] at hl
        go_wp2_with fail
        refine hl.mono ?_
        rintro e wx ⟨rfl, nq, hw⟩
        have g2 := g1.out.drewN nq
        have n2 := n1.out.trans (heap_mv (B := B) (S := fun _ => True) ⟨nq, rfl⟩)
        rw [← hw] at g2 n2
        replace g2 := Lib.hid g2
        replace n2 := Lib.hid n2
        clear hl hw
        have hl := all_len g2.out (k := 1) rfl (by omega)
        rw [hY.out] at hl
        go_wp2_with fail
        refine hl.mono ?_
        rintro e wx ⟨rfl, nq, hw⟩
        have g3 := g2.out.drewN nq
        have n3 := n2.out.trans (heap_mv (B := B) (S := fun _ => True) ⟨nq, rfl⟩)
        rw [← hw] at g3 n3
        replace g3 := Lib.hid g3
        replace n3 := Lib.hid n3
        clear hl hw
        clear g1 g2 n1 n2
        go_wp2
        go_roundw
        case rel => exact ⟨n + 1, b1', b2, tot + s.size, I2, O2, by omega, by go_num, rfl, rfl, by omega, g3, n3, h1, h2⟩
        case measure => simp [intOf]; omega
      · by_cases hneg : num < 0
        · have hdr := all_neg num hneg hA.out (k := 0) rfl
          have j0 : ¬ (0 : Int) ≤ num := by omega
          have j1 : O.size + (⟨#[]⟩ : ByteArray).size ≤ 9223372036854775807 := by have : (⟨#[]⟩ : ByteArray).size = 0 := rfl; omega
          have j2 : ¬ 9223372036854775807 < O.size + (⟨#[]⟩ : ByteArray).size := by omega
          have j3 : ¬ 9223372036854775807 < O.size := by omega
          go_upto_region 26 with (go_at_call 16; refine hdr.mono ?_; rintro e w' ⟨rfl, hw⟩; obtain rfl := hw.symm)
          replace h2 : Hid (tl (O ++ (⟨#[]⟩ : ByteArray)) = b1.all.take b1.gone) := by
            show _ = _
            rw [tl_app, h2.out]
            exact List.append_nil _
          clear hdr hIs hOs hth j0 j1 j2 j3 hneg
          have ht := held_two hA.out
          obtain ⟨t1, t2, t3, t4, t5⟩ := ht
          have hIs : (I).size = b1.all.length := by rw [← tl_len, h1.out]
          have hOs : ((O ++ (⟨#[]⟩ : ByteArray))).size = b1.gone := by rw [← tl_len, h2.out, List.length_take]; omega
          have hcmp : (((I).extract 0 ((O ++ (⟨#[]⟩ : ByteArray))).size).toList == ((O ++ (⟨#[]⟩ : ByteArray))).toList) = true := by
            rw [toL, toL, tl_upto, h1.out, h2.out, hOs, beq_self_eq_true]
          obtain ⟨I2, hIg⟩ : ∃ I2, I = I2 := ⟨_, rfl⟩
          obtain ⟨O2, hOg⟩ : ∃ O2, (O ++ (⟨#[]⟩ : ByteArray)) = O2 := ⟨_, rfl⟩
          rw [hIg] at hIs hcmp h1
          rw [hOg] at hOs hcmp h2
          try rw [hIg]
          try rw [hOg]
          clear hIg hOg
          obtain ⟨X, hX⟩ : ∃ X, b1.all.length - b1.gone = X := ⟨_, rfl⟩
          obtain ⟨Y, hY⟩ : ∃ Y, b2.all.length - b2.gone = Y := ⟨_, rfl⟩
          rw [hX, hY] at t5
          have q1 : ¬ (I2.size : Int) < (O2.size : Int) := by omega
          have q2 : (0 : Int) ≤ (O2.size : Int) := by omega
          have q3 : (O2.size : Int) ≤ (I2.size : Int) := by omega
          have q4 : (I2.size : Int) - (O2.size : Int) = (X : Int) := by omega
          have q5 : ((X : Int) == (X : Int)) = true := by simp
          have q6 : (((X + Y : Nat) : Int) == (X : Int) + (Y : Int)) = true := by simp
          have q7 : ((X : Int) + (Y : Int) == (X : Int) + (Y : Int)) = true := by simp
          have q8 : X ≤ 20000 := by omega
          have q9 : Y ≤ 20000 := by omega
          have q10 : I2.size ≤ 20000 := by omega
          clear t1 t2 t3 t4 hIs hOs
          replace t5 := Lib.hid t5
          replace hX := Lib.hid hX
          replace hY := Lib.hid hY
          have hl := all_len hA.out (k := 0) rfl (by omega)
          rw [hX.out] at hl
          go_wp2_with fail
          refine hl.mono ?_
          rintro e wx ⟨rfl, nq, hw⟩
          have g1 := hA.out.drewN nq
          have n1 := hm.out.trans (heap_mv (B := B) (S := fun _ => True) ⟨nq, rfl⟩)
          rw [← hw] at g1 n1
          replace g1 := Lib.hid g1
          replace n1 := Lib.hid n1
          clear hl hw
          have hl := all_held g1.out
          rw [t5.out] at hl
          go_wp2_with fail
          refine hl.mono ?_
          rintro e w' ⟨rfl, hw⟩
          obtain rfl := hw.symm
          clear hl hw
          have hl := all_len g1.out (k := 0) rfl (by omega)
          rw [hX.out] at hl
          go_wp2_with fail
          refine hl.mono ?_
          rintro e wx ⟨rfl, nq, hw⟩
          have g2 := g1.out.drewN nq
          have n2 := n1.out.trans (heap_mv (B := B) (S := fun _ => True) ⟨nq, rfl⟩)
          rw [← hw] at g2 n2
          replace g2 := Lib.hid g2
          replace n2 := Lib.hid n2
          clear hl hw
          have hl := all_len g2.out (k := 1) rfl (by omega)
          rw [hY.out] at hl
          go_wp2_with fail
          refine hl.mono ?_
          rintro e wx ⟨rfl, nq, hw⟩
          have g3 := g2.out.drewN nq
          have n3 := n2.out.trans (heap_mv (B := B) (S := fun _ => True) ⟨nq, rfl⟩)
          rw [← hw] at g3 n3
          replace g3 := Lib.hid g3
          replace n3 := Lib.hid n3
          clear hl hw
          clear g1 g2 n1 n2
          go_wp2
          go_roundw
          case rel => exact ⟨n + 1, b1, b2, tot, I2, O2, by omega, by go_num, rfl, rfl, by omega, g3, n3, h1, h2⟩
          case measure => simp [intOf]; omega
        · obtain ⟨N, rfl⟩ : ∃ N : Nat, num = (N : Int) := ⟨num.toNat, by omega⟩
          have hdr := all_drain N hA.out (k := 0) rfl (by omega)
          obtain ⟨sv, hsv⟩ : ∃ sv : ByteArray, (⟨((b1.all.drop b1.gone).take N).toArray⟩ : ByteArray) = sv := ⟨_, rfl⟩
          rw [hsv] at hdr
          have hts : tl sv = (b1.all.drop b1.gone).take N := by rw [← hsv]; rfl
          have hss : sv.size ≤ N ∧ sv.size ≤ b1.all.length := by rw [← tl_len, hts, List.length_take, List.length_drop]; omega
          have j0 : (0 : Int) ≤ (N : Int) := by omega
          have j4 : ¬ (N : Int) < (sv.size : Int) := by omega
          have j1 : O.size + sv.size ≤ 9223372036854775807 := by omega
          have j2 : ¬ 9223372036854775807 < O.size + sv.size := by omega
          replace hts := Lib.hid hts
          clear hsv hneg
          go_upto_region 26 with (go_at_call 16; refine hdr.mono ?_; rintro e w5 ⟨rfl, ⟨b1', h5, ha5, hg5⟩, m5'⟩; replace c2 := mv_cell m5' (p := ⟨blk, off + n * 4 + 2, none⟩) hb hwr c2)
          have hm5 := Lib.hid (hm.out.trans m5')
          simp only [List.set_cons_zero] at h5
          replace h5 := Lib.hid h5
          replace h1 : Hid (tl I = b1'.all) := by show _ = _; rw [ha5]; exact h1.out
          replace h2 : Hid (tl (O ++ sv) = b1'.all.take b1'.gone) := by
            show _ = _
            rw [tl_app, h2.out, hts.out, ha5, hg5, ← List.take_add]
            rcases Nat.le_total N (b1.all.length - b1.gone) with h | h
            · rw [Nat.min_eq_left h]
            · rw [Nat.min_eq_right h, List.take_of_length_le (by omega), List.take_of_length_le (by omega)]
          clear hdr m5' ha5 hg5 hIs hOs hth j0 j1 j2 j4 hss hts
          have ht := held_two h5.out
          obtain ⟨t1, t2, t3, t4, t5⟩ := ht
          have hIs : (I).size = b1'.all.length := by rw [← tl_len, h1.out]
          have hOs : ((O ++ sv)).size = b1'.gone := by rw [← tl_len, h2.out, List.length_take]; omega
          have hcmp : (((I).extract 0 ((O ++ sv)).size).toList == ((O ++ sv)).toList) = true := by
            rw [toL, toL, tl_upto, h1.out, h2.out, hOs, beq_self_eq_true]
          obtain ⟨I2, hIg⟩ : ∃ I2, I = I2 := ⟨_, rfl⟩
          obtain ⟨O2, hOg⟩ : ∃ O2, (O ++ sv) = O2 := ⟨_, rfl⟩
          rw [hIg] at hIs hcmp h1
          rw [hOg] at hOs hcmp h2
          try rw [hIg]
          try rw [hOg]
          clear hIg hOg
          obtain ⟨X, hX⟩ : ∃ X, b1'.all.length - b1'.gone = X := ⟨_, rfl⟩
          obtain ⟨Y, hY⟩ : ∃ Y, b2.all.length - b2.gone = Y := ⟨_, rfl⟩
          rw [hX, hY] at t5
          have q1 : ¬ (I2.size : Int) < (O2.size : Int) := by omega
          have q2 : (0 : Int) ≤ (O2.size : Int) := by omega
          have q3 : (O2.size : Int) ≤ (I2.size : Int) := by omega
          have q4 : (I2.size : Int) - (O2.size : Int) = (X : Int) := by omega
          have q5 : ((X : Int) == (X : Int)) = true := by simp
          have q6 : (((X + Y : Nat) : Int) == (X : Int) + (Y : Int)) = true := by simp
          have q7 : ((X : Int) + (Y : Int) == (X : Int) + (Y : Int)) = true := by simp
          have q8 : X ≤ 20000 := by omega
          have q9 : Y ≤ 20000 := by omega
          have q10 : I2.size ≤ 20000 := by omega
          clear t1 t2 t3 t4 hIs hOs
          replace t5 := Lib.hid t5
          replace hX := Lib.hid hX
          replace hY := Lib.hid hY
          have hl := all_len h5.out (k := 0) rfl (by omega)
          rw [hX.out] at hl
          go_wp2_with fail
          refine hl.mono ?_
          rintro e wx ⟨rfl, nq, hw⟩
          have g1 := h5.out.drewN nq
          have n1 := hm5.out.trans (heap_mv (B := B) (S := fun _ => True) ⟨nq, rfl⟩)
          rw [← hw] at g1 n1
          replace g1 := Lib.hid g1
          replace n1 := Lib.hid n1
          clear hl hw
          have hl := all_held g1.out
          rw [t5.out] at hl
          go_wp2_with fail
          refine hl.mono ?_
          rintro e w' ⟨rfl, hw⟩
          obtain rfl := hw.symm
          clear hl hw
          have hl := all_len g1.out (k := 0) rfl (by omega)
          rw [hX.out] at hl
          go_wp2_with fail
          refine hl.mono ?_
          rintro e wx ⟨rfl, nq, hw⟩
          have g2 := g1.out.drewN nq
          have n2 := n1.out.trans (heap_mv (B := B) (S := fun _ => True) ⟨nq, rfl⟩)
          rw [← hw] at g2 n2
          replace g2 := Lib.hid g2
          replace n2 := Lib.hid n2
          clear hl hw
          have hl := all_len g2.out (k := 1) rfl (by omega)
          rw [hY.out] at hl
          go_wp2_with fail
          refine hl.mono ?_
          rintro e wx ⟨rfl, nq, hw⟩
          have g3 := g2.out.drewN nq
          have n3 := n2.out.trans (heap_mv (B := B) (S := fun _ => True) ⟨nq, rfl⟩)
          rw [← hw] at g3 n3
          replace g3 := Lib.hid g3
          replace n3 := Lib.hid n3
          clear hl hw
          clear g1 g2 n1 n2
          go_wp2
          go_roundw
          case rel => exact ⟨n + 1, b1', b2, tot, I2, O2, by omega, by go_num, rfl, rfl, by omega, g3, n3, h1, h2⟩
          case measure => simp [intOf]; omega
      · by_cases hneg : num < 0
        · have hdr := all_neg num hneg hA.out (k := 1) rfl
          go_upto_region 26 with (go_at_call 16; refine hdr.mono ?_; rintro e w' ⟨rfl, hw⟩; obtain rfl := hw.symm)
          clear hdr hIs hOs hth hneg
          have ht := held_two hA.out
          obtain ⟨t1, t2, t3, t4, t5⟩ := ht
          have hIs : (I).size = b1.all.length := by rw [← tl_len, h1.out]
          have hOs : (O).size = b1.gone := by rw [← tl_len, h2.out, List.length_take]; omega
          have hcmp : (((I).extract 0 (O).size).toList == (O).toList) = true := by
            rw [toL, toL, tl_upto, h1.out, h2.out, hOs, beq_self_eq_true]
          obtain ⟨I2, hIg⟩ : ∃ I2, I = I2 := ⟨_, rfl⟩
          obtain ⟨O2, hOg⟩ : ∃ O2, O = O2 := ⟨_, rfl⟩
          rw [hIg] at hIs hcmp h1
          rw [hOg] at hOs hcmp h2
          try rw [hIg]
          try rw [hOg]
          clear hIg hOg
          obtain ⟨X, hX⟩ : ∃ X, b1.all.length - b1.gone = X := ⟨_, rfl⟩
          obtain ⟨Y, hY⟩ : ∃ Y, b2.all.length - b2.gone = Y := ⟨_, rfl⟩
          rw [hX, hY] at t5
          have q1 : ¬ (I2.size : Int) < (O2.size : Int) := by omega
          have q2 : (0 : Int) ≤ (O2.size : Int) := by omega
          have q3 : (O2.size : Int) ≤ (I2.size : Int) := by omega
          have q4 : (I2.size : Int) - (O2.size : Int) = (X : Int) := by omega
          have q5 : ((X : Int) == (X : Int)) = true := by simp
          have q6 : (((X + Y : Nat) : Int) == (X : Int) + (Y : Int)) = true := by simp
          have q7 : ((X : Int) + (Y : Int) == (X : Int) + (Y : Int)) = true := by simp
          have q8 : X ≤ 20000 := by omega
          have q9 : Y ≤ 20000 := by omega
          have q10 : I2.size ≤ 20000 := by omega
          clear t1 t2 t3 t4 hIs hOs
          replace t5 := Lib.hid t5
          replace hX := Lib.hid hX
          replace hY := Lib.hid hY
          have hl := all_len hA.out (k := 0) rfl (by omega)
          rw [hX.out] at hl
          go_wp2_with fail
          refine hl.mono ?_
          rintro e wx ⟨rfl, nq, hw⟩
          have g1 := hA.out.drewN nq
          have n1 := hm.out.trans (heap_mv (B := B) (S := fun _ => True) ⟨nq, rfl⟩)
          rw [← hw] at g1 n1
          replace g1 := Lib.hid g1
          replace n1 := Lib.hid n1
          clear hl hw
          have hl := all_held g1.out
          rw [t5.out] at hl
          go_wp2_with fail
          refine hl.mono ?_
          rintro e w' ⟨rfl, hw⟩
          obtain rfl := hw.symm
          clear hl hw
          have hl := all_len g1.out (k := 0) rfl (by omega)
          rw [hX.out] at hl
          go_wp2_with fail
          refine hl.mono ?_
          rintro e wx ⟨rfl, nq, hw⟩
          have g2 := g1.out.drewN nq
          have n2 := n1.out.trans (heap_mv (B := B) (S := fun _ => True) ⟨nq, rfl⟩)
          rw [← hw] at g2 n2
          replace g2 := Lib.hid g2
          replace n2 := Lib.hid n2
          clear hl hw
          have hl := all_len g2.out (k := 1) rfl (by omega)
          rw [hY.out] at hl
          go_wp2_with fail
          refine hl.mono ?_
          rintro e wx ⟨rfl, nq, hw⟩
          have g3 := g2.out.drewN nq
          have n3 := n2.out.trans (heap_mv (B := B) (S := fun _ => True) ⟨nq, rfl⟩)
          rw [← hw] at g3 n3
          replace g3 := Lib.hid g3
          replace n3 := Lib.hid n3
          clear hl hw
          clear g1 g2 n1 n2
          go_wp2
          go_roundw
          case rel => exact ⟨n + 1, b1, b2, tot, I2, O2, by omega, by go_num, rfl, rfl, by omega, g3, n3, h1, h2⟩
          case measure => simp [intOf]; omega
        · obtain ⟨N, rfl⟩ : ∃ N : Nat, num = (N : Int) := ⟨num.toNat, by omega⟩
          have hdr := all_drain N hA.out (k := 1) rfl (by omega)
          clear hneg
          go_upto_region 26 with (go_at_call 16; refine hdr.mono ?_; rintro e w5 ⟨rfl, ⟨b2', h5, ha5, hg5⟩, m5'⟩)
          have hm5 := Lib.hid (hm.out.trans m5')
          simp only [List.set_cons_succ, List.set_cons_zero] at h5
          replace h5 := Lib.hid h5
          clear hdr m5' ha5 hg5 hIs hOs hth
          have ht := held_two h5.out
          obtain ⟨t1, t2, t3, t4, t5⟩ := ht
          have hIs : (I).size = b1.all.length := by rw [← tl_len, h1.out]
          have hOs : (O).size = b1.gone := by rw [← tl_len, h2.out, List.length_take]; omega
          have hcmp : (((I).extract 0 (O).size).toList == (O).toList) = true := by
            rw [toL, toL, tl_upto, h1.out, h2.out, hOs, beq_self_eq_true]
          obtain ⟨I2, hIg⟩ : ∃ I2, I = I2 := ⟨_, rfl⟩
          obtain ⟨O2, hOg⟩ : ∃ O2, O = O2 := ⟨_, rfl⟩
          rw [hIg] at hIs hcmp h1
          rw [hOg] at hOs hcmp h2
          try rw [hIg]
          try rw [hOg]
          clear hIg hOg
          obtain ⟨X, hX⟩ : ∃ X, b1.all.length - b1.gone = X := ⟨_, rfl⟩
          obtain ⟨Y, hY⟩ : ∃ Y, b2'.all.length - b2'.gone = Y := ⟨_, rfl⟩
          rw [hX, hY] at t5
          have q1 : ¬ (I2.size : Int) < (O2.size : Int) := by omega
          have q2 : (0 : Int) ≤ (O2.size : Int) := by omega
          have q3 : (O2.size : Int) ≤ (I2.size : Int) := by omega
          have q4 : (I2.size : Int) - (O2.size : Int) = (X : Int) := by omega
          have q5 : ((X : Int) == (X : Int)) = true := by simp
          have q6 : (((X + Y : Nat) : Int) == (X : Int) + (Y : Int)) = true := by simp
          have q7 : ((X : Int) + (Y : Int) == (X : Int) + (Y : Int)) = true := by simp
          have q8 : X ≤ 20000 := by omega
          have q9 : Y ≤ 20000 := by omega
          have q10 : I2.size ≤ 20000 := by omega
          clear t1 t2 t3 t4 hIs hOs
          replace t5 := Lib.hid t5
          replace hX := Lib.hid hX
          replace hY := Lib.hid hY
          have hl := all_len h5.out (k := 0) rfl (by omega)
          rw [hX.out] at hl
          go_wp2_with fail
          refine hl.mono ?_
          rintro e wx ⟨rfl, nq, hw⟩
          have g1 := h5.out.drewN nq
          have n1 := hm5.out.trans (heap_mv (B := B) (S := fun _ => True) ⟨nq, rfl⟩)
          rw [← hw] at g1 n1
          replace g1 := Lib.hid g1
          replace n1 := Lib.hid n1
          clear hl hw
          have hl := all_held g1.out
          rw [t5.out] at hl
          go_wp2_with fail
          refine hl.mono ?_
          rintro e w' ⟨rfl, hw⟩
          obtain rfl := hw.symm
          clear hl hw
          have hl := all_len g1.out (k := 0) rfl (by omega)
          rw [hX.out] at hl
          go_wp2_with fail
          refine hl.mono ?_
          rintro e wx ⟨rfl, nq, hw⟩
          have g2 := g1.out.drewN nq
          have n2 := n1.out.trans (heap_mv (B := B) (S := fun _ => True) ⟨nq, rfl⟩)
          rw [← hw] at g2 n2
          replace g2 := Lib.hid g2
          replace n2 := Lib.hid n2
          clear hl hw
          have hl := all_len g2.out (k := 1) rfl (by omega)
          rw [hY.out] at hl
          go_wp2_with fail
          refine hl.mono ?_
          rintro e wx ⟨rfl, nq, hw⟩
          have g3 := g2.out.drewN nq
          have n3 := n2.out.trans (heap_mv (B := B) (S := fun _ => True) ⟨nq, rfl⟩)
          rw [← hw] at g3 n3
          replace g3 := Lib.hid g3
          replace n3 := Lib.hid n3
          clear hl hw
          clear g1 g2 n1 n2
          go_wp2
          go_roundw
          case rel => exact ⟨n + 1, b1, b2', tot, I2, O2, by omega, by go_num, rfl, rfl, by omega, g3, n3, h1, h2⟩
          case measure => simp [intOf]; omega
    · obtain rfl : n = KL := by omega
      have hth := held_two hA.out
      have hIs : I.size = b1.all.length := by rw [← tl_len, h1.out]
      have hOs : O.size ≤ b1.all.length := by rw [← tl_len, h2.out, List.length_take]; omega
      have hdr := all_drain 100000 hA.out (k := 0) rfl (by omega)
      obtain ⟨sv, hsv⟩ : ∃ sv : ByteArray, (⟨((b1.all.drop b1.gone).take 100000).toArray⟩ : ByteArray) = sv := ⟨_, rfl⟩
      rw [hsv] at hdr
      have hts : tl sv = b1.all.drop b1.gone := by rw [← hsv, tl_mk, List.take_of_length_le (by rw [List.length_drop]; omega)]
      have hss : sv.size ≤ b1.all.length := by rw [← tl_len, hts, List.length_drop]; omega
      have hcmp : ((O ++ sv).toList == I.toList) = true := by
        rw [toL, toL, tl_app, h1.out, h2.out, hts, List.take_append_drop, beq_self_eq_true]
      have j1 : O.size + sv.size ≤ 9223372036854775807 := by omega
      have j2 : ¬ 9223372036854775807 < O.size + sv.size := by omega
      clear hsv hts
      go_wp2_with fail
      refine hdr.mono ?_
      rintro e w5 ⟨rfl, ⟨b1', h5, _, _⟩, m5'⟩
      have hm5 := Lib.hid (hm.out.trans m5')
      simp only [List.set_cons_zero] at h5
      have hcl := all_close h5 (k := 0) rfl (by omega) (by simp)
      replace h5 := Lib.hid h5
      clear hdr m5' hm hA h1 h2
      go_wp2_with fail
      refine hcl.mono ?_
      rintro e w6 ⟨rfl, h6, m6'⟩
      have hm6 := Lib.hid (hm5.out.trans m6')
      simp only [List.set_cons_zero] at h6
      have hcl := all_close h6 (k := 1) rfl (by omega) (by simp)
      replace h6 := Lib.hid h6
      clear m6' hm5 h5
      go_wp2_with fail
      refine hcl.mono ?_
      rintro e w7 ⟨rfl, h7, m7'⟩
      have hm7 := Lib.hid (hm6.out.trans m7')
      simp only [List.set_cons_succ, List.set_cons_zero] at h7
      have hhd := all_held h7
      have hck := all_chunks h7
      have hbf := all_buffers h7
      have hsh := all_shut h7 (k := 0) rfl
      simp only [tally, heldOf, usedOf, openOf, Nat.add_zero] at hhd hck hbf
      have hap := append_shut ⟨#[120]⟩ hsh
      have hc2 := close_shut hsh
      have haw7 := haw.out w7
      clear hcl m7' hm6 h6 h7 hsh
      go_wp2_with (first
        | (go_at_call 22; refine hhd.mono ?_; rintro e w' ⟨rfl, hw⟩; obtain rfl := hw.symm)
        | (go_at_call 24; refine hck.mono ?_; rintro e w' ⟨rfl, hw⟩; obtain rfl := hw.symm)
        | (go_at_call 26; refine hbf.mono ?_; rintro e w' ⟨rfl, hw⟩; obtain rfl := hw.symm)
        | (go_at_call 14; refine hap.mono ?_; rintro e w' ⟨rfl, hw⟩; obtain rfl := hw.symm)
        | (go_at_call 18; refine hc2.mono ?_; rintro e w' ⟨rfl, hw⟩; obtain rfl := hw.symm)
        | (go_at_call 8; refine haw7.mono ?_; rintro e w' ⟨rfl, hg⟩; replace hg := Lib.hid hg))
      go_ret
      exact ⟨rfl, grownBy_chain hg1.out (grownBy_of_mv hm7.out (by rw [hB.out]; exact Nat.le_refl _) hg.out)⟩
/-- All ways. -/
theorem lawRow_any (l : List Opd) (a b : Int) (v : Value) (w : World) (h : Ops w v l) (_ : In64 a) (_ : In64 b) :
    Calls Try.prog 4 #[v, .agg #[.int .i64 a, .int .i64 b]] w fun e w' => e = .returned (.bool true) ∧ w.grownBy w' none := by
  cases hf : fewB l with
  | false => exact lawRow_few l a b v w h hf
  | true =>
    by_cases ha : a < 1
    · exact lawRow_a0 l a b v w h hf ha
    by_cases ha2 : 40 < a
    · exact lawRow_a1 l a b v w h hf ha ha2
    by_cases hb : b < 1
    · exact lawRow_b0 l a b v w h hf ha ha2 hb
    by_cases hb2 : 40 < b
    · exact lawRow_b1 l a b v w h hf ha ha2 hb hb2
    obtain ⟨a', rfl⟩ : ∃ a' : Nat, a = (a' : Int) := ⟨a.toNat, by omega⟩
    obtain ⟨b', rfl⟩ : ∃ b' : Nat, b = (b' : Int) := ⟨b.toNat, by omega⟩
    exact lawRow_ok l a' b' v w h hf (by omega) (by omega) (by omega) (by omega)
end Go.Proofs.Yticoigpkgpdabaa
