/-
  SpillQuota answers true, and leaves memory as it was. Conditions: numbers of 64 bits.
-/
import Derived.Test.YticoigpkgpdabaaSpFew
namespace Go.Proofs.Yticoigpkgpdabaa
open Go Go.RowKit

theorem mv_cell {B : Nat} {w w' : World} (h : Mv B (fun _ => True) w w') {p : Addr} (hb : p.block < B) (hw : B ≤ w.heap.size) {u : Value} (hc : w.cell? p = some u) : w'.cell? p = some u :=
  (World.cell?_of_block (h.keep p.block (Nat.lt_of_lt_of_le hb hw) (.inl hb))).trans hc
theorem grownBy_of_mv {B : Nat} {w w' w'' : World} (h : Mv B (fun _ => True) w w') (hB : w.heap.size ≤ B) (k : w'.grownBy w'' none) : w.grownBy w'' none := by
  have h := mv_none h hB
  exact ⟨k.os.trans h.os, k.tape.trans h.tape, k.output.trans h.output, Nat.le_trans h.size k.size, fun b hb _ => (k.block b (Nat.lt_of_lt_of_le hb h.size) (by simp)).trans (h.block b hb (by simp))⟩

set_option maxHeartbeats 4000000 in
set_option maxRecDepth 100000 in
theorem lawQuota_few (l : List Opd) (q : Int) (v : Value) (w : World) (h : Ops w v l) (hf : fewB l = false) :
    Calls Try.prog 5 #[v, .int .i64 q] w fun e w' => e = .returned (.bool true) ∧ w.grownBy w' none := by
  have haw := awake_any w
  have hfw := few_any l v w h
  rw [hf] at hfw
  obtain ⟨A, c, rfl, hc, hcm⟩ := h.form
  clear h
  go_enter Try.func5, Try.ntmps5
  go_wp2_with fail
  refine hfw.mono ?_
  rintro e w' ⟨rfl, hw⟩
  obtain rfl := hw.symm
  clear hfw
  go_wp2_with fail
  refine haw.mono ?_
  rintro e w' ⟨rfl, hg⟩
  replace hg := Lib.hid hg
  clear haw
  go_wp2
  go_ret
  exact ⟨rfl, hg.out⟩
set_option maxHeartbeats 4000000 in
set_option maxRecDepth 100000 in
theorem lawQuota_no (l : List Opd) (q : Int) (v : Value) (w : World) (h : Ops w v l) (hf : fewB l = true) (hq : q < 0 ∨ 1048576 < q) :
    Calls Try.prog 5 #[v, .int .i64 q] w fun e w' => e = .returned (.bool true) ∧ w.grownBy w' none := by
  have haw := awake_any w
  have hfw := few_any l v w h
  rw [hf] at hfw
  have hnew := New_no q 3 5 w (by simp only [mayPool, Bool.and_eq_false_iff, decide_eq_false_iff_not]; omega)
  obtain ⟨A, c, rfl, hc, hcm⟩ := h.form
  clear h
  rcases hq with hq | hq
  · go_enter Try.func5, Try.ntmps5
    go_wp2_with fail
    refine hfw.mono ?_
    rintro e w' ⟨rfl, hw⟩
    obtain rfl := hw.symm
    clear hfw
    go_wp2_with fail
    refine hnew.mono ?_
    rintro e w' ⟨rfl, hw⟩
    obtain rfl := hw.symm
    clear hnew
    go_wp2_with fail
    refine haw.mono ?_
    rintro e w' ⟨rfl, hg⟩
    replace hg := Lib.hid hg
    clear haw
    go_wp2
    go_ret
    exact ⟨rfl, hg.out⟩
  · have hq0 : ¬ q < 0 := by omega
    go_enter Try.func5, Try.ntmps5
    go_wp2_with fail
    refine hfw.mono ?_
    rintro e w' ⟨rfl, hw⟩
    obtain rfl := hw.symm
    clear hfw
    go_wp2_with fail
    refine hnew.mono ?_
    rintro e w' ⟨rfl, hw⟩
    obtain rfl := hw.symm
    clear hnew
    go_wp2_with fail
    refine haw.mono ?_
    rintro e w' ⟨rfl, hg⟩
    replace hg := Lib.hid hg
    clear haw
    go_wp2
    go_ret
    exact ⟨rfl, hg.out⟩

set_option maxHeartbeats 8000000 in
set_option maxRecDepth 100000 in
theorem lawQuota_ok (l : List Opd) (q : Nat) (v : Value) (w : World) (h : Ops w v l) (hf : fewB l = true) (hq : q ≤ 1048576) :
    Calls Try.prog 5 #[v, .int .i64 (q : Int)] w fun e w' => e = .returned (.bool true) ∧ w.grownBy w' none := by
  have haw := fun W => awake_any W
  have hfw := few_any l v w h
  rw [hf] at hfw
  have hnew := all_new (w := w) (B := w.heap.size) q 3 5 hq (by decide) (by decide) (by decide) (Nat.le_refl _)
  obtain ⟨A, c, rfl, hc, hcm⟩ := h.form
  have hlim := few_true hf
  obtain ⟨hl40, hl300⟩ := hlim
  have hkeep := fun wr hm => ops_keep (wr := wr) h hm
  obtain ⟨B, hB⟩ : ∃ B, w.heap.size = B := ⟨_, rfl⟩
  rw [hB] at hnew hkeep
  replace hB := Lib.hid hB
  obtain ⟨KL, hKL⟩ : ∃ KL, l.length = KL := ⟨_, rfl⟩
  rw [hKL] at hc hl40 hfw ⊢
  replace hKL := Lib.hid hKL
  replace hkeep := Lib.hid hkeep
  replace hl300 := Lib.hid hl300
  replace haw := Lib.hid haw
  unfold maxLen at hcm
  clear h hf
  go_enter Try.func5, Try.ntmps5
  go_wp2_with fail
  refine hfw.mono ?_
  rintro e w' ⟨rfl, hw⟩
  obtain rfl := hw.symm
  clear hfw
  go_wp2_with fail
  refine hnew.mono ?_
  rintro e w1 ⟨rfl, h1, m1, hs1⟩
  clear hnew
  have hop := all_open h1 (by decide)
  simp only [List.nil_append] at hop
  obtain ⟨bb, hbb⟩ : ∃ bb, w1.heap.size = bb := ⟨_, rfl⟩
  rw [hbb] at hop
  clear h1 hs1 hbb
  replace m1 := Lib.hid m1
  go_wp2_with fail
  refine hop.mono ?_
  rintro e w2 ⟨rfl, h2, m2', hs2⟩
  have m2 := Lib.hid (m1.out.trans m2')
  clear hop m1 m2' hs2
  replace h2 := Lib.hid h2
  go_wp2
  go_loopw [8] (fun nv wr => ∃ (n : Nat) (b : Bs) (tot : Nat), n ≤ KL ∧ nv = .int .i64 (n : Int) ∧ tot ≤ n * 300 ∧ Hid (All wr B B q 3 5 [(bb, some b)] tot) ∧ Hid (Mv B (fun _ => True) w wr)) (fun nv _ => KL - (intOf nv).toNat)
  case atStart => exact ⟨0, _, 0, Nat.zero_le _, rfl, Nat.zero_le _, h2, m2⟩
  case round =>
    clear h2 m2
    obtain ⟨n, b, tot, hn, rfl, htot, hA, hm⟩ := hrel
    by_cases hlt : n < KL
    · have hlt' : n < l.length := by rw [hKL.out]; exact hlt
      obtain ⟨blk, off, rfl, hb, c0, c1, c2, c3⟩ := hkeep.out wr hm.out n hlt'
      have hsz := hl300.out n hlt'
      generalize l[n] = o at c0 c1 c2 c3 hsz
      obtain ⟨ask, oat, num, s⟩ := o
      simp only at c0 c1 c2 c3 hsz
      have hheld := all_held hA.out
      have hchk := all_chunks hA.out
      have happ := all_append s hA.out (k := 0) rfl (by omega)
      have hhq : tally heldOf [(bb, some b)] ≤ q := by obtain ⟨_, _, _, h⟩ := hA.out; exact h.hq
      generalize hH : tally heldOf [(bb, some b)] = H at hheld happ hhq
      generalize hU : tally usedOf [(bb, some b)] = U at hchk
      replace hH := Lib.hid hH
      replace hU := Lib.hid hU
      go_wp2_with fail
      refine hheld.mono ?_
      rintro e w' ⟨rfl, hw⟩
      obtain rfl := hw.symm
      clear hheld hw
      go_wp2_with fail
      refine hchk.mono ?_
      rintro e w' ⟨rfl, hw⟩
      obtain rfl := hw.symm
      clear hchk hw
      go_wp2_with fail
      refine happ.mono ?_
      rintro e w3 ⟨⟨hqq, rfl, b', h3, ha3, hg3⟩ | ⟨hqq, rfl, h3⟩, m3'⟩
      · have m3 := Lib.hid (hm.out.trans m3')
        have hwr : B ≤ wr.heap.size := by have := hm.out.size; have := hB.out; omega
        replace c0 := mv_cell m3' (p := ⟨blk, off + n * 4, none⟩) hb hwr c0
        replace c2 := mv_cell m3' (p := ⟨blk, off + n * 4 + 2, none⟩) hb hwr c2
        replace c3 := mv_cell m3' (p := ⟨blk, off + n * 4 + 3, none⟩) hb hwr c3
        have hheld3 := all_held h3
        have hchk3 := all_chunks h3
        have hA3 : tally heldOf [(bb, some b')] = H + s.size := by
          obtain ⟨_, _, _, h⟩ := hA.out
          have hgl := (all_used hA.out (k := 0) rfl).2.2.2.2
          have h1 := hH.out
          simp only [tally, heldOf, ha3, hg3, List.length_append, tl_len] at h1 ⊢
          omega
        simp only [List.set_cons_zero] at hheld3 h3 hchk3
        rw [hA3] at hheld3
        have e1 : ¬ (q : Int) < ((H + s.size : Nat) : Int) := by omega
        have e2 : (((H + s.size : Nat) : Int) == (H : Int) + (s.size : Int)) = true := by simp
        have e3 : ((H : Int) + (s.size : Int) == (H : Int) + (s.size : Int)) = true := by simp
        have e4 : ¬ (q : Int) < (H : Int) + (s.size : Int) := by omega
        replace h3 := Lib.hid h3
        clear happ m3' hA hm ha3 hg3 hA3 hqq
        by_cases hask : ask.tmod 2 = 0
        · have ha2 : (ask.tmod 2 == 0) = true := by simpa using hask
          clear hask
          by_cases hneg : num < 0
          · have hdr := all_neg num hneg h3.out (k := 0) rfl
            go_wp2_with (first | (go_at_call 22; refine hheld3.mono ?_; rintro e w' ⟨rfl, hw⟩; obtain rfl := hw.symm) | (go_at_call 24; refine hchk3.mono ?_; rintro e w' ⟨rfl, hw⟩; obtain rfl := hw.symm) | (go_at_call 16; refine hdr.mono ?_; rintro e w' ⟨rfl, hw⟩; obtain rfl := hw.symm))
            go_roundw
            case rel => exact ⟨n + 1, b', tot + s.size, by omega, by go_num, by omega, h3, m3⟩
            case measure => simp [intOf]; omega
          · obtain ⟨N, rfl⟩ : ∃ N : Nat, num = (N : Int) := ⟨num.toNat, by omega⟩
            have hdr := all_drain N h3.out (k := 0) rfl (by omega)
            clear hneg
            go_wp2_with (first | (go_at_call 22; refine hheld3.mono ?_; rintro e w' ⟨rfl, hw⟩; obtain rfl := hw.symm) | (go_at_call 24; refine hchk3.mono ?_; rintro e w' ⟨rfl, hw⟩; obtain rfl := hw.symm) | (go_at_call 16; refine hdr.mono ?_; rintro e w4 ⟨rfl, ⟨b4, h4, _, _⟩, m4'⟩; have m4 := Lib.hid (m3.out.trans m4'); replace h4 := Lib.hid h4))
            go_roundw
            case rel => exact ⟨n + 1, b4, tot + s.size, by omega, by go_num, by omega, h4, m4⟩
            case measure => simp [intOf]; omega
        · have ha2 : (ask.tmod 2 == 0) = false := by simpa using hask
          clear hask
          go_wp2_with (first | (go_at_call 22; refine hheld3.mono ?_; rintro e w' ⟨rfl, hw⟩; obtain rfl := hw.symm) | (go_at_call 24; refine hchk3.mono ?_; rintro e w' ⟨rfl, hw⟩; obtain rfl := hw.symm))
          go_roundw
          case rel => exact ⟨n + 1, b', tot + s.size, by omega, by go_num, by omega, h3, m3⟩
          case measure => simp [intOf]; omega
      · have m3 := Lib.hid (hm.out.trans m3')
        have hwr : B ≤ wr.heap.size := by have := hm.out.size; have := hB.out; omega
        replace c0 := mv_cell m3' (p := ⟨blk, off + n * 4, none⟩) hb hwr c0
        replace c2 := mv_cell m3' (p := ⟨blk, off + n * 4 + 2, none⟩) hb hwr c2
        replace c3 := mv_cell m3' (p := ⟨blk, off + n * 4 + 3, none⟩) hb hwr c3
        have hheld3 := all_held h3
        have hchk3 := all_chunks h3
        rw [hH.out] at hheld3
        rw [hU.out] at hchk3
        have e1 : ¬ (q : Int) < (H : Int) := by omega
        have e2 : ((H : Int) == (H : Int)) = true := by simp
        have e3 : ((U : Int) == (U : Int)) = true := by simp
        have e4 : ¬ (H : Int) + (s.size : Int) ≤ (q : Int) := by omega
        replace h3 := Lib.hid h3
        clear happ m3' hA hm hqq
        by_cases hask : ask.tmod 2 = 0
        · have ha2 : (ask.tmod 2 == 0) = true := by simpa using hask
          clear hask
          by_cases hneg : num < 0
          · have hdr := all_neg num hneg h3.out (k := 0) rfl
            go_wp2_with (first | (go_at_call 22; refine hheld3.mono ?_; rintro e w' ⟨rfl, hw⟩; obtain rfl := hw.symm) | (go_at_call 24; refine hchk3.mono ?_; rintro e w' ⟨rfl, hw⟩; obtain rfl := hw.symm) | (go_at_call 16; refine hdr.mono ?_; rintro e w' ⟨rfl, hw⟩; obtain rfl := hw.symm))
            go_roundw
            case rel => exact ⟨n + 1, b, tot, by omega, by go_num, by omega, h3, m3⟩
            case measure => simp [intOf]; omega
          · obtain ⟨N, rfl⟩ : ∃ N : Nat, num = (N : Int) := ⟨num.toNat, by omega⟩
            have hdr := all_drain N h3.out (k := 0) rfl (by omega)
            clear hneg
            go_wp2_with (first | (go_at_call 22; refine hheld3.mono ?_; rintro e w' ⟨rfl, hw⟩; obtain rfl := hw.symm) | (go_at_call 24; refine hchk3.mono ?_; rintro e w' ⟨rfl, hw⟩; obtain rfl := hw.symm) | (go_at_call 16; refine hdr.mono ?_; rintro e w4 ⟨rfl, ⟨b4, h4, _, _⟩, m4'⟩; have m4 := Lib.hid (m3.out.trans m4'); replace h4 := Lib.hid h4))
            go_roundw
            case rel => exact ⟨n + 1, b4, tot, by omega, by go_num, by omega, h4, m4⟩
            case measure => simp [intOf]; omega
        · have ha2 : (ask.tmod 2 == 0) = false := by simpa using hask
          clear hask
          go_wp2_with (first | (go_at_call 22; refine hheld3.mono ?_; rintro e w' ⟨rfl, hw⟩; obtain rfl := hw.symm) | (go_at_call 24; refine hchk3.mono ?_; rintro e w' ⟨rfl, hw⟩; obtain rfl := hw.symm))
          go_roundw
          case rel => exact ⟨n + 1, b, tot, by omega, by go_num, by omega, h3, m3⟩
          case measure => simp [intOf]; omega
    · obtain rfl : n = KL := by omega
      have haw2 := haw.out wr
      go_wp2_with fail
      refine haw2.mono ?_
      rintro e w' ⟨rfl, hg⟩
      have hgE := grownBy_of_mv hm.out (by rw [hB.out]; exact Nat.le_refl _) hg
      replace hgE := Lib.hid hgE
      clear haw2 hg
      go_wp2
      go_ret
      exact ⟨rfl, hgE.out⟩
/-- All ways. -/
theorem lawQuota_any (l : List Opd) (q : Int) (v : Value) (w : World) (h : Ops w v l) (_ : In64 q) :
    Calls Try.prog 5 #[v, .int .i64 q] w fun e w' => e = .returned (.bool true) ∧ w.grownBy w' none := by
  cases hf : fewB l with
  | false => exact lawQuota_few l q v w h hf
  | true =>
    by_cases hq : q < 0 ∨ 1048576 < q
    · exact lawQuota_no l q v w h hf hq
    · obtain ⟨Q, rfl⟩ : ∃ Q : Nat, q = (Q : Int) := ⟨q.toNat, by omega⟩
      exact lawQuota_ok l Q v w h hf (by omega)
end Go.Proofs.Yticoigpkgpdabaa
