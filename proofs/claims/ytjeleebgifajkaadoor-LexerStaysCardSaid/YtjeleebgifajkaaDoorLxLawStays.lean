/-
  The walk of LexerStays: it answers true and leaves what was there. Conditions: none.
-/
import Derived.Laws.Concat
import Derived.Test.YtjeleebgifajkaaDoorLxMore
import Derived.Test.YtjeleebgifajkaaDoorLxAwake
set_option linter.unusedSimpArgs false
set_option linter.unusedVariables false
namespace Go.Proofs.YtjeleebgifajkaaDoor
open Go Go.RowKit

theorem bl_append (s t : ByteArray) : bl (s ++ t) = bl s ++ bl t := by
  simp [bl, ByteArray.data_append]
theorem extract_append {s t : ByteArray} {a b : Nat} (h : b ≤ s.size) : (s ++ t).extract a b = s.extract a b := by
  apply ByteArray.ext
  apply Array.toList_inj.1
  rw [bl_extract, bl_extract, bl_append, List.take_append_of_le_length (by rw [bl_len]; exact h)]
theorem nextP_end {l : List UInt8} {k : Nat} (h : (nextP l k).1 = 0) : l.length ≤ (nextP l k).2.2 := by
  unfold nextP at h ⊢
  dsimp only at h ⊢
  split
  · rename_i he
    have := List.drop_eq_nil_iff.1 he
    simpa using this
  · rename_i he
    rw [if_neg he] at h
    split at h
    · cases h
    · split at h
      · cases h
      · split at h
        · cases h
        · exfalso
          simp only at h
          split at h <;> cases h
theorem nextV_ok {s : ByteArray} {k : Nat} (h : chk s (k : Int) = 0) : nextV s (k : Int) = .tuple #[tokE s (nextP (bl s) k), .int .i64 (errE (nextP (bl s) k))] := by
  unfold nextV
  rw [if_neg (fun hh => hh h)]
  rfl
theorem chk_ok {s : ByteArray} {k : Nat} (h1 : s.size ≤ 4096) (h2 : k ≤ s.size) : chk s (k : Int) = 0 := by
  unfold chk
  rw [if_neg (by omega), if_neg (by omega)]

set_option maxHeartbeats 4000000 in
set_option maxRecDepth 100000 in
theorem lawStays_any (s t : ByteArray) (at_ : Int) (w : World) :
    Calls Tryd.prog 6 #[.string s, .string t, .int .i64 at_] w fun e w' => e = .returned (.bool true) ∧ Below w.heap.size w w' := by
  have haw := fun W => awake_any W
  replace haw := Lib.hid haw
  by_cases g1 : (500 : Int) < (s.size : Int)
  · go_enter Tryd.func6, Tryd.ntmps6
    go_wp2_with fail
    refine (haw.out _).mono ?_
    rintro e w' ⟨rfl, hb⟩
    go_wp2
    go_ret
    exact ⟨rfl, hb⟩
  · by_cases g2 : (500 : Int) < (t.size : Int)
    · go_enter Tryd.func6, Tryd.ntmps6
      go_wp2_with fail
      refine (haw.out _).mono ?_
      rintro e w' ⟨rfl, hb⟩
      go_wp2
      go_ret
      exact ⟨rfl, hb⟩
    · by_cases g3 : at_ < 0
      · go_enter Tryd.func6, Tryd.ntmps6
        go_wp2_with fail
        refine (haw.out _).mono ?_
        rintro e w' ⟨rfl, hb⟩
        go_wp2
        go_ret
        exact ⟨rfl, hb⟩
      · by_cases g4 : (s.size : Int) < at_
        · go_enter Tryd.func6, Tryd.ntmps6
          go_wp2_with fail
          refine (haw.out _).mono ?_
          rintro e w' ⟨rfl, hb⟩
          go_wp2
          go_ret
          exact ⟨rfl, hb⟩
        · obtain ⟨k, rfl⟩ : ∃ k : Nat, at_ = (k : Int) := ⟨at_.toNat, by omega⟩
          have hk : k ≤ s.size := by omega
          have hsz : (s ++ t).size = s.size + t.size := ByteArray.size_append
          have hn1 := fun W => Next_any s (k : Int) W
          have hn2 := fun W => Next_any (s ++ t) (k : Int) W
          rw [nextV_ok (chk_ok (by omega) hk)] at hn1
          rw [nextV_ok (chk_ok (by omega) (by omega)), bl_append] at hn2
          have hcat : ∀ W, (Op.stringOp .add s t).run Tryd.prog W = .ok (.string (s ++ t)) W := fun W => run_string_add_sum W _ _ (by omega)
          have hap := nextP_app (x := bl s) (y := bl t) (k := k) (by rw [bl_len]; exact hk)
          have hen := nextP_end (l := bl s) (k := k)
          have hle := nextP_le (bl s) k (by rw [bl_len]; exact hk)
          rw [bl_len] at hap hen hle
          generalize nextP (bl s) k = T at hn1 hap hen hle
          generalize nextP (bl s ++ bl t) k = T2 at hn2 hap
          by_cases hA : T.1 ≠ 5 ∧ T.1 ≠ 0 ∧ T.2.2 < s.size
          · obtain ⟨h5, h0, hlt⟩ := hA
            obtain rfl := hap h0 h5 hlt
            have e1 : tokE s T2 = tokV s T2 := tokE_ne s h5
            have e2 : tokE (s ++ t) T2 = tokV s T2 := by rw [tokE_ne _ h5]; unfold tokV; rw [extract_append (by omega)]
            have e3 : errE T2 = 0 := by unfold errE; rw [if_neg h5]
            rw [e1, e3] at hn1
            rw [e2, e3] at hn2
            unfold tokV at hn1 hn2
            have i1 : ((T2.2.2 : Nat) : Int) < (s.size : Int) := by omega
            have i2 : ¬ ((T2.1 : Nat) : Int) = 0 := by omega
            generalize s.extract T2.2.1 T2.2.2 = tx at hn1 hn2
            generalize ((T2.1 : Nat) : Int) = xa at hn1 hn2 i2
            generalize ((T2.2.1 : Nat) : Int) = xc at hn1 hn2
            generalize ((T2.2.2 : Nat) : Int) = xd at hn1 hn2 i1
            replace hn1 := Lib.hid hn1
            replace hn2 := Lib.hid hn2
            replace hcat := Lib.hid hcat
            have hcat := hcat.out
            clear hap hen hle e1 e2 e3 h5 h0 hlt hk
            go_enter Tryd.func6, Tryd.ntmps6
            go_wp2_with fail
            refine (hn1.out _).mono ?_
            rintro e w1 ⟨rfl, hb1⟩
            have bz1 := Blk.new w1 [.int .i64 xa, .string tx, .int .i64 xc, .int .i64 xd] 24
            have hbA : Below w.heap.size w (w1.alloc (.cells #[.int .i64 xa, .string tx, .int .i64 xc, .int .i64 xd] 24)) := hb1.alloc hb1.size _
            obtain ⟨z1, hz1⟩ : ∃ z1, w1.heap.size = z1 := ⟨_, rfl⟩
            rw [hz1] at bz1
            replace hbA := Lib.hid hbA
            replace bz1 := Lib.hid bz1
            clear hb1
            go_upto_region 4 with fail
            try rw [hz1]
            generalize (w1.alloc (.cells #[.int .i64 xa, .string tx, .int .i64 xc, .int .i64 xd] 24)) = wA at hbA bz1 ⊢
            clear hz1
            go_wp2_with fail
            refine (hn2.out _).mono ?_
            rintro e w2 ⟨rfl, hb2⟩
            have bz2 := Blk.new w2 [.int .i64 xa, .string tx, .int .i64 xc, .int .i64 xd] 24
            have bz1b : Blk w2 z1 _ _ := (hb2.block z1 bz1.out.lt).trans bz1.out
            have hzz : ¬ z1 = w2.heap.size := by have := bz1b.lt; omega
            have bz1c := bz1b.alloc (.cells #[.int .i64 xa, .string tx, .int .i64 xc, .int .i64 xd] 24)
            have hbB : Below w.heap.size w (w2.alloc (.cells #[.int .i64 xa, .string tx, .int .i64 xc, .int .i64 xd] 24)) := (hbA.out.trans (hb2.mono hbA.out.size)).alloc (Nat.le_trans hbA.out.size hb2.size) _
            obtain ⟨z2, hz2⟩ : ∃ z2, w2.heap.size = z2 := ⟨_, rfl⟩
            rw [hz2] at bz2 hzz
            replace bz1c := Lib.hid bz1c
            replace bz2 := Lib.hid bz2
            replace hbB := Lib.hid hbB
            clear hb2 bz1b hbA bz1
            go_upto_region 5 with fail
            try rw [hz2]
            generalize (w2.alloc (.cells #[.int .i64 xa, .string tx, .int .i64 xc, .int .i64 xd] 24)) = wB at hbB bz1c bz2 ⊢
            clear hz2
            have p0 := bz1c.out.cell (i := 0) rfl
            have p1 := bz1c.out.cell (i := 1) rfl
            have p2 := bz1c.out.cell (i := 2) rfl
            have p3 := bz1c.out.cell (i := 3) rfl
            have q0 := bz2.out.cell (i := 0) rfl
            have q1 := bz2.out.cell (i := 1) rfl
            have q2 := bz2.out.cell (i := 2) rfl
            have q3 := bz2.out.cell (i := 3) rfl
            have hzy := Ne.symm hzz
            go_wp2_with fail
            refine (haw.out _).mono ?_
            rintro e w9 ⟨rfl, hb9⟩
            have hbE : Hid (Below w.heap.size w w9) := Lib.hid (hbB.out.trans (hb9.mono hbB.out.size))
            go_wp2
            go_ret
            exact ⟨rfl, hbE.out⟩
          · have hF : T.1 = 5 ∧ errE T = 30 ∨ (T.1 ≠ 5 ∧ errE T = 0 ∧ s.size ≤ T.2.2) := by
              by_cases h5 : T.1 = 5
              · exact .inl ⟨h5, by unfold errE; rw [if_pos h5]⟩
              · refine .inr ⟨h5, by unfold errE; rw [if_neg h5], ?_⟩
                by_cases h0 : T.1 = 0
                · exact hen h0
                · by_cases hlt : T.2.2 < s.size
                  · exact absurd ⟨h5, h0, hlt⟩ hA
                  · omega
            have hE2 : errE T2 = 0 ∨ errE T2 = 30 := by unfold errE; split <;> simp
            have hx2 := tok_cells (s ++ t) T2
            obtain ⟨ya, ty, yc, yd, hx2⟩ := hx2
            rw [hx2] at hn2
            clear hap hen hle hA hx2
            rcases hF with ⟨h5, he⟩ | ⟨h5, he, hge⟩
            · obtain ⟨xa, tx, xc, xd, hx1⟩ := tok_cells s T
              rw [hx1, he] at hn1
              clear hx1 h5 he
              replace hn1 := Lib.hid hn1
              replace hcat := Lib.hid hcat
              have hcat := hcat.out
              rcases hE2 with he2 | he2
              · rw [he2] at hn2
                replace hn2 := Lib.hid hn2
                clear he2
                go_enter Tryd.func6, Tryd.ntmps6
                go_wp2_with fail
                refine (hn1.out _).mono ?_
                rintro e w1 ⟨rfl, hb1⟩
                have bz1 := Blk.new w1 [.int .i64 xa, .string tx, .int .i64 xc, .int .i64 xd] 24
                have hbA : Below w.heap.size w (w1.alloc (.cells #[.int .i64 xa, .string tx, .int .i64 xc, .int .i64 xd] 24)) := hb1.alloc hb1.size _
                obtain ⟨z1, hz1⟩ : ∃ z1, w1.heap.size = z1 := ⟨_, rfl⟩
                rw [hz1] at bz1
                replace hbA := Lib.hid hbA
                replace bz1 := Lib.hid bz1
                clear hb1
                go_upto_region 4 with fail
                try rw [hz1]
                generalize (w1.alloc (.cells #[.int .i64 xa, .string tx, .int .i64 xc, .int .i64 xd] 24)) = wA at hbA bz1 ⊢
                clear hz1
                go_wp2_with fail
                refine (hn2.out _).mono ?_
                rintro e w2 ⟨rfl, hb2⟩
                have bz2 := Blk.new w2 [.int .i64 ya, .string ty, .int .i64 yc, .int .i64 yd] 24
                have bz1b : Blk w2 z1 _ _ := (hb2.block z1 bz1.out.lt).trans bz1.out
                have hzz : ¬ z1 = w2.heap.size := by have := bz1b.lt; omega
                have bz1c := bz1b.alloc (.cells #[.int .i64 ya, .string ty, .int .i64 yc, .int .i64 yd] 24)
                have hbB : Below w.heap.size w (w2.alloc (.cells #[.int .i64 ya, .string ty, .int .i64 yc, .int .i64 yd] 24)) := (hbA.out.trans (hb2.mono hbA.out.size)).alloc (Nat.le_trans hbA.out.size hb2.size) _
                obtain ⟨z2, hz2⟩ : ∃ z2, w2.heap.size = z2 := ⟨_, rfl⟩
                rw [hz2] at bz2 hzz
                replace bz1c := Lib.hid bz1c
                replace bz2 := Lib.hid bz2
                replace hbB := Lib.hid hbB
                clear hb2 bz1b hbA bz1
                go_upto_region 5 with fail
                try rw [hz2]
                generalize (w2.alloc (.cells #[.int .i64 ya, .string ty, .int .i64 yc, .int .i64 yd] 24)) = wB at hbB bz1c bz2 ⊢
                clear hz2
                have p0 := bz1c.out.cell (i := 0) rfl
                have p1 := bz1c.out.cell (i := 1) rfl
                have p2 := bz1c.out.cell (i := 2) rfl
                have p3 := bz1c.out.cell (i := 3) rfl
                have q0 := bz2.out.cell (i := 0) rfl
                have q1 := bz2.out.cell (i := 1) rfl
                have q2 := bz2.out.cell (i := 2) rfl
                have q3 := bz2.out.cell (i := 3) rfl
                have hzy := Ne.symm hzz
                go_wp2_with fail
                refine (haw.out _).mono ?_
                rintro e w9 ⟨rfl, hb9⟩
                have hbE : Hid (Below w.heap.size w w9) := Lib.hid (hbB.out.trans (hb9.mono hbB.out.size))
                go_wp2
                go_ret
                exact ⟨rfl, hbE.out⟩
              · rw [he2] at hn2
                replace hn2 := Lib.hid hn2
                clear he2
                go_enter Tryd.func6, Tryd.ntmps6
                go_wp2_with fail
                refine (hn1.out _).mono ?_
                rintro e w1 ⟨rfl, hb1⟩
                have bz1 := Blk.new w1 [.int .i64 xa, .string tx, .int .i64 xc, .int .i64 xd] 24
                have hbA : Below w.heap.size w (w1.alloc (.cells #[.int .i64 xa, .string tx, .int .i64 xc, .int .i64 xd] 24)) := hb1.alloc hb1.size _
                obtain ⟨z1, hz1⟩ : ∃ z1, w1.heap.size = z1 := ⟨_, rfl⟩
                rw [hz1] at bz1
                replace hbA := Lib.hid hbA
                replace bz1 := Lib.hid bz1
                clear hb1
                go_upto_region 4 with fail
                try rw [hz1]
                generalize (w1.alloc (.cells #[.int .i64 xa, .string tx, .int .i64 xc, .int .i64 xd] 24)) = wA at hbA bz1 ⊢
                clear hz1
                go_wp2_with fail
                refine (hn2.out _).mono ?_
                rintro e w2 ⟨rfl, hb2⟩
                have bz2 := Blk.new w2 [.int .i64 ya, .string ty, .int .i64 yc, .int .i64 yd] 24
                have bz1b : Blk w2 z1 _ _ := (hb2.block z1 bz1.out.lt).trans bz1.out
                have hzz : ¬ z1 = w2.heap.size := by have := bz1b.lt; omega
                have bz1c := bz1b.alloc (.cells #[.int .i64 ya, .string ty, .int .i64 yc, .int .i64 yd] 24)
                have hbB : Below w.heap.size w (w2.alloc (.cells #[.int .i64 ya, .string ty, .int .i64 yc, .int .i64 yd] 24)) := (hbA.out.trans (hb2.mono hbA.out.size)).alloc (Nat.le_trans hbA.out.size hb2.size) _
                obtain ⟨z2, hz2⟩ : ∃ z2, w2.heap.size = z2 := ⟨_, rfl⟩
                rw [hz2] at bz2 hzz
                replace bz1c := Lib.hid bz1c
                replace bz2 := Lib.hid bz2
                replace hbB := Lib.hid hbB
                clear hb2 bz1b hbA bz1
                go_upto_region 5 with fail
                try rw [hz2]
                generalize (w2.alloc (.cells #[.int .i64 ya, .string ty, .int .i64 yc, .int .i64 yd] 24)) = wB at hbB bz1c bz2 ⊢
                clear hz2
                have p0 := bz1c.out.cell (i := 0) rfl
                have p1 := bz1c.out.cell (i := 1) rfl
                have p2 := bz1c.out.cell (i := 2) rfl
                have p3 := bz1c.out.cell (i := 3) rfl
                have q0 := bz2.out.cell (i := 0) rfl
                have q1 := bz2.out.cell (i := 1) rfl
                have q2 := bz2.out.cell (i := 2) rfl
                have q3 := bz2.out.cell (i := 3) rfl
                have hzy := Ne.symm hzz
                go_wp2_with fail
                refine (haw.out _).mono ?_
                rintro e w9 ⟨rfl, hb9⟩
                have hbE : Hid (Below w.heap.size w w9) := Lib.hid (hbB.out.trans (hb9.mono hbB.out.size))
                go_wp2
                go_ret
                exact ⟨rfl, hbE.out⟩
            · have hx1 : tokE s T = tokV s T := tokE_ne s h5
              unfold tokV at hx1
              rw [hx1, he] at hn1
              have i1 : ¬ ((T.2.2 : Nat) : Int) < (s.size : Int) := by omega
              generalize s.extract T.2.1 T.2.2 = tx at hn1
              generalize ((T.1 : Nat) : Int) = xa at hn1
              generalize ((T.2.1 : Nat) : Int) = xc at hn1
              generalize ((T.2.2 : Nat) : Int) = xd at hn1 i1
              clear hx1 h5 he hge
              replace hn1 := Lib.hid hn1
              replace hcat := Lib.hid hcat
              have hcat := hcat.out
              rcases hE2 with he2 | he2
              · rw [he2] at hn2
                replace hn2 := Lib.hid hn2
                clear he2
                go_enter Tryd.func6, Tryd.ntmps6
                go_wp2_with fail
                refine (hn1.out _).mono ?_
                rintro e w1 ⟨rfl, hb1⟩
                have bz1 := Blk.new w1 [.int .i64 xa, .string tx, .int .i64 xc, .int .i64 xd] 24
                have hbA : Below w.heap.size w (w1.alloc (.cells #[.int .i64 xa, .string tx, .int .i64 xc, .int .i64 xd] 24)) := hb1.alloc hb1.size _
                obtain ⟨z1, hz1⟩ : ∃ z1, w1.heap.size = z1 := ⟨_, rfl⟩
                rw [hz1] at bz1
                replace hbA := Lib.hid hbA
                replace bz1 := Lib.hid bz1
                clear hb1
                go_upto_region 4 with fail
                try rw [hz1]
                generalize (w1.alloc (.cells #[.int .i64 xa, .string tx, .int .i64 xc, .int .i64 xd] 24)) = wA at hbA bz1 ⊢
                clear hz1
                go_wp2_with fail
                refine (hn2.out _).mono ?_
                rintro e w2 ⟨rfl, hb2⟩
                have bz2 := Blk.new w2 [.int .i64 ya, .string ty, .int .i64 yc, .int .i64 yd] 24
                have bz1b : Blk w2 z1 _ _ := (hb2.block z1 bz1.out.lt).trans bz1.out
                have hzz : ¬ z1 = w2.heap.size := by have := bz1b.lt; omega
                have bz1c := bz1b.alloc (.cells #[.int .i64 ya, .string ty, .int .i64 yc, .int .i64 yd] 24)
                have hbB : Below w.heap.size w (w2.alloc (.cells #[.int .i64 ya, .string ty, .int .i64 yc, .int .i64 yd] 24)) := (hbA.out.trans (hb2.mono hbA.out.size)).alloc (Nat.le_trans hbA.out.size hb2.size) _
                obtain ⟨z2, hz2⟩ : ∃ z2, w2.heap.size = z2 := ⟨_, rfl⟩
                rw [hz2] at bz2 hzz
                replace bz1c := Lib.hid bz1c
                replace bz2 := Lib.hid bz2
                replace hbB := Lib.hid hbB
                clear hb2 bz1b hbA bz1
                go_upto_region 5 with fail
                try rw [hz2]
                generalize (w2.alloc (.cells #[.int .i64 ya, .string ty, .int .i64 yc, .int .i64 yd] 24)) = wB at hbB bz1c bz2 ⊢
                clear hz2
                have p0 := bz1c.out.cell (i := 0) rfl
                have p1 := bz1c.out.cell (i := 1) rfl
                have p2 := bz1c.out.cell (i := 2) rfl
                have p3 := bz1c.out.cell (i := 3) rfl
                have q0 := bz2.out.cell (i := 0) rfl
                have q1 := bz2.out.cell (i := 1) rfl
                have q2 := bz2.out.cell (i := 2) rfl
                have q3 := bz2.out.cell (i := 3) rfl
                have hzy := Ne.symm hzz
                go_wp2_with fail
                refine (haw.out _).mono ?_
                rintro e w9 ⟨rfl, hb9⟩
                have hbE : Hid (Below w.heap.size w w9) := Lib.hid (hbB.out.trans (hb9.mono hbB.out.size))
                go_wp2
                go_ret
                exact ⟨rfl, hbE.out⟩
              · rw [he2] at hn2
                replace hn2 := Lib.hid hn2
                clear he2
                go_enter Tryd.func6, Tryd.ntmps6
                go_wp2_with fail
                refine (hn1.out _).mono ?_
                rintro e w1 ⟨rfl, hb1⟩
                have bz1 := Blk.new w1 [.int .i64 xa, .string tx, .int .i64 xc, .int .i64 xd] 24
                have hbA : Below w.heap.size w (w1.alloc (.cells #[.int .i64 xa, .string tx, .int .i64 xc, .int .i64 xd] 24)) := hb1.alloc hb1.size _
                obtain ⟨z1, hz1⟩ : ∃ z1, w1.heap.size = z1 := ⟨_, rfl⟩
                rw [hz1] at bz1
                replace hbA := Lib.hid hbA
                replace bz1 := Lib.hid bz1
                clear hb1
                go_upto_region 4 with fail
                try rw [hz1]
                generalize (w1.alloc (.cells #[.int .i64 xa, .string tx, .int .i64 xc, .int .i64 xd] 24)) = wA at hbA bz1 ⊢
                clear hz1
                go_wp2_with fail
                refine (hn2.out _).mono ?_
                rintro e w2 ⟨rfl, hb2⟩
                have bz2 := Blk.new w2 [.int .i64 ya, .string ty, .int .i64 yc, .int .i64 yd] 24
                have bz1b : Blk w2 z1 _ _ := (hb2.block z1 bz1.out.lt).trans bz1.out
                have hzz : ¬ z1 = w2.heap.size := by have := bz1b.lt; omega
                have bz1c := bz1b.alloc (.cells #[.int .i64 ya, .string ty, .int .i64 yc, .int .i64 yd] 24)
                have hbB : Below w.heap.size w (w2.alloc (.cells #[.int .i64 ya, .string ty, .int .i64 yc, .int .i64 yd] 24)) := (hbA.out.trans (hb2.mono hbA.out.size)).alloc (Nat.le_trans hbA.out.size hb2.size) _
                obtain ⟨z2, hz2⟩ : ∃ z2, w2.heap.size = z2 := ⟨_, rfl⟩
                rw [hz2] at bz2 hzz
                replace bz1c := Lib.hid bz1c
                replace bz2 := Lib.hid bz2
                replace hbB := Lib.hid hbB
                clear hb2 bz1b hbA bz1
                go_upto_region 5 with fail
                try rw [hz2]
                generalize (w2.alloc (.cells #[.int .i64 ya, .string ty, .int .i64 yc, .int .i64 yd] 24)) = wB at hbB bz1c bz2 ⊢
                clear hz2
                have p0 := bz1c.out.cell (i := 0) rfl
                have p1 := bz1c.out.cell (i := 1) rfl
                have p2 := bz1c.out.cell (i := 2) rfl
                have p3 := bz1c.out.cell (i := 3) rfl
                have q0 := bz2.out.cell (i := 0) rfl
                have q1 := bz2.out.cell (i := 1) rfl
                have q2 := bz2.out.cell (i := 2) rfl
                have q3 := bz2.out.cell (i := 3) rfl
                have hzy := Ne.symm hzz
                go_wp2_with fail
                refine (haw.out _).mono ?_
                rintro e w9 ⟨rfl, hb9⟩
                have hbE : Hid (Below w.heap.size w w9) := Lib.hid (hbB.out.trans (hb9.mono hbB.out.size))
                go_wp2
                go_ret
                exact ⟨rfl, hbE.out⟩
end Go.Proofs.YtjeleebgifajkaaDoor
