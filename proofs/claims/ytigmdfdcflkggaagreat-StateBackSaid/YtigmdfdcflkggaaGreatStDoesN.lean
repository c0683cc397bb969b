/-
  Which call is asked for; does of no state. Conditions: numbers of 64 bits.
-/
import Derived.Test.YtigmdfdcflkggaaGreatStNil2
namespace Go.Proofs.YtigmdfdcflkggaaGreat
open Go Go.RowKit Go.ChangeMaps

section
variable {w w' : World}
def In64 (x : Int) : Prop := -9223372036854775808 ≤ x ∧ x ≤ 9223372036854775807
/-- Which call. -/
def askI (x : Int) : Int := (x.tmod 20 + 20) % 20
theorem ask_lt (x : Int) : -20 < x.tmod 20 ∧ x.tmod 20 < 20 := by
  have h1 := Int.tmod_lt_of_pos x (show (0 : Int) < 20 by decide)
  have h2 := Int.lt_tmod_of_pos x (show (0 : Int) < 20 by decide)
  omega
set_option maxRecDepth 100000 in
theorem ask_any (x : Int) (k s : ByteArray) (n : Int) (sv : Value) (hs : ∃ A m c, sv = .slice A m c) (hx : In64 x) (w : World) :
    Calls Tryz.prog 20 #[.agg #[.int .i64 x, .string k, .string s, .int .i64 n, sv]] w fun e w' => e = .returned (.int .i64 (askI x)) ∧ Below w.heap.size w w' := by
  obtain ⟨A, m, c, rfl⟩ := hs
  obtain ⟨z, hz⟩ : ∃ z, w.heap.size = z := ⟨_, rfl⟩
  have bC : Blk (w.alloc (.cells #[.int .i64 x, .string k, .string s, .int .i64 n, .slice A m c] 39)) z [.int .i64 x, .string k, .string s, .int .i64 n, .slice A m c] 39 := by rw [← hz]; exact Blk.new w _ _
  have hb : Below w.heap.size w (w.alloc (.cells #[.int .i64 x, .string k, .string s, .int .i64 n, .slice A m c] 39)) := Below.of_alloc w _
  obtain ⟨h1, h2⟩ := ask_lt x
  unfold In64 at hx
  unfold askI
  replace hb := Lib.hid hb
  go_enter Tryz.func20, Tryz.ntmps20
  go_upto_region 1 with fail
  try rw [hz]
  generalize (w.alloc (.cells #[.int .i64 x, .string k, .string s, .int .i64 n, .slice A m c] 39)) = w1 at bC hb ⊢
  have e0 := bC.cell (i := 0) rfl
  have lz := bC.lt
  clear bC
  go_wp2
  go_ret
  exact ⟨rfl, hb.out⟩
set_option maxRecDepth 100000 in
set_option maxHeartbeats 4000000 in
theorem node_any (s : ByteArray) (w : World) :
    Calls Tryz.prog 42 #[.string s] w fun e w' => e = .returned (.agg #[.int .i64 6, .bool false, .string s, .bool false, .slice none 0 0, .slice none 0 0, .slice none 0 0, .slice none 0 0, .slice none 0 0]) ∧ Below w.heap.size w w' := by
  obtain ⟨z, hz⟩ : ∃ z, w.heap.size = z := ⟨_, rfl⟩
  have hb0 : Below z w (w.alloc (.cells #[.int .i64 0, .bool false, .string ⟨#[]⟩, .bool false, .slice none 0 0, .slice none 0 0, .slice none 0 0, .slice none 0 0, .slice none 0 0] 88)) := by rw [← hz]; exact Below.of_alloc w _
  have b0 : Blk (w.alloc (.cells #[.int .i64 0, .bool false, .string ⟨#[]⟩, .bool false, .slice none 0 0, .slice none 0 0, .slice none 0 0, .slice none 0 0, .slice none 0 0] 88)) z [.int .i64 0, .bool false, .string ⟨#[]⟩, .bool false, .slice none 0 0, .slice none 0 0, .slice none 0 0, .slice none 0 0, .slice none 0 0] 88 := by rw [← hz]; exact Blk.new w _ _
  rw [hz]
  replace hb0 := Lib.hid hb0
  replace b0 := Lib.hid b0
  go_enter Tryz.func42, Tryz.ntmps42
  go_upto_region 1 with fail
  try rw [hz]
  generalize (w.alloc (.cells #[.int .i64 0, .bool false, .string ⟨#[]⟩, .bool false, .slice none 0 0, .slice none 0 0, .slice none 0 0, .slice none 0 0, .slice none 0 0] 88)) = w1 at hb0 b0 ⊢
  replace hz := Lib.hid hz
  have e0 := b0.out.cell (i := 0) rfl
  have e1 := b0.out.cell (i := 1) rfl
  have e2 := b0.out.cell (i := 2) rfl
  have e3 := b0.out.cell (i := 3) rfl
  have e4 := b0.out.cell (i := 4) rfl
  have e5 := b0.out.cell (i := 5) rfl
  have e6 := b0.out.cell (i := 6) rfl
  have e7 := b0.out.cell (i := 7) rfl
  have e8 := b0.out.cell (i := 8) rfl
  have f0 := b0.out.frozen 0
  have f1 := b0.out.frozen 1
  have f2 := b0.out.frozen 2
  have f3 := b0.out.frozen 3
  have f4 := b0.out.frozen 4
  have f5 := b0.out.frozen 5
  have f6 := b0.out.frozen 6
  have f7 := b0.out.frozen 7
  have f8 := b0.out.frozen 8
  have l2 := b0.out.lt
  have bE : Blk (((((((((w1.setCell ⟨z, 0, none⟩ (.int .i64 6)).setCell ⟨z, 1, none⟩ (.bool false)).setCell ⟨z, 2, none⟩ (.string s)).setCell ⟨z, 3, none⟩ (.bool false)).setCell ⟨z, 4, none⟩ (.slice none 0 0)).setCell ⟨z, 5, none⟩ (.slice none 0 0)).setCell ⟨z, 6, none⟩ (.slice none 0 0)).setCell ⟨z, 7, none⟩ (.slice none 0 0)).setCell ⟨z, 8, none⟩ (.slice none 0 0)) z [.int .i64 6, .bool false, .string s, .bool false, .slice none 0 0, .slice none 0 0, .slice none 0 0, .slice none 0 0, .slice none 0 0] 88 := (((((((((b0.out.set 0 (.int .i64 6)).set 1 (.bool false)).set 2 (.string s)).set 3 (.bool false)).set 4 (.slice none 0 0)).set 5 (.slice none 0 0)).set 6 (.slice none 0 0)).set 7 (.slice none 0 0)).set 8 (.slice none 0 0))
  have hbE : Below z w (((((((((w1.setCell ⟨z, 0, none⟩ (.int .i64 6)).setCell ⟨z, 1, none⟩ (.bool false)).setCell ⟨z, 2, none⟩ (.string s)).setCell ⟨z, 3, none⟩ (.bool false)).setCell ⟨z, 4, none⟩ (.slice none 0 0)).setCell ⟨z, 5, none⟩ (.slice none 0 0)).setCell ⟨z, 6, none⟩ (.slice none 0 0)).setCell ⟨z, 7, none⟩ (.slice none 0 0)).setCell ⟨z, 8, none⟩ (.slice none 0 0)) := (((((((((hb0.out.setCell (Nat.le_refl z) _).setCell (Nat.le_refl z) _).setCell (Nat.le_refl z) _).setCell (Nat.le_refl z) _).setCell (Nat.le_refl z) _).setCell (Nat.le_refl z) _).setCell (Nat.le_refl z) _).setCell (Nat.le_refl z) _).setCell (Nat.le_refl z) _)
  replace bE := Lib.hid bE
  replace hbE := Lib.hid hbE
  clear b0 hb0
  go_wp2
  generalize (((((((((w1.setCell ⟨z, 0, none⟩ (.int .i64 6)).setCell ⟨z, 1, none⟩ (.bool false)).setCell ⟨z, 2, none⟩ (.string s)).setCell ⟨z, 3, none⟩ (.bool false)).setCell ⟨z, 4, none⟩ (.slice none 0 0)).setCell ⟨z, 5, none⟩ (.slice none 0 0)).setCell ⟨z, 6, none⟩ (.slice none 0 0)).setCell ⟨z, 7, none⟩ (.slice none 0 0)).setCell ⟨z, 8, none⟩ (.slice none 0 0)) = wE at bE hbE ⊢
  have g0 := bE.out.cell (i := 0) rfl
  have g1 := bE.out.cell (i := 1) rfl
  have g2 := bE.out.cell (i := 2) rfl
  have g3 := bE.out.cell (i := 3) rfl
  have g4 := bE.out.cell (i := 4) rfl
  have g5 := bE.out.cell (i := 5) rfl
  have g6 := bE.out.cell (i := 6) rfl
  have g7 := bE.out.cell (i := 7) rfl
  have g8 := bE.out.cell (i := 8) rfl
  exact bodyPost_ret (v := .agg #[.int .i64 6, .bool false, .string s, .bool false, .slice none 0 0, .slice none 0 0, .slice none 0 0, .slice none 0 0, .slice none 0 0]) (by simp [results, Tryz.results42, g0, g1, g2, g3, g4, g5, g6, g7, g8, go_sem]) rfl ⟨rfl, hbE.out⟩
def firstB (s : ByteArray) : UInt8 := if h : 0 < s.size then s[0] else 0
theorem first_any (s : ByteArray) (hs : s.size ≤ 1000000) (w : World) :
    Calls Tryz.prog 47 #[.string s] w fun e w' => e = .returned (.int .u8 ((firstB s).toNat : Int)) ∧ w' = w := by
  by_cases h0 : 0 < s.size
  · have hf : firstB s = s[0] := by unfold firstB; rw [dif_pos h0]
    rw [hf]
    have hie := bytesIs h0
    have h1 : (0 : Int) < (s.size : Int) := by omega
    go_enter Tryz.func47, Tryz.ntmps47
    go_wp2
    go_ret
    exact ⟨rfl, rfl⟩
  · obtain rfl := noBytes h0
    go_enter Tryz.func47, Tryz.ntmps47
    go_wp2
    go_ret
    exact ⟨rfl, rfl⟩
set_option maxRecDepth 100000 in
set_option maxHeartbeats 8000000 in
theorem does_n (x : Int) (k s : ByteArray) (n : Int) (A : Option Addr) (m c : Nat) (hx : In64 x) (hn : In64 n) (hs : s.size ≤ 1000000) (w : World) :
    Calls Tryz.prog 13 #[.pointer none, .pointer none, .agg #[.int .i64 x, .string k, .string s, .int .i64 n, .slice A m c]] w fun e w' => e = .returned (.int .i64 (if askI x = 15 then 0 else 2)) ∧ Below w.heap.size w w' := by
  obtain ⟨z, hz⟩ : ∃ z, w.heap.size = z := ⟨_, rfl⟩
  have bC : Blk (w.alloc (.cells #[.int .i64 x, .string k, .string s, .int .i64 n, .slice A m c] 39)) z [.int .i64 x, .string k, .string s, .int .i64 n, .slice A m c] 39 := by rw [← hz]; exact Blk.new w _ _
  have hb : Below w.heap.size w (w.alloc (.cells #[.int .i64 x, .string k, .string s, .int .i64 n, .slice A m c] 39)) := Below.of_alloc w _
  have hask := fun W => ask_any x k s n (.slice A m c) ⟨A, m, c, rfl⟩ hx W
  obtain ⟨K, hK⟩ : ∃ K, askI x = K := ⟨_, rfl⟩
  have hK0 : 0 ≤ K ∧ K < 20 := by rw [← hK]; unfold askI; omega
  rw [hK] at hask ⊢
  unfold In64 at hn
  clear hx hK
  replace hb := Lib.hid hb
  replace bC := Lib.hid bC
  replace hz := Lib.hid hz
  replace hK0 := Lib.hid hK0
  by_cases h0 : K = 0
  · subst h0
    rw [if_neg (by decide)]
    go_enter Tryz.func13, Tryz.ntmps13
    go_upto_region 1 with fail
    try rw [hz.out]
    generalize (w.alloc (.cells #[.int .i64 x, .string k, .string s, .int .i64 n, .slice A m c] 39)) = w1 at bC hb ⊢
    have e0 := bC.out.cell (i := 0) rfl
    have e1 := bC.out.cell (i := 1) rfl
    have e2 := bC.out.cell (i := 2) rfl
    have e3 := bC.out.cell (i := 3) rfl
    have e4 := bC.out.cell (i := 4) rfl
    have lz := bC.out.lt
    have ha := hask w1
    go_wp2_with fail
    refine ha.mono ?_
    rintro e w2 ⟨rfl, hb2⟩
    have bD : Blk w2 z _ _ := (hb2.block z lz).trans bC.out
    have hbD := hb.out.trans (hb2.mono hb.out.size)
    clear e0 e1 e2 e3 e4 lz ha hask bC hb hb2
    have e0 := bD.cell (i := 0) rfl
    have e1 := bD.cell (i := 1) rfl
    have e2 := bD.cell (i := 2) rfl
    have e3 := bD.cell (i := 3) rfl
    have e4 := bD.cell (i := 4) rfl
    have lz := bD.lt
    replace bD := Lib.hid bD
    replace hbD := Lib.hid hbD
    go_wp2_with fail
    refine (Set_n k s w2).mono ?_
    rintro e w3 ⟨rfl, hb3⟩
    have hfin := Lib.hid (hbD.out.trans (hb3.mono hbD.out.size))
    clear hb3 e0 e1 e2 e3 e4 lz
    go_wp2
    go_ret
    exact ⟨rfl, hfin.out⟩
  have n0 : (K == 0) = false := by rw [beq_eq_false_iff_ne]; exact h0
  by_cases h1 : K = 1
  · subst h1
    rw [if_neg (by decide)]
    go_enter Tryz.func13, Tryz.ntmps13
    go_upto_region 1 with fail
    try rw [hz.out]
    generalize (w.alloc (.cells #[.int .i64 x, .string k, .string s, .int .i64 n, .slice A m c] 39)) = w1 at bC hb ⊢
    have e0 := bC.out.cell (i := 0) rfl
    have e1 := bC.out.cell (i := 1) rfl
    have e2 := bC.out.cell (i := 2) rfl
    have e3 := bC.out.cell (i := 3) rfl
    have e4 := bC.out.cell (i := 4) rfl
    have lz := bC.out.lt
    have ha := hask w1
    go_wp2_with fail
    refine ha.mono ?_
    rintro e w2 ⟨rfl, hb2⟩
    have bD : Blk w2 z _ _ := (hb2.block z lz).trans bC.out
    have hbD := hb.out.trans (hb2.mono hb.out.size)
    clear e0 e1 e2 e3 e4 lz ha hask bC hb hb2
    have e0 := bD.cell (i := 0) rfl
    have e1 := bD.cell (i := 1) rfl
    have e2 := bD.cell (i := 2) rfl
    have e3 := bD.cell (i := 3) rfl
    have e4 := bD.cell (i := 4) rfl
    have lz := bD.lt
    replace bD := Lib.hid bD
    replace hbD := Lib.hid hbD
    go_wp2_with fail
    refine (Unset_n k w2).mono ?_
    rintro e w' ⟨rfl, hw⟩
    obtain rfl := hw.symm
    have hfin := hbD
    clear hw e0 e1 e2 e3 e4 lz
    go_wp2
    go_ret
    exact ⟨rfl, hfin.out⟩
  have n1 : (K == 1) = false := by rw [beq_eq_false_iff_ne]; exact h1
  by_cases h2 : K = 2
  · subst h2
    rw [if_neg (by decide)]
    go_enter Tryz.func13, Tryz.ntmps13
    go_upto_region 1 with fail
    try rw [hz.out]
    generalize (w.alloc (.cells #[.int .i64 x, .string k, .string s, .int .i64 n, .slice A m c] 39)) = w1 at bC hb ⊢
    have e0 := bC.out.cell (i := 0) rfl
    have e1 := bC.out.cell (i := 1) rfl
    have e2 := bC.out.cell (i := 2) rfl
    have e3 := bC.out.cell (i := 3) rfl
    have e4 := bC.out.cell (i := 4) rfl
    have lz := bC.out.lt
    have ha := hask w1
    go_wp2_with fail
    refine ha.mono ?_
    rintro e w2 ⟨rfl, hb2⟩
    have bD : Blk w2 z _ _ := (hb2.block z lz).trans bC.out
    have hbD := hb.out.trans (hb2.mono hb.out.size)
    clear e0 e1 e2 e3 e4 lz ha hask bC hb hb2
    have e0 := bD.cell (i := 0) rfl
    have e1 := bD.cell (i := 1) rfl
    have e2 := bD.cell (i := 2) rfl
    have e3 := bD.cell (i := 3) rfl
    have e4 := bD.cell (i := 4) rfl
    have lz := bD.lt
    replace bD := Lib.hid bD
    replace hbD := Lib.hid hbD
    go_wp2_with fail
    refine (Mark_n k _ _ w2).mono ?_
    rintro e w3 ⟨rfl, hb3⟩
    have hfin := Lib.hid (hbD.out.trans (hb3.mono hbD.out.size))
    clear hb3 e0 e1 e2 e3 e4 lz
    go_wp2
    go_ret
    exact ⟨rfl, hfin.out⟩
  have n2 : (K == 2) = false := by rw [beq_eq_false_iff_ne]; exact h2
  by_cases h3 : K = 3
  · subst h3
    rw [if_neg (by decide)]
    go_enter Tryz.func13, Tryz.ntmps13
    go_upto_region 1 with fail
    try rw [hz.out]
    generalize (w.alloc (.cells #[.int .i64 x, .string k, .string s, .int .i64 n, .slice A m c] 39)) = w1 at bC hb ⊢
    have e0 := bC.out.cell (i := 0) rfl
    have e1 := bC.out.cell (i := 1) rfl
    have e2 := bC.out.cell (i := 2) rfl
    have e3 := bC.out.cell (i := 3) rfl
    have e4 := bC.out.cell (i := 4) rfl
    have lz := bC.out.lt
    have ha := hask w1
    go_wp2_with fail
    refine ha.mono ?_
    rintro e w2 ⟨rfl, hb2⟩
    have bD : Blk w2 z _ _ := (hb2.block z lz).trans bC.out
    have hbD := hb.out.trans (hb2.mono hb.out.size)
    clear e0 e1 e2 e3 e4 lz ha hask bC hb hb2
    have e0 := bD.cell (i := 0) rfl
    have e1 := bD.cell (i := 1) rfl
    have e2 := bD.cell (i := 2) rfl
    have e3 := bD.cell (i := 3) rfl
    have e4 := bD.cell (i := 4) rfl
    have lz := bD.lt
    replace bD := Lib.hid bD
    replace hbD := Lib.hid hbD
    have hk0 : w2.drew.cell? ⟨z, 1, none⟩ = some (.string k) ∧ w2.drew.cell? ⟨z, 2, none⟩ = some (.string s) := ⟨e1, e2⟩
    have hbE := Lib.hid (drewB hbD.out 1)
    have hn4 := node_any s w2.drew
    clear e0 e3 e4
    go_wp2
    go_region_held3 (fun w' => w'.cell? ⟨z, 1, none⟩ = some (.string k) ∧ w'.cell? ⟨z, 2, none⟩ = some (.string s))
      (first | go_keep | exact hk0 | exact hk1 | exact hk2)
      (first
        | (go_at_call 42; refine hn4.mono ?_; rintro e w4 ⟨rfl, hb4⟩; have b4 : Blk w4 z _ _ := (hb4.block z bD.out.lt).trans bD.out; have l4 := b4.lt; have hbF := Lib.hid (hbE.out.trans (hb4.mono hbE.out.size)); have hk1 : w4.cell? ⟨z, 1, none⟩ = some (.string k) ∧ w4.cell? ⟨z, 2, none⟩ = some (.string s) := ⟨b4.cell (i := 1) rfl, b4.cell (i := 2) rfl⟩; replace b4 := Lib.hid b4; have hs5 := SetFunc_n k 6 s w4; clear hb4)
        | (go_at_call 41; refine hs5.mono ?_; rintro e w5 ⟨rfl, hb5⟩; have b5 : Blk w5 z _ _ := (hb5.block z b4.out.lt).trans b4.out; have hk2 : w5.cell? ⟨z, 1, none⟩ = some (.string k) ∧ w5.cell? ⟨z, 2, none⟩ = some (.string s) := ⟨b5.cell (i := 1) rfl, b5.cell (i := 2) rfl⟩; have hbG := Lib.hid (hbF.out.trans (hb5.mono hbF.out.size)); clear hb5 b5))
    clear hk0 hk1 hk2 hn4 hs5 e1 e2 l4 lz
    go_wp2
    go_ret
    exact ⟨rfl, hbG.out⟩
  have n3 : (K == 3) = false := by rw [beq_eq_false_iff_ne]; exact h3
  by_cases h4 : K = 4
  · subst h4
    rw [if_neg (by decide)]
    go_enter Tryz.func13, Tryz.ntmps13
    go_upto_region 1 with fail
    try rw [hz.out]
    generalize (w.alloc (.cells #[.int .i64 x, .string k, .string s, .int .i64 n, .slice A m c] 39)) = w1 at bC hb ⊢
    have e0 := bC.out.cell (i := 0) rfl
    have e1 := bC.out.cell (i := 1) rfl
    have e2 := bC.out.cell (i := 2) rfl
    have e3 := bC.out.cell (i := 3) rfl
    have e4 := bC.out.cell (i := 4) rfl
    have lz := bC.out.lt
    have ha := hask w1
    go_wp2_with fail
    refine ha.mono ?_
    rintro e w2 ⟨rfl, hb2⟩
    have bD : Blk w2 z _ _ := (hb2.block z lz).trans bC.out
    have hbD := hb.out.trans (hb2.mono hb.out.size)
    clear e0 e1 e2 e3 e4 lz ha hask bC hb hb2
    have e0 := bD.cell (i := 0) rfl
    have e1 := bD.cell (i := 1) rfl
    have e2 := bD.cell (i := 2) rfl
    have e3 := bD.cell (i := 3) rfl
    have e4 := bD.cell (i := 4) rfl
    have lz := bD.lt
    replace bD := Lib.hid bD
    replace hbD := Lib.hid hbD
    go_wp2_with fail
    refine (UnsetFunc_n k w2).mono ?_
    rintro e w' ⟨rfl, hw⟩
    obtain rfl := hw.symm
    have hfin := hbD
    clear hw e0 e1 e2 e3 e4 lz
    go_wp2
    go_ret
    exact ⟨rfl, hfin.out⟩
  have n4 : (K == 4) = false := by rw [beq_eq_false_iff_ne]; exact h4
  by_cases h5 : K = 5
  · subst h5
    rw [if_neg (by decide)]
    go_enter Tryz.func13, Tryz.ntmps13
    go_upto_region 1 with fail
    try rw [hz.out]
    generalize (w.alloc (.cells #[.int .i64 x, .string k, .string s, .int .i64 n, .slice A m c] 39)) = w1 at bC hb ⊢
    have e0 := bC.out.cell (i := 0) rfl
    have e1 := bC.out.cell (i := 1) rfl
    have e2 := bC.out.cell (i := 2) rfl
    have e3 := bC.out.cell (i := 3) rfl
    have e4 := bC.out.cell (i := 4) rfl
    have lz := bC.out.lt
    have ha := hask w1
    go_wp2_with fail
    refine ha.mono ?_
    rintro e w2 ⟨rfl, hb2⟩
    have bD : Blk w2 z _ _ := (hb2.block z lz).trans bC.out
    have hbD := hb.out.trans (hb2.mono hb.out.size)
    clear e0 e1 e2 e3 e4 lz ha hask bC hb hb2
    have e0 := bD.cell (i := 0) rfl
    have e1 := bD.cell (i := 1) rfl
    have e2 := bD.cell (i := 2) rfl
    have e3 := bD.cell (i := 3) rfl
    have e4 := bD.cell (i := 4) rfl
    have lz := bD.lt
    replace bD := Lib.hid bD
    replace hbD := Lib.hid hbD
    go_wp2_with fail
    refine (SetAlias_n k s w2).mono ?_
    rintro e w' ⟨rfl, hw⟩
    obtain rfl := hw.symm
    have hfin := hbD
    clear hw e0 e1 e2 e3 e4 lz
    go_wp2
    go_ret
    exact ⟨rfl, hfin.out⟩
  have n5 : (K == 5) = false := by rw [beq_eq_false_iff_ne]; exact h5
  by_cases h6 : K = 6
  · subst h6
    rw [if_neg (by decide)]
    go_enter Tryz.func13, Tryz.ntmps13
    go_upto_region 1 with fail
    try rw [hz.out]
    generalize (w.alloc (.cells #[.int .i64 x, .string k, .string s, .int .i64 n, .slice A m c] 39)) = w1 at bC hb ⊢
    have e0 := bC.out.cell (i := 0) rfl
    have e1 := bC.out.cell (i := 1) rfl
    have e2 := bC.out.cell (i := 2) rfl
    have e3 := bC.out.cell (i := 3) rfl
    have e4 := bC.out.cell (i := 4) rfl
    have lz := bC.out.lt
    have ha := hask w1
    go_wp2_with fail
    refine ha.mono ?_
    rintro e w2 ⟨rfl, hb2⟩
    have bD : Blk w2 z _ _ := (hb2.block z lz).trans bC.out
    have hbD := hb.out.trans (hb2.mono hb.out.size)
    clear e0 e1 e2 e3 e4 lz ha hask bC hb hb2
    have e0 := bD.cell (i := 0) rfl
    have e1 := bD.cell (i := 1) rfl
    have e2 := bD.cell (i := 2) rfl
    have e3 := bD.cell (i := 3) rfl
    have e4 := bD.cell (i := 4) rfl
    have lz := bD.lt
    replace bD := Lib.hid bD
    replace hbD := Lib.hid hbD
    go_wp2_with fail
    refine (Unalias_n k w2).mono ?_
    rintro e w' ⟨rfl, hw⟩
    obtain rfl := hw.symm
    have hfin := hbD
    clear hw e0 e1 e2 e3 e4 lz
    go_wp2
    go_ret
    exact ⟨rfl, hfin.out⟩
  have n6 : (K == 6) = false := by rw [beq_eq_false_iff_ne]; exact h6
  by_cases h7 : K = 7
  · subst h7
    rw [if_neg (by decide)]
    go_enter Tryz.func13, Tryz.ntmps13
    go_upto_region 1 with fail
    try rw [hz.out]
    generalize (w.alloc (.cells #[.int .i64 x, .string k, .string s, .int .i64 n, .slice A m c] 39)) = w1 at bC hb ⊢
    have e0 := bC.out.cell (i := 0) rfl
    have e1 := bC.out.cell (i := 1) rfl
    have e2 := bC.out.cell (i := 2) rfl
    have e3 := bC.out.cell (i := 3) rfl
    have e4 := bC.out.cell (i := 4) rfl
    have lz := bC.out.lt
    have ha := hask w1
    go_wp2_with fail
    refine ha.mono ?_
    rintro e w2 ⟨rfl, hb2⟩
    have bD : Blk w2 z _ _ := (hb2.block z lz).trans bC.out
    have hbD := hb.out.trans (hb2.mono hb.out.size)
    clear e0 e1 e2 e3 e4 lz ha hask bC hb hb2
    have e0 := bD.cell (i := 0) rfl
    have e1 := bD.cell (i := 1) rfl
    have e2 := bD.cell (i := 2) rfl
    have e3 := bD.cell (i := 3) rfl
    have e4 := bD.cell (i := 4) rfl
    have lz := bD.lt
    replace bD := Lib.hid bD
    replace hbD := Lib.hid hbD
    go_wp2_with fail
    refine (SetTrap_n k s w2).mono ?_
    rintro e w' ⟨rfl, hw⟩
    obtain rfl := hw.symm
    have hfin := hbD
    clear hw e0 e1 e2 e3 e4 lz
    go_wp2
    go_ret
    exact ⟨rfl, hfin.out⟩
  have n7 : (K == 7) = false := by rw [beq_eq_false_iff_ne]; exact h7
  by_cases h8 : K = 8
  · subst h8
    rw [if_neg (by decide)]
    go_enter Tryz.func13, Tryz.ntmps13
    go_upto_region 1 with fail
    try rw [hz.out]
    generalize (w.alloc (.cells #[.int .i64 x, .string k, .string s, .int .i64 n, .slice A m c] 39)) = w1 at bC hb ⊢
    have e0 := bC.out.cell (i := 0) rfl
    have e1 := bC.out.cell (i := 1) rfl
    have e2 := bC.out.cell (i := 2) rfl
    have e3 := bC.out.cell (i := 3) rfl
    have e4 := bC.out.cell (i := 4) rfl
    have lz := bC.out.lt
    have ha := hask w1
    go_wp2_with fail
    refine ha.mono ?_
    rintro e w2 ⟨rfl, hb2⟩
    have bD : Blk w2 z _ _ := (hb2.block z lz).trans bC.out
    have hbD := hb.out.trans (hb2.mono hb.out.size)
    clear e0 e1 e2 e3 e4 lz ha hask bC hb hb2
    have e0 := bD.cell (i := 0) rfl
    have e1 := bD.cell (i := 1) rfl
    have e2 := bD.cell (i := 2) rfl
    have e3 := bD.cell (i := 3) rfl
    have e4 := bD.cell (i := 4) rfl
    have lz := bD.lt
    replace bD := Lib.hid bD
    replace hbD := Lib.hid hbD
    go_wp2_with fail
    refine (Untrap_n k w2).mono ?_
    rintro e w' ⟨rfl, hw⟩
    obtain rfl := hw.symm
    have hfin := hbD
    clear hw e0 e1 e2 e3 e4 lz
    go_wp2
    go_ret
    exact ⟨rfl, hfin.out⟩
  have n8 : (K == 8) = false := by rw [beq_eq_false_iff_ne]; exact h8
  by_cases h9 : K = 9
  · subst h9
    rw [if_neg (by decide)]
    go_enter Tryz.func13, Tryz.ntmps13
    go_upto_region 1 with fail
    try rw [hz.out]
    generalize (w.alloc (.cells #[.int .i64 x, .string k, .string s, .int .i64 n, .slice A m c] 39)) = w1 at bC hb ⊢
    have e0 := bC.out.cell (i := 0) rfl
    have e1 := bC.out.cell (i := 1) rfl
    have e2 := bC.out.cell (i := 2) rfl
    have e3 := bC.out.cell (i := 3) rfl
    have e4 := bC.out.cell (i := 4) rfl
    have lz := bC.out.lt
    have ha := hask w1
    go_wp2_with fail
    refine ha.mono ?_
    rintro e w2 ⟨rfl, hb2⟩
    have bD : Blk w2 z _ _ := (hb2.block z lz).trans bC.out
    have hbD := hb.out.trans (hb2.mono hb.out.size)
    clear e0 e1 e2 e3 e4 lz ha hask bC hb hb2
    have e0 := bD.cell (i := 0) rfl
    have e1 := bD.cell (i := 1) rfl
    have e2 := bD.cell (i := 2) rfl
    have e3 := bD.cell (i := 3) rfl
    have e4 := bD.cell (i := 4) rfl
    have lz := bD.lt
    replace bD := Lib.hid bD
    replace hbD := Lib.hid hbD
    go_wp2_with fail
    refine (Enter_n w2).mono ?_
    rintro e w' ⟨rfl, hw⟩
    obtain rfl := hw.symm
    have hfin := hbD
    clear hw e0 e1 e2 e3 e4 lz
    go_wp2
    go_ret
    exact ⟨rfl, hfin.out⟩
  have n9 : (K == 9) = false := by rw [beq_eq_false_iff_ne]; exact h9
  by_cases h10 : K = 10
  · subst h10
    rw [if_neg (by decide)]
    go_enter Tryz.func13, Tryz.ntmps13
    go_upto_region 1 with fail
    try rw [hz.out]
    generalize (w.alloc (.cells #[.int .i64 x, .string k, .string s, .int .i64 n, .slice A m c] 39)) = w1 at bC hb ⊢
    have e0 := bC.out.cell (i := 0) rfl
    have e1 := bC.out.cell (i := 1) rfl
    have e2 := bC.out.cell (i := 2) rfl
    have e3 := bC.out.cell (i := 3) rfl
    have e4 := bC.out.cell (i := 4) rfl
    have lz := bC.out.lt
    have ha := hask w1
    go_wp2_with fail
    refine ha.mono ?_
    rintro e w2 ⟨rfl, hb2⟩
    have bD : Blk w2 z _ _ := (hb2.block z lz).trans bC.out
    have hbD := hb.out.trans (hb2.mono hb.out.size)
    clear e0 e1 e2 e3 e4 lz ha hask bC hb hb2
    have e0 := bD.cell (i := 0) rfl
    have e1 := bD.cell (i := 1) rfl
    have e2 := bD.cell (i := 2) rfl
    have e3 := bD.cell (i := 3) rfl
    have e4 := bD.cell (i := 4) rfl
    have lz := bD.lt
    replace bD := Lib.hid bD
    replace hbD := Lib.hid hbD
    have hfin := Lib.hid (fun nq => drewB hbD.out nq)
    go_wp2
    go_quiet (first | (go_at_call 47; exact Calls.quiet_of_same (first_any s hs _)) | (go_at_call 30; exact Calls.quiet_of_same (SetOption_n _ _ _)))
    go_wp2
    go_ret
    exact ⟨rfl, hfin.out _⟩
  have n10 : (K == 10) = false := by rw [beq_eq_false_iff_ne]; exact h10
  by_cases h11 : K = 11
  · subst h11
    rw [if_neg (by decide)]
    go_enter Tryz.func13, Tryz.ntmps13
    go_upto_region 1 with fail
    try rw [hz.out]
    generalize (w.alloc (.cells #[.int .i64 x, .string k, .string s, .int .i64 n, .slice A m c] 39)) = w1 at bC hb ⊢
    have e0 := bC.out.cell (i := 0) rfl
    have e1 := bC.out.cell (i := 1) rfl
    have e2 := bC.out.cell (i := 2) rfl
    have e3 := bC.out.cell (i := 3) rfl
    have e4 := bC.out.cell (i := 4) rfl
    have lz := bC.out.lt
    have ha := hask w1
    go_wp2_with fail
    refine ha.mono ?_
    rintro e w2 ⟨rfl, hb2⟩
    have bD : Blk w2 z _ _ := (hb2.block z lz).trans bC.out
    have hbD := hb.out.trans (hb2.mono hb.out.size)
    clear e0 e1 e2 e3 e4 lz ha hask bC hb hb2
    have e0 := bD.cell (i := 0) rfl
    have e1 := bD.cell (i := 1) rfl
    have e2 := bD.cell (i := 2) rfl
    have e3 := bD.cell (i := 3) rfl
    have e4 := bD.cell (i := 4) rfl
    have lz := bD.lt
    replace bD := Lib.hid bD
    replace hbD := Lib.hid hbD
    have hfin := Lib.hid (fun nq => drewB hbD.out nq)
    go_wp2
    go_quiet (first | (go_at_call 47; exact Calls.quiet_of_same (first_any s hs _)) | (go_at_call 30; exact Calls.quiet_of_same (SetOption_n _ _ _)))
    go_wp2
    go_ret
    exact ⟨rfl, hfin.out _⟩
  have n11 : (K == 11) = false := by rw [beq_eq_false_iff_ne]; exact h11
  by_cases h12 : K = 12
  · subst h12
    rw [if_neg (by decide)]
    go_enter Tryz.func13, Tryz.ntmps13
    go_upto_region 1 with fail
    try rw [hz.out]
    generalize (w.alloc (.cells #[.int .i64 x, .string k, .string s, .int .i64 n, .slice A m c] 39)) = w1 at bC hb ⊢
    have e0 := bC.out.cell (i := 0) rfl
    have e1 := bC.out.cell (i := 1) rfl
    have e2 := bC.out.cell (i := 2) rfl
    have e3 := bC.out.cell (i := 3) rfl
    have e4 := bC.out.cell (i := 4) rfl
    have lz := bC.out.lt
    have ha := hask w1
    go_wp2_with fail
    refine ha.mono ?_
    rintro e w2 ⟨rfl, hb2⟩
    have bD : Blk w2 z _ _ := (hb2.block z lz).trans bC.out
    have hbD := hb.out.trans (hb2.mono hb.out.size)
    clear e0 e1 e2 e3 e4 lz ha hask bC hb hb2
    have e0 := bD.cell (i := 0) rfl
    have e1 := bD.cell (i := 1) rfl
    have e2 := bD.cell (i := 2) rfl
    have e3 := bD.cell (i := 3) rfl
    have e4 := bD.cell (i := 4) rfl
    have lz := bD.lt
    replace bD := Lib.hid bD
    replace hbD := Lib.hid hbD
    go_wp2_with fail
    refine (SetArgs_n (.slice A m c) w2).mono ?_
    rintro e w' ⟨rfl, hw⟩
    obtain rfl := hw.symm
    have hfin := hbD
    clear hw e0 e1 e2 e3 e4 lz
    go_wp2
    go_ret
    exact ⟨rfl, hfin.out⟩
  have n12 : (K == 12) = false := by rw [beq_eq_false_iff_ne]; exact h12
  by_cases h13 : K = 13
  · subst h13
    rw [if_neg (by decide)]
    go_enter Tryz.func13, Tryz.ntmps13
    go_upto_region 1 with fail
    try rw [hz.out]
    generalize (w.alloc (.cells #[.int .i64 x, .string k, .string s, .int .i64 n, .slice A m c] 39)) = w1 at bC hb ⊢
    have e0 := bC.out.cell (i := 0) rfl
    have e1 := bC.out.cell (i := 1) rfl
    have e2 := bC.out.cell (i := 2) rfl
    have e3 := bC.out.cell (i := 3) rfl
    have e4 := bC.out.cell (i := 4) rfl
    have lz := bC.out.lt
    have ha := hask w1
    go_wp2_with fail
    refine ha.mono ?_
    rintro e w2 ⟨rfl, hb2⟩
    have bD : Blk w2 z _ _ := (hb2.block z lz).trans bC.out
    have hbD := hb.out.trans (hb2.mono hb.out.size)
    clear e0 e1 e2 e3 e4 lz ha hask bC hb hb2
    have e0 := bD.cell (i := 0) rfl
    have e1 := bD.cell (i := 1) rfl
    have e2 := bD.cell (i := 2) rfl
    have e3 := bD.cell (i := 3) rfl
    have e4 := bD.cell (i := 4) rfl
    have lz := bD.lt
    replace bD := Lib.hid bD
    replace hbD := Lib.hid hbD
    go_wp2_with fail
    refine (Shift_n n w2).mono ?_
    rintro e w' ⟨rfl, hw⟩
    obtain rfl := hw.symm
    have hfin := hbD
    clear hw e0 e1 e2 e3 e4 lz
    go_wp2
    go_ret
    exact ⟨rfl, hfin.out⟩
  have n13 : (K == 13) = false := by rw [beq_eq_false_iff_ne]; exact h13
  by_cases h14 : K = 14
  · subst h14
    rw [if_neg (by decide)]
    go_enter Tryz.func13, Tryz.ntmps13
    go_upto_region 1 with fail
    try rw [hz.out]
    generalize (w.alloc (.cells #[.int .i64 x, .string k, .string s, .int .i64 n, .slice A m c] 39)) = w1 at bC hb ⊢
    have e0 := bC.out.cell (i := 0) rfl
    have e1 := bC.out.cell (i := 1) rfl
    have e2 := bC.out.cell (i := 2) rfl
    have e3 := bC.out.cell (i := 3) rfl
    have e4 := bC.out.cell (i := 4) rfl
    have lz := bC.out.lt
    have ha := hask w1
    go_wp2_with fail
    refine ha.mono ?_
    rintro e w2 ⟨rfl, hb2⟩
    have bD : Blk w2 z _ _ := (hb2.block z lz).trans bC.out
    have hbD := hb.out.trans (hb2.mono hb.out.size)
    clear e0 e1 e2 e3 e4 lz ha hask bC hb hb2
    have e0 := bD.cell (i := 0) rfl
    have e1 := bD.cell (i := 1) rfl
    have e2 := bD.cell (i := 2) rfl
    have e3 := bD.cell (i := 3) rfl
    have e4 := bD.cell (i := 4) rfl
    have lz := bD.lt
    replace bD := Lib.hid bD
    replace hbD := Lib.hid hbD
    go_wp2_with fail
    refine (SetCursor_n n (m : Int) w2).mono ?_
    rintro e w' ⟨rfl, hw⟩
    obtain rfl := hw.symm
    have hfin := hbD
    clear hw e0 e1 e2 e3 e4 lz
    go_wp2
    go_ret
    exact ⟨rfl, hfin.out⟩
  have n14 : (K == 14) = false := by rw [beq_eq_false_iff_ne]; exact h14
  by_cases h15 : K = 15
  · subst h15
    rw [if_pos (by decide)]
    go_enter Tryz.func13, Tryz.ntmps13
    go_upto_region 1 with fail
    try rw [hz.out]
    generalize (w.alloc (.cells #[.int .i64 x, .string k, .string s, .int .i64 n, .slice A m c] 39)) = w1 at bC hb ⊢
    have e0 := bC.out.cell (i := 0) rfl
    have e1 := bC.out.cell (i := 1) rfl
    have e2 := bC.out.cell (i := 2) rfl
    have e3 := bC.out.cell (i := 3) rfl
    have e4 := bC.out.cell (i := 4) rfl
    have lz := bC.out.lt
    have ha := hask w1
    go_wp2_with fail
    refine ha.mono ?_
    rintro e w2 ⟨rfl, hb2⟩
    have bD : Blk w2 z _ _ := (hb2.block z lz).trans bC.out
    have hbD := hb.out.trans (hb2.mono hb.out.size)
    clear e0 e1 e2 e3 e4 lz ha hask bC hb hb2
    have e0 := bD.cell (i := 0) rfl
    have e1 := bD.cell (i := 1) rfl
    have e2 := bD.cell (i := 2) rfl
    have e3 := bD.cell (i := 3) rfl
    have e4 := bD.cell (i := 4) rfl
    have lz := bD.lt
    replace bD := Lib.hid bD
    replace hbD := Lib.hid hbD
    go_wp2_with fail
    refine (SetStatus_n n w2).mono ?_
    rintro e w' ⟨rfl, hw⟩
    obtain rfl := hw.symm
    have hfin := hbD
    clear hw e0 e1 e2 e3 e4 lz
    go_wp2
    go_ret
    exact ⟨rfl, hfin.out⟩
  have n15 : (K == 15) = false := by rw [beq_eq_false_iff_ne]; exact h15
  by_cases h16 : K = 16
  · subst h16
    rw [if_neg (by decide)]
    go_enter Tryz.func13, Tryz.ntmps13
    go_upto_region 1 with fail
    try rw [hz.out]
    generalize (w.alloc (.cells #[.int .i64 x, .string k, .string s, .int .i64 n, .slice A m c] 39)) = w1 at bC hb ⊢
    have e0 := bC.out.cell (i := 0) rfl
    have e1 := bC.out.cell (i := 1) rfl
    have e2 := bC.out.cell (i := 2) rfl
    have e3 := bC.out.cell (i := 3) rfl
    have e4 := bC.out.cell (i := 4) rfl
    have lz := bC.out.lt
    have ha := hask w1
    go_wp2_with fail
    refine ha.mono ?_
    rintro e w2 ⟨rfl, hb2⟩
    have bD : Blk w2 z _ _ := (hb2.block z lz).trans bC.out
    have hbD := hb.out.trans (hb2.mono hb.out.size)
    clear e0 e1 e2 e3 e4 lz ha hask bC hb hb2
    have e0 := bD.cell (i := 0) rfl
    have e1 := bD.cell (i := 1) rfl
    have e2 := bD.cell (i := 2) rfl
    have e3 := bD.cell (i := 3) rfl
    have e4 := bD.cell (i := 4) rfl
    have lz := bD.lt
    replace bD := Lib.hid bD
    replace hbD := Lib.hid hbD
    go_wp2_with fail
    refine (Mark_nil w2).mono ?_
    rintro e w' ⟨rfl, hw⟩
    obtain rfl := hw.symm
    have hfin := hbD
    clear hw e0 e1 e2 e3 e4 lz
    go_wp2
    go_ret
    exact ⟨rfl, hfin.out⟩
  have n16 : (K == 16) = false := by rw [beq_eq_false_iff_ne]; exact h16
  by_cases h17 : K = 17
  · subst h17
    rw [if_neg (by decide)]
    go_enter Tryz.func13, Tryz.ntmps13
    go_upto_region 1 with fail
    try rw [hz.out]
    generalize (w.alloc (.cells #[.int .i64 x, .string k, .string s, .int .i64 n, .slice A m c] 39)) = w1 at bC hb ⊢
    have e0 := bC.out.cell (i := 0) rfl
    have e1 := bC.out.cell (i := 1) rfl
    have e2 := bC.out.cell (i := 2) rfl
    have e3 := bC.out.cell (i := 3) rfl
    have e4 := bC.out.cell (i := 4) rfl
    have lz := bC.out.lt
    have ha := hask w1
    go_wp2_with fail
    refine ha.mono ?_
    rintro e w2 ⟨rfl, hb2⟩
    have bD : Blk w2 z _ _ := (hb2.block z lz).trans bC.out
    have hbD := hb.out.trans (hb2.mono hb.out.size)
    clear e0 e1 e2 e3 e4 lz ha hask bC hb hb2
    have e0 := bD.cell (i := 0) rfl
    have e1 := bD.cell (i := 1) rfl
    have e2 := bD.cell (i := 2) rfl
    have e3 := bD.cell (i := 3) rfl
    have e4 := bD.cell (i := 4) rfl
    have lz := bD.lt
    replace bD := Lib.hid bD
    replace hbD := Lib.hid hbD
    go_wp2_with fail
    refine (Mark_nil w2).mono ?_
    rintro e w' ⟨rfl, hw⟩
    obtain rfl := hw.symm
    have hfin := hbD
    clear hw e0 e1 e2 e3 e4 lz
    go_wp2
    go_ret
    exact ⟨rfl, hfin.out⟩
  have n17 : (K == 17) = false := by rw [beq_eq_false_iff_ne]; exact h17
  rw [if_neg (by omega)]
  go_enter Tryz.func13, Tryz.ntmps13
  go_upto_region 1 with fail
  try rw [hz.out]
  generalize (w.alloc (.cells #[.int .i64 x, .string k, .string s, .int .i64 n, .slice A m c] 39)) = w1 at bC hb ⊢
  have e0 := bC.out.cell (i := 0) rfl
  have e1 := bC.out.cell (i := 1) rfl
  have e2 := bC.out.cell (i := 2) rfl
  have e3 := bC.out.cell (i := 3) rfl
  have e4 := bC.out.cell (i := 4) rfl
  have lz := bC.out.lt
  have ha := hask w1
  go_wp2_with fail
  refine ha.mono ?_
  rintro e w2 ⟨rfl, hb2⟩
  have bD : Blk w2 z _ _ := (hb2.block z lz).trans bC.out
  have hbD := hb.out.trans (hb2.mono hb.out.size)
  clear e0 e1 e2 e3 e4 lz ha hask bC hb hb2
  have e0 := bD.cell (i := 0) rfl
  have e1 := bD.cell (i := 1) rfl
  have e2 := bD.cell (i := 2) rfl
  have e3 := bD.cell (i := 3) rfl
  have e4 := bD.cell (i := 4) rfl
  have lz := bD.lt
  replace bD := Lib.hid bD
  replace hbD := Lib.hid hbD
  go_wp2_with fail
  refine (Undo_nil w2).mono ?_
  rintro e w' ⟨rfl, hw⟩
  obtain rfl := hw.symm
  have hfin := hbD
  clear hw e0 e1 e2 e3 e4 lz
  go_wp2
  go_ret
  exact ⟨rfl, hfin.out⟩
end
end Go.Proofs.YtigmdfdcflkggaaGreat
