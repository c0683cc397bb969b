/-
  New of a state, and begun: a state of a new log. Conditions: none.
-/
import Derived.Test.YtigmdfdcflkggaaGreatStOption
import Derived.OwnWalk
namespace Go.Proofs.YtigmdfdcflkggaaGreat
open Go Go.RowKit Go.ChangeMaps

def sta0 : Sta := ⟨fun _ => none, fun _ => none, fun _ => none, fun _ => none, ⟨#[]⟩, ⟨none, 0, 0, 1, 0, []⟩⟩
/-- Nothing yet. -/
def new0 (most nest : Nat) : Tg := ⟨most, nest, sta0, [], []⟩
theorem MapAt.less {T : TypeId} {α : Type} {enc : α → Value} {w : World} {B B' mb ob : Nat} {lo : Option Addr} {es : Es α} (h : MapAt T enc w B mb lo ob es) (hB : B' ≤ B) : MapAt T enc w B' mb lo ob es := ⟨Nat.le_trans hB h.hB, Nat.le_trans hB h.hO, h.blk, h.map⟩
theorem CellAt.less {T : TypeId} {w : World} {B B' cb : Nat} {lo : Option Addr} {cs : List Value} (h : CellAt T w B cb lo cs) (hB : B' ≤ B) : CellAt T w B' cb lo cs := ⟨Nat.le_trans hB h.hB, h.blk⟩
theorem new0_good (most nest : Nat) : (new0 most nest).Good := by
  refine ⟨fun p h => (by cases h), fun p h => (by cases h), List.Pairwise.nil, fun _ => rfl, fun p h => (by cases h), Nat.zero_le _, Nat.zero_le _, ?_, fun n h => (by cases h)⟩
  exact ⟨fun k x h => (by cases h), fun k x h => (by cases h), fun k x h => (by cases h), fun k x h => (by cases h)⟩
section
variable {w w' : World} {B : Nat}
set_option maxRecDepth 100000 in
set_option maxHeartbeats 4000000 in
theorem New_st {l most nest : Nat} (hL : LogAt w B l most nest [] [] 0) (hB : B ≤ w.heap.size) :
    Calls Tryz.prog 29 #[ptrV l] w fun e w' => ∃ a sb, a.l = l ∧ e = .returned (.tuple #[ptrV sb, .int .i64 0]) ∧ StAt w' B sb a 0 (new0 most nest) 0 ∧ Below w.heap.size w w' := by
  obtain ⟨z, hz⟩ : ∃ z, w.heap.size = z := ⟨_, rfl⟩
  obtain ⟨lo, hlo⟩ : ∃ lo : Option Addr, lo = some ⟨l, 0, none⟩ := ⟨_, rfl⟩
  have hne : lo.isNone = false := by rw [hlo]; rfl
  have m1 := MV.NewMap_any lo w
  rw [hz] at m1
  unfold ptrV at m1 ⊢
  rw [← hlo]
  replace hL := Lib.hid hL
  replace hlo := Lib.hid hlo
  rw [hz] at hB ⊢
  replace hz := Lib.hid hz
  go_enter Tryz.func29, Tryz.ntmps29
  go_wp2_with fail
  refine m1.mono ?_
  rintro e w1 ⟨rfl, hM1, hb1, hs1⟩
  have m2 := MN.NewMap_any lo w1
  rw [hs1] at m2
  unfold ptrV at m2
  replace hM1 := Lib.hid hM1
  replace hb1 := Lib.hid hb1
  replace hs1 := Lib.hid hs1
  clear m1
  go_wp2_with fail
  refine m2.mono ?_
  rintro e w2 ⟨rfl, hM2, hb2, hs2⟩
  have m3 := MW.NewMap_any lo w2
  rw [hs2] at m3
  unfold ptrV at m3
  replace hM2 := Lib.hid hM2
  replace hb2 := Lib.hid hb2
  replace hs2 := Lib.hid hs2
  clear m2
  go_wp2_with fail
  refine m3.mono ?_
  rintro e w3 ⟨rfl, hM3, hb3, hs3⟩
  have m4 := MW.NewMap_any lo w3
  rw [hs3] at m4
  unfold ptrV at m4
  replace hM3 := Lib.hid hM3
  replace hb3 := Lib.hid hb3
  replace hs3 := Lib.hid hs3
  clear m3
  go_wp2_with fail
  refine m4.mono ?_
  rintro e w4 ⟨rfl, hM4, hb4, hs4⟩
  have m5 := CS.New_any lo ⟨#[]⟩ w4
  rw [hs4] at m5
  unfold ptrV at m5
  replace hM4 := Lib.hid hM4
  replace hb4 := Lib.hid hb4
  replace hs4 := Lib.hid hs4
  clear m4
  go_wp2_with fail
  refine m5.mono ?_
  rintro e w5 ⟨co, rfl, hC5, hb5, _⟩
  have m6 := CG.New_any lo none 0 0 1 0 w5
  unfold ptrV at m6
  replace hC5 := Lib.hid hC5
  replace hb5 := Lib.hid hb5
  clear m5
  go_wp2_with fail
  refine m6.mono ?_
  rintro e w6 ⟨cg, rfl, hC6, hb6, _⟩
  have k1 : Below w1.heap.size w1 w2 := by rw [hs1.out]; exact hb2.out
  have k2 : Below w2.heap.size w2 w3 := by rw [hs2.out]; exact hb3.out
  have k3 : Below w3.heap.size w3 w4 := by rw [hs3.out]; exact hb4.out
  have k4 : Below w4.heap.size w4 w5 := by rw [hs4.out]; exact hb5.out
  have k0 : Below w.heap.size w w1 := by rw [hz.out]; exact hb1.out
  have j5 := hb6
  have j4 : Below w4.heap.size w4 w6 := k4.trans (j5.mono k4.size)
  have j3 : Below w3.heap.size w3 w6 := k3.trans (j4.mono k3.size)
  have j2 : Below w2.heap.size w2 w6 := k2.trans (j3.mono k2.size)
  have j1 : Below w1.heap.size w1 w6 := k1.trans (j2.mono k1.size)
  have j0 : Below w.heap.size w w6 := k0.trans (j1.mono k0.size)
  have s4 : z + 8 ≤ w5.heap.size := by have := k4.size; rw [hs4.out] at this; omega
  have hO : Objs w6 B ⟨l, z + 1, z + 2 + 1, z + 2 + 2 + 1, z + 2 + 2 + 2 + 1, co, cg, z, z + 2, z + 2 + 2, z + 2 + 2 + 2⟩ sta0 [] [] [] [] := by
    rw [hlo.out] at hM1 hM2 hM3 hM4 hC5 hC6
    exact {
      mv := (hM1.out.less hB).below j1
      mf := (hM2.out.less (by omega)).below j2
      ma := (hM3.out.less (by omega)).below j3
      mt := (hM4.out.less (by omega)).below j4
      co := (hC5.out.less (by omega)).below j5
      cg := hC6.less (by omega)
      lv := fun _ => rfl
      lf := fun _ => rfl
      la := fun _ => rfl
      lt := fun _ => rfl
      ga := ⟨rfl, Nat.le_refl _, Nat.zero_le _, fun h => absurd h (by decide)⟩
      d := by refine ⟨?_, ?_, ?_, ?_, ?_, ?_⟩ <;> (dsimp only; omega) }
  have hT : ThAt w6 B ⟨l, z + 1, z + 2 + 1, z + 2 + 2 + 1, z + 2 + 2 + 2 + 1, co, cg, z, z + 2, z + 2 + 2, z + 2 + 2 + 2⟩ 0 (new0 most nest) :=
    ⟨[], [], [], [], [], [], hL.out.keep (KeepL.of_below j0), hO, rfl, fun i n hi => (by cases hi), rfl, new0_good _ _, Nat.zero_le _⟩
  have hbF : Below z w (w6.alloc (.cells #[.pointer (some ⟨z + 1, 0, none⟩), .pointer (some ⟨z + 2 + 1, 0, none⟩), .pointer (some ⟨z + 2 + 2 + 1, 0, none⟩), .pointer (some ⟨z + 2 + 2 + 2 + 1, 0, none⟩), .pointer (some ⟨co, 0, none⟩), .pointer (some ⟨cg, 0, none⟩), .int .i64 0] 110)) := by
    have := j0.alloc j0.size (.cells #[.pointer (some ⟨z + 1, 0, none⟩), .pointer (some ⟨z + 2 + 1, 0, none⟩), .pointer (some ⟨z + 2 + 2 + 1, 0, none⟩), .pointer (some ⟨z + 2 + 2 + 2 + 1, 0, none⟩), .pointer (some ⟨co, 0, none⟩), .pointer (some ⟨cg, 0, none⟩), .int .i64 0] 110)
    rw [hz.out] at this
    exact this
  have hSt : StAt (w6.alloc (.cells #[.pointer (some ⟨z + 1, 0, none⟩), .pointer (some ⟨z + 2 + 1, 0, none⟩), .pointer (some ⟨z + 2 + 2 + 1, 0, none⟩), .pointer (some ⟨z + 2 + 2 + 2 + 1, 0, none⟩), .pointer (some ⟨co, 0, none⟩), .pointer (some ⟨cg, 0, none⟩), .int .i64 0] 110)) B w6.heap.size ⟨l, z + 1, z + 2 + 1, z + 2 + 2 + 1, z + 2 + 2 + 2 + 1, co, cg, z, z + 2, z + 2 + 2, z + 2 + 2 + 2⟩ 0 (new0 most nest) 0 :=
    ⟨Blk.new w6 _ _, hT.below (Below.of_alloc w6 _), hT.hB⟩
  replace hbF := Lib.hid hbF
  replace hSt := Lib.hid hSt
  clear k0 k1 k2 k3 k4 j0 j1 j2 j3 j4 j5 s4 hO hT hC6 hb6 m6
  go_wp2
  go_ret2
  exact ⟨_, w6.heap.size, rfl, rfl, hSt.out, hbF.out⟩
set_option maxRecDepth 100000 in
theorem begun_any (most : Nat) (w : World) (hm : most ≤ 1048576) :
    Calls Tryz.prog 9 #[.int .i64 (most : Int)] w fun e w' => ∃ a sb, e = .returned (.tuple #[ptrV sb, ptrV a.l, .bool true]) ∧ StAt w' w.heap.size sb a 0 (new0 most 20) 0 ∧ Below w.heap.size w w' := by
  have hn := New_yes most 20 w.heap.size w hm (by decide) (by decide) (Nat.le_refl _)
  unfold ptrV at hn ⊢
  go_enter Tryz.func9, Tryz.ntmps9
  go_wp2_with fail
  refine hn.mono ?_
  rintro e w1 ⟨rfl, hL, hb1, hs1⟩
  have hst := New_st hL (by omega)
  unfold ptrV at hst
  replace hb1 := Lib.hid hb1
  clear hn hL hs1
  go_wp2_with fail
  refine hst.mono ?_
  rintro e w2 ⟨a, sb, hal, rfl, hS, hb2⟩
  have hfin := Lib.hid (And.intro hS (hb1.out.trans (hb2.mono hb1.out.size)))
  replace hal := Lib.hid hal
  clear hst hS hb2
  go_wp2
  go_ret3
  exact ⟨a, sb, by rw [hal.out]; rfl, hfin.out⟩
end
end Go.Proofs.YtigmdfdcflkggaaGreat
