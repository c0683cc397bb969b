/-
  begun: a new log with a map and a cell of it; of numbers that may not be, none. Conditions: none.
-/
import Derived.Test.YtcobfimafpfbpaaUdStep2
namespace Go.Proofs.Ytcobfimafpfbpaa
open Go Go.RowKit Go.ChangeMaps

/-- Nothing yet. -/
def new0 (most nest : Nat) : Tg := ⟨most, nest, ⟨fun _ => none, ⟨#[]⟩⟩, [], []⟩
theorem new0_good (most nest : Nat) : (new0 most nest).Good :=
  ⟨fun p h => (by cases h), fun p h => (by cases h), List.Pairwise.nil, fun _ => rfl, fun p h => (by cases h), Nat.zero_le _, Nat.zero_le _, fun k v h => (by cases h), fun n h => (by cases h)⟩
def thV (a : Ad) : Value := .agg #[ptrV a.l, ptrV a.m, ptrV a.c]

set_option maxRecDepth 100000 in
set_option maxHeartbeats 1000000 in
theorem begun_ok (most nest : Nat) (Q : Nat → Prop) (w : World) (h1 : most ≤ 1048576) (h2 : 1 ≤ nest) (h3 : nest ≤ 1024) :
    Calls Try.prog 10 #[.int .i64 (most : Int), .int .i64 (nest : Int)] w fun e w' => ∃ a, e = .returned (.tuple #[thV a, .int .i64 0]) ∧ ThAt w' w.heap.size Q a 0 (new0 most nest) ∧ Below w.heap.size w w' := by
  obtain ⟨z, hz⟩ : ∃ z, w.heap.size = z := ⟨_, rfl⟩
  have zb : Blk (w.alloc (.cells #[.pointer none, .pointer none, .pointer none] 29)) z [.pointer none, .pointer none, .pointer none] 29 := by rw [← hz]; exact Blk.new w _ _
  have hs1 : (w.alloc (.cells #[.pointer none, .pointer none, .pointer none] 29)).heap.size = z + 1 := by simp [hz]
  have hb1 := (Below.refl z w).alloc (by omega) (.cells #[.pointer none, .pointer none, .pointer none] 29)
  obtain ⟨w1, hw1⟩ : ∃ w1, w.alloc (.cells #[.pointer none, .pointer none, .pointer none] 29) = w1 := ⟨_, rfl⟩
  rw [hw1] at zb hs1 hb1
  have hnew := New_yes most nest z w1 h1 h2 h3 (by omega)
  rw [hs1] at hnew
  rw [hz]
  replace hw1 := Lib.hid hw1
  replace zb := Lib.hid zb
  replace hb1 := Lib.hid hb1
  replace hnew := Lib.hid hnew
  replace hz := Lib.hid hz
  clear hs1
  go_enter Try.func10, Try.ntmps10
  go_upto_region 1 with fail
  rw [hz.out, hw1.out]
  go_wp2_with fail
  refine hnew.out.mono ?_
  rintro e w2 ⟨rfl, hL2, hb2, hs2⟩
  have zb2 : Blk w2 z _ _ := (hb2.block z (by omega)).trans zb.out
  have hb12 : Below z w w2 := hb1.out.trans (hb2.mono (by omega))
  have hm := NewMap_any (some ⟨z + 1, 0, none⟩) w2
  rw [hs2] at hm
  replace hm := Lib.hid hm
  replace hL2 := Lib.hid hL2
  replace zb2 := Lib.hid zb2
  replace hb12 := Lib.hid hb12
  replace hs2 := Lib.hid hs2
  clear hb2 zb hb1 hnew hw1
  unfold ptrV
  go_wp2_with fail
  refine hm.out.mono ?_
  rintro e w3 ⟨rfl, hM3, hb3, hs3⟩
  have hL3 := hL2.out.keep (KeepL.of_below (by rw [hs2.out]; exact hb3))
  have zb3 : Blk w3 z _ _ := (hb3.block z (by omega)).trans zb2.out
  have hb13 : Below z w w3 := hb12.out.trans (hb3.mono (by omega))
  have hc := NewCell_any (some ⟨z + 1, 0, none⟩) ⟨#[]⟩ w3
  rw [hs3] at hc
  replace hc := Lib.hid hc
  replace hL3 := Lib.hid hL3
  replace zb3 := Lib.hid zb3
  replace hb13 := Lib.hid hb13
  replace hs3 := Lib.hid hs3
  replace hM3 := Lib.hid hM3
  clear hb3 hb12 zb2 hm hL2 hs2
  unfold ptrV
  go_wp2_with fail
  refine hc.out.mono ?_
  rintro e w4 ⟨rfl, hC4, hb4, hs4⟩
  have hb4' : Below w3.heap.size w3 w4 := by rw [hs3.out]; exact hb4
  have hL4 := hL3.out.keep (KeepL.of_below hb4')
  have hM4 := hM3.out.below hb4'
  have zb4 : Blk w4 z [.pointer none, .pointer none, .pointer none] 29 := (hb4.block z (by omega)).trans zb3.out
  have hb14 : Below z w w4 := hb13.out.trans (hb4.mono (by omega))
  have z0 := zb4.cell (i := 0) rfl
  have z1 := zb4.cell (i := 1) rfl
  have z2 := zb4.cell (i := 2) rfl
  have f0 := zb4.frozen 0
  have f1 := zb4.frozen 1
  have f2 := zb4.frozen 2
  have hzl4 := zb4.lt
  replace hL4 := Lib.hid hL4
  replace hM4 := Lib.hid hM4
  replace hC4 := Lib.hid hC4
  replace zb4 := Lib.hid zb4
  replace hb14 := Lib.hid hb14
  clear hb4 hb4' hb13 zb3 hc hL3 hM3 hs3 hs4
  unfold ptrV
  go_wp2
  have b9 := ((zb4.out.set 0 (ptrV (z + 1))).set 1 (ptrV (z + 1 + 1 + 1))).set 2 (ptrV (z + 1 + 1 + 2))
  have hS : Stp (fun b => b = z) w4 (((w4.setCell ⟨z, 0, none⟩ (ptrV (z + 1))).setCell ⟨z, 1, none⟩ (ptrV (z + 1 + 1 + 1))).setCell ⟨z, 2, none⟩ (ptrV (z + 1 + 1 + 2))) := ((Stp.set (S := fun g => g = z) rfl 0 _).trans (Stp.set (S := fun g => g = z) rfl 1 _) (fun _ _ h => h)).trans (Stp.set (S := fun g => g = z) rfl 2 _) (fun _ _ h => h)
  unfold ptrV at b9 hS
  generalize ((w4.setCell ⟨z, 0, none⟩ (.pointer (some ⟨z + 1, 0, none⟩))).setCell ⟨z, 1, none⟩ (.pointer (some ⟨z + 1 + 1 + 1, 0, none⟩))).setCell ⟨z, 2, none⟩ (.pointer (some ⟨z + 1 + 1 + 2, 0, none⟩)) = w9 at b9 hS ⊢
  have hL9 := hL4.out.keep (w' := w9) ⟨hS.size, fun b cur t f hb ht => hS.block b (Array.getElem?_eq_some_iff.1 hb).1 (fun e => by
    subst e
    have := zb4.out.symm.trans hb
    simp only [Option.some.injEq, Obj.cells.injEq] at this
    rw [← this.2.1] at ht
    rcases ht with ht | ht | ht | ht <;> exact absurd ht (by decide))⟩
  have hM9 : MapAt w9 z (z + 1 + 1 + 1) (some ⟨z + 1, 0, none⟩) (z + 1 + 1) [] := by
    have := hM4.out.keep (w' := w9) (hS.block _ hM4.out.blk.lt (by omega)) (hS.block _ hM4.out.map.lt (by omega))
    exact ⟨by omega, by omega, this.blk, this.map⟩
  have hC9 : CellAt w9 z (z + 1 + 1 + 2) (some ⟨z + 1, 0, none⟩) ⟨#[]⟩ := ⟨by omega, hC4.out.blk.stp hS (by omega)⟩
  have hb9 : Below z w w9 := ⟨hS.os.trans hb14.out.os, hS.tape.trans hb14.out.tape, hS.output.trans hb14.out.output, Nat.le_trans hb14.out.size hS.size, fun b hb => (hS.block b (by have := hb14.out.size; have := hz.out; omega) (by omega)).trans (hb14.out.block b hb)⟩
  have e0 := b9.cell (i := 0) rfl
  have e1 := b9.cell (i := 1) rfl
  have e2 := b9.cell (i := 2) rfl
  exact bodyPost_ret (v := .tuple #[thV ⟨z + 1, z + 1 + 1 + 1, z + 1 + 1 + 2, z + 1 + 1⟩, .int .i64 0]) (by simp [results, Try.results10, go_sem, e0, e1, e2, ptrV, thV]) rfl ⟨_, rfl, ⟨[], [], [], hL9, hM9, hC9, fun _ => rfl, rfl, fun i n hi => (by cases hi), rfl, new0_good _ _, Nat.zero_le _⟩, hb9⟩

set_option maxRecDepth 100000 in
set_option maxHeartbeats 1000000 in
theorem begun_no (most nest : Int) (w : World) (h : most < 0 ∨ 1048576 < most ∨ nest < 1 ∨ 1024 < nest) :
    Calls Try.prog 10 #[.int .i64 most, .int .i64 nest] w fun e w' => ∃ m c : Nat, e = .returned (.tuple #[.agg #[.pointer none, ptrV m, ptrV c], .int .i64 1]) ∧ Below w.heap.size w w' := by
  obtain ⟨z, hz⟩ : ∃ z, w.heap.size = z := ⟨_, rfl⟩
  have zb : Blk (w.alloc (.cells #[.pointer none, .pointer none, .pointer none] 29)) z [.pointer none, .pointer none, .pointer none] 29 := by rw [← hz]; exact Blk.new w _ _
  have hs1 : (w.alloc (.cells #[.pointer none, .pointer none, .pointer none] 29)).heap.size = z + 1 := by simp [hz]
  have hb1 := (Below.refl z w).alloc (by omega) (.cells #[.pointer none, .pointer none, .pointer none] 29)
  obtain ⟨w1, hw1⟩ : ∃ w1, w.alloc (.cells #[.pointer none, .pointer none, .pointer none] 29) = w1 := ⟨_, rfl⟩
  rw [hw1] at zb hs1 hb1
  have hnew := New_no most nest w1 h
  rw [hz]
  replace hw1 := Lib.hid hw1
  replace zb := Lib.hid zb
  replace hb1 := Lib.hid hb1
  replace hs1 := Lib.hid hs1
  replace hz := Lib.hid hz
  clear h
  go_enter Try.func10, Try.ntmps10
  go_upto_region 1 with fail
  rw [hz.out, hw1.out]
  go_wp2_with fail
  refine hnew.mono ?_
  rintro e w' ⟨rfl, hw⟩
  obtain rfl := hw.symm
  clear hw hnew
  have hm := NewMap_any none w1
  rw [hs1.out] at hm
  replace hm := Lib.hid hm
  go_wp2_with fail
  refine hm.out.mono ?_
  rintro e w3 ⟨rfl, hM3, hb3, hs3⟩
  have zb3 : Blk w3 z _ _ := (hb3.block z (by omega)).trans zb.out
  have hb13 : Below z w w3 := hb1.out.trans (hb3.mono (by omega))
  have hc := NewCell_any none ⟨#[]⟩ w3
  rw [hs3] at hc
  replace hc := Lib.hid hc
  replace zb3 := Lib.hid zb3
  replace hb13 := Lib.hid hb13
  clear hb3 hb1 zb hm hM3 hs3 hw1
  unfold ptrV
  go_wp2_with fail
  refine hc.out.mono ?_
  rintro e w4 ⟨rfl, hC4, hb4, hs4⟩
  have zb4 : Blk w4 z [.pointer none, .pointer none, .pointer none] 29 := (hb4.block z (by omega)).trans zb3.out
  have hb14 : Below z w w4 := hb13.out.trans (hb4.mono (by omega))
  have z0 := zb4.cell (i := 0) rfl
  have z1 := zb4.cell (i := 1) rfl
  have z2 := zb4.cell (i := 2) rfl
  have f0 := zb4.frozen 0
  have f1 := zb4.frozen 1
  have f2 := zb4.frozen 2
  have hzl4 := zb4.lt
  replace zb4 := Lib.hid zb4
  replace hb14 := Lib.hid hb14
  clear hb4 hb13 zb3 hc hs4 hC4
  unfold ptrV
  go_wp2
  have b9 := ((zb4.out.set 0 (.pointer none)).set 1 (ptrV (z + 1 + 1))).set 2 (ptrV (z + 1 + 2))
  have hS : Stp (fun b => b = z) w4 (((w4.setCell ⟨z, 0, none⟩ (.pointer none)).setCell ⟨z, 1, none⟩ (ptrV (z + 1 + 1))).setCell ⟨z, 2, none⟩ (ptrV (z + 1 + 2))) := ((Stp.set (S := fun g => g = z) rfl 0 _).trans (Stp.set (S := fun g => g = z) rfl 1 _) (fun _ _ h => h)).trans (Stp.set (S := fun g => g = z) rfl 2 _) (fun _ _ h => h)
  unfold ptrV at b9 hS
  generalize ((w4.setCell ⟨z, 0, none⟩ (.pointer none)).setCell ⟨z, 1, none⟩ (.pointer (some ⟨z + 1 + 1, 0, none⟩))).setCell ⟨z, 2, none⟩ (.pointer (some ⟨z + 1 + 2, 0, none⟩)) = w9 at b9 hS ⊢
  have hb9 : Below z w w9 := ⟨hS.os.trans hb14.out.os, hS.tape.trans hb14.out.tape, hS.output.trans hb14.out.output, Nat.le_trans hb14.out.size hS.size, fun b hb => (hS.block b (by have := hb14.out.size; have := hz.out; omega) (by omega)).trans (hb14.out.block b hb)⟩
  have e0 := b9.cell (i := 0) rfl
  have e1 := b9.cell (i := 1) rfl
  have e2 := b9.cell (i := 2) rfl
  exact bodyPost_ret (v := .tuple #[.agg #[.pointer none, ptrV (z + 1 + 1), ptrV (z + 1 + 2)], .int .i64 1]) (by simp [results, Try.results10, go_sem, e0, e1, e2, ptrV]) rfl ⟨_, _, rfl, hb9⟩
end Go.Proofs.Ytcobfimafpfbpaa
