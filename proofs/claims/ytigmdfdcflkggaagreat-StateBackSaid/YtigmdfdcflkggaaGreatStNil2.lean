/-
  What Var, Func, Put, SetFunc, Set, Mark and Environ of no state answer. Conditions: none.
-/
import Derived.Test.YtigmdfdcflkggaaGreatStNil
namespace Go.Proofs.YtigmdfdcflkggaaGreat
open Go Go.RowKit Go.ChangeMaps

section
variable {w w' : World}
set_option maxRecDepth 100000 in
set_option maxHeartbeats 4000000 in
theorem Var_n (k : ByteArray) (w : World) :
    Calls Tryz.prog 28 #[.pointer none, .string k] w fun e w' => e = .returned (.agg #[.string ⟨#[]⟩, .bool false, .bool false, .bool false]) ∧ Below w.heap.size w w' := by
  obtain ⟨z, hz⟩ : ∃ z, w.heap.size = z := ⟨_, rfl⟩
  have hb0 : Below z w (w.alloc (.cells #[.string ⟨#[]⟩, .bool false, .bool false, .bool false] 59)) := by rw [← hz]; exact Below.of_alloc w _
  have b0 : Blk (w.alloc (.cells #[.string ⟨#[]⟩, .bool false, .bool false, .bool false] 59)) z [.string ⟨#[]⟩, .bool false, .bool false, .bool false] 59 := by rw [← hz]; exact Blk.new w _ _
  have hi := sisNil_yes (w.alloc (.cells #[.string ⟨#[]⟩, .bool false, .bool false, .bool false] 59))
  rw [hz]
  replace hb0 := Lib.hid hb0
  replace b0 := Lib.hid b0
  go_enter Tryz.func28, Tryz.ntmps28
  go_upto_region 1 with fail
  try rw [hz]
  generalize (w.alloc (.cells #[.string ⟨#[]⟩, .bool false, .bool false, .bool false] 59)) = w1 at hb0 b0 hi ⊢
  replace hz := Lib.hid hz
  go_wp2_with fail
  refine hi.mono ?_
  rintro e w' ⟨rfl, hw⟩
  obtain rfl := hw.symm
  clear hi hw
  have e0 := b0.out.cell (i := 0) rfl
  have e1 := b0.out.cell (i := 1) rfl
  have e2 := b0.out.cell (i := 2) rfl
  have e3 := b0.out.cell (i := 3) rfl
  have f0 := b0.out.frozen 0
  have f1 := b0.out.frozen 1
  have f2 := b0.out.frozen 2
  have f3 := b0.out.frozen 3
  have l2 := b0.out.lt
  have bE : Blk ((((w1.setCell ⟨z, 0, none⟩ (.string ⟨#[]⟩)).setCell ⟨z, 1, none⟩ (.bool false)).setCell ⟨z, 2, none⟩ (.bool false)).setCell ⟨z, 3, none⟩ (.bool false)) z [.string ⟨#[]⟩, .bool false, .bool false, .bool false] 59 := ((((b0.out.set 0 (.string ⟨#[]⟩)).set 1 (.bool false)).set 2 (.bool false)).set 3 (.bool false))
  have hbE : Below z w ((((w1.setCell ⟨z, 0, none⟩ (.string ⟨#[]⟩)).setCell ⟨z, 1, none⟩ (.bool false)).setCell ⟨z, 2, none⟩ (.bool false)).setCell ⟨z, 3, none⟩ (.bool false)) := ((((hb0.out.setCell (Nat.le_refl z) _).setCell (Nat.le_refl z) _).setCell (Nat.le_refl z) _).setCell (Nat.le_refl z) _)
  replace bE := Lib.hid bE
  replace hbE := Lib.hid hbE
  clear b0 hb0
  go_wp2
  generalize ((((w1.setCell ⟨z, 0, none⟩ (.string ⟨#[]⟩)).setCell ⟨z, 1, none⟩ (.bool false)).setCell ⟨z, 2, none⟩ (.bool false)).setCell ⟨z, 3, none⟩ (.bool false)) = wE at bE hbE ⊢
  have g0 := bE.out.cell (i := 0) rfl
  have g1 := bE.out.cell (i := 1) rfl
  have g2 := bE.out.cell (i := 2) rfl
  have g3 := bE.out.cell (i := 3) rfl
  exact bodyPost_ret (v := .agg #[.string ⟨#[]⟩, .bool false, .bool false, .bool false]) (by simp [results, Tryz.results28, g0, g1, g2, g3, go_sem]) rfl ⟨rfl, hbE.out⟩
set_option maxRecDepth 100000 in
set_option maxHeartbeats 4000000 in
theorem Func_n (k : ByteArray) (w : World) :
    Calls Tryz.prog 72 #[.pointer none, .string k] w fun e w' => e = .returned (.tuple #[.agg #[.int .i64 0, .bool false, .string ⟨#[]⟩, .bool false, .slice none 0 0, .slice none 0 0, .slice none 0 0, .slice none 0 0, .slice none 0 0], .bool false]) ∧ Below w.heap.size w w' := by
  obtain ⟨z, hz⟩ : ∃ z, w.heap.size = z := ⟨_, rfl⟩
  have hb0 : Below z w (w.alloc (.cells #[.int .i64 0, .bool false, .string ⟨#[]⟩, .bool false, .slice none 0 0, .slice none 0 0, .slice none 0 0, .slice none 0 0, .slice none 0 0] 88)) := by rw [← hz]; exact Below.of_alloc w _
  have b0 : Blk (w.alloc (.cells #[.int .i64 0, .bool false, .string ⟨#[]⟩, .bool false, .slice none 0 0, .slice none 0 0, .slice none 0 0, .slice none 0 0, .slice none 0 0] 88)) z [.int .i64 0, .bool false, .string ⟨#[]⟩, .bool false, .slice none 0 0, .slice none 0 0, .slice none 0 0, .slice none 0 0, .slice none 0 0] 88 := by rw [← hz]; exact Blk.new w _ _
  have hi := sisNil_yes (w.alloc (.cells #[.int .i64 0, .bool false, .string ⟨#[]⟩, .bool false, .slice none 0 0, .slice none 0 0, .slice none 0 0, .slice none 0 0, .slice none 0 0] 88))
  rw [hz]
  replace hb0 := Lib.hid hb0
  replace b0 := Lib.hid b0
  go_enter Tryz.func72, Tryz.ntmps72
  go_upto_region 1 with fail
  try rw [hz]
  generalize (w.alloc (.cells #[.int .i64 0, .bool false, .string ⟨#[]⟩, .bool false, .slice none 0 0, .slice none 0 0, .slice none 0 0, .slice none 0 0, .slice none 0 0] 88)) = w1 at hb0 b0 hi ⊢
  replace hz := Lib.hid hz
  go_wp2_with fail
  refine hi.mono ?_
  rintro e w' ⟨rfl, hw⟩
  obtain rfl := hw.symm
  clear hi hw
  have e0 := b0.out.cell (i := 0) rfl
  have e1 := b0.out.cell (i := 1) rfl
  have e2 := b0.out.cell (i := 2) rfl
  have e3 := b0.out.cell (i := 3) rfl
  have e4 := b0.out.cell (i := 4) rfl
  have e5 := b0.out.cell (i := 5) rfl
  have e6 := b0.out.cell (i := 6) rfl
  have e7 := b0.out.cell (i := 7) rfl
  have e8 := b0.out.cell (i := 8) rfl
  have f0 := b0.out.frozen 0
  have f1 := b0.out.frozen 1
  have f2 := b0.out.frozen 2
  have f3 := b0.out.frozen 3
  have f4 := b0.out.frozen 4
  have f5 := b0.out.frozen 5
  have f6 := b0.out.frozen 6
  have f7 := b0.out.frozen 7
  have f8 := b0.out.frozen 8
  have l2 := b0.out.lt
  have bE : Blk (((((((((w1.setCell ⟨z, 0, none⟩ (.int .i64 0)).setCell ⟨z, 1, none⟩ (.bool false)).setCell ⟨z, 2, none⟩ (.string ⟨#[]⟩)).setCell ⟨z, 3, none⟩ (.bool false)).setCell ⟨z, 4, none⟩ (.slice none 0 0)).setCell ⟨z, 5, none⟩ (.slice none 0 0)).setCell ⟨z, 6, none⟩ (.slice none 0 0)).setCell ⟨z, 7, none⟩ (.slice none 0 0)).setCell ⟨z, 8, none⟩ (.slice none 0 0)) z [.int .i64 0, .bool false, .string ⟨#[]⟩, .bool false, .slice none 0 0, .slice none 0 0, .slice none 0 0, .slice none 0 0, .slice none 0 0] 88 := (((((((((b0.out.set 0 (.int .i64 0)).set 1 (.bool false)).set 2 (.string ⟨#[]⟩)).set 3 (.bool false)).set 4 (.slice none 0 0)).set 5 (.slice none 0 0)).set 6 (.slice none 0 0)).set 7 (.slice none 0 0)).set 8 (.slice none 0 0))
  have hbE : Below z w (((((((((w1.setCell ⟨z, 0, none⟩ (.int .i64 0)).setCell ⟨z, 1, none⟩ (.bool false)).setCell ⟨z, 2, none⟩ (.string ⟨#[]⟩)).setCell ⟨z, 3, none⟩ (.bool false)).setCell ⟨z, 4, none⟩ (.slice none 0 0)).setCell ⟨z, 5, none⟩ (.slice none 0 0)).setCell ⟨z, 6, none⟩ (.slice none 0 0)).setCell ⟨z, 7, none⟩ (.slice none 0 0)).setCell ⟨z, 8, none⟩ (.slice none 0 0)) := (((((((((hb0.out.setCell (Nat.le_refl z) _).setCell (Nat.le_refl z) _).setCell (Nat.le_refl z) _).setCell (Nat.le_refl z) _).setCell (Nat.le_refl z) _).setCell (Nat.le_refl z) _).setCell (Nat.le_refl z) _).setCell (Nat.le_refl z) _).setCell (Nat.le_refl z) _)
  replace bE := Lib.hid bE
  replace hbE := Lib.hid hbE
  clear b0 hb0
  go_wp2
  generalize (((((((((w1.setCell ⟨z, 0, none⟩ (.int .i64 0)).setCell ⟨z, 1, none⟩ (.bool false)).setCell ⟨z, 2, none⟩ (.string ⟨#[]⟩)).setCell ⟨z, 3, none⟩ (.bool false)).setCell ⟨z, 4, none⟩ (.slice none 0 0)).setCell ⟨z, 5, none⟩ (.slice none 0 0)).setCell ⟨z, 6, none⟩ (.slice none 0 0)).setCell ⟨z, 7, none⟩ (.slice none 0 0)).setCell ⟨z, 8, none⟩ (.slice none 0 0)) = wE at bE hbE ⊢
  have g0 := bE.out.cell (i := 0) rfl
  have g1 := bE.out.cell (i := 1) rfl
  have g2 := bE.out.cell (i := 2) rfl
  have g3 := bE.out.cell (i := 3) rfl
  have g4 := bE.out.cell (i := 4) rfl
  have g5 := bE.out.cell (i := 5) rfl
  have g6 := bE.out.cell (i := 6) rfl
  have g7 := bE.out.cell (i := 7) rfl
  have g8 := bE.out.cell (i := 8) rfl
  exact bodyPost_ret (v := .tuple #[.agg #[.int .i64 0, .bool false, .string ⟨#[]⟩, .bool false, .slice none 0 0, .slice none 0 0, .slice none 0 0, .slice none 0 0, .slice none 0 0], .bool false]) (by simp [results, Tryz.results72, g0, g1, g2, g3, g4, g5, g6, g7, g8, go_sem]) rfl ⟨rfl, hbE.out⟩
set_option maxRecDepth 100000 in
theorem Put_n (k : ByteArray) (x0 : ByteArray) (x1 x2 x3 : Bool) (w : World) :
    Calls Tryz.prog 39 #[.pointer none, .string k, .agg #[.string x0, .bool x1, .bool x2, .bool x3]] w fun e w' => e = .returned (.int .i64 2) ∧ Below w.heap.size w w' := by
  have hb0 : Below w.heap.size w (w.alloc (.cells #[.string x0, .bool x1, .bool x2, .bool x3] 59)) := Below.of_alloc w _
  have hi := checkName_n k (w.alloc (.cells #[.string x0, .bool x1, .bool x2, .bool x3] 59))
  replace hb0 := Lib.hid hb0
  go_enter Tryz.func39, Tryz.ntmps39
  go_upto_region 1 with fail
  generalize (w.alloc (.cells #[.string x0, .bool x1, .bool x2, .bool x3] 59)) = w1 at hb0 hi ⊢
  go_wp2_with fail
  refine hi.mono ?_
  rintro e w' ⟨rfl, hw⟩
  obtain rfl := hw.symm
  go_wp2
  go_ret
  exact ⟨rfl, hb0.out⟩
set_option maxRecDepth 100000 in
theorem SetFunc_n (k : ByteArray) (x0 : Int) (x1 : ByteArray) (w : World) :
    Calls Tryz.prog 41 #[.pointer none, .string k, .agg #[.int .i64 x0, .bool false, .string x1, .bool false, .slice none 0 0, .slice none 0 0, .slice none 0 0, .slice none 0 0, .slice none 0 0]] w fun e w' => e = .returned (.int .i64 2) ∧ Below w.heap.size w w' := by
  have hb0 : Below w.heap.size w (w.alloc (.cells #[.int .i64 x0, .bool false, .string x1, .bool false, .slice none 0 0, .slice none 0 0, .slice none 0 0, .slice none 0 0, .slice none 0 0] 88)) := Below.of_alloc w _
  have hi := checkName_n k (w.alloc (.cells #[.int .i64 x0, .bool false, .string x1, .bool false, .slice none 0 0, .slice none 0 0, .slice none 0 0, .slice none 0 0, .slice none 0 0] 88))
  replace hb0 := Lib.hid hb0
  go_enter Tryz.func41, Tryz.ntmps41
  go_upto_region 1 with fail
  generalize (w.alloc (.cells #[.int .i64 x0, .bool false, .string x1, .bool false, .slice none 0 0, .slice none 0 0, .slice none 0 0, .slice none 0 0, .slice none 0 0] 88)) = w1 at hb0 hi ⊢
  go_wp2_with fail
  refine hi.mono ?_
  rintro e w' ⟨rfl, hw⟩
  obtain rfl := hw.symm
  go_wp2
  go_ret
  exact ⟨rfl, hb0.out⟩
set_option maxRecDepth 100000 in
theorem Set_n (k v : ByteArray) (w : World) :
    Calls Tryz.prog 24 #[.pointer none, .string k, .string v] w fun e w' => e = .returned (.int .i64 2) ∧ Below w.heap.size w w' := by
  have hi := checkName_n k w
  have hv := Var_n k w
  go_enter Tryz.func24, Tryz.ntmps24
  go_wp2_with fail
  refine hi.mono ?_
  rintro e w' ⟨rfl, hw⟩
  obtain rfl := hw.symm
  clear hi hw
  go_wp2_with fail
  refine hv.mono ?_
  rintro e w2 ⟨rfl, hb2⟩
  have hfin := Lib.hid (hb2.alloc hb2.size (.cells #[.string ⟨#[]⟩, .bool false, .bool false, .bool false] 59))
  clear hv hb2
  go_wp2
  go_ret
  exact ⟨rfl, hfin.out⟩
set_option maxRecDepth 100000 in
set_option maxHeartbeats 2000000 in
theorem Mark_n (k : ByteArray) (x y : Bool) (w : World) :
    Calls Tryz.prog 26 #[.pointer none, .string k, .bool x, .bool y] w fun e w' => e = .returned (.int .i64 2) ∧ Below w.heap.size w w' := by
  have hv := Var_n k w
  go_enter Tryz.func26, Tryz.ntmps26
  go_wp2_with fail
  refine hv.mono ?_
  rintro e w2 ⟨rfl, hb2⟩
  obtain ⟨z, hz⟩ : ∃ z, w2.heap.size = z := ⟨_, rfl⟩
  have bC : Blk (w2.alloc (.cells #[.string ⟨#[]⟩, .bool false, .bool false, .bool false] 59)) z [.string ⟨#[]⟩, .bool false, .bool false, .bool false] 59 := by rw [← hz]; exact Blk.new w2 _ _
  have hbC := hb2.alloc hb2.size (.cells #[.string ⟨#[]⟩, .bool false, .bool false, .bool false] 59)
  have hzs : w.heap.size ≤ z := by rw [← hz]; exact hb2.size
  clear hv hb2
  go_upto_region 2 with fail
  try rw [hz]
  generalize (w2.alloc (.cells #[.string ⟨#[]⟩, .bool false, .bool false, .bool false] 59)) = w3 at bC hbC ⊢
  have e0 := bC.cell (i := 0) rfl
  have e1 := bC.cell (i := 1) rfl
  have e2 := bC.cell (i := 2) rfl
  have e3 := bC.cell (i := 3) rfl
  have f2 := bC.frozen 2
  have f3 := bC.frozen 3
  have lz := bC.lt
  have bD : Blk ((w3.setCell ⟨z, 2, none⟩ (.bool x)).setCell ⟨z, 3, none⟩ (.bool y)) z [.string ⟨#[]⟩, .bool false, .bool x, .bool y] 59 := (bC.set 2 _).set 3 _
  have hbD : Below w.heap.size w ((w3.setCell ⟨z, 2, none⟩ (.bool x)).setCell ⟨z, 3, none⟩ (.bool y)) := (hbC.setCell hzs _).setCell hzs _
  replace bD := Lib.hid bD
  replace hbD := Lib.hid hbD
  clear bC hbC
  go_upto_region 4 with fail
  generalize ((w3.setCell ⟨z, 2, none⟩ (.bool x)).setCell ⟨z, 3, none⟩ (.bool y)) = w4 at bD hbD ⊢
  clear e0 e1 e2 e3 f2 f3 lz
  have e0 := bD.out.cell (i := 0) rfl
  have e1 := bD.out.cell (i := 1) rfl
  have e2 := bD.out.cell (i := 2) rfl
  have e3 := bD.out.cell (i := 3) rfl
  have lz := bD.out.lt
  have hp := Put_n k ⟨#[]⟩ false x y w4
  go_wp2_with fail
  refine hp.mono ?_
  rintro e w5 ⟨rfl, hb5⟩
  have hfin := Lib.hid (hbD.out.trans (hb5.mono hbD.out.size))
  clear hp hb5
  go_wp2
  go_ret
  exact ⟨rfl, hfin.out⟩
end
end Go.Proofs.YtigmdfdcflkggaaGreat
