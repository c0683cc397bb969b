/-
  Every call of no table: it says so. Conditions: none.
-/
import Derived.Test.YtbjakhiflgjflaaGreatDoorHnState
import Derived.Test.YtbjakhiflgjflaaGreatDoorNdSmall
namespace Go.Proofs.YtbjakhiflgjflaaGreatDoor
open Go Go.RowKit

section
set_option maxRecDepth 100000 in
theorem ref_nil (k : Int) (w : World) :
    Calls Tryz.prog 39 #[.pointer none, .int .i64 k] w fun e w' => e = .returned (.int .i64 2) ∧ w' = w := by
  have hi := tfind_nil k w
  go_enter Tryz.func39, Tryz.ntmps39
  go_wp2_with fail
  refine hi.mono ?_
  rintro e w' ⟨rfl, hw⟩
  obtain rfl := hw.symm
  go_wp2
  go_ret
  exact ⟨rfl, rfl⟩
set_option maxRecDepth 100000 in
theorem unref_nil (k : Int) (w : World) :
    Calls Tryz.prog 20 #[.pointer none, .int .i64 k] w fun e w' => e = .returned (.int .i64 2) ∧ w' = w := by
  have hi := tfind_nil k w
  go_enter Tryz.func20, Tryz.ntmps20
  go_wp2_with fail
  refine hi.mono ?_
  rintro e w' ⟨rfl, hw⟩
  obtain rfl := hw.symm
  go_wp2
  go_ret
  exact ⟨rfl, rfl⟩
set_option maxRecDepth 100000 in
theorem read_nil (k n : Int) (w : World) :
    Calls Tryz.prog 40 #[.pointer none, .int .i64 k, .int .i64 n] w fun e w' => e = .returned (.tuple #[.string ⟨#[]⟩, .int .i64 2]) ∧ w' = w := by
  have hi := tfind_nil k w
  go_enter Tryz.func40, Tryz.ntmps40
  go_wp2_with fail
  refine hi.mono ?_
  rintro e w' ⟨rfl, hw⟩
  obtain rfl := hw.symm
  go_wp2
  go_ret2
  exact ⟨rfl, rfl⟩
set_option maxRecDepth 100000 in
theorem write_nil (k : Int) (s : ByteArray) (w : World) :
    Calls Tryz.prog 42 #[.pointer none, .int .i64 k, .string s] w fun e w' => e = .returned (.int .i64 2) ∧ w' = w := by
  have hi := tfind_nil k w
  go_enter Tryz.func42, Tryz.ntmps42
  go_wp2_with fail
  refine hi.mono ?_
  rintro e w' ⟨rfl, hw⟩
  obtain rfl := hw.symm
  go_wp2
  go_ret
  exact ⟨rfl, rfl⟩
set_option maxRecDepth 100000 in
theorem seen_nil (k : Int) (w : World) :
    Calls Tryz.prog 66 #[.pointer none, .int .i64 k] w fun e w' => e = .returned (.tuple #[.string ⟨#[]⟩, .int .i64 2]) ∧ w' = w := by
  have hi := tfind_nil k w
  go_enter Tryz.func66, Tryz.ntmps66
  go_wp2_with fail
  refine hi.mono ?_
  rintro e w' ⟨rfl, hw⟩
  obtain rfl := hw.symm
  go_wp2
  go_ret2
  exact ⟨rfl, rfl⟩
set_option maxRecDepth 100000 in
theorem text_nil (s : ByteArray) (w : World) :
    Calls Tryz.prog 51 #[.pointer none, .string s] w fun e w' => e = .returned (.tuple #[.int .i64 0, .int .i64 2]) ∧ w' = w := by
  have hi := isNil_yes w
  go_enter Tryz.func51, Tryz.ntmps51
  go_wp2_with fail
  refine hi.mono ?_
  rintro e w' ⟨rfl, hw⟩
  obtain rfl := hw.symm
  go_wp2
  go_ret2
  exact ⟨rfl, rfl⟩
set_option maxRecDepth 100000 in
theorem sink_nil (n : Int) (w : World) :
    Calls Tryz.prog 52 #[.pointer none, .int .i64 n] w fun e w' => e = .returned (.tuple #[.int .i64 0, .int .i64 2]) ∧ w' = w := by
  have hi := isNil_yes w
  go_enter Tryz.func52, Tryz.ntmps52
  go_wp2_with fail
  refine hi.mono ?_
  rintro e w' ⟨rfl, hw⟩
  obtain rfl := hw.symm
  go_wp2
  go_ret2
  exact ⟨rfl, rfl⟩
set_option maxRecDepth 100000 in
theorem pipe_nil (w : World) :
    Calls Tryz.prog 41 #[.pointer none] w fun e w' => e = .returned (.tuple #[.int .i64 0, .int .i64 0, .int .i64 2]) ∧ w' = w := by
  have hi := isNil_yes w
  go_enter Tryz.func41, Tryz.ntmps41
  go_wp2_with fail
  refine hi.mono ?_
  rintro e w' ⟨rfl, hw⟩
  obtain rfl := hw.symm
  go_wp2
  exact bodyPost_ret (v := .tuple #[.int .i64 0, .int .i64 0, .int .i64 2]) (by simp [results, Tryz.results41, go_sem]) rfl ⟨rfl, rfl⟩
set_option maxRecDepth 100000 in
theorem all_nil (w : World) :
    Calls Tryz.prog 16 #[.pointer none] w fun e w' => e = .returned (.slice none 0 0) ∧ w' = w := by
  have hi := isNil_yes w
  go_enter Tryz.func16, Tryz.ntmps16
  go_wp2_with fail
  refine hi.mono ?_
  rintro e w' ⟨rfl, hw⟩
  obtain rfl := hw.symm
  go_wp2
  go_ret
  exact ⟨rfl, rfl⟩
set_option maxRecDepth 100000 in
theorem file_nil (n : Int) (a b c : Bool) (w : World) :
    Calls Tryz.prog 38 #[.pointer none, .int .i64 n, .agg #[.bool a, .bool b, .bool c]] w fun e w' => e = .returned (.tuple #[.int .i64 0, .int .i64 2]) ∧ w.grownBy w' none := by
  have hi := fun W => isNil_yes W
  go_enter Tryz.func38, Tryz.ntmps38
  go_wp2_with fail
  refine (hi _).mono ?_
  rintro e w' ⟨rfl, hw⟩
  obtain rfl := hw.symm
  go_wp2
  go_ret2
  exact ⟨rfl, World.grownBy_alloc w _ _⟩
def info7 (k r a n : Int) (x y z : Bool) : Value := .agg #[.int .i64 k, .int .i64 r, .int .i64 a, .int .i64 n, .bool x, .bool y, .bool z]
set_option maxRecDepth 100000 in
theorem stat_no {w : World} {tbv : Value} {k d : Int} (hi : ∀ W, w.grownBy W none → Calls Tryz.prog 71 #[tbv, .int .i64 k] W fun e w' => e = .returned (.tuple #[.pointer none, .int .i64 d]) ∧ w' = W) (hd : (d == 0) = false) :
    Calls Tryz.prog 17 #[tbv, .int .i64 k] w fun e w' => e = .returned (.tuple #[info7 0 0 0 0 false false false, .int .i64 d]) ∧ w.grownBy w' none := by
  go_enter Tryz.func17, Tryz.ntmps17
  go_upto_region 1 with fail
  have ab : Blk (w.alloc (.cells #[.int .i64 0, .int .i64 0, .int .i64 0, .int .i64 0, .bool false, .bool false, .bool false] 46)) w.heap.size [.int .i64 0, .int .i64 0, .int .i64 0, .int .i64 0, .bool false, .bool false, .bool false] 46 := Blk.new w _ _
  have ag : w.grownBy (w.alloc (.cells #[.int .i64 0, .int .i64 0, .int .i64 0, .int .i64 0, .bool false, .bool false, .bool false] 46)) none := World.grownBy_alloc w _ _
  obtain ⟨az, ahz⟩ : ∃ z, w.heap.size = z := ⟨_, rfl⟩
  generalize (w.alloc (.cells #[.int .i64 0, .int .i64 0, .int .i64 0, .int .i64 0, .bool false, .bool false, .bool false] 46)) = w1 at ab ag ⊢
  simp only [ahz] at ab ⊢
  have hi1 := hi w1 ag
  replace ahz := Lib.hid ahz
  replace ag := Lib.hid ag
  have zc0 := ab.cell (i := 0) rfl
  have zc1 := ab.cell (i := 1) rfl
  have zc2 := ab.cell (i := 2) rfl
  have zc3 := ab.cell (i := 3) rfl
  have zc4 := ab.cell (i := 4) rfl
  have zc5 := ab.cell (i := 5) rfl
  have zc6 := ab.cell (i := 6) rfl
  have zf0 := ab.frozen 0
  have zf1 := ab.frozen 1
  have zf2 := ab.frozen 2
  have zf3 := ab.frozen 3
  have zf4 := ab.frozen 4
  have zf5 := ab.frozen 5
  have zf6 := ab.frozen 6
  clear hi
  replace ab := Lib.hid ab
  go_wp2_with fail
  refine hi1.mono ?_
  rintro e w' ⟨rfl, hw⟩
  obtain rfl := hw.symm
  clear hi1 hw
  go_upto_region 3 with fail
  go_wp2
  have b3 := (((((((ab.out.set 0 (.int .i64 0)).set 1 (.int .i64 0)).set 2 (.int .i64 0)).set 3 (.int .i64 0)).set 4 (.bool false)).set 5 (.bool false)).set 6 (.bool false))
  have g3 := (grown_setNew (grown_setNew (grown_setNew (grown_setNew (grown_setNew (grown_setNew (grown_setNew ag.out (Nat.le_of_eq ahz.out) 0 (.int .i64 0)) (Nat.le_of_eq ahz.out) 1 (.int .i64 0)) (Nat.le_of_eq ahz.out) 2 (.int .i64 0)) (Nat.le_of_eq ahz.out) 3 (.int .i64 0)) (Nat.le_of_eq ahz.out) 4 (.bool false)) (Nat.le_of_eq ahz.out) 5 (.bool false)) (Nat.le_of_eq ahz.out) 6 (.bool false))
  generalize (((((((w1.setCell ⟨az, 0, none⟩ (.int .i64 0)).setCell ⟨az, 1, none⟩ (.int .i64 0)).setCell ⟨az, 2, none⟩ (.int .i64 0)).setCell ⟨az, 3, none⟩ (.int .i64 0)).setCell ⟨az, 4, none⟩ (.bool false)).setCell ⟨az, 5, none⟩ (.bool false)).setCell ⟨az, 6, none⟩ (.bool false)) = w3 at b3 g3 ⊢
  have e0 := b3.cell (i := 0) rfl
  have e1 := b3.cell (i := 1) rfl
  have e2 := b3.cell (i := 2) rfl
  have e3 := b3.cell (i := 3) rfl
  have e4 := b3.cell (i := 4) rfl
  have e5 := b3.cell (i := 5) rfl
  have e6 := b3.cell (i := 6) rfl
  exact bodyPost_ret (v := .tuple #[info7 0 0 0 0 false false false, .int .i64 d]) (by simp [results, Tryz.results17, go_sem, e0, e1, e2, e3, e4, e5, e6, info7]) rfl ⟨rfl, g3⟩
end
end Go.Proofs.YtbjakhiflgjflaaGreatDoor
