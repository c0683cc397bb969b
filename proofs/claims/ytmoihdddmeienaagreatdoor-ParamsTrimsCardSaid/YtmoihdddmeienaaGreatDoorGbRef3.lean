/-
  The reference's class gives the same ranges as the package's. Conditions: none.
-/
import Derived.Test.YtmoihdddmeienaaGreatDoorGbRef2
import Derived.Test.YtmoihdddmeienaaGreatDoorGbThing
namespace Go.Proofs.YtmoihdddmeienaaGreatDoor
open Go Go.RowKit

theorem class_end {w : World} {a b c d : Obj} {cs : Array Value} (l : List Rg) {s : ByteArray} (hc : classR s = l) (hl : 0 < l.length) (h4 : l.length ≤ 4) (hcs : cs.toList = cellsRg l) :
    ∃ v, Ending.returned (.tuple #[.slice (some ⟨w.heap.size + 1 + 1 + 1 + 1, 0, none⟩) l.length l.length, .bool true]) = .returned (.tuple #[v, .bool (!(classR s).isEmpty)]) ∧
      (((((w.alloc a).alloc b).alloc c).alloc d).alloc (.cells cs 88)).ownsRow w.heap.size 88 2 v (classR s).length (cellsRg (classR s)) ∧
      Below w.heap.size w (((((w.alloc a).alloc b).alloc c).alloc d).alloc (.cells cs 88)) := by
  rw [hc]
  have h1 := (((Below.refl w.heap.size w).alloc (Nat.le_refl _) a).alloc (by simp) b).alloc (by simp; omega) c |>.alloc (by simp; omega) d
  have hsz : ((((w.alloc a).alloc b).alloc c).alloc d).heap.size = w.heap.size + 1 + 1 + 1 + 1 := by simp
  have hn : cs.size = l.length * 2 := by
    have := congrArg List.length hcs
    rw [cellsRg_length] at this
    simpa using this
  have ho := World.ownsRow_lit (base := w.heap.size) (e := 88) (size := 2) ((((w.alloc a).alloc b).alloc c).alloc d) cs l.length h1.size (by simp only [maxLen]; omega) hn
  rw [hsz, hcs] at ho
  refine ⟨_, ?_, ho, h1.alloc h1.size _⟩
  cases l with
  | nil => simp at hl
  | cons x l => rfl

set_option maxHeartbeats 4000000 in
set_option maxRecDepth 100000 in
theorem classRef_any (s : ByteArray) (w : World) :
    Calls Tryz.prog 39 #[.string s] w fun e w' => ∃ v, e = .returned (.tuple #[v, .bool (!(classR s).isEmpty)]) ∧ w'.ownsRow w.heap.size 88 2 v (classR s).length (cellsRg (classR s)) ∧ Below w.heap.size w w' := by
  go_enter Tryz.func39, Tryz.ntmps39
  go_wp2
  all_goals
    go_ret2
    first
      | exact class_end [(48, 57), (65, 90), (97, 122)] (by simp only [classR, *, if_true, Bool.false_eq_true, if_false]) (by decide) (by decide) rfl
      | exact class_end [(65, 90), (97, 122)] (by simp only [classR, *, if_true, Bool.false_eq_true, if_false]) (by decide) (by decide) rfl
      | exact class_end [(9, 9), (32, 32)] (by simp only [classR, *, if_true, Bool.false_eq_true, if_false]) (by decide) (by decide) rfl
      | exact class_end [(9, 13), (32, 32)] (by simp only [classR, *, if_true, Bool.false_eq_true, if_false]) (by decide) (by decide) rfl
      | exact class_end [(0, 31), (127, 127)] (by simp only [classR, *, if_true, Bool.false_eq_true, if_false]) (by decide) (by decide) rfl
      | exact class_end [(32, 126)] (by simp only [classR, *, if_true, Bool.false_eq_true, if_false]) (by decide) (by decide) rfl
      | exact class_end [(33, 126)] (by simp only [classR, *, if_true, Bool.false_eq_true, if_false]) (by decide) (by decide) rfl
      | exact class_end [(48, 57)] (by simp only [classR, *, if_true, Bool.false_eq_true, if_false]) (by decide) (by decide) rfl
      | exact class_end [(48, 57), (65, 70), (97, 102)] (by simp only [classR, *, if_true, Bool.false_eq_true, if_false]) (by decide) (by decide) rfl
      | exact class_end [(97, 122)] (by simp only [classR, *, if_true, Bool.false_eq_true, if_false]) (by decide) (by decide) rfl
      | exact class_end [(65, 90)] (by simp only [classR, *, if_true, Bool.false_eq_true, if_false]) (by decide) (by decide) rfl
      | exact class_end [(33, 47), (58, 64), (91, 96), (123, 126)] (by simp only [classR, *, if_true, Bool.false_eq_true, if_false]) (by decide) (by decide) rfl
      | exact ⟨.slice none 0 0, by simp only [classR, *, Bool.false_eq_true, if_false]; rfl, by simp only [classR, *, Bool.false_eq_true, if_false]; exact World.ownsRow_nil _ _ _ _, (((Below.refl w.heap.size w).alloc (Nat.le_refl _) _).alloc (by simp) _).alloc (by simp; omega) _ |>.alloc (by simp; omega) _⟩
end Go.Proofs.YtmoihdddmeienaaGreatDoor
