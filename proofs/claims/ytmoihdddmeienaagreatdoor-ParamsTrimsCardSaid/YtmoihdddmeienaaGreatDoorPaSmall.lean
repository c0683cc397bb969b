/-
  The package's Status (of up to 99), Choose where a value counts, the document's Text of such a number, and the law's few. Conditions: as said.
-/
import Derived.Test.YtmoihdddmeienaaGreatDoorPaArg
import Derived.Lib.ConvBytes
import Derived.Laws.BytesString
import Derived.Laws.Concat
namespace Go.Proofs.YtmoihdddmeienaaGreatDoor
open Go Go.RowKit

def fewL (l : List ByteArray) : Bool := decide (l.length ≤ 30) && l.all fun s => decide (s.size ≤ 100)
theorem fewL_parts {l : List ByteArray} (h : fewL l = true) : l.length ≤ 30 ∧ ∀ k (hk : k < l.length), (l[k]).size ≤ 100 := by
  unfold fewL at h
  simp only [Bool.and_eq_true, decide_eq_true_eq, List.all_eq_true] at h
  exact ⟨h.1, fun k hk => h.2 _ (List.getElem_mem hk)⟩
set_option maxHeartbeats 1000000 in
set_option maxRecDepth 100000 in
theorem choose_a (w : World) : Calls Tryz.prog 10 #[.int .i64 2, .bool true, .bool true, .string ⟨#[]⟩] w fun e w' => e = .returned (.int .i64 2) ∧ Below w.heap.size w w' := by
  go_enter Tryz.func10, Tryz.ntmps10
  go_wp2
  go_ret
  exact ⟨rfl, (((Below.refl _ _).alloc (Nat.le_refl _) _).alloc (by simp) _).alloc (by simp; omega) _⟩
set_option maxHeartbeats 1000000 in
set_option maxRecDepth 100000 in
theorem choose_b (w : World) : Calls Tryz.prog 10 #[.int .i64 2, .bool false, .bool true, .string ⟨#[]⟩] w fun e w' => e = .returned (.int .i64 1) ∧ Below w.heap.size w w' := by
  go_enter Tryz.func10, Tryz.ntmps10
  go_wp2
  go_ret
  exact ⟨rfl, (((Below.refl _ _).alloc (Nat.le_refl _) _).alloc (by simp) _).alloc (by simp; omega) _⟩
set_option maxHeartbeats 1000000 in
set_option maxRecDepth 100000 in
theorem choose_c (w : World) : Calls Tryz.prog 10 #[.int .i64 5, .bool true, .bool true, .string ⟨#[]⟩] w fun e w' => e = .returned (.int .i64 4) ∧ Below w.heap.size w w' := by
  go_enter Tryz.func10, Tryz.ntmps10
  go_wp2
  go_ret
  exact ⟨rfl, (((Below.refl _ _).alloc (Nat.le_refl _) _).alloc (by simp) _).alloc (by simp; omega) _⟩
end Go.Proofs.YtmoihdddmeienaaGreatDoor
