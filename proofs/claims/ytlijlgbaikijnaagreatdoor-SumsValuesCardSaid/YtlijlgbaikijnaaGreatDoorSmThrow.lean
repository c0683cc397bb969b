/-
  throw throws a fault. Conditions: none.
-/
import Derived.Test.YtlijlgbaikijnaaGreatDoorSmMarks2
namespace Go.Proofs.YtlijlgbaikijnaaGreatDoor
open Go Go.RowKit

/-- What is thrown. -/
def flt (c : Int) (n : Nat) : Value := .iface 71 (.agg #[.int .i64 c, .int .i64 (n : Int)])
def thrown (c : Int) (n : Nat) : Ending := .panicked [{ v := flt c n, recovered := false }]

set_option maxHeartbeats 400000 in
set_option maxRecDepth 100000 in
theorem throw_any (c : Int) (n : Nat) (w : World) : Calls Tryz.prog 35 #[.int .i64 c, .int .i64 (n : Int)] w fun e w' => e = thrown c n ∧ w' = w := by
  go_enter Tryz.func35, Tryz.ntmps35
  go_wp2
  exact ⟨rfl, rfl, rfl⟩
end Go.Proofs.YtlijlgbaikijnaaGreatDoor
