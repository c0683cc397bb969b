/-
  What every row of this seat needs: a world for the witness.
-/
import Derived.Test.YtnioneknlgbhoaaRows
import Derived.Test.YtnioneknlgbhoaaGbIts
import Derived.ProofKit
import Derived.OpenShut
import Derived.Deep.SlicePairs
import Derived.Deep.DeepHandedRow
import Derived.Lib.LaidTab
namespace Go.Proofs.Ytnioneknlgbhoaa
open Go Go.ChangeShapes Go.WideShapes Go.ChangeAt Go.RowKit Go.Deep

theorem rowOwn : ownKnob Try.prog.godebug = none := by kernel_rfl
theorem rowOut : laidOutB Try.prog = true := by kernel_rfl
/-- A world for the witness: the settled one. -/
noncomputable def plainWorld (os : Os) : World := World.holding Try.prog os ⟨#[], #[], []⟩
theorem laid_none (m : World) : laidMet Try.prog [] m := ⟨[], rfl, List.nodup_nil, fun _ _ h => by cases h⟩
end Go.Proofs.Ytnioneknlgbhoaa
