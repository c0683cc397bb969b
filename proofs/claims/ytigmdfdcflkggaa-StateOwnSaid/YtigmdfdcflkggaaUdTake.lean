/-
  takeLast, close and do. Conditions: do of a note that comes back.
-/
import Derived.Test.YtigmdfdcflkggaaUdMark
import Derived.Lib.SliceRun
import Derived.Defers
import Derived.Recover
import Derived.Laws.EntriesVeiled
import Derived.BigFrame
import Derived.Deep.Cut
import Derived.Deep.DeepCutAuto
import Derived.Shelf.Abstract
namespace Go.Proofs.Ytigmdfdcflkggaa
open Go Go.RowKit Go.ChangeMaps

section
variable {w w' : World} {B lb most nest c : Nat} {mv nv : Value} {ms : List Mk} {fs : List Value}
theorem zeroMk (w : World) : (zeroValue 157).run Try.prog w = .ok (.pointer none) w := by kernel_rfl
end
end Go.Proofs.Ytigmdfdcflkggaa
