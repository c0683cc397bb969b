/-
  Mark: where there is no log, where no mark more may be, and else. Conditions: none.
-/
import Derived.Test.YtigmdfdcflkggaaUdNote
import Derived.Test.YtigmdfdcflkggaaMkLast2
namespace Go.Proofs.Ytigmdfdcflkggaa
open Go Go.RowKit Go.ChangeMaps

section
variable {w w' : World} {B lb most nest c : Nat} {mv nv : Value} {ms : List Mk} {fs : List Value}
end
end Go.Proofs.Ytigmdfdcflkggaa
