/-
  SetFunc of a state. Conditions: names of at most 200 bytes.
-/
import Derived.Test.YtigmdfdcflkggaaStStatus
namespace Go.Proofs.Ytigmdfdcflkggaa
open Go Go.RowKit Go.ChangeMaps

section
variable {w w' : World} {B sb : Nat} {a : Ad} {pot : Nat} {t : Tg} {n : Int}
end
end Go.Proofs.Ytigmdfdcflkggaa
