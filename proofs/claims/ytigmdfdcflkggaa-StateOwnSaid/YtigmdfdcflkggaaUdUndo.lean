/-
  Undo: where there is no log, without a mark, and of whatever notes: all behind the mark are done from the last one on. Conditions: each note comes back and leaves the log alone.
-/
import Derived.Test.YtigmdfdcflkggaaUdTake
namespace Go.Proofs.Ytigmdfdcflkggaa
open Go Go.RowKit Go.ChangeMaps

section
variable {w w' : World} {B lb most nest c : Nat} {mv nv : Value} {ms : List Mk} {fs : List Value}
/-- How many notes a log has, read off its block. -/
def lenN (lb : Nat) (w : World) : Nat := match w.cell? ⟨lb, 3, none⟩ with | some (.slice _ n _) => n | _ => 0
theorem LogR.lenN (h : LogR w B lb most nest mv ms nv fs c) : lenN lb w = fs.length := by
  obtain ⟨A, cc, rfl, hc, hcm⟩ := h.nrow.form
  have c3 : w.cell? ⟨lb, 3, none⟩ = some (.slice A fs.length cc) := h.blk.cell (i := 3) rfl
  unfold Proofs.Ytigmdfdcflkggaa.lenN
  rw [c3]
theorem LogAt.lenN (h : LogAt w B lb most nest ms fs c) : Proofs.Ytigmdfdcflkggaa.lenN lb w = fs.length := by obtain ⟨mv, nv, h⟩ := h; exact h.lenN
theorem take_snocV (fs : List Value) (i : Nat) (h : i < fs.length) : fs.take (i + 1) = fs.take i ++ [fs[i]] := List.take_succ_eq_append_getElem h

end
end Go.Proofs.Ytigmdfdcflkggaa
