/-
  DERIVED. GIVEN WITH THE SEED: THE CARDS: each row of YtffipbmonfodbaaGreatDoorRows.lean that lists a variable, with what it lists TIED to the program's text (the seventh form; the later family's looks); each row that meets fmt, with fmt's text TOLD by the authors' own Lean function (tested against real Go, not proved from fmt's source: count such statements apart). THE CARD IS WHAT COUNTS. Prove the row's statement (the work); the ties are given (YtffipbmonfodbaaGreatDoorTie.lean); close each card by the builder's one call (the guide's Derived/Test/ToyasCard.lean, 'card_holds'). Laid BY PROGRAM, IN A SANDBOX (cutbox-door.mjs). By AI agents, Wed Nov 11 2026. No macro, syntax, notation, axiom, sorry.
-/
import Derived.Test.YtffipbmonfodbaaGreatDoorRows
import GoSem.ClaimSeven
namespace Go.Proofs.YtffipbmonfodbaaGreatDoor
namespace Rows

/-- THE TIED CARD OF 'whelklaw07.HandlesRow'. -/
def handlesRowCard : Claim7 := { stood := { row := handlesRowRow, standIns := [], harness := (true, "709b1508e3f40c7e9755eadaab0c84cf14c2b6efe7401de100518955797debcb"), looks := true }, kinds := [], alts := [], laidByText := true, laidKinds := [.data, .pinned], laidTests := true, laidLooks := .later }
def HandlesRowCardSaid : Prop := Claim7.holds Tryz.pinned (.plain (OpenSpec.ofChange handlesRowSpec)) handlesRowCard

/-- THE SECOND FORM's CARD OF 'whelklaw07.HandlesRow'. -/
def handlesRowUptoCard : Claim7 := { stood := { row := handlesRowUptoRow, standIns := [], harness := (true, "709b1508e3f40c7e9755eadaab0c84cf14c2b6efe7401de100518955797debcb"), looks := true }, kinds := [], alts := [], laidByText := true, laidKinds := [.data, .pinned], laidTests := true, laidLooks := .later }
def HandlesRowUptoCardSaid : Prop := Claim7.holds Tryz.pinned (.plain (OpenSpec.upto handlesRowSpec)) handlesRowUptoCard
end Rows
end Go.Proofs.YtffipbmonfodbaaGreatDoor
