/-
  DERIVED. GIVEN WITH THE SEED: THE CARDS: each row of YtlijlgbaikijnaaDoorRows.lean that lists a variable, with what it lists TIED to the program's text (the seventh form; the later family's looks); each row that meets fmt, with fmt's text TOLD by the authors' own Lean function (tested against real Go, not proved from fmt's source: count such statements apart). THE CARD IS WHAT COUNTS. Prove the row's statement (the work); the ties are given (YtlijlgbaikijnaaDoorTie.lean); close each card by the builder's one call (the guide's Derived/Test/ToyasCard.lean, 'card_holds'). Laid BY PROGRAM, IN A SANDBOX (cutbox-door.mjs). By AI agents, Wed Nov 11 2026. No macro, syntax, notation, axiom, sorry.
-/
import Derived.Test.YtlijlgbaikijnaaDoorRows
import GoSem.ClaimSeven
namespace Go.Proofs.YtlijlgbaikijnaaDoor
namespace Rows

/-- THE TIED CARD OF 'whelklaw03.SumsWrap'. -/
def sumsWrapCard : Claim7 := { stood := { row := sumsWrapRow, standIns := [], harness := (true, "a913313a1676a16444751184eddf4386197290ddb5efbb1e5be2e43b532cb2fc"), looks := true }, kinds := [], alts := [], laidByText := true, laidKinds := [.data, .data, .data, .data, .pinned], laidTests := true, laidLooks := .later }
def SumsWrapCardSaid : Prop := Claim7.holds Tryd.pinned (.plain (OpenSpec.ofChange sumsWrapSpec)) sumsWrapCard

/-- THE TIED CARD OF 'whelklaw03.SumsHalf'. -/
def sumsHalfCard : Claim7 := { stood := { row := sumsHalfRow, standIns := [], harness := (true, "a913313a1676a16444751184eddf4386197290ddb5efbb1e5be2e43b532cb2fc"), looks := true }, kinds := [], alts := [], laidByText := true, laidKinds := [.data, .data, .data, .data, .pinned], laidTests := true, laidLooks := .later }
def SumsHalfCardSaid : Prop := Claim7.holds Tryd.pinned (.plain (OpenSpec.ofChange sumsHalfSpec)) sumsHalfCard

/-- THE SECOND FORM's CARD OF 'whelklaw03.SumsWrap'. -/
def sumsWrapUptoCard : Claim7 := { stood := { row := sumsWrapUptoRow, standIns := [], harness := (true, "a913313a1676a16444751184eddf4386197290ddb5efbb1e5be2e43b532cb2fc"), looks := true }, kinds := [], alts := [], laidByText := true, laidKinds := [.data, .data, .data, .data, .pinned], laidTests := true, laidLooks := .later }
def SumsWrapUptoCardSaid : Prop := Claim7.holds Tryd.pinned (.plain (OpenSpec.upto sumsWrapSpec)) sumsWrapUptoCard

/-- THE SECOND FORM's CARD OF 'whelklaw03.SumsHalf'. -/
def sumsHalfUptoCard : Claim7 := { stood := { row := sumsHalfUptoRow, standIns := [], harness := (true, "a913313a1676a16444751184eddf4386197290ddb5efbb1e5be2e43b532cb2fc"), looks := true }, kinds := [], alts := [], laidByText := true, laidKinds := [.data, .data, .data, .data, .pinned], laidTests := true, laidLooks := .later }
def SumsHalfUptoCardSaid : Prop := Claim7.holds Tryd.pinned (.plain (OpenSpec.upto sumsHalfSpec)) sumsHalfUptoCard
end Rows
end Go.Proofs.YtlijlgbaikijnaaDoor
