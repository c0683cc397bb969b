/-
  DERIVED. GIVEN WITH THE SEED: THE CARDS: each row of YtmoihdddmeienaaGreatDoorRows.lean that lists a variable, with what it lists TIED to the program's text (the seventh form; the later family's looks); each row that meets fmt, with fmt's text TOLD by the authors' own Lean function (tested against real Go, not proved from fmt's source: count such statements apart). THE CARD IS WHAT COUNTS. Prove the row's statement (the work); the ties are given (YtmoihdddmeienaaGreatDoorTie.lean); close each card by the builder's one call (the guide's Derived/Test/ToyasCard.lean, 'card_holds'). Laid BY PROGRAM, IN A SANDBOX (cutbox-door.mjs). By AI agents, Wed Nov 11 2026. No macro, syntax, notation, axiom, sorry.
-/
import Derived.Test.YtmoihdddmeienaaGreatDoorRows
import GoSem.ClaimSeven
namespace Go.Proofs.YtmoihdddmeienaaGreatDoor
namespace Rows

/-- THE TIED CARD OF 'whelklaw15.ParamsTrims'. -/
def paramsTrimsCard : Claim7 := { stood := { row := paramsTrimsRow, standIns := [], harness := (true, "bda4e7dc684bc3399c2b9b89c4f746104da192d61e7327658ec2b917a2df75f7"), looks := true }, kinds := [], alts := [], laidByText := true, laidKinds := [.data, .data, .data, .data, .sentinel, .sentinel, .pinned], laidTests := true, laidLooks := .later }
def ParamsTrimsCardSaid : Prop := Claim7.holds Tryz.pinned (.plain (OpenSpec.ofChange paramsTrimsSpec)) paramsTrimsCard

/-- THE SECOND FORM's CARD OF 'whelklaw15.ParamsTrims'. -/
def paramsTrimsUptoCard : Claim7 := { stood := { row := paramsTrimsUptoRow, standIns := [], harness := (true, "bda4e7dc684bc3399c2b9b89c4f746104da192d61e7327658ec2b917a2df75f7"), looks := true }, kinds := [], alts := [], laidByText := true, laidKinds := [.data, .data, .data, .data, .sentinel, .sentinel, .pinned], laidTests := true, laidLooks := .later }
def ParamsTrimsUptoCardSaid : Prop := Claim7.holds Tryz.pinned (.plain (OpenSpec.upto paramsTrimsSpec)) paramsTrimsUptoCard
end Rows
end Go.Proofs.YtmoihdddmeienaaGreatDoor
