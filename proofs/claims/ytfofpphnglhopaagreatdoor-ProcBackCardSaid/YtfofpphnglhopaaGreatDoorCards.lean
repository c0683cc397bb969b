/-
  DERIVED. GIVEN WITH THE SEED: THE CARDS: each row of YtfofpphnglhopaaGreatDoorRows.lean that lists a variable, with what it lists TIED to the program's text (the seventh form; the later family's looks); each row that meets fmt, with fmt's text TOLD by the authors' own Lean function (tested against real Go, not proved from fmt's source: count such statements apart). THE CARD IS WHAT COUNTS. Prove the row's statement (the work); the ties are given (YtfofpphnglhopaaGreatDoorTie.lean); close each card by the builder's one call (the guide's Derived/Test/ToyasCard.lean, 'card_holds'). Laid BY PROGRAM, IN A SANDBOX (cutbox-door.mjs). By AI agents, Wed Nov 11 2026. No macro, syntax, notation, axiom, sorry.
-/
import Derived.Test.YtfofpphnglhopaaGreatDoorRows
import GoSem.ClaimSeven
namespace Go.Proofs.YtfofpphnglhopaaGreatDoor
namespace Rows

/-- THE TIED CARD OF 'whelklaw07.HandlesPlays'. -/
def handlesPlaysCard : Claim7 := { stood := { row := handlesPlaysRow, standIns := [], harness := (true, "8ebfabd3aa6bddda80f38f41c5f68a0cb5c87281e1be08f654f12154adc60e9d"), looks := true }, kinds := [], alts := [], laidByText := true, laidKinds := [.data, .pinned], laidTests := true, laidLooks := .later }
def HandlesPlaysCardSaid : Prop := Claim7.holds Tryz.pinned (.plain (OpenSpec.ofChange handlesPlaysSpec)) handlesPlaysCard

/-- THE TIED CARD OF 'whelklaw09.ProcBack'. -/
def procBackCard : Claim7 := { stood := { row := procBackRow, standIns := [], harness := (true, "8ebfabd3aa6bddda80f38f41c5f68a0cb5c87281e1be08f654f12154adc60e9d"), looks := true }, kinds := [], alts := [], laidByText := true, laidKinds := [.data, .pinned], laidTests := true, laidLooks := .later }
def ProcBackCardSaid : Prop := Claim7.holds Tryz.pinned (.plain (OpenSpec.ofChange procBackSpec)) procBackCard

/-- THE TIED CARD OF 'whelklaw09.ProcLeaves'. -/
def procLeavesCard : Claim7 := { stood := { row := procLeavesRow, standIns := [], harness := (true, "8ebfabd3aa6bddda80f38f41c5f68a0cb5c87281e1be08f654f12154adc60e9d"), looks := true }, kinds := [], alts := [], laidByText := true, laidKinds := [.data, .pinned], laidTests := true, laidLooks := .later }
def ProcLeavesCardSaid : Prop := Claim7.holds Tryz.pinned (.plain (OpenSpec.ofChange procLeavesSpec)) procLeavesCard

/-- THE TIED CARD OF 'whelklaw09.ProcFull'. -/
def procFullCard : Claim7 := { stood := { row := procFullRow, standIns := [], harness := (true, "8ebfabd3aa6bddda80f38f41c5f68a0cb5c87281e1be08f654f12154adc60e9d"), looks := true }, kinds := [], alts := [], laidByText := true, laidKinds := [.data, .pinned], laidTests := true, laidLooks := .later }
def ProcFullCardSaid : Prop := Claim7.holds Tryz.pinned (.plain (OpenSpec.ofChange procFullSpec)) procFullCard

/-- THE TIED CARD OF 'whelklaw09.ProcNil'. -/
def procNilCard : Claim7 := { stood := { row := procNilRow, standIns := [], harness := (true, "8ebfabd3aa6bddda80f38f41c5f68a0cb5c87281e1be08f654f12154adc60e9d"), looks := true }, kinds := [], alts := [], laidByText := true, laidKinds := [.data, .pinned], laidTests := true, laidLooks := .later }
def ProcNilCardSaid : Prop := Claim7.holds Tryz.pinned (.plain (OpenSpec.ofChange procNilSpec)) procNilCard

/-- THE SECOND FORM's CARD OF 'whelklaw07.HandlesPlays'. -/
def handlesPlaysUptoCard : Claim7 := { stood := { row := handlesPlaysUptoRow, standIns := [], harness := (true, "8ebfabd3aa6bddda80f38f41c5f68a0cb5c87281e1be08f654f12154adc60e9d"), looks := true }, kinds := [], alts := [], laidByText := true, laidKinds := [.data, .pinned], laidTests := true, laidLooks := .later }
def HandlesPlaysUptoCardSaid : Prop := Claim7.holds Tryz.pinned (.plain (OpenSpec.upto handlesPlaysSpec)) handlesPlaysUptoCard

/-- THE SECOND FORM's CARD OF 'whelklaw09.ProcBack'. -/
def procBackUptoCard : Claim7 := { stood := { row := procBackUptoRow, standIns := [], harness := (true, "8ebfabd3aa6bddda80f38f41c5f68a0cb5c87281e1be08f654f12154adc60e9d"), looks := true }, kinds := [], alts := [], laidByText := true, laidKinds := [.data, .pinned], laidTests := true, laidLooks := .later }
def ProcBackUptoCardSaid : Prop := Claim7.holds Tryz.pinned (.plain (OpenSpec.upto procBackSpec)) procBackUptoCard

/-- THE SECOND FORM's CARD OF 'whelklaw09.ProcLeaves'. -/
def procLeavesUptoCard : Claim7 := { stood := { row := procLeavesUptoRow, standIns := [], harness := (true, "8ebfabd3aa6bddda80f38f41c5f68a0cb5c87281e1be08f654f12154adc60e9d"), looks := true }, kinds := [], alts := [], laidByText := true, laidKinds := [.data, .pinned], laidTests := true, laidLooks := .later }
def ProcLeavesUptoCardSaid : Prop := Claim7.holds Tryz.pinned (.plain (OpenSpec.upto procLeavesSpec)) procLeavesUptoCard

/-- THE SECOND FORM's CARD OF 'whelklaw09.ProcFull'. -/
def procFullUptoCard : Claim7 := { stood := { row := procFullUptoRow, standIns := [], harness := (true, "8ebfabd3aa6bddda80f38f41c5f68a0cb5c87281e1be08f654f12154adc60e9d"), looks := true }, kinds := [], alts := [], laidByText := true, laidKinds := [.data, .pinned], laidTests := true, laidLooks := .later }
def ProcFullUptoCardSaid : Prop := Claim7.holds Tryz.pinned (.plain (OpenSpec.upto procFullSpec)) procFullUptoCard

/-- THE SECOND FORM's CARD OF 'whelklaw09.ProcNil'. -/
def procNilUptoCard : Claim7 := { stood := { row := procNilUptoRow, standIns := [], harness := (true, "8ebfabd3aa6bddda80f38f41c5f68a0cb5c87281e1be08f654f12154adc60e9d"), looks := true }, kinds := [], alts := [], laidByText := true, laidKinds := [.data, .pinned], laidTests := true, laidLooks := .later }
def ProcNilUptoCardSaid : Prop := Claim7.holds Tryz.pinned (.plain (OpenSpec.upto procNilSpec)) procNilUptoCard
end Rows
end Go.Proofs.YtfofpphnglhopaaGreatDoor
