/-
  DERIVED. GIVEN WITH THE SEED: THE CARDS: each row of YtcielagfajdbeaaGreatDoorRows.lean that lists a variable, with what it lists TIED to the program's text (the seventh form; the later family's looks); each row that meets fmt, with fmt's text TOLD by the authors' own Lean function (tested against real Go, not proved from fmt's source: count such statements apart). THE CARD IS WHAT COUNTS. Prove the row's statement (the work); the ties are given (YtcielagfajdbeaaGreatDoorTie.lean); close each card by the builder's one call (the guide's Derived/Test/ToyasCard.lean, 'card_holds'). Laid BY PROGRAM, IN A SANDBOX (cutbox-door.mjs). By AI agents, Wed Nov 11 2026. No macro, syntax, notation, axiom, sorry.
-/
import Derived.Test.YtcielagfajdbeaaGreatDoorRows
import GoSem.ClaimSeven
namespace Go.Proofs.YtcielagfajdbeaaGreatDoor
namespace Rows

/-- THE TIED CARD OF 'regattalaw04.WalPlays'. -/
def walPlaysCard : Claim7 := { stood := { row := walPlaysRow, standIns := [], harness := (true, "54cfa0568cbaf6b391e9a3f369fb6d418ca403edcbb650086e7b8929572dda9f"), looks := true }, kinds := [], alts := [], laidByText := true, laidKinds := [.data, .data, .data, .data, .sentinel, .sentinel, .pinned], laidTests := true, laidLooks := .later }
def WalPlaysCardSaid : Prop := Claim7.holds Tryz.pinned (.plain (OpenSpec.ofChange walPlaysSpec)) walPlaysCard

/-- THE TIED CARD OF 'regattalaw04.WalAgain'. -/
def walAgainCard : Claim7 := { stood := { row := walAgainRow, standIns := [], harness := (true, "54cfa0568cbaf6b391e9a3f369fb6d418ca403edcbb650086e7b8929572dda9f"), looks := true }, kinds := [], alts := [], laidByText := true, laidKinds := [.data, .data, .data, .data, .sentinel, .sentinel, .pinned], laidTests := true, laidLooks := .later }
def WalAgainCardSaid : Prop := Claim7.holds Tryz.pinned (.plain (OpenSpec.ofChange walAgainSpec)) walAgainCard

/-- THE TIED CARD OF 'regattalaw04.WalBroken'. -/
def walBrokenCard : Claim7 := { stood := { row := walBrokenRow, standIns := [], harness := (true, "54cfa0568cbaf6b391e9a3f369fb6d418ca403edcbb650086e7b8929572dda9f"), looks := true }, kinds := [], alts := [], laidByText := true, laidKinds := [.data, .data, .data, .data, .sentinel, .sentinel, .pinned], laidTests := true, laidLooks := .later }
def WalBrokenCardSaid : Prop := Claim7.holds Tryz.pinned (.plain (OpenSpec.ofChange walBrokenSpec)) walBrokenCard

/-- THE TIED CARD OF 'regattalaw04.WalRotates'. -/
def walRotatesCard : Claim7 := { stood := { row := walRotatesRow, standIns := [], harness := (true, "54cfa0568cbaf6b391e9a3f369fb6d418ca403edcbb650086e7b8929572dda9f"), looks := true }, kinds := [], alts := [], laidByText := true, laidKinds := [.data, .data, .data, .data, .sentinel, .sentinel, .pinned], laidTests := true, laidLooks := .later }
def WalRotatesCardSaid : Prop := Claim7.holds Tryz.pinned (.plain (OpenSpec.ofChange walRotatesSpec)) walRotatesCard

/-- THE TIED CARD OF 'regattalaw04.WalTurned'. -/
def walTurnedCard : Claim7 := { stood := { row := walTurnedRow, standIns := [], harness := (true, "54cfa0568cbaf6b391e9a3f369fb6d418ca403edcbb650086e7b8929572dda9f"), looks := true }, kinds := [], alts := [], laidByText := true, laidKinds := [.data, .data, .data, .data, .sentinel, .sentinel, .pinned], laidTests := true, laidLooks := .later }
def WalTurnedCardSaid : Prop := Claim7.holds Tryz.pinned (.plain (OpenSpec.ofChange walTurnedSpec)) walTurnedCard

/-- THE SECOND FORM's CARD OF 'regattalaw04.WalPlays'. -/
def walPlaysUptoCard : Claim7 := { stood := { row := walPlaysUptoRow, standIns := [], harness := (true, "54cfa0568cbaf6b391e9a3f369fb6d418ca403edcbb650086e7b8929572dda9f"), looks := true }, kinds := [], alts := [], laidByText := true, laidKinds := [.data, .data, .data, .data, .sentinel, .sentinel, .pinned], laidTests := true, laidLooks := .later }
def WalPlaysUptoCardSaid : Prop := Claim7.holds Tryz.pinned (.plain (OpenSpec.upto walPlaysSpec)) walPlaysUptoCard

/-- THE SECOND FORM's CARD OF 'regattalaw04.WalAgain'. -/
def walAgainUptoCard : Claim7 := { stood := { row := walAgainUptoRow, standIns := [], harness := (true, "54cfa0568cbaf6b391e9a3f369fb6d418ca403edcbb650086e7b8929572dda9f"), looks := true }, kinds := [], alts := [], laidByText := true, laidKinds := [.data, .data, .data, .data, .sentinel, .sentinel, .pinned], laidTests := true, laidLooks := .later }
def WalAgainUptoCardSaid : Prop := Claim7.holds Tryz.pinned (.plain (OpenSpec.upto walAgainSpec)) walAgainUptoCard

/-- THE SECOND FORM's CARD OF 'regattalaw04.WalBroken'. -/
def walBrokenUptoCard : Claim7 := { stood := { row := walBrokenUptoRow, standIns := [], harness := (true, "54cfa0568cbaf6b391e9a3f369fb6d418ca403edcbb650086e7b8929572dda9f"), looks := true }, kinds := [], alts := [], laidByText := true, laidKinds := [.data, .data, .data, .data, .sentinel, .sentinel, .pinned], laidTests := true, laidLooks := .later }
def WalBrokenUptoCardSaid : Prop := Claim7.holds Tryz.pinned (.plain (OpenSpec.upto walBrokenSpec)) walBrokenUptoCard

/-- THE SECOND FORM's CARD OF 'regattalaw04.WalRotates'. -/
def walRotatesUptoCard : Claim7 := { stood := { row := walRotatesUptoRow, standIns := [], harness := (true, "54cfa0568cbaf6b391e9a3f369fb6d418ca403edcbb650086e7b8929572dda9f"), looks := true }, kinds := [], alts := [], laidByText := true, laidKinds := [.data, .data, .data, .data, .sentinel, .sentinel, .pinned], laidTests := true, laidLooks := .later }
def WalRotatesUptoCardSaid : Prop := Claim7.holds Tryz.pinned (.plain (OpenSpec.upto walRotatesSpec)) walRotatesUptoCard

/-- THE SECOND FORM's CARD OF 'regattalaw04.WalTurned'. -/
def walTurnedUptoCard : Claim7 := { stood := { row := walTurnedUptoRow, standIns := [], harness := (true, "54cfa0568cbaf6b391e9a3f369fb6d418ca403edcbb650086e7b8929572dda9f"), looks := true }, kinds := [], alts := [], laidByText := true, laidKinds := [.data, .data, .data, .data, .sentinel, .sentinel, .pinned], laidTests := true, laidLooks := .later }
def WalTurnedUptoCardSaid : Prop := Claim7.holds Tryz.pinned (.plain (OpenSpec.upto walTurnedSpec)) walTurnedUptoCard
end Rows
end Go.Proofs.YtcielagfajdbeaaGreatDoor
