/-
  DERIVED. GIVEN WITH THE SEED: THE CARDS: each row of YtobmhggfkgcnfaaDoorRows.lean that lists a variable, with what it lists TIED to the program's text (the seventh form; the later family's looks); each row that meets fmt, with fmt's text TOLD by the authors' own Lean function (tested against real Go, not proved from fmt's source: count such statements apart). THE CARD IS WHAT COUNTS. Prove the row's statement (the work); the ties are given (YtobmhggfkgcnfaaDoorTie.lean); close each card by the builder's one call (the guide's Derived/Test/ToyasCard.lean, 'card_holds'). Laid BY PROGRAM, IN A SANDBOX (cutbox-door.mjs). By AI agents, Wed Nov 11 2026. No macro, syntax, notation, axiom, sorry.
-/
import Derived.Test.YtobmhggfkgcnfaaDoorRows
import GoSem.ClaimSeven
namespace Go.Proofs.YtobmhggfkgcnfaaDoor
namespace Rows

/-- THE TIED CARD OF 'causewaylaw09.TicketNames'. -/
def ticketNamesCard : Claim7 := { stood := { row := ticketNamesRow, standIns := [], harness := (true, "49d13a5f1555b202f3339840d48e3eb79defed686f089c14bd4e1eb0ca69d522"), looks := false }, kinds := [], alts := [], laidByText := true, laidKinds := [.data], laidTests := true, laidLooks := .later }
def TicketNamesCardSaid : Prop := Claim7.holds Tryd.pinned (.plain (OpenSpec.ofChange ticketNamesSpec)) ticketNamesCard

/-- THE TIED CARD OF 'causewaylaw09.TicketNothing'. -/
def ticketNothingCard : Claim7 := { stood := { row := ticketNothingRow, standIns := [], harness := (true, "49d13a5f1555b202f3339840d48e3eb79defed686f089c14bd4e1eb0ca69d522"), looks := false }, kinds := [], alts := [], laidByText := true, laidKinds := [.data], laidTests := true, laidLooks := .later }
def TicketNothingCardSaid : Prop := Claim7.holds Tryd.pinned (.plain (OpenSpec.ofChange ticketNothingSpec)) ticketNothingCard

/-- THE SECOND FORM's CARD OF 'causewaylaw09.TicketNames'. -/
def ticketNamesUptoCard : Claim7 := { stood := { row := ticketNamesUptoRow, standIns := [], harness := (true, "49d13a5f1555b202f3339840d48e3eb79defed686f089c14bd4e1eb0ca69d522"), looks := false }, kinds := [], alts := [], laidByText := true, laidKinds := [.data], laidTests := true, laidLooks := .later }
def TicketNamesUptoCardSaid : Prop := Claim7.holds Tryd.pinned (.plain (OpenSpec.upto ticketNamesSpec)) ticketNamesUptoCard

/-- THE SECOND FORM's CARD OF 'causewaylaw09.TicketNothing'. -/
def ticketNothingUptoCard : Claim7 := { stood := { row := ticketNothingUptoRow, standIns := [], harness := (true, "49d13a5f1555b202f3339840d48e3eb79defed686f089c14bd4e1eb0ca69d522"), looks := false }, kinds := [], alts := [], laidByText := true, laidKinds := [.data], laidTests := true, laidLooks := .later }
def TicketNothingUptoCardSaid : Prop := Claim7.holds Tryd.pinned (.plain (OpenSpec.upto ticketNothingSpec)) ticketNothingUptoCard
end Rows
end Go.Proofs.YtobmhggfkgcnfaaDoor
