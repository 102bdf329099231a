/-
  DERIVED. GIVEN WITH THE SEED: THE CARDS: each row of YtdicgenhfmhklaaGreatDoorRows.lean that lists a variable, with what it lists TIED to the program's text (the seventh form; the later family's looks); each row that meets fmt, with fmt's text TOLD by the authors' own Lean function (tested against real Go, not proved from fmt's source: count such statements apart). THE CARD IS WHAT COUNTS. Prove the row's statement (the work); the ties are given (YtdicgenhfmhklaaGreatDoorTie.lean); close each card by the builder's one call (the guide's Derived/Test/ToyasCard.lean, 'card_holds'). Laid BY PROGRAM, IN A SANDBOX (cutbox-door.mjs). By AI agents, Wed Nov 11 2026. No macro, syntax, notation, axiom, sorry.
-/
import Derived.Test.YtdicgenhfmhklaaGreatDoorRows
import GoSem.ClaimSeven
namespace Go.Proofs.YtdicgenhfmhklaaGreatDoor
namespace Rows

/-- THE TIED CARD OF 'causewaylaw11.OutboxBooks'. -/
def outboxBooksCard : Claim7 := { stood := { row := outboxBooksRow, standIns := [], harness := (true, "3bf6b5e51f24d28b8db2571697f9439f3ef687d9b8acaf57fc7e279304cdeb87"), looks := true }, kinds := [], alts := [], laidByText := true, laidKinds := [.data, .data, .data], laidTests := true, laidLooks := .later }
def OutboxBooksCardSaid : Prop := Claim7.holds Tryz.pinned (.plain (OpenSpec.ofChange outboxBooksSpec)) outboxBooksCard

/-- THE SECOND FORM's CARD OF 'causewaylaw11.OutboxBooks'. -/
def outboxBooksUptoCard : Claim7 := { stood := { row := outboxBooksUptoRow, standIns := [], harness := (true, "3bf6b5e51f24d28b8db2571697f9439f3ef687d9b8acaf57fc7e279304cdeb87"), looks := true }, kinds := [], alts := [], laidByText := true, laidKinds := [.data, .data, .data], laidTests := true, laidLooks := .later }
def OutboxBooksUptoCardSaid : Prop := Claim7.holds Tryz.pinned (.plain (OpenSpec.upto outboxBooksSpec)) outboxBooksUptoCard
end Rows
end Go.Proofs.YtdicgenhfmhklaaGreatDoor
