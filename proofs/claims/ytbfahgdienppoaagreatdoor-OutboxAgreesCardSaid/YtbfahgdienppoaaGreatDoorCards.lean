/-
  DERIVED. GIVEN WITH THE SEED: THE CARDS: each row of YtbfahgdienppoaaGreatDoorRows.lean that lists a variable, with what it lists TIED to the program's text (the seventh form; the later family's looks); each row that meets fmt, with fmt's text TOLD by the authors' own Lean function (tested against real Go, not proved from fmt's source: count such statements apart). THE CARD IS WHAT COUNTS. Prove the row's statement (the work); the ties are given (YtbfahgdienppoaaGreatDoorTie.lean); close each card by the builder's one call (the guide's Derived/Test/ToyasCard.lean, 'card_holds'). Laid BY PROGRAM, IN A SANDBOX (cutbox-door.mjs). By AI agents, Wed Nov 11 2026. No macro, syntax, notation, axiom, sorry.
-/
import Derived.Test.YtbfahgdienppoaaGreatDoorRows
import GoSem.ClaimSeven
namespace Go.Proofs.YtbfahgdienppoaaGreatDoor
namespace Rows

/-- THE TIED CARD OF 'causewaylaw11.OutboxAgrees'. -/
def outboxAgreesCard : Claim7 := { stood := { row := outboxAgreesRow, standIns := [], harness := (true, "c35214d3148652c564c4c447f2a37c84cbf0ae8a435b8aba735208aa6f7c4eba"), looks := true }, kinds := [], alts := [], laidByText := true, laidKinds := [.data, .data, .data], laidTests := true, laidLooks := .later }
def OutboxAgreesCardSaid : Prop := Claim7.holds Tryz.pinned (.plain (OpenSpec.ofChange outboxAgreesSpec)) outboxAgreesCard

/-- THE SECOND FORM's CARD OF 'causewaylaw11.OutboxAgrees'. -/
def outboxAgreesUptoCard : Claim7 := { stood := { row := outboxAgreesUptoRow, standIns := [], harness := (true, "c35214d3148652c564c4c447f2a37c84cbf0ae8a435b8aba735208aa6f7c4eba"), looks := true }, kinds := [], alts := [], laidByText := true, laidKinds := [.data, .data, .data], laidTests := true, laidLooks := .later }
def OutboxAgreesUptoCardSaid : Prop := Claim7.holds Tryz.pinned (.plain (OpenSpec.upto outboxAgreesSpec)) outboxAgreesUptoCard
end Rows
end Go.Proofs.YtbfahgdienppoaaGreatDoor
