/-
  DERIVED. GIVEN WITH THE SEED: THE CARDS: each row of YtfkcmeafddhmkaaGreatDoorRows.lean that lists a variable, with what it lists TIED to the program's text (the seventh form; the later family's looks); each row that meets fmt, with fmt's text TOLD by the authors' own Lean function (tested against real Go, not proved from fmt's source: count such statements apart). THE CARD IS WHAT COUNTS. Prove the row's statement (the work); the ties are given (YtfkcmeafddhmkaaGreatDoorTie.lean); close each card by the builder's one call (the guide's Derived/Test/ToyasCard.lean, 'card_holds'). Laid BY PROGRAM, IN A SANDBOX (cutbox-door.mjs). By AI agents, Wed Nov 11 2026. No macro, syntax, notation, axiom, sorry.
-/
import Derived.Test.YtfkcmeafddhmkaaGreatDoorRows
import GoSem.ClaimSeven
namespace Go.Proofs.YtfkcmeafddhmkaaGreatDoor
namespace Rows

/-- THE TIED CARD OF 'causewaylaw11.OutboxOne'. -/
def outboxOneCard : Claim7 := { stood := { row := outboxOneRow, standIns := [], harness := (true, "0fecd8cbd44149895357e87d45761a46d433ee20ca37a4263a087fdda20cd8f3"), looks := true }, kinds := [], alts := [], laidByText := true, laidKinds := [.data, .data, .data], laidTests := true, laidLooks := .later }
def OutboxOneCardSaid : Prop := Claim7.holds Tryz.pinned (.plain (OpenSpec.ofChange outboxOneSpec)) outboxOneCard

/-- THE SECOND FORM's CARD OF 'causewaylaw11.OutboxOne'. -/
def outboxOneUptoCard : Claim7 := { stood := { row := outboxOneUptoRow, standIns := [], harness := (true, "0fecd8cbd44149895357e87d45761a46d433ee20ca37a4263a087fdda20cd8f3"), looks := true }, kinds := [], alts := [], laidByText := true, laidKinds := [.data, .data, .data], laidTests := true, laidLooks := .later }
def OutboxOneUptoCardSaid : Prop := Claim7.holds Tryz.pinned (.plain (OpenSpec.upto outboxOneSpec)) outboxOneUptoCard
end Rows
end Go.Proofs.YtfkcmeafddhmkaaGreatDoor
