/-
  DERIVED. GIVEN WITH THE SEED: THE CARDS: each row of YtfjhecmnbodkfaaGreatDoorRows.lean that lists a variable, with what it lists TIED to the program's text (the seventh form; the later family's looks); each row that meets fmt, with fmt's text TOLD by the authors' own Lean function (tested against real Go, not proved from fmt's source: count such statements apart). THE CARD IS WHAT COUNTS. Prove the row's statement (the work); the ties are given (YtfjhecmnbodkfaaGreatDoorTie.lean); close each card by the builder's one call (the guide's Derived/Test/ToyasCard.lean, 'card_holds'). Laid BY PROGRAM, IN A SANDBOX (cutbox-door.mjs). By AI agents, Wed Nov 11 2026. No macro, syntax, notation, axiom, sorry.
-/
import Derived.Test.YtfjhecmnbodkfaaGreatDoorRows
import GoSem.ClaimSeven
namespace Go.Proofs.YtfjhecmnbodkfaaGreatDoor
namespace Rows

/-- THE TIED CARD OF 'causewaylaw15.InboxPlays'. -/
def inboxPlaysCard : Claim7 := { stood := { row := inboxPlaysRow, standIns := [], harness := (true, "6931a6585b3a2d63a684c8cfa2c655ec20de0d5c52542ffd5022f8b2d6a66243"), looks := true }, kinds := [], alts := [], laidByText := true, laidKinds := [.data, .data, .data], laidTests := true, laidLooks := .later }
def InboxPlaysCardSaid : Prop := Claim7.holds Tryz.pinned (.plain (OpenSpec.ofChange inboxPlaysSpec)) inboxPlaysCard

/-- THE TIED CARD OF 'causewaylaw15.InboxChecks'. -/
def inboxChecksCard : Claim7 := { stood := { row := inboxChecksRow, standIns := [], harness := (true, "6931a6585b3a2d63a684c8cfa2c655ec20de0d5c52542ffd5022f8b2d6a66243"), looks := true }, kinds := [], alts := [], laidByText := true, laidKinds := [.data, .data, .data], laidTests := true, laidLooks := .later }
def InboxChecksCardSaid : Prop := Claim7.holds Tryz.pinned (.plain (OpenSpec.ofChange inboxChecksSpec)) inboxChecksCard

/-- THE TIED CARD OF 'causewaylaw15.InboxOne'. -/
def inboxOneCard : Claim7 := { stood := { row := inboxOneRow, standIns := [], harness := (true, "6931a6585b3a2d63a684c8cfa2c655ec20de0d5c52542ffd5022f8b2d6a66243"), looks := true }, kinds := [], alts := [], laidByText := true, laidKinds := [.data, .data, .data], laidTests := true, laidLooks := .later }
def InboxOneCardSaid : Prop := Claim7.holds Tryz.pinned (.plain (OpenSpec.ofChange inboxOneSpec)) inboxOneCard

/-- THE SECOND FORM's CARD OF 'causewaylaw15.InboxPlays'. -/
def inboxPlaysUptoCard : Claim7 := { stood := { row := inboxPlaysUptoRow, standIns := [], harness := (true, "6931a6585b3a2d63a684c8cfa2c655ec20de0d5c52542ffd5022f8b2d6a66243"), looks := true }, kinds := [], alts := [], laidByText := true, laidKinds := [.data, .data, .data], laidTests := true, laidLooks := .later }
def InboxPlaysUptoCardSaid : Prop := Claim7.holds Tryz.pinned (.plain (OpenSpec.upto inboxPlaysSpec)) inboxPlaysUptoCard

/-- THE SECOND FORM's CARD OF 'causewaylaw15.InboxChecks'. -/
def inboxChecksUptoCard : Claim7 := { stood := { row := inboxChecksUptoRow, standIns := [], harness := (true, "6931a6585b3a2d63a684c8cfa2c655ec20de0d5c52542ffd5022f8b2d6a66243"), looks := true }, kinds := [], alts := [], laidByText := true, laidKinds := [.data, .data, .data], laidTests := true, laidLooks := .later }
def InboxChecksUptoCardSaid : Prop := Claim7.holds Tryz.pinned (.plain (OpenSpec.upto inboxChecksSpec)) inboxChecksUptoCard

/-- THE SECOND FORM's CARD OF 'causewaylaw15.InboxOne'. -/
def inboxOneUptoCard : Claim7 := { stood := { row := inboxOneUptoRow, standIns := [], harness := (true, "6931a6585b3a2d63a684c8cfa2c655ec20de0d5c52542ffd5022f8b2d6a66243"), looks := true }, kinds := [], alts := [], laidByText := true, laidKinds := [.data, .data, .data], laidTests := true, laidLooks := .later }
def InboxOneUptoCardSaid : Prop := Claim7.holds Tryz.pinned (.plain (OpenSpec.upto inboxOneSpec)) inboxOneUptoCard
end Rows
end Go.Proofs.YtfjhecmnbodkfaaGreatDoor
