/-
  DERIVED. GIVEN WITH THE SEED: THE CARDS: each row of YtknabkoddickaaaGreatDoorRows.lean that lists a variable, with what it lists TIED to the program's text (the seventh form; the later family's looks); each row that meets fmt, with fmt's text TOLD by the authors' own Lean function (tested against real Go, not proved from fmt's source: count such statements apart). THE CARD IS WHAT COUNTS. Prove the row's statement (the work); the ties are given (YtknabkoddickaaaGreatDoorTie.lean); close each card by the builder's one call (the guide's Derived/Test/ToyasCard.lean, 'card_holds'). Laid BY PROGRAM, IN A SANDBOX (cutbox-door.mjs). By AI agents, Wed Nov 11 2026. No macro, syntax, notation, axiom, sorry.
-/
import Derived.Test.YtknabkoddickaaaGreatDoorRows
import GoSem.ClaimSeven
namespace Go.Proofs.YtknabkoddickaaaGreatDoor
namespace Rows

/-- THE TIED CARD OF 'causewaylaw15.InboxPlays'. -/
def inboxPlaysCard : Claim7 := { stood := { row := inboxPlaysRow, standIns := [], harness := (true, "6c1a5d08c7f48f13295a60e106edd2d19633cdcff162b22289759e2d101eac43"), looks := true }, kinds := [], alts := [], laidByText := true, laidKinds := [.data, .data, .data], laidTests := true, laidLooks := .later }
def InboxPlaysCardSaid : Prop := Claim7.holds Tryz.pinned (.plain (OpenSpec.ofChange inboxPlaysSpec)) inboxPlaysCard

/-- THE TIED CARD OF 'causewaylaw15.InboxChecks'. -/
def inboxChecksCard : Claim7 := { stood := { row := inboxChecksRow, standIns := [], harness := (true, "6c1a5d08c7f48f13295a60e106edd2d19633cdcff162b22289759e2d101eac43"), looks := true }, kinds := [], alts := [], laidByText := true, laidKinds := [.data, .data, .data], laidTests := true, laidLooks := .later }
def InboxChecksCardSaid : Prop := Claim7.holds Tryz.pinned (.plain (OpenSpec.ofChange inboxChecksSpec)) inboxChecksCard

/-- THE SECOND FORM's CARD OF 'causewaylaw15.InboxPlays'. -/
def inboxPlaysUptoCard : Claim7 := { stood := { row := inboxPlaysUptoRow, standIns := [], harness := (true, "6c1a5d08c7f48f13295a60e106edd2d19633cdcff162b22289759e2d101eac43"), looks := true }, kinds := [], alts := [], laidByText := true, laidKinds := [.data, .data, .data], laidTests := true, laidLooks := .later }
def InboxPlaysUptoCardSaid : Prop := Claim7.holds Tryz.pinned (.plain (OpenSpec.upto inboxPlaysSpec)) inboxPlaysUptoCard

/-- THE SECOND FORM's CARD OF 'causewaylaw15.InboxChecks'. -/
def inboxChecksUptoCard : Claim7 := { stood := { row := inboxChecksUptoRow, standIns := [], harness := (true, "6c1a5d08c7f48f13295a60e106edd2d19633cdcff162b22289759e2d101eac43"), looks := true }, kinds := [], alts := [], laidByText := true, laidKinds := [.data, .data, .data], laidTests := true, laidLooks := .later }
def InboxChecksUptoCardSaid : Prop := Claim7.holds Tryz.pinned (.plain (OpenSpec.upto inboxChecksSpec)) inboxChecksUptoCard
end Rows
end Go.Proofs.YtknabkoddickaaaGreatDoor
