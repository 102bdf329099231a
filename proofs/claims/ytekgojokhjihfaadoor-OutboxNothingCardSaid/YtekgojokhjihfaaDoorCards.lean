/-
  DERIVED. GIVEN WITH THE SEED: THE CARDS: each row of YtekgojokhjihfaaDoorRows.lean that lists a variable, with what it lists TIED to the program's text (the seventh form; the later family's looks); each row that meets fmt, with fmt's text TOLD by the authors' own Lean function (tested against real Go, not proved from fmt's source: count such statements apart). THE CARD IS WHAT COUNTS. Prove the row's statement (the work); the ties are given (YtekgojokhjihfaaDoorTie.lean); close each card by the builder's one call (the guide's Derived/Test/ToyasCard.lean, 'card_holds'). Laid BY PROGRAM, IN A SANDBOX (cutbox-door.mjs). By AI agents, Wed Nov 11 2026. No macro, syntax, notation, axiom, sorry.
-/
import Derived.Test.YtekgojokhjihfaaDoorRows
import GoSem.ClaimSeven
namespace Go.Proofs.YtekgojokhjihfaaDoor
namespace Rows

/-- THE TIED CARD OF 'causewaylaw11.OutboxChecks'. -/
def outboxChecksCard : Claim7 := { stood := { row := outboxChecksRow, standIns := [], harness := (true, "7d41a5b49e3b6fb6529f09aef39504727a9a59d2eed6ecab2546bd62a4d3620a"), looks := true }, kinds := [], alts := [], laidByText := true, laidKinds := [.data, .data, .data], laidTests := true, laidLooks := .later }
def OutboxChecksCardSaid : Prop := Claim7.holds Tryd.pinned (.plain (OpenSpec.ofChange outboxChecksSpec)) outboxChecksCard

/-- THE TIED CARD OF 'causewaylaw11.OutboxNothing'. -/
def outboxNothingCard : Claim7 := { stood := { row := outboxNothingRow, standIns := [], harness := (true, "7d41a5b49e3b6fb6529f09aef39504727a9a59d2eed6ecab2546bd62a4d3620a"), looks := true }, kinds := [], alts := [], laidByText := true, laidKinds := [.data, .data, .data], laidTests := true, laidLooks := .later }
def OutboxNothingCardSaid : Prop := Claim7.holds Tryd.pinned (.plain (OpenSpec.ofChange outboxNothingSpec)) outboxNothingCard

/-- THE SECOND FORM's CARD OF 'causewaylaw11.OutboxChecks'. -/
def outboxChecksUptoCard : Claim7 := { stood := { row := outboxChecksUptoRow, standIns := [], harness := (true, "7d41a5b49e3b6fb6529f09aef39504727a9a59d2eed6ecab2546bd62a4d3620a"), looks := true }, kinds := [], alts := [], laidByText := true, laidKinds := [.data, .data, .data], laidTests := true, laidLooks := .later }
def OutboxChecksUptoCardSaid : Prop := Claim7.holds Tryd.pinned (.plain (OpenSpec.upto outboxChecksSpec)) outboxChecksUptoCard

/-- THE SECOND FORM's CARD OF 'causewaylaw11.OutboxNothing'. -/
def outboxNothingUptoCard : Claim7 := { stood := { row := outboxNothingUptoRow, standIns := [], harness := (true, "7d41a5b49e3b6fb6529f09aef39504727a9a59d2eed6ecab2546bd62a4d3620a"), looks := true }, kinds := [], alts := [], laidByText := true, laidKinds := [.data, .data, .data], laidTests := true, laidLooks := .later }
def OutboxNothingUptoCardSaid : Prop := Claim7.holds Tryd.pinned (.plain (OpenSpec.upto outboxNothingSpec)) outboxNothingUptoCard
end Rows
end Go.Proofs.YtekgojokhjihfaaDoor
