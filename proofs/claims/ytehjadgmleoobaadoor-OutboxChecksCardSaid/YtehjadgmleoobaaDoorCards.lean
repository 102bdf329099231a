/-
  DERIVED. GIVEN WITH THE SEED: THE CARDS: each row of YtehjadgmleoobaaDoorRows.lean that lists a variable, with what it lists TIED to the program's text (the seventh form; the later family's looks); each row that meets fmt, with fmt's text TOLD by the authors' own Lean function (tested against real Go, not proved from fmt's source: count such statements apart). THE CARD IS WHAT COUNTS. Prove the row's statement (the work); the ties are given (YtehjadgmleoobaaDoorTie.lean); close each card by the builder's one call (the guide's Derived/Test/ToyasCard.lean, 'card_holds'). Laid BY PROGRAM, IN A SANDBOX (cutbox-door.mjs). By AI agents, Wed Nov 11 2026. No macro, syntax, notation, axiom, sorry.
-/
import Derived.Test.YtehjadgmleoobaaDoorRows
import GoSem.ClaimSeven
namespace Go.Proofs.YtehjadgmleoobaaDoor
namespace Rows

/-- THE TIED CARD OF 'causewaylaw11.OutboxChecks'. -/
def outboxChecksCard : Claim7 := { stood := { row := outboxChecksRow, standIns := [], harness := (true, "6249d7f8828496aad36c06339b519f2830779b281c18deb79858bfb25a616df0"), looks := true }, kinds := [], alts := [], laidByText := true, laidKinds := [.data, .data, .data], laidTests := true, laidLooks := .later }
def OutboxChecksCardSaid : Prop := Claim7.holds Tryd.pinned (.plain (OpenSpec.ofChange outboxChecksSpec)) outboxChecksCard

/-- THE TIED CARD OF 'causewaylaw11.OutboxCuts'. -/
def outboxCutsCard : Claim7 := { stood := { row := outboxCutsRow, standIns := [], harness := (true, "6249d7f8828496aad36c06339b519f2830779b281c18deb79858bfb25a616df0"), looks := true }, kinds := [], alts := [], laidByText := true, laidKinds := [.data], laidTests := true, laidLooks := .later }
def OutboxCutsCardSaid : Prop := Claim7.holds Tryd.pinned (.plain (OpenSpec.ofChange outboxCutsSpec)) outboxCutsCard

/-- THE SECOND FORM's CARD OF 'causewaylaw11.OutboxChecks'. -/
def outboxChecksUptoCard : Claim7 := { stood := { row := outboxChecksUptoRow, standIns := [], harness := (true, "6249d7f8828496aad36c06339b519f2830779b281c18deb79858bfb25a616df0"), looks := true }, kinds := [], alts := [], laidByText := true, laidKinds := [.data, .data, .data], laidTests := true, laidLooks := .later }
def OutboxChecksUptoCardSaid : Prop := Claim7.holds Tryd.pinned (.plain (OpenSpec.upto outboxChecksSpec)) outboxChecksUptoCard

/-- THE SECOND FORM's CARD OF 'causewaylaw11.OutboxCuts'. -/
def outboxCutsUptoCard : Claim7 := { stood := { row := outboxCutsUptoRow, standIns := [], harness := (true, "6249d7f8828496aad36c06339b519f2830779b281c18deb79858bfb25a616df0"), looks := true }, kinds := [], alts := [], laidByText := true, laidKinds := [.data], laidTests := true, laidLooks := .later }
def OutboxCutsUptoCardSaid : Prop := Claim7.holds Tryd.pinned (.plain (OpenSpec.upto outboxCutsSpec)) outboxCutsUptoCard
end Rows
end Go.Proofs.YtehjadgmleoobaaDoor
