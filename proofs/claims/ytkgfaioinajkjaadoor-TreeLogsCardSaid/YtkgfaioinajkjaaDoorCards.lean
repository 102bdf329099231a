/-
  DERIVED. GIVEN WITH THE SEED: THE CARDS: each row of YtkgfaioinajkjaaDoorRows.lean that lists a variable, with what it lists TIED to the program's text (the seventh form; the later family's looks); each row that meets fmt, with fmt's text TOLD by the authors' own Lean function (tested against real Go, not proved from fmt's source: count such statements apart). THE CARD IS WHAT COUNTS. Prove the row's statement (the work); the ties are given (YtkgfaioinajkjaaDoorTie.lean); close each card by the builder's one call (the guide's Derived/Test/ToyasCard.lean, 'card_holds'). Laid BY PROGRAM, IN A SANDBOX (cutbox-door.mjs). By AI agents, Wed Nov 11 2026. No macro, syntax, notation, axiom, sorry.
-/
import Derived.Test.YtkgfaioinajkjaaDoorRows
import GoSem.ClaimSeven
namespace Go.Proofs.YtkgfaioinajkjaaDoor
namespace Rows

/-- THE TIED CARD OF 'causewaylaw04.TreeLogs'. -/
def treeLogsCard : Claim7 := { stood := { row := treeLogsRow, standIns := [], harness := (true, "b444f301d2fd9dbfd650e9bb2ab66365bdeb428e44a7a9e17f39c2c8d82f6237"), looks := false }, kinds := [], alts := [], laidByText := true, laidKinds := [.data, .data, .data, .data, .data], laidTests := true, laidLooks := .later }
def TreeLogsCardSaid : Prop := Claim7.holds Tryd.pinned (.plain (OpenSpec.ofChange treeLogsSpec)) treeLogsCard

/-- THE SECOND FORM's CARD OF 'causewaylaw04.TreeLogs'. -/
def treeLogsUptoCard : Claim7 := { stood := { row := treeLogsUptoRow, standIns := [], harness := (true, "b444f301d2fd9dbfd650e9bb2ab66365bdeb428e44a7a9e17f39c2c8d82f6237"), looks := false }, kinds := [], alts := [], laidByText := true, laidKinds := [.data, .data, .data, .data, .data], laidTests := true, laidLooks := .later }
def TreeLogsUptoCardSaid : Prop := Claim7.holds Tryd.pinned (.plain (OpenSpec.upto treeLogsSpec)) treeLogsUptoCard
end Rows
end Go.Proofs.YtkgfaioinajkjaaDoor
