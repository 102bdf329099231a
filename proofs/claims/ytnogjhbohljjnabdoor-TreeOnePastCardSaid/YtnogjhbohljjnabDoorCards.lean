/-
  DERIVED. GIVEN WITH THE SEED: THE CARDS: each row of YtnogjhbohljjnabDoorRows.lean that lists a variable, with what it lists TIED to the program's text (the seventh form; the later family's looks); each row that meets fmt, with fmt's text TOLD by the authors' own Lean function (tested against real Go, not proved from fmt's source: count such statements apart). THE CARD IS WHAT COUNTS. Prove the row's statement (the work); the ties are given (YtnogjhbohljjnabDoorTie.lean); close each card by the builder's one call (the guide's Derived/Test/ToyasCard.lean, 'card_holds'). Laid BY PROGRAM, IN A SANDBOX (cutbox-door.mjs). By AI agents, Wed Nov 11 2026. No macro, syntax, notation, axiom, sorry.
-/
import Derived.Test.YtnogjhbohljjnabDoorRows
import GoSem.ClaimSeven
namespace Go.Proofs.YtnogjhbohljjnabDoor
namespace Rows

/-- THE TIED CARD OF 'causewaylaw04.TreeProves'. -/
def treeProvesCard : Claim7 := { stood := { row := treeProvesRow, standIns := [], harness := (true, "d5d9e75de1b1865138ed12b273601c96e8465aa75694b52870436b861a07a1f9"), looks := false }, kinds := [], alts := [], laidByText := true, laidKinds := [.data, .data, .data], laidTests := true, laidLooks := .later }
def TreeProvesCardSaid : Prop := Claim7.holds Tryd.pinned (.plain (OpenSpec.ofChange treeProvesSpec)) treeProvesCard

/-- THE TIED CARD OF 'causewaylaw04.TreeOneLeaf'. -/
def treeOneLeafCard : Claim7 := { stood := { row := treeOneLeafRow, standIns := [], harness := (true, "d5d9e75de1b1865138ed12b273601c96e8465aa75694b52870436b861a07a1f9"), looks := false }, kinds := [], alts := [], laidByText := true, laidKinds := [.data, .data, .data], laidTests := true, laidLooks := .later }
def TreeOneLeafCardSaid : Prop := Claim7.holds Tryd.pinned (.plain (OpenSpec.ofChange treeOneLeafSpec)) treeOneLeafCard

/-- THE TIED CARD OF 'causewaylaw04.TreeOnePast'. -/
def treeOnePastCard : Claim7 := { stood := { row := treeOnePastRow, standIns := [], harness := (true, "d5d9e75de1b1865138ed12b273601c96e8465aa75694b52870436b861a07a1f9"), looks := false }, kinds := [], alts := [], laidByText := true, laidKinds := [.data, .data, .data], laidTests := true, laidLooks := .later }
def TreeOnePastCardSaid : Prop := Claim7.holds Tryd.pinned (.plain (OpenSpec.ofChange treeOnePastSpec)) treeOnePastCard

/-- THE TIED CARD OF 'causewaylaw04.TreeBelow'. -/
def treeBelowCard : Claim7 := { stood := { row := treeBelowRow, standIns := [], harness := (true, "d5d9e75de1b1865138ed12b273601c96e8465aa75694b52870436b861a07a1f9"), looks := false }, kinds := [], alts := [], laidByText := true, laidKinds := [.data], laidTests := true, laidLooks := .later }
def TreeBelowCardSaid : Prop := Claim7.holds Tryd.pinned (.plain (OpenSpec.ofChange treeBelowSpec)) treeBelowCard

/-- THE SECOND FORM's CARD OF 'causewaylaw04.TreeProves'. -/
def treeProvesUptoCard : Claim7 := { stood := { row := treeProvesUptoRow, standIns := [], harness := (true, "d5d9e75de1b1865138ed12b273601c96e8465aa75694b52870436b861a07a1f9"), looks := false }, kinds := [], alts := [], laidByText := true, laidKinds := [.data, .data, .data], laidTests := true, laidLooks := .later }
def TreeProvesUptoCardSaid : Prop := Claim7.holds Tryd.pinned (.plain (OpenSpec.upto treeProvesSpec)) treeProvesUptoCard

/-- THE SECOND FORM's CARD OF 'causewaylaw04.TreeOneLeaf'. -/
def treeOneLeafUptoCard : Claim7 := { stood := { row := treeOneLeafUptoRow, standIns := [], harness := (true, "d5d9e75de1b1865138ed12b273601c96e8465aa75694b52870436b861a07a1f9"), looks := false }, kinds := [], alts := [], laidByText := true, laidKinds := [.data, .data, .data], laidTests := true, laidLooks := .later }
def TreeOneLeafUptoCardSaid : Prop := Claim7.holds Tryd.pinned (.plain (OpenSpec.upto treeOneLeafSpec)) treeOneLeafUptoCard

/-- THE SECOND FORM's CARD OF 'causewaylaw04.TreeOnePast'. -/
def treeOnePastUptoCard : Claim7 := { stood := { row := treeOnePastUptoRow, standIns := [], harness := (true, "d5d9e75de1b1865138ed12b273601c96e8465aa75694b52870436b861a07a1f9"), looks := false }, kinds := [], alts := [], laidByText := true, laidKinds := [.data, .data, .data], laidTests := true, laidLooks := .later }
def TreeOnePastUptoCardSaid : Prop := Claim7.holds Tryd.pinned (.plain (OpenSpec.upto treeOnePastSpec)) treeOnePastUptoCard

/-- THE SECOND FORM's CARD OF 'causewaylaw04.TreeBelow'. -/
def treeBelowUptoCard : Claim7 := { stood := { row := treeBelowUptoRow, standIns := [], harness := (true, "d5d9e75de1b1865138ed12b273601c96e8465aa75694b52870436b861a07a1f9"), looks := false }, kinds := [], alts := [], laidByText := true, laidKinds := [.data], laidTests := true, laidLooks := .later }
def TreeBelowUptoCardSaid : Prop := Claim7.holds Tryd.pinned (.plain (OpenSpec.upto treeBelowSpec)) treeBelowUptoCard
end Rows
end Go.Proofs.YtnogjhbohljjnabDoor
