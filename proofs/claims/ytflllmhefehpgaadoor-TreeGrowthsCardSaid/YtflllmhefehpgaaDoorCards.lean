/-
  DERIVED. GIVEN WITH THE SEED: THE CARDS: each row of YtflllmhefehpgaaDoorRows.lean that lists a variable, with what it lists TIED to the program's text (the seventh form; the later family's looks); each row that meets fmt, with fmt's text TOLD by the authors' own Lean function (tested against real Go, not proved from fmt's source: count such statements apart). THE CARD IS WHAT COUNTS. Prove the row's statement (the work); the ties are given (YtflllmhefehpgaaDoorTie.lean); close each card by the builder's one call (the guide's Derived/Test/ToyasCard.lean, 'card_holds'). Laid BY PROGRAM, IN A SANDBOX (cutbox-door.mjs). By AI agents, Wed Nov 11 2026. No macro, syntax, notation, axiom, sorry.
-/
import Derived.Test.YtflllmhefehpgaaDoorRows
import GoSem.ClaimSeven
namespace Go.Proofs.YtflllmhefehpgaaDoor
namespace Rows

/-- THE TIED CARD OF 'causewaylaw04.TreeRoots'. -/
def treeRootsCard : Claim7 := { stood := { row := treeRootsRow, standIns := [], harness := (true, "a7f97e7ed23790f6f887105306b2ebcd20e74d93c3defad88d6d7394b47a4436"), looks := false }, kinds := [], alts := [], laidByText := true, laidKinds := [.data, .data, .data], laidTests := true, laidLooks := .later }
def TreeRootsCardSaid : Prop := Claim7.holds Tryd.pinned (.plain (OpenSpec.ofChange treeRootsSpec)) treeRootsCard

/-- THE TIED CARD OF 'causewaylaw04.TreePaths'. -/
def treePathsCard : Claim7 := { stood := { row := treePathsRow, standIns := [], harness := (true, "a7f97e7ed23790f6f887105306b2ebcd20e74d93c3defad88d6d7394b47a4436"), looks := false }, kinds := [], alts := [], laidByText := true, laidKinds := [.data, .data, .data], laidTests := true, laidLooks := .later }
def TreePathsCardSaid : Prop := Claim7.holds Tryd.pinned (.plain (OpenSpec.ofChange treePathsSpec)) treePathsCard

/-- THE TIED CARD OF 'causewaylaw04.TreeChecks'. -/
def treeChecksCard : Claim7 := { stood := { row := treeChecksRow, standIns := [], harness := (true, "a7f97e7ed23790f6f887105306b2ebcd20e74d93c3defad88d6d7394b47a4436"), looks := false }, kinds := [], alts := [], laidByText := true, laidKinds := [.data, .data, .data], laidTests := true, laidLooks := .later }
def TreeChecksCardSaid : Prop := Claim7.holds Tryd.pinned (.plain (OpenSpec.ofChange treeChecksSpec)) treeChecksCard

/-- THE TIED CARD OF 'causewaylaw04.TreeGrowths'. -/
def treeGrowthsCard : Claim7 := { stood := { row := treeGrowthsRow, standIns := [], harness := (true, "a7f97e7ed23790f6f887105306b2ebcd20e74d93c3defad88d6d7394b47a4436"), looks := false }, kinds := [], alts := [], laidByText := true, laidKinds := [.data, .data, .data], laidTests := true, laidLooks := .later }
def TreeGrowthsCardSaid : Prop := Claim7.holds Tryd.pinned (.plain (OpenSpec.ofChange treeGrowthsSpec)) treeGrowthsCard

/-- THE TIED CARD OF 'causewaylaw04.TreeGrews'. -/
def treeGrewsCard : Claim7 := { stood := { row := treeGrewsRow, standIns := [], harness := (true, "a7f97e7ed23790f6f887105306b2ebcd20e74d93c3defad88d6d7394b47a4436"), looks := false }, kinds := [], alts := [], laidByText := true, laidKinds := [.data, .data, .data], laidTests := true, laidLooks := .later }
def TreeGrewsCardSaid : Prop := Claim7.holds Tryd.pinned (.plain (OpenSpec.ofChange treeGrewsSpec)) treeGrewsCard

/-- THE TIED CARD OF 'causewaylaw04.TreeLogs'. -/
def treeLogsCard : Claim7 := { stood := { row := treeLogsRow, standIns := [], harness := (true, "a7f97e7ed23790f6f887105306b2ebcd20e74d93c3defad88d6d7394b47a4436"), looks := false }, kinds := [], alts := [], laidByText := true, laidKinds := [.data, .data, .data, .data, .data], laidTests := true, laidLooks := .later }
def TreeLogsCardSaid : Prop := Claim7.holds Tryd.pinned (.plain (OpenSpec.ofChange treeLogsSpec)) treeLogsCard

/-- THE SECOND FORM's CARD OF 'causewaylaw04.TreeRoots'. -/
def treeRootsUptoCard : Claim7 := { stood := { row := treeRootsUptoRow, standIns := [], harness := (true, "a7f97e7ed23790f6f887105306b2ebcd20e74d93c3defad88d6d7394b47a4436"), looks := false }, kinds := [], alts := [], laidByText := true, laidKinds := [.data, .data, .data], laidTests := true, laidLooks := .later }
def TreeRootsUptoCardSaid : Prop := Claim7.holds Tryd.pinned (.plain (OpenSpec.upto treeRootsSpec)) treeRootsUptoCard

/-- THE SECOND FORM's CARD OF 'causewaylaw04.TreePaths'. -/
def treePathsUptoCard : Claim7 := { stood := { row := treePathsUptoRow, standIns := [], harness := (true, "a7f97e7ed23790f6f887105306b2ebcd20e74d93c3defad88d6d7394b47a4436"), looks := false }, kinds := [], alts := [], laidByText := true, laidKinds := [.data, .data, .data], laidTests := true, laidLooks := .later }
def TreePathsUptoCardSaid : Prop := Claim7.holds Tryd.pinned (.plain (OpenSpec.upto treePathsSpec)) treePathsUptoCard

/-- THE SECOND FORM's CARD OF 'causewaylaw04.TreeChecks'. -/
def treeChecksUptoCard : Claim7 := { stood := { row := treeChecksUptoRow, standIns := [], harness := (true, "a7f97e7ed23790f6f887105306b2ebcd20e74d93c3defad88d6d7394b47a4436"), looks := false }, kinds := [], alts := [], laidByText := true, laidKinds := [.data, .data, .data], laidTests := true, laidLooks := .later }
def TreeChecksUptoCardSaid : Prop := Claim7.holds Tryd.pinned (.plain (OpenSpec.upto treeChecksSpec)) treeChecksUptoCard

/-- THE SECOND FORM's CARD OF 'causewaylaw04.TreeGrowths'. -/
def treeGrowthsUptoCard : Claim7 := { stood := { row := treeGrowthsUptoRow, standIns := [], harness := (true, "a7f97e7ed23790f6f887105306b2ebcd20e74d93c3defad88d6d7394b47a4436"), looks := false }, kinds := [], alts := [], laidByText := true, laidKinds := [.data, .data, .data], laidTests := true, laidLooks := .later }
def TreeGrowthsUptoCardSaid : Prop := Claim7.holds Tryd.pinned (.plain (OpenSpec.upto treeGrowthsSpec)) treeGrowthsUptoCard

/-- THE SECOND FORM's CARD OF 'causewaylaw04.TreeGrews'. -/
def treeGrewsUptoCard : Claim7 := { stood := { row := treeGrewsUptoRow, standIns := [], harness := (true, "a7f97e7ed23790f6f887105306b2ebcd20e74d93c3defad88d6d7394b47a4436"), looks := false }, kinds := [], alts := [], laidByText := true, laidKinds := [.data, .data, .data], laidTests := true, laidLooks := .later }
def TreeGrewsUptoCardSaid : Prop := Claim7.holds Tryd.pinned (.plain (OpenSpec.upto treeGrewsSpec)) treeGrewsUptoCard

/-- THE SECOND FORM's CARD OF 'causewaylaw04.TreeLogs'. -/
def treeLogsUptoCard : Claim7 := { stood := { row := treeLogsUptoRow, standIns := [], harness := (true, "a7f97e7ed23790f6f887105306b2ebcd20e74d93c3defad88d6d7394b47a4436"), looks := false }, kinds := [], alts := [], laidByText := true, laidKinds := [.data, .data, .data, .data, .data], laidTests := true, laidLooks := .later }
def TreeLogsUptoCardSaid : Prop := Claim7.holds Tryd.pinned (.plain (OpenSpec.upto treeLogsSpec)) treeLogsUptoCard
end Rows
end Go.Proofs.YtflllmhefehpgaaDoor
