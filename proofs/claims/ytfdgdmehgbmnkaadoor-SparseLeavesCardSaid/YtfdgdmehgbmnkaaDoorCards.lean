/-
  DERIVED. GIVEN WITH THE SEED: THE CARDS: each row of YtfdgdmehgbmnkaaDoorRows.lean that lists a variable, with what it lists TIED to the program's text (the seventh form; the later family's looks); each row that meets fmt, with fmt's text TOLD by the authors' own Lean function (tested against real Go, not proved from fmt's source: count such statements apart). THE CARD IS WHAT COUNTS. Prove the row's statement (the work); the ties are given (YtfdgdmehgbmnkaaDoorTie.lean); close each card by the builder's one call (the guide's Derived/Test/ToyasCard.lean, 'card_holds'). Laid BY PROGRAM, IN A SANDBOX (cutbox-door.mjs). By AI agents, Wed Nov 11 2026. No macro, syntax, notation, axiom, sorry.
-/
import Derived.Test.YtfdgdmehgbmnkaaDoorRows
import GoSem.ClaimSeven
namespace Go.Proofs.YtfdgdmehgbmnkaaDoor
namespace Rows

/-- THE TIED CARD OF 'causewaylaw05.SparsePlays'. -/
def sparsePlaysCard : Claim7 := { stood := { row := sparsePlaysRow, standIns := [], harness := (true, "37808022ce3c4eb22a05919c302a6aa534c95772dffc8ec4a5b7fe5fdcd61171"), looks := false }, kinds := [], alts := [], laidByText := true, laidKinds := [.data, .data, .data], laidTests := true, laidLooks := .later }
def SparsePlaysCardSaid : Prop := Claim7.holds Tryd.pinned (.plain (OpenSpec.ofChange sparsePlaysSpec)) sparsePlaysCard

/-- THE TIED CARD OF 'causewaylaw05.SparseLeaves'. -/
def sparseLeavesCard : Claim7 := { stood := { row := sparseLeavesRow, standIns := [], harness := (true, "37808022ce3c4eb22a05919c302a6aa534c95772dffc8ec4a5b7fe5fdcd61171"), looks := false }, kinds := [], alts := [], laidByText := true, laidKinds := [.data, .data, .data], laidTests := true, laidLooks := .later }
def SparseLeavesCardSaid : Prop := Claim7.holds Tryd.pinned (.plain (OpenSpec.ofChange sparseLeavesSpec)) sparseLeavesCard

/-- THE TIED CARD OF 'causewaylaw05.SparseProves'. -/
def sparseProvesCard : Claim7 := { stood := { row := sparseProvesRow, standIns := [], harness := (true, "37808022ce3c4eb22a05919c302a6aa534c95772dffc8ec4a5b7fe5fdcd61171"), looks := false }, kinds := [], alts := [], laidByText := true, laidKinds := [.data, .data, .data], laidTests := true, laidLooks := .later }
def SparseProvesCardSaid : Prop := Claim7.holds Tryd.pinned (.plain (OpenSpec.ofChange sparseProvesSpec)) sparseProvesCard

/-- THE TIED CARD OF 'causewaylaw05.SparseHangs'. -/
def sparseHangsCard : Claim7 := { stood := { row := sparseHangsRow, standIns := [], harness := (true, "37808022ce3c4eb22a05919c302a6aa534c95772dffc8ec4a5b7fe5fdcd61171"), looks := false }, kinds := [], alts := [], laidByText := true, laidKinds := [.data], laidTests := true, laidLooks := .later }
def SparseHangsCardSaid : Prop := Claim7.holds Tryd.pinned (.plain (OpenSpec.ofChange sparseHangsSpec)) sparseHangsCard

/-- THE TIED CARD OF 'causewaylaw05.SparseShows'. -/
def sparseShowsCard : Claim7 := { stood := { row := sparseShowsRow, standIns := [], harness := (true, "37808022ce3c4eb22a05919c302a6aa534c95772dffc8ec4a5b7fe5fdcd61171"), looks := false }, kinds := [], alts := [], laidByText := true, laidKinds := [.data, .data, .data], laidTests := true, laidLooks := .later }
def SparseShowsCardSaid : Prop := Claim7.holds Tryd.pinned (.plain (OpenSpec.ofChange sparseShowsSpec)) sparseShowsCard

/-- THE SECOND FORM's CARD OF 'causewaylaw05.SparsePlays'. -/
def sparsePlaysUptoCard : Claim7 := { stood := { row := sparsePlaysUptoRow, standIns := [], harness := (true, "37808022ce3c4eb22a05919c302a6aa534c95772dffc8ec4a5b7fe5fdcd61171"), looks := false }, kinds := [], alts := [], laidByText := true, laidKinds := [.data, .data, .data], laidTests := true, laidLooks := .later }
def SparsePlaysUptoCardSaid : Prop := Claim7.holds Tryd.pinned (.plain (OpenSpec.upto sparsePlaysSpec)) sparsePlaysUptoCard

/-- THE SECOND FORM's CARD OF 'causewaylaw05.SparseLeaves'. -/
def sparseLeavesUptoCard : Claim7 := { stood := { row := sparseLeavesUptoRow, standIns := [], harness := (true, "37808022ce3c4eb22a05919c302a6aa534c95772dffc8ec4a5b7fe5fdcd61171"), looks := false }, kinds := [], alts := [], laidByText := true, laidKinds := [.data, .data, .data], laidTests := true, laidLooks := .later }
def SparseLeavesUptoCardSaid : Prop := Claim7.holds Tryd.pinned (.plain (OpenSpec.upto sparseLeavesSpec)) sparseLeavesUptoCard

/-- THE SECOND FORM's CARD OF 'causewaylaw05.SparseProves'. -/
def sparseProvesUptoCard : Claim7 := { stood := { row := sparseProvesUptoRow, standIns := [], harness := (true, "37808022ce3c4eb22a05919c302a6aa534c95772dffc8ec4a5b7fe5fdcd61171"), looks := false }, kinds := [], alts := [], laidByText := true, laidKinds := [.data, .data, .data], laidTests := true, laidLooks := .later }
def SparseProvesUptoCardSaid : Prop := Claim7.holds Tryd.pinned (.plain (OpenSpec.upto sparseProvesSpec)) sparseProvesUptoCard

/-- THE SECOND FORM's CARD OF 'causewaylaw05.SparseHangs'. -/
def sparseHangsUptoCard : Claim7 := { stood := { row := sparseHangsUptoRow, standIns := [], harness := (true, "37808022ce3c4eb22a05919c302a6aa534c95772dffc8ec4a5b7fe5fdcd61171"), looks := false }, kinds := [], alts := [], laidByText := true, laidKinds := [.data], laidTests := true, laidLooks := .later }
def SparseHangsUptoCardSaid : Prop := Claim7.holds Tryd.pinned (.plain (OpenSpec.upto sparseHangsSpec)) sparseHangsUptoCard

/-- THE SECOND FORM's CARD OF 'causewaylaw05.SparseShows'. -/
def sparseShowsUptoCard : Claim7 := { stood := { row := sparseShowsUptoRow, standIns := [], harness := (true, "37808022ce3c4eb22a05919c302a6aa534c95772dffc8ec4a5b7fe5fdcd61171"), looks := false }, kinds := [], alts := [], laidByText := true, laidKinds := [.data, .data, .data], laidTests := true, laidLooks := .later }
def SparseShowsUptoCardSaid : Prop := Claim7.holds Tryd.pinned (.plain (OpenSpec.upto sparseShowsSpec)) sparseShowsUptoCard
end Rows
end Go.Proofs.YtfdgdmehgbmnkaaDoor
