/-
  DERIVED. GIVEN WITH THE SEED: THE CARDS: each row of YtelioddogdcdoaaDoorRows.lean that lists a variable, with what it lists TIED to the program's text (the seventh form; the later family's looks); each row that meets fmt, with fmt's text TOLD by the authors' own Lean function (tested against real Go, not proved from fmt's source: count such statements apart). THE CARD IS WHAT COUNTS. Prove the row's statement (the work); the ties are given (YtelioddogdcdoaaDoorTie.lean); close each card by the builder's one call (the guide's Derived/Test/ToyasCard.lean, 'card_holds'). Laid BY PROGRAM, IN A SANDBOX (cutbox-door.mjs). By AI agents, Wed Nov 11 2026. No macro, syntax, notation, axiom, sorry.
-/
import Derived.Test.YtelioddogdcdoaaDoorRows
import GoSem.ClaimSeven
namespace Go.Proofs.YtelioddogdcdoaaDoor
namespace Rows

/-- THE TIED CARD OF 'causewaylaw08.LedgerGives'. -/
def ledgerGivesCard : Claim7 := { stood := { row := ledgerGivesRow, standIns := [], harness := (true, "c941102e75249ddfc3acfd7cd0c04b58f18cddf5e60aa9152f0ff7a950659a92"), looks := false }, kinds := [], alts := [], laidByText := true, laidKinds := [.data], laidTests := true, laidLooks := .later }
def LedgerGivesCardSaid : Prop := Claim7.holds Tryd.pinned (.plain (OpenSpec.ofChange ledgerGivesSpec)) ledgerGivesCard

/-- THE SECOND FORM's CARD OF 'causewaylaw08.LedgerGives'. -/
def ledgerGivesUptoCard : Claim7 := { stood := { row := ledgerGivesUptoRow, standIns := [], harness := (true, "c941102e75249ddfc3acfd7cd0c04b58f18cddf5e60aa9152f0ff7a950659a92"), looks := false }, kinds := [], alts := [], laidByText := true, laidKinds := [.data], laidTests := true, laidLooks := .later }
def LedgerGivesUptoCardSaid : Prop := Claim7.holds Tryd.pinned (.plain (OpenSpec.upto ledgerGivesSpec)) ledgerGivesUptoCard
end Rows
end Go.Proofs.YtelioddogdcdoaaDoor
