/-
  DERIVED. GIVEN WITH THE SEED: THE CARDS: each row of YtojmhmnpidhfjaaDoorRows.lean that lists a variable, with what it lists TIED to the program's text (the seventh form; the later family's looks); each row that meets fmt, with fmt's text TOLD by the authors' own Lean function (tested against real Go, not proved from fmt's source: count such statements apart). THE CARD IS WHAT COUNTS. Prove the row's statement (the work); the ties are given (YtojmhmnpidhfjaaDoorTie.lean); close each card by the builder's one call (the guide's Derived/Test/ToyasCard.lean, 'card_holds'). Laid BY PROGRAM, IN A SANDBOX (cutbox-door.mjs). By AI agents, Wed Nov 11 2026. No macro, syntax, notation, axiom, sorry.
-/
import Derived.Test.YtojmhmnpidhfjaaDoorRows
import GoSem.ClaimSeven
namespace Go.Proofs.YtojmhmnpidhfjaaDoor
namespace Rows

/-- THE TIED CARD OF 'causewaylaw08.LedgerNils'. -/
def ledgerNilsCard : Claim7 := { stood := { row := ledgerNilsRow, standIns := [], harness := (true, "ba0f0671bcdd02fd9784a2d75a928f4dce7c51e2fe7a0c2f31582fb74be2c661"), looks := false }, kinds := [], alts := [], laidByText := true, laidKinds := [.data], laidTests := true, laidLooks := .later }
def LedgerNilsCardSaid : Prop := Claim7.holds Tryd.pinned (.plain (OpenSpec.ofChange ledgerNilsSpec)) ledgerNilsCard

/-- THE SECOND FORM's CARD OF 'causewaylaw08.LedgerNils'. -/
def ledgerNilsUptoCard : Claim7 := { stood := { row := ledgerNilsUptoRow, standIns := [], harness := (true, "ba0f0671bcdd02fd9784a2d75a928f4dce7c51e2fe7a0c2f31582fb74be2c661"), looks := false }, kinds := [], alts := [], laidByText := true, laidKinds := [.data], laidTests := true, laidLooks := .later }
def LedgerNilsUptoCardSaid : Prop := Claim7.holds Tryd.pinned (.plain (OpenSpec.upto ledgerNilsSpec)) ledgerNilsUptoCard
end Rows
end Go.Proofs.YtojmhmnpidhfjaaDoor
