/-
  Slots that hold lists of digits.
-/
import Derived.Test.YtehccmlbnfhhmaaDoorWFp
import Derived.Test.YtehccmlbnfhhmaaDoorWDg
namespace Go.Proofs.YtehccmlbnfhhmaaDoor
open Go Go.RowKit
open Wd

def SP.dg (n m : Nat) : SP := ⟨fun W v => Dg W v n m, fun _ _ _ hB h => h.below hB⟩
def SP.dg2 (n m n2 m2 : Nat) : SP := ⟨fun W v => ∃ q l, v = .tuple #[q, l] ∧ Dg W q n m ∧ Dg W l n2 m2, fun _ _ _ hB ⟨q, l, e, h1, h2⟩ => ⟨q, l, e, h1.below hB, h2.below hB⟩⟩

end Go.Proofs.YtehccmlbnfhhmaaDoor
