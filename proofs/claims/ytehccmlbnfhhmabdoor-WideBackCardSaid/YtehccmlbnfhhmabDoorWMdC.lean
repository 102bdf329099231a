/-
  wide.MulDiv, with whole numbers as letters.
-/
import Derived.Test.YtehccmlbnfhhmabDoorWKn
import Derived.Test.YtehccmlbnfhhmabDoorWMd
namespace Go.Proofs.YtehccmlbnfhhmabDoor
open Go Go.RowKit
open Wd

theorem md_c {ca cb cc : List Value} {a b c : Nat} (Ha : Wc ca a) (Hb : Wc cb b) (Hc : Wc cc c) (ha : a < 2 ^ 256) (hb : b < 2 ^ 256) (hc : c < 2 ^ 256) {r : Nat} {E : Int} (hr : mdR a b c = r) (hE : mdE a b c = E) (w : World) : Calls Tryd.prog 12 #[.agg ca.toArray, .agg cb.toArray, .agg cc.toArray] w fun e w' => ∃ x, Wc x r ∧ e = .returned (.tuple #[.agg x.toArray, .int .i64 E]) ∧ Below w.heap.size w w' := by
  subst hr hE; rw [Ha, Hb, Hc]
  exact (mulDiv_any a b c ha hb hc w).mono fun e w' h => ⟨_, rfl, h.1, h.2⟩

end Go.Proofs.YtehccmlbnfhhmabDoor
