/-
  fits, at concrete letters and entries.
-/
import Derived.Test.YtknabkoddickaaaGreatDoorLtC
namespace Go.Proofs.YtknabkoddickaaaGreatDoor
open Go Go.RowKit
open Sha

theorem info_fldG : (Tryz.prog.info? 123).map (·.size) = some 4 := by kernel_rfl
theorem laidFG (W : World) (fs : List Value) (h : fs.length = 4) : ∃ X, X = (W.alloc (Obj.cells #[.nilFunc, .nilFunc, .nilFunc, .nilFunc] 123)).setCells W.heap.size 0 fs ∧ Row X W.heap.size fs 123 ∧ Below W.heap.size W X :=
  ⟨_, rfl, Row.over (Row.new' (cs := [.nilFunc, .nilFunc, .nilFunc, .nilFunc]) rfl rfl) (vs := fs) (by rw [h]; rfl), below_setCells ((Below.refl W.heap.size W).alloc (Nat.le_refl _) _) (Nat.le_refl _) _⟩

end Go.Proofs.YtknabkoddickaaaGreatDoor
