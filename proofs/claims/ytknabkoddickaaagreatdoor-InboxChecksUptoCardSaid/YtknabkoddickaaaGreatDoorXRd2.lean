/-
  wire.Reader: a number of two bytes; take.
-/
import Derived.Test.YtknabkoddickaaaGreatDoorXWr2
import Derived.Deep.Quiet
import Derived.Defers
import Derived.Recover
import Derived.Laws.Pointers

namespace Go.Proofs.YtknabkoddickaaaGreatDoor
open Go Go.RowKit
open Sha

/-- A reader of bytes. -/
def Rd (w : World) (P g cap : Nat) (bs : List (BitVec 8)) (at_ f : Int) : Prop := Row w P [.slice (some ⟨g, 0, none⟩) bs.length cap, .int .i64 at_, .int .i64 f] 176 ∧ Bw w (.slice (some ⟨g, 0, none⟩) bs.length cap) bs
end Go.Proofs.YtknabkoddickaaaGreatDoor

namespace Go.Proofs.YtknabkoddickaaaGreatDoor
open Go Go.RowKit
open Sha

theorem heap_sets (w : World) (g o : Nat) (vs : List Value) (k : Nat) (h : k ≠ g) : (w.setCells g o vs).heap[k]? = w.heap[k]? := by
  induction vs generalizing w o with
  | nil => rfl
  | cons v r ih => exact (ih (w.setCell ⟨g, o, none⟩ v) (o + 1)).trans (Below.heap_setCell _ _ _ _ h)
abbrev three : List (BitVec 8) := [2#8, 1#8, 0#8]
abbrev q4z : List Value := q4 0 0 0 0

end Go.Proofs.YtknabkoddickaaaGreatDoor
