/-
  Check, write, Bytes at concrete letters; CheckEntry, EntryBytes.
-/
import Derived.Test.YtknabkoddickaaaGreatDoorLtE
import Derived.Deep.CutRange
import Derived.Deep.RegionLaw
import Derived.Handy
import Derived.Carry
namespace Go.Proofs.YtknabkoddickaaaGreatDoor
open Go Go.RowKit
open Sha

theorem used_E2 (w : World) : Calls Tryz.prog 52 #[.int .i64 2] w fun e w' => ∃ U, e = .returned (.slice (some ⟨U, 0, none⟩) 3 3) ∧ Row w' U [.int .i64 0, .int .i64 1, .int .i64 6] 3 ∧ Below w.heap.size w w' :=
  (usedE_2 w).mono (by
    rintro e w' ⟨rfl, rfl⟩
    exact ⟨w.heap.size, rfl, Row.new' rfl rfl, (Below.refl _ _).alloc (Nat.le_refl _) _⟩)
theorem info_ent : (Tryz.prog.info? 46).map (·.size) = some 49 := by kernel_rfl
theorem boxed (L : List Value) (t : TypeId) (w : World) : ∃ W, W = w.alloc (Obj.cells L.toArray t) ∧ Row W w.heap.size L t ∧ Below w.heap.size w W := ⟨_, rfl, Row.new' rfl rfl, (Below.refl _ _).alloc (Nat.le_refl _) _⟩

end Go.Proofs.YtknabkoddickaaaGreatDoor
