/-
  Check, write, Bytes at concrete letters; CheckEntry, EntryBytes.
-/
import Derived.Test.YtfommclhnfcioaaLtE
import Derived.Deep.CutRange
import Derived.Deep.RegionLaw
import Derived.Handy
import Derived.Carry
namespace Go.Proofs.Ytfommclhnfcioaa
open Go Go.RowKit
open Sha

theorem boxed (L : List Value) (t : TypeId) (w : World) : ∃ W, W = w.alloc (Obj.cells L.toArray t) ∧ Row W w.heap.size L t ∧ Below w.heap.size w W := ⟨_, rfl, Row.new' rfl rfl, (Below.refl _ _).alloc (Nat.le_refl _) _⟩

end Go.Proofs.Ytfommclhnfcioaa
