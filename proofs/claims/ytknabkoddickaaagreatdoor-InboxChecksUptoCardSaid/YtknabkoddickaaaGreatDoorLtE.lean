/-
  a writer that was made behind a world; the closures that lay; table.write.
-/
import Derived.Test.YtknabkoddickaaaGreatDoorLtD
import Derived.Test.YtknabkoddickaaaGreatDoorXSee
import Derived.Test.YtknabkoddickaaaGreatDoorXShut
import Derived.Test.YtknabkoddickaaaGreatDoorXStp
namespace Go.Proofs.YtknabkoddickaaaGreatDoor
open Go Go.RowKit
open Sha

/-- A writer without a fault, made behind w0. -/
def Wm (w0 w : World) (P : Nat) (bs : List (BitVec 8)) : Prop := ∃ A cap, Wr w P A cap bs 0 ∧ Fresh w0.heap.size (.slice A bs.length cap) ∧ w0.heap.size ≤ P ∧ Below w0.heap.size w0 w
theorem Wm.below {w0 w : World} {P : Nat} {bs : List (BitVec 8)} (h : Wm w0 w P bs) : Below w0.heap.size w0 w := by
  obtain ⟨_, _, _, _, _, h⟩ := h
  exact h
theorem Wm.on {w0 w w' : World} {P : Nat} {A A' : Option Addr} {cap cap' : Nat} {bs cs : List (BitVec 8)} (h : Fresh w0.heap.size (.slice A bs.length cap)) (hP : w0.heap.size ≤ P) (hB : Below w0.heap.size w0 w)
    (hw : Wr w' P A' cap' cs 0) (hf : Frm (.slice A bs.length cap) w.heap.size (.slice A' cs.length cap')) (hG : Gro (fun g => g = P ∨ (Value.slice A bs.length cap).ownBlock = some g) w w') : Wm w0 w' P cs :=
  ⟨A', cap', hw, fun g e => by
    rcases hf g e with q | q
    · exact h g q
    · exact Nat.le_trans hB.size q, hP, hB.trans (hG.to_below hB.size (fun k q => by
    rcases q with q | q
    · rw [q]; exact hP
    · exact h k q))⟩
theorem Wm.lays {w0 w w' : World} {P : Nat} {A : Option Addr} {cap : Nat} {bs d cs : List (BitVec 8)} (h : Fresh w0.heap.size (.slice A bs.length cap)) (hP : w0.heap.size ≤ P) (hB : Below w0.heap.size w0 w)
    (hb : Beh w w' P A cap bs 0 d) (e1 : wrB bs 0 d = cs) (e2 : wrF bs 0 d = 0) : Wm w0 w' P cs := by
  obtain ⟨⟨A', cap', hw, hf⟩, hG⟩ := hb
  rw [e1, e2] at hw
  rw [e1] at hf
  exact Wm.on h hP hB hw hf hG

end Go.Proofs.YtknabkoddickaaaGreatDoor
