/-
  The law's lent and kept; a list of digests turned: whatever bytes stand there behind it.
-/
import Derived.Test.YtdicgenhfmhklaaGreatDoorTStr
namespace Go.Proofs.YtdicgenhfmhklaaGreatDoor
open Go Go.RowKit
open Sha

theorem c_xor1 (x : BitVec 8) : bits BinOp.xor IntKind.u8 (c x) 1 = c (x ^^^ 1#8) := by
  revert x; decide
theorem c_xor165 (x : BitVec 8) : bits BinOp.xor IntKind.u8 (c x) 165 = c (x ^^^ 165#8) := by
  revert x; decide

def marks70 : List (BitVec 8) := List.replicate 70 201#8
theorem lent_start (d : List (BitVec 8)) : (vB (List.replicate (d.length + 70) 0#8)).take 0 ++ vB d ++ (vB (List.replicate (d.length + 70) 0#8)).drop (0 + (vB d).length) = vB (d ++ (List.replicate 0 201#8 ++ List.replicate (70 - 0) 0#8)) := by
  simp [vB]
theorem lent_fill (d : List (BitVec 8)) (t : Nat) (h : t < 70) : (d ++ (List.replicate t 201#8 ++ List.replicate (70 - t) 0#8)).set (d.length + t) 201#8 = d ++ (List.replicate (t + 1) 201#8 ++ List.replicate (70 - (t + 1)) 0#8) := by
  rw [List.set_append_right _ _ (by omega), List.set_append_right _ _ (by simp), show 70 - t = (70 - (t + 1)) + 1 by omega, List.replicate_succ (n := 70 - (t + 1))]
  simp [List.replicate_succ' (n := t)]

theorem kept_get (d : List (BitVec 8)) (t : Nat) (h : t < 70) : (d ++ marks70).getD (d.length + t) 0 = 201#8 := by
  unfold marks70
  rw [List.getD_eq_getElem?_getD, List.getElem?_append_right (by omega), List.getElem?_replicate, if_pos (by omega)]; rfl

end Go.Proofs.YtdicgenhfmhklaaGreatDoor
