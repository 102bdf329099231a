/-
  A number's form: mathematics.
-/
import Derived.Test.YtknabkoddickaaaGreatDoorXMem
import Derived.Lib.BitFns
import Derived.Lib.ItoaNum
namespace Go.Proofs.YtknabkoddickaaaGreatDoor
open Go Go.RowKit
open Sha

/-- How many bytes a part has. -/
def bl (x : Nat) : Nat := (Lib.bitLen x + 7) / 8
/-- How many bytes a number of four parts has. -/
def nb (a b c d : Nat) : Nat := if d ≠ 0 then 24 + bl d else if c ≠ 0 then 16 + bl c else if b ≠ 0 then 8 + bl b else if a ≠ 0 then bl a else 0
/-- Byte i of a number. -/
def fb (l : List Nat) (i : Nat) : BitVec 8 := BitVec.ofNat 8 (l.getD (i / 8) 0 / 2 ^ (i % 8 * 8))
/-- The array's bytes, t of the number's laid. -/
def fl (l : List Nat) (k t : Nat) : List (BitVec 8) := (List.range 33).map fun p => if p = 0 then BitVec.ofNat 8 k else if k - t < p ∧ p ≤ k then fb l (k - p) else 0#8
/-- The form. -/
def fm (l : List Nat) (k : Nat) : List (BitVec 8) := BitVec.ofNat 8 k :: (List.range k).map fun j => fb l (k - 1 - j)
theorem fl_len (l : List Nat) (k t : Nat) : (fl l k t).length = 33 := by simp [fl]
theorem fm_len (l : List Nat) (k : Nat) : (fm l k).length = k + 1 := by simp [fm]
theorem fl_start (l : List Nat) (k : Nat) : fl l k 0 = (List.replicate 33 0#8).set 0 (BitVec.ofNat 8 k) := by
  apply List.ext_getElem (by simp [fl])
  intro p h1 h2
  simp only [fl, List.getElem_map, List.getElem_range, List.getElem_set, List.getElem_replicate]
  by_cases e : p = 0
  · subst e; simp
  · rw [if_neg e, if_neg (by omega), if_neg (by omega)]
theorem fl_step (l : List Nat) (k t : Nat) (ht : t < k) : (fl l k t).set (k - t) (fb l t) = fl l k (t + 1) := by
  apply List.ext_getElem (by simp [fl])
  intro p h1 h2
  simp only [fl, List.getElem_map, List.getElem_range, List.getElem_set]
  by_cases e : k - t = p
  · subst e
    rw [if_pos rfl, if_neg (by omega), if_pos (by omega), show k - (k - t) = t by omega]
  · rw [if_neg e]
    by_cases e0 : p = 0
    · rw [if_pos e0, if_pos e0]
    · rw [if_neg e0, if_neg e0]
      by_cases e1 : k - t < p ∧ p ≤ k
      · rw [if_pos e1, if_pos (by omega)]
      · rw [if_neg e1, if_neg (by omega)]
theorem fl_end (l : List Nat) (k : Nat) (hk : k ≤ 32) : (fl l k k).take (k + 1) = fm l k := by
  apply List.ext_getElem (by simp [fl, fm]; omega)
  intro p h1 h2
  simp only [fl, fm, List.getElem_take, List.getElem_map, List.getElem_range]
  rw [fm_len] at h2
  cases p with
  | zero => simp
  | succ p => rw [if_neg (by omega), if_pos (by omega)]; simp [show k - (p + 1) = k - 1 - p by omega]
theorem bitLenAux_le : ∀ f x : Nat, Lib.bitLenAux f x ≤ f
  | 0, x => by simp [Lib.bitLenAux]
  | f + 1, x => by
    have := bitLenAux_le f (x / 2)
    simp only [Lib.bitLenAux]
    split <;> omega
theorem bl_le (x : Nat) : bl x ≤ 8 := by
  have : Lib.bitLen x ≤ 64 := bitLenAux_le 64 x
  unfold bl; omega
theorem nb_le (a b c d : Nat) : nb a b c d ≤ 32 := by
  have := bl_le a
  have := bl_le b
  have := bl_le c
  have := bl_le d
  unfold nb
  repeat' split
  all_goals omega

end Go.Proofs.YtknabkoddickaaaGreatDoor
