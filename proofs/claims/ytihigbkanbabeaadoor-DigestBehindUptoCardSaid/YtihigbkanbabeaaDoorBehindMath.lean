/-
  Plain mathematics of DigestBehind.
-/
import Derived.Test.YtihigbkanbabeaaDoorRAppend
namespace Go.Proofs.YtihigbkanbabeaaDoor
open Go Go.RowKit
open Sha

theorem and_byte (y : BitVec 8) (k : Nat) : bits BinOp.and IntKind.u8 (c y) (255 / 2 ^ k) = c (y &&& (255#8 >>> k)) := by
  have h : (255 : Int) / 2 ^ k = (((255#8 >>> k).toNat : Nat) : Int) := by
    rw [BitVec.toNat_ushiftRight, Nat.shiftRight_eq_div_pow]; simp
  rw [h]
  unfold c
  rw [u8_and_nat _ _ y.isLt (BitVec.isLt _), BitVec.toNat_and]
theorem or_byte (x y : BitVec 8) : bits BinOp.or IntKind.u8 (c x) (c y) = c (x ||| y) := by
  unfold c
  rw [u8_or_nat _ _ x.isLt y.isLt, BitVec.toNat_or]
theorem mask_keep (x j m : BitVec 8) : ((x &&& ~~~m) ||| (j &&& m)) &&& ~~~m = x &&& ~~~m := by
  apply BitVec.eq_of_getLsbD_eq
  intro i hi
  simp [hi]
  cases x[i] <;> cases j[i] <;> cases m[i] <;> rfl

/-- What stands behind the bits says nothing. -/
theorem dbits_ext (d e : List (BitVec 8)) (n : Nat) (h1 : e.take (n / 8) = d.take (n / 8)) (h2 : n % 8 ≠ 0 → e.getD (n / 8) 0 &&& ~~~(255#8 >>> (n % 8)) = d.getD (n / 8) 0 &&& ~~~(255#8 >>> (n % 8))) : dbits e n = dbits d n := by
  unfold dbits btail
  rw [h1]
  by_cases h : n % 8 = 0
  · rw [if_pos h, if_pos h]
  · rw [if_neg h, if_neg h, h2 h]

theorem behind_plain (d j : List (BitVec 8)) (r : Nat) (hr : r ≤ 8 * d.length) : dbits (d.take ((r + 7) / 8) ++ j) r = dbits d r := by
  apply dbits_ext
  · rw [List.take_append_of_le_length (by rw [List.length_take]; omega), List.take_take, Nat.min_eq_left (by omega)]
  · intro h8
    have hk : r / 8 < ((d.take ((r + 7) / 8))).length := by rw [List.length_take]; omega
    rw [List.getD_eq_getElem?_getD, List.getD_eq_getElem?_getD, List.getElem?_append_left hk, List.getElem?_take_of_lt (by omega)]

theorem behind_set (d j : List (BitVec 8)) (r : Nat) (y : BitVec 8) (hr : r ≤ 8 * d.length) (h8 : r % 8 ≠ 0) : dbits ((d.take ((r + 7) / 8)).set ((r + 7) / 8 - 1) ((((d.take ((r + 7) / 8)).getD ((r + 7) / 8 - 1) 0) &&& ~~~(255#8 >>> (r % 8))) ||| (y &&& (255#8 >>> (r % 8)))) ++ j) r = dbits d r := by
  have ek : (r + 7) / 8 - 1 = r / 8 := by omega
  rw [ek]
  have hk : r / 8 < ((d.take ((r + 7) / 8))).length := by rw [List.length_take]; omega
  apply dbits_ext
  · rw [List.take_append_of_le_length (by rw [List.length_set]; omega), List.take_set, List.take_take, Nat.min_eq_left (by omega), List.set_eq_of_length_le (by rw [List.length_take]; omega)]
  · intro _
    rw [List.getD_eq_getElem?_getD, List.getElem?_append_left (by rw [List.length_set]; exact hk), List.getElem?_set_self hk]
    simp only [Option.getD_some]
    rw [mask_keep]
    rw [List.getD_eq_getElem?_getD, List.getElem?_take_of_lt (by omega), List.getD_eq_getElem?_getD]

end Go.Proofs.YtihigbkanbabeaaDoor
