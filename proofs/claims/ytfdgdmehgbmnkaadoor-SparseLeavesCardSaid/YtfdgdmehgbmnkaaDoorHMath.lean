/-
  Plain mathematics: what a Hasher holds behind bytes: the state behind the whole pieces, and what waits.
-/
import Derived.Test.YtfdgdmehgbmnkaaDoorFinish
namespace Go.Proofs.YtfdgdmehgbmnkaaDoor
open Go
namespace Sha

/-- Piece number i of a text. -/
def piece (bs : List (BitVec 8)) (i : Nat) : List (BitVec 8) := (bs.drop (64 * i)).take 64
/-- The state behind the first k pieces. -/
def stK (bs : List (BitVec 8)) : Nat → St
  | 0 => st0
  | k + 1 => comp (stK bs k) (words (piece bs k) 16)
def hst (bs : List (BitVec 8)) : St := stK bs (bs.length / 64)
def rest (bs : List (BitVec 8)) : List (BitVec 8) := bs.drop (64 * (bs.length / 64))
def hwait (bs : List (BitVec 8)) : List (BitVec 8) := rest bs ++ List.replicate (64 - bs.length % 64) 0#8

theorem rest_length (bs : List (BitVec 8)) : (rest bs).length = bs.length % 64 := by
  unfold rest; rw [List.length_drop]; have := Nat.div_add_mod bs.length 64; omega
theorem hwait_length (bs : List (BitVec 8)) : (hwait bs).length = 64 := by
  unfold hwait; rw [List.length_append, rest_length, List.length_replicate]; have := Nat.mod_lt bs.length (show 0 < 64 by decide); omega

theorem piece_append (bs d : List (BitVec 8)) (i : Nat) (h : 64 * (i + 1) ≤ bs.length) : piece (bs ++ d) i = piece bs i := by
  unfold piece
  rw [List.drop_append_of_le_length (by omega), List.take_append_of_le_length (by rw [List.length_drop]; omega)]
theorem stK_append (bs d : List (BitVec 8)) (k : Nat) (h : 64 * k ≤ bs.length) : stK (bs ++ d) k = stK bs k := by
  induction k with
  | zero => rfl
  | succ k ih => simp only [stK]; rw [ih (by omega), piece_append bs d k h]

theorem hwait_take (bs : List (BitVec 8)) : (hwait bs).take (bs.length % 64) = rest bs := by
  unfold hwait; rw [List.take_append_of_le_length (by rw [rest_length]; exact Nat.le_refl _), List.take_of_length_le (by rw [rest_length]; exact Nat.le_refl _)]
theorem hwait_drop (bs : List (BitVec 8)) (m : Nat) : (hwait bs).drop (bs.length % 64 + m) = List.replicate (64 - bs.length % 64 - m) 0#8 := by
  unfold hwait
  rw [List.drop_append, List.drop_of_length_le (by rw [rest_length]; omega), rest_length, List.nil_append, List.drop_replicate]
  congr 1; omega

/-- No piece is full. -/
theorem part_div (bs d : List (BitVec 8)) (h : bs.length % 64 + d.length < 64) : (bs ++ d).length / 64 = bs.length / 64 ∧ (bs ++ d).length % 64 = bs.length % 64 + d.length := by
  rw [List.length_append]; have := Nat.div_add_mod bs.length 64; omega
theorem hst_part (bs d : List (BitVec 8)) (h : bs.length % 64 + d.length < 64) : hst (bs ++ d) = hst bs := by
  unfold hst; rw [(part_div bs d h).1, stK_append _ _ _ (by have := Nat.div_add_mod bs.length 64; omega)]
theorem hwait_part (bs d : List (BitVec 8)) (h : bs.length % 64 + d.length < 64) : hwait (bs ++ d) = (hwait bs).take (bs.length % 64) ++ d ++ (hwait bs).drop (bs.length % 64 + d.length) := by
  rw [hwait_take, hwait_drop]
  unfold hwait
  rw [(part_div bs d h).2]
  unfold rest
  rw [(part_div bs d h).1, List.drop_append_of_le_length (by have := Nat.div_add_mod bs.length 64; omega)]
  congr 2; omega
/-- A piece gets full. -/
theorem full_div (bs d : List (BitVec 8)) (h : bs.length % 64 + d.length = 64) : (bs ++ d).length / 64 = bs.length / 64 + 1 ∧ (bs ++ d).length % 64 = 0 := by
  rw [List.length_append]; have := Nat.div_add_mod bs.length 64; omega
theorem hst_full (bs d : List (BitVec 8)) (h : bs.length % 64 + d.length = 64) : hst (bs ++ d) = comp (hst bs) (words ((hwait bs).take (bs.length % 64) ++ d ++ (hwait bs).drop (bs.length % 64 + d.length)) 16) := by
  have hd := Nat.div_add_mod bs.length 64
  rw [hwait_take, hwait_drop]
  unfold hst
  rw [(full_div bs d h).1]
  simp only [stK]
  rw [stK_append _ _ _ (by omega)]
  congr 2
  unfold piece
  rw [List.drop_append_of_le_length (by omega), List.take_of_length_le (by rw [List.length_append, List.length_drop]; omega)]
  rw [show 64 - bs.length % 64 - d.length = 0 by omega, List.replicate_zero, List.append_nil]
  rfl
theorem hwait_full (bs d : List (BitVec 8)) (h : bs.length % 64 + d.length = 64) : hwait (bs ++ d) = noughts := by
  have hd := Nat.div_add_mod bs.length 64
  unfold hwait
  rw [(full_div bs d h).2]
  unfold rest
  rw [(full_div bs d h).1, List.drop_of_length_le (by rw [List.length_append]; omega)]
  rfl

/-- The cells of a Hasher. -/
def hcells (s : St) (t : List (BitVec 8)) (n : Int) : List Value := vW s.list ++ vB t ++ [.int .i64 n]
theorem hcells_length (s : St) (t : List (BitVec 8)) (n : Int) (h : t.length = 64) : (hcells s t n).length = 73 := by
  unfold hcells; rw [List.length_append, List.length_append, vW_length, vB_length, h]; rfl

theorem hcells_taken (s : St) (t : List (BitVec 8)) (n : Int) (h : t.length = 64) : (hcells s t n)[72]? = some (.int .i64 n) := by
  unfold hcells
  rw [List.getElem?_append_right (by rw [List.length_append, vW_length, vB_length, h]; exact Nat.le_refl 72)]
  rw [List.length_append, vW_length, vB_length, h]; rfl
theorem hcells_set (s : St) (t : List (BitVec 8)) (n m : Int) (h : t.length = 64) : (hcells s t n).set 72 (.int .i64 m) = hcells s t m := by
  unfold hcells
  rw [List.set_append_right _ _ (by rw [List.length_append, vW_length, vB_length, h]; exact Nat.le_refl 72)]
  rw [List.length_append, vW_length, vB_length, h]; rfl
theorem hcells_state (s : St) (t : List (BitVec 8)) (n : Int) (j : Nat) (v : Value) (hv : (vW s.list)[j]? = some v) : (hcells s t n)[0 + j]? = some v := by
  unfold hcells
  have hj : j < 8 := (List.getElem?_eq_some_iff.1 hv).1
  rw [List.append_assoc, List.getElem?_append_left (by rw [vW_length]; simpa [St.list] using hj), Nat.zero_add, hv]
theorem hcells_wait (s : St) (t : List (BitVec 8)) (n : Int) (j : Nat) (v : Value) (hv : (vB t)[j]? = some v) : (hcells s t n)[8 + j]? = some v := by
  unfold hcells
  have hj : j < (vB t).length := (List.getElem?_eq_some_iff.1 hv).1
  rw [List.append_assoc, List.getElem?_append_right (by rw [vW_length]; simp [St.list]), show 8 + j - (vW s.list).length = j by rw [vW_length]; simp [St.list], List.getElem?_append_left hj, hv]
/-- Bytes laid into what waits. -/
theorem hcells_splice (s : St) (t e : List (BitVec 8)) (n : Int) (o : Nat) (h : t.length = 64) (ho : o + e.length ≤ 64) :
    (hcells s t n).take (8 + o) ++ vB e ++ (hcells s t n).drop (8 + o + (vB e).length) = hcells s (t.take o ++ e ++ t.drop (o + e.length)) n := by
  have h8 : (vW s.list).length = 8 := rfl
  unfold hcells
  rw [List.append_assoc (vW s.list), List.take_append, List.drop_append, h8, List.take_of_length_le (by rw [h8]; omega), List.drop_of_length_le (by rw [h8]; omega), vB_length]
  rw [show 8 + o - 8 = o by omega, show 8 + o + e.length - 8 = o + e.length by omega, List.take_append_of_le_length (by rw [vB_length]; omega), List.drop_append_of_le_length (by rw [vB_length]; omega)]
  simp [vB, List.map_take, List.map_drop]
/-- Another state. -/
theorem hcells_over (s r : St) (t : List (BitVec 8)) (n : Int) : (hcells s t n).take 0 ++ vW r.list ++ (hcells s t n).drop (0 + (vW r.list).length) = hcells r t n := by
  have h8 : (vW s.list).length = 8 := rfl
  have h8' : (vW r.list).length = 8 := rfl
  unfold hcells
  rw [List.append_assoc (vW s.list), h8', List.take_zero, List.nil_append, List.drop_append, h8, List.drop_of_length_le (by rw [h8]; omega)]
  simp

/-- The digest of bytes. -/
def dig (bs : List (BitVec 8)) : List (BitVec 8) := (fin (hst bs) (hwait bs) (8 * bs.length)).bytes
theorem dig_length (bs : List (BitVec 8)) : (dig bs).length = 32 := St.bytes_length _

end Sha
end Go.Proofs.YtfdgdmehgbmnkaaDoor
