/-
  Mathematics of binary digits: their length, cut and compared. Nothing of the program.
-/
import Derived.Test.YtclbiophgnkggaaGreatDoorWDvN
namespace Go.Proofs.YtclbiophgnkggaaGreatDoor
open Go
namespace Wd
/-- Binary digit i. -/
def bt (a i : Nat) : Nat := a / 2 ^ i % 2
def bts (a n : Nat) : List Nat := (List.range n).map (bt a)
/-- How many binary digits. -/
def blen (a : Nat) : Nat := if a = 0 then 0 else a.log2 + 1
theorem bts_length (a n : Nat) : (bts a n).length = n := by simp [bts]
theorem bts_getD (a n i : Nat) (h : i < n) : (bts a n).getD i 0 = bt a i := by simp [bts, h]
theorem bts_succ (a n : Nat) : bts a (n + 1) = bts a n ++ [bt a n] := by simp [bts, List.range_succ]
theorem bt_lt (a i : Nat) : bt a i < 2 := Nat.mod_lt _ (by decide)
theorem blen_lt (a : Nat) : a < 2 ^ blen a := by
  unfold blen
  by_cases h : a = 0
  · subst h; simp
  · rw [if_neg h]; exact Nat.lt_log2_self
theorem blen_ge (a k : Nat) (h : blen a = k + 1) : 2 ^ k ≤ a := by
  unfold blen at h
  by_cases h0 : a = 0
  · rw [if_pos h0] at h; omega
  · rw [if_neg h0] at h
    obtain rfl : a.log2 = k := by omega
    exact Nat.log2_self_le h0
theorem blen_le (a n : Nat) (h : a < 2 ^ n) : blen a ≤ n := by
  by_cases h0 : a = 0
  · subst h0; simp [blen]
  · unfold blen; rw [if_neg h0]
    have := (Nat.log2_lt h0).2 h
    omega
theorem bt_zero (a i : Nat) (h : blen a ≤ i) : bt a i = 0 := by
  unfold bt
  rw [Nat.div_eq_of_lt (Nat.lt_of_lt_of_le (blen_lt a) (Nat.pow_le_pow_right (by decide) h))]
theorem bt_top (a k : Nat) (h : blen a = k + 1) : bt a k = 1 := by
  have h1 := blen_ge a k h
  have h2 := blen_lt a
  rw [h, Nat.pow_succ] at h2
  unfold bt
  have : a / 2 ^ k = 1 := by
    refine Nat.div_eq_of_lt_le (by omega) (by omega)
  rw [this]
theorem bt_lim (a i : Nat) : lim a (i / 64) / 2 ^ (i % 64) % 2 = bt a i := by
  unfold lim bt
  have hi : i = 64 * (i / 64) + i % 64 := (Nat.div_add_mod i 64).symm
  have hr : i % 64 < 64 := Nat.mod_lt _ (by decide)
  generalize i / 64 = q at *
  generalize i % 64 = r at *
  rw [hi, Nat.pow_add, ← Nat.div_div_eq_div_mul]
  generalize a / 2 ^ (64 * q) = A
  have hA := Nat.div_add_mod A 18446744073709551616
  generalize A % 18446744073709551616 = A0 at *
  generalize A / 18446744073709551616 = A1 at *
  have hp : 18446744073709551616 = 2 ^ r * (2 * 2 ^ (63 - r)) := by
    rw [← Nat.pow_succ', ← Nat.pow_add, show r + (63 - r + 1) = 64 by omega]
  rw [← hA]
  have e : 18446744073709551616 * A1 + A0 = 2 ^ r * (2 * (2 ^ (63 - r) * A1)) + A0 := by
    rw [hp]; congr 1; grind
  rw [e, Nat.mul_add_div (Nat.two_pow_pos r)]
  omega
/-- Compared. -/
theorem len_lt (a b : Nat) (h : blen a < blen b) : a < b := by
  obtain ⟨k, hk⟩ : ∃ k, blen b = k + 1 := ⟨blen b - 1, by omega⟩
  have h1 := blen_ge b k hk
  have h2 := blen_lt a
  have h3 : 2 ^ blen a ≤ 2 ^ k := Nat.pow_le_pow_right (by decide) (by omega)
  omega
theorem half_eq (a t : Nat) : a / 2 ^ t = 2 * (a / 2 ^ (t + 1)) + bt a t := by
  unfold bt
  rw [Nat.pow_succ, ← Nat.div_div_eq_div_mul]
  omega
theorem bit_lt (a b t : Nat) (h : a / 2 ^ (t + 1) = b / 2 ^ (t + 1)) (hl : bt a t < bt b t) : a < b := by
  have h1 := half_eq a t
  have h2 := half_eq b t
  have h3 : a / 2 ^ t < b / 2 ^ t := by omega
  exact Nat.lt_of_not_le (fun h4 => by have := Nat.div_le_div_right (c := 2 ^ t) h4; omega)
theorem bit_eq (a b t : Nat) (h : a / 2 ^ (t + 1) = b / 2 ^ (t + 1)) (he : bt a t = bt b t) : a / 2 ^ t = b / 2 ^ t := by
  rw [half_eq a t, half_eq b t, h, he]
/-- The program's way of counting bits. -/
theorem blen_bits (a : Nat) (ha : a < 2 ^ 256) : bitsR a = blen a := by
  by_cases h0 : a = 0
  · subst h0; decide
  · obtain ⟨t1, t2⟩ := topi_spec a ha (by omega)
    have hl := lim_lt a (topi a)
    obtain ⟨b1, b2, b3⟩ := Lib.bitLenAux_bounds 64 (lim a (topi a)) hl (by omega)
    change 1 ≤ Lib.bitLen (lim a (topi a)) at b1
    change 2 ^ (Lib.bitLen (lim a (topi a)) - 1) ≤ lim a (topi a) at b2
    change lim a (topi a) < 2 ^ Lib.bitLen (lim a (topi a)) at b3
    unfold bitsR
    generalize Lib.bitLen (lim a (topi a)) = L at *
    generalize lim a (topi a) = y at *
    generalize topi a = i at *
    have hP := pB i
    have e64 : 18446744073709551616 ^ i = 2 ^ (64 * i) := (pow64 i).symm
    have d1 : 2 ^ (64 * i + L - 1) ≤ a := by
      have : y * 18446744073709551616 ^ i ≤ a := by rw [← t2]; exact Nat.div_mul_le_self _ _
      refine Nat.le_trans ?_ this
      rw [e64, show 64 * i + L - 1 = (L - 1) + 64 * i by omega, Nat.pow_add]
      exact Nat.mul_le_mul_right _ b2
    have d2 : a < 2 ^ (64 * i + L) := by
      have h1 : a < (y + 1) * 18446744073709551616 ^ i := by
        have := Nat.lt_div_mul_add (a := a) hP
        rw [t2] at this
        rw [Nat.add_mul]; omega
      refine Nat.lt_of_lt_of_le h1 ?_
      rw [e64, show 64 * i + L = L + 64 * i by omega, Nat.pow_add]
      exact Nat.mul_le_mul_right _ b3
    unfold blen
    rw [if_neg h0]
    have h1 := (Nat.log2_lt h0).2 d2
    have h2 : 64 * i + L - 1 ≤ a.log2 := by
      rcases Nat.lt_or_ge a.log2 (64 * i + L - 1) with h | h
      · have := (Nat.log2_lt h0).1 h; omega
      · exact h
    omega

/-! ### Lists of numbers in slots and cells -/
def vI (l : List Nat) : List Value := l.map (fun (x : Nat) => Value.int .i64 (x : Int))
theorem vI_length (l : List Nat) : (vI l).length = l.length := by simp [vI]
theorem vI_get (l : List Nat) (i : Nat) (h : i < l.length) : (vI l)[i]? = some (.int .i64 ((l.getD i 0 : Nat) : Int)) := by simp [vI, h]
theorem vI_set (l : List Nat) (i : Nat) (x : Nat) : (vI l).set i (.int .i64 (x : Int)) = vI (l.set i x) := by simp [vI, List.map_set]

end Wd
end Go.Proofs.YtclbiophgnkggaaGreatDoor
