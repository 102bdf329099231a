/-
  Plain mathematics of math/bits.Div64: moved up and down.
-/
import Derived.Test.YtclbiophgnkggaaGreatDoorWLen
import Derived.Laws.Bits64b
import Derived.Lib.ItoaNum
namespace Go.Proofs.YtclbiophgnkggaaGreatDoor
open Go Go.RowKit
open Wd
namespace Wd

theorem pow_split (s : Nat) (hs : s ≤ 63) : 2 ^ s * 2 ^ (64 - s) = 18446744073709551616 := by
  rw [← Nat.pow_add, show s + (64 - s) = 64 by omega]

/-- The numbers, moved up by s bits: the three parts. -/
theorem up_lt (hi lo y s : Nat) (hs : s ≤ 63) (hlo : lo < 18446744073709551616) (hh : hi < y) : hi * 2 ^ s + lo / 2 ^ (64 - s) < y * 2 ^ s := by
  have hp := pow_split s hs
  have h1 : lo / 2 ^ (64 - s) < 2 ^ s := Nat.div_lt_of_lt_mul (by rw [Nat.mul_comm, hp]; exact hlo)
  have h2 : (hi + 1) * 2 ^ s ≤ y * 2 ^ s := Nat.mul_le_mul_right _ hh
  rw [Nat.add_mul] at h2
  omega
theorem up_or (hi lo s : Nat) (hs : s ≤ 63) (hlo : lo < 18446744073709551616) : (hi * 2 ^ s) ||| (lo / 2 ^ (64 - s)) = hi * 2 ^ s + lo / 2 ^ (64 - s) := by
  have hp := pow_split s hs
  have h1 : lo / 2 ^ (64 - s) < 2 ^ s := Nat.div_lt_of_lt_mul (by rw [Nat.mul_comm, hp]; exact hlo)
  rw [Nat.mul_comm hi, ← Nat.two_pow_add_eq_or_of_lt h1]
theorem up_sum (hi lo s : Nat) (hs : s ≤ 63) : (hi * 2 ^ s + lo / 2 ^ (64 - s)) * 18446744073709551616 + lo * 2 ^ s % 18446744073709551616 = (hi * 18446744073709551616 + lo) * 2 ^ s := by
  have hp := pow_split s hs
  have e1 : lo * 2 ^ s % 18446744073709551616 = 2 ^ s * (lo % 2 ^ (64 - s)) := by
    rw [← hp, Nat.mul_comm lo, Nat.mul_mod_mul_left]
  have e2 := Nat.div_add_mod lo (2 ^ (64 - s))
  rw [e1]
  generalize lo % 2 ^ (64 - s) = r at *
  generalize lo / 2 ^ (64 - s) = d at *
  have e3 : 2 ^ s * lo = 18446744073709551616 * d + 2 ^ s * r := by
    rw [← e2, ← hp]; grind
  have e4 : (hi * 18446744073709551616 + lo) * 2 ^ s = hi * 2 ^ s * 18446744073709551616 + 2 ^ s * lo := by grind
  rw [e4, e3]; grind

/-- y moved up as far as it goes. -/
theorem lead_up (y : Nat) (h0 : 0 < y) (h1 : y < 18446744073709551616) : 64 - Lib.bitLen y ≤ 63 ∧ 9223372036854775808 ≤ y * 2 ^ (64 - Lib.bitLen y) ∧ y * 2 ^ (64 - Lib.bitLen y) < 18446744073709551616 := by
  obtain ⟨b1, b2, b3⟩ := Lib.bitLenAux_bounds 64 y h1 (by omega)
  have hb : Lib.bitLen y ≤ 64 := Lib.bitLen_le y 64 (by decide) h1
  change 1 ≤ Lib.bitLen y at b1
  change 2 ^ (Lib.bitLen y - 1) ≤ y at b2
  change y < 2 ^ Lib.bitLen y at b3
  generalize Lib.bitLen y = k at *
  refine ⟨by omega, ?_, ?_⟩
  · have : 2 ^ (k - 1) * 2 ^ (64 - k) ≤ y * 2 ^ (64 - k) := Nat.mul_le_mul_right _ b2
    rw [← Nat.pow_add, show k - 1 + (64 - k) = 63 by omega] at this
    exact this
  · have : y * 2 ^ (64 - k) < 2 ^ k * 2 ^ (64 - k) := (Nat.mul_lt_mul_right (Nat.two_pow_pos _)).mpr b3
    rw [← Nat.pow_add, show k + (64 - k) = 64 by omega] at this
    exact this

/-- Behind both digits. -/
theorem div_down (z y s : Nat) : z * 2 ^ s / (y * 2 ^ s) = z / y ∧ z * 2 ^ s % (y * 2 ^ s) / 2 ^ s = z % y := by
  have hp : 0 < 2 ^ s := Nat.two_pow_pos _
  exact ⟨Nat.mul_div_mul_right _ _ hp, by rw [Nat.mul_mod_mul_right, Nat.mul_div_cancel _ hp]⟩

theorem wrap_nat (n : Nat) (h : n < 18446744073709551616) : IntKind.u64.wrap (n : Int) = (n : Int) := by rw [IntKind.wrap_u64]; omega
theorem wrap_mul (a b : Nat) : IntKind.u64.wrap ((a : Int) * (b : Int)) = ((a * b % 18446744073709551616 : Nat) : Int) := by
  rw [IntKind.wrap_u64, ← Int.natCast_mul]; omega
theorem wrap_mul_lt (a b : Nat) (h : a * b < 18446744073709551616) : IntKind.u64.wrap ((a : Int) * (b : Int)) = ((a * b : Nat) : Int) := by
  rw [wrap_mul, Nat.mod_eq_of_lt h]
theorem wrap_quo (a b : Nat) (h : a < 18446744073709551616) : IntKind.u64.wrap ((a : Int).tdiv (b : Int)) = ((a / b : Nat) : Int) := by
  rw [← Int.ofNat_tdiv, wrap_nat]; exact Nat.lt_of_le_of_lt (Nat.div_le_self _ _) h
theorem wrap_shl (a s : Nat) : IntKind.u64.wrap ((a : Int) * 2 ^ s) = ((a * 2 ^ s % 18446744073709551616 : Nat) : Int) := by
  rw [← wrap_mul]; simp
/-- The rest behind a digit, as it is reckoned. -/
theorem cut64 (H n q Y u : Nat) (e : q * Y + u = H * 4294967296 + n) (hu : u < 18446744073709551616) : ∃ a1 a2 a3 : Nat, a1 < 18446744073709551616 ∧ a2 < 18446744073709551616 ∧ a3 < 18446744073709551616 ∧
    IntKind.u64.wrap ((H : Int) * 4294967296) = (a1 : Int) ∧ IntKind.u64.wrap ((a1 : Int) + (n : Int)) = (a2 : Int) ∧ IntKind.u64.wrap ((q : Int) * (Y : Int)) = (a3 : Int) ∧ IntKind.u64.wrap ((a2 : Int) - (a3 : Int)) = (u : Int) := by
  refine ⟨H * 4294967296 % 18446744073709551616, (H * 4294967296 % 18446744073709551616 + n) % 18446744073709551616, q * Y % 18446744073709551616, Nat.mod_lt _ (by decide), Nat.mod_lt _ (by decide), Nat.mod_lt _ (by decide), ?_, ?_, wrap_mul _ _, ?_⟩
  · rw [IntKind.wrap_u64]; omega
  · rw [IntKind.wrap_u64]; omega
  · rw [IntKind.wrap_u64]
    generalize q * Y = z at *
    omega
end Wd

end Go.Proofs.YtclbiophgnkggaaGreatDoor
