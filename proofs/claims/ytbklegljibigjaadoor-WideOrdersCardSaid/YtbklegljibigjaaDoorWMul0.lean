/-
  math/bits.Mul64, wide.mulAdd.
-/
import Derived.Test.YtbklegljibigjaaDoorWSub
import Derived.Shelf.Bits.Mul64
namespace Go.Proofs.YtbklegljibigjaaDoor
open Go Go.RowKit
open Wd

set_option maxHeartbeats 1000000 in
theorem mul64_any (x y : Nat) (hx : x < 18446744073709551616) (hy : y < 18446744073709551616) (w : World) :
    Calls Tryd.prog 71 #[.int .u64 (x : Int), .int .u64 (y : Int)] w fun e w' => e = .returned (.tuple #[.int .u64 ((x * y / 18446744073709551616 : Nat) : Int), .int .u64 ((x * y % 18446744073709551616 : Nat) : Int)]) ∧ w' = w := by
  obtain ⟨d1, d2, d3, top⟩ := Lib.mul64_hi x y hx hy
  have q1 := Lib.half_mul_le (a := x / 4294967296) (b := y / 4294967296) (by omega) (by omega)
  have q2 := Lib.half_mul_le (a := x / 4294967296) (b := y % 4294967296) (by omega) (by omega)
  have q3 := Lib.half_mul_le (a := x % 4294967296) (b := y / 4294967296) (by omega) (by omega)
  have r1 : x / 4294967296 * (y / 4294967296) < 18446744073709551616 := by omega
  have r2 : x / 4294967296 * (y % 4294967296) < 18446744073709551616 := by omega
  have r3 : x % 4294967296 * (y / 4294967296) < 18446744073709551616 := by omega
  have s1 : x / 4294967296 * (y / 4294967296) + (x / 4294967296 * (y % 4294967296) + x % 4294967296 * (y % 4294967296) / 4294967296) / 4294967296 < 18446744073709551616 := by omega
  have s2 : x / 4294967296 * (y / 4294967296) + (x / 4294967296 * (y % 4294967296) + x % 4294967296 * (y % 4294967296) / 4294967296) / 4294967296 + ((x / 4294967296 * (y % 4294967296) + x % 4294967296 * (y % 4294967296) / 4294967296) % 4294967296 + x % 4294967296 * (y / 4294967296)) / 4294967296 < 18446744073709551616 := by omega
  go_enter Tryd.func71, Tryd.ntmps71
  go_wp2
  simp only [Mul64.maskN x hx, Mul64.maskN y hy, Mul64.divN, Mul64.mulN, Mul64.addN, Mul64.wrapN _ d1, Mul64.wrapN _ r2, Mul64.wrapN _ d2, Mul64.maskN _ d2, Mul64.wrapN _ r3, Mul64.wrapN _ d3, Mul64.wrapN _ r1, Mul64.wrapN _ s1, Mul64.wrapN _ s2, Mul64.wrapM (x * y)]
  rw [top]
  go_ret2
  exact ⟨rfl, rfl⟩

theorem add64_run0 (x y : Nat) (w : World) : (callFunc 44 #[.int .u64 (x : Int), .int .u64 (y : Int), .int .u64 0]).run Tryd.prog w =
    .ok (.value (.tuple #[.int .u64 (((x + y) % 18446744073709551616 : Nat) : Int), .int .u64 (((x + y) / 18446744073709551616 : Nat) : Int)])) w := add64_run x y 0 (by omega) w
theorem mad_bound (x y c : Nat) (hx : x < 18446744073709551616) (hy : y < 18446744073709551616) (hc : c < 18446744073709551616) :
    (x * y + c) / 18446744073709551616 < 18446744073709551616 ∧ x * y / 18446744073709551616 + (x * y % 18446744073709551616 + c) / 18446744073709551616 = (x * y + c) / 18446744073709551616 ∧ (x * y % 18446744073709551616 + c) % 18446744073709551616 = (x * y + c) % 18446744073709551616 := by
  have h : x * y ≤ 18446744073709551615 * 18446744073709551615 := Nat.mul_le_mul (by omega) (by omega)
  generalize x * y = m at *
  omega

set_option maxHeartbeats 1000000 in
theorem mulAdd_any (x y c : Nat) (hx : x < 18446744073709551616) (hy : y < 18446744073709551616) (hc : c < 18446744073709551616) (w : World) :
    Calls Tryd.prog 63 #[.int .u64 (x : Int), .int .u64 (y : Int), .int .u64 (c : Int)] w fun e w' => e = .returned (.tuple #[.int .u64 (((x * y + c) / 18446744073709551616 : Nat) : Int), .int .u64 (((x * y + c) % 18446744073709551616 : Nat) : Int)]) ∧ w' = w := by
  obtain ⟨b1, b2, b3⟩ := mad_bound x y c hx hy hc
  have HM : Hid (∀ w, _) := mul64_any x y hx hy
  have H64 : Hid (∀ w, _) := add64_run0 (x * y % 18446744073709551616) c
  rw [b3] at H64
  obtain ⟨hi, hhi⟩ : ∃ hi, hi = x * y / 18446744073709551616 := ⟨_, rfl⟩
  obtain ⟨lo, hlo⟩ : ∃ lo, lo = x * y % 18446744073709551616 := ⟨_, rfl⟩
  obtain ⟨ov, hov⟩ : ∃ ov, ov = (x * y % 18446744073709551616 + c) / 18446744073709551616 := ⟨_, rfl⟩
  obtain ⟨rh, hrh⟩ : ∃ rh, rh = (x * y + c) / 18446744073709551616 := ⟨_, rfl⟩
  obtain ⟨rl, hrl⟩ : ∃ rl, rl = (x * y + c) % 18446744073709551616 := ⟨_, rfl⟩
  rw [← hhi, ← hlo] at HM
  rw [← hlo] at hov
  rw [← hlo, ← hov, ← hrl] at H64
  rw [← hhi, ← hlo, ← hov, ← hrh] at b2
  rw [← hrh] at b1
  rw [← hrh, ← hrl]
  clear hhi hlo hov hrh hrl b3 hx hy hc
  go_enter Tryd.func63, Tryd.ntmps63
  have h64 := H64.out
  go_wp2_with (go_at_call 71; refine (HM.out w).mono ?_; rintro e w ⟨rfl, rfl⟩)
  go_ret2
  exact ⟨by simp; omega, rfl⟩

end Go.Proofs.YtbklegljibigjaaDoor
