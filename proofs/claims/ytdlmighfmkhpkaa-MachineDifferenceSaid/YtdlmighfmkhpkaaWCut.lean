/-
  wide.cutDigits.
-/
import Derived.Test.YtdlmighfmkhpkaaWDiv
import Derived.Test.YtdlmighfmkhpkaaWCutM

namespace Go.Proofs.Ytdlmighfmkhpkaa
open Go Go.RowKit
open Wd

theorem div64_one (hi lo y : Nat) (hh0 : 0 < hi) (hh : hi < y) (hl : lo < 18446744073709551616) (hy : y < 18446744073709551616) (w : World) :
    Calls Try.prog 92 #[.int .u64 (hi : Int), .int .u64 (lo : Int), .int .u64 (y : Int)] w fun e w' => e = .returned (.tuple #[.int .u64 (((hi * 18446744073709551616 + lo) / y : Nat) : Int), .int .u64 (((hi * 18446744073709551616 + lo) % y : Nat) : Int)]) ∧ w' = w := by
  obtain ⟨s, hs⟩ : ∃ s, s = 64 - Lib.bitLen y := ⟨_, rfl⟩
  have HL : Hid (∀ w, Calls Try.prog 85 #[.int .u64 (y : Int)] w fun e w' => e = .returned (.int .i64 (s : Int)) ∧ w' = w) := by rw [hs]; exact fun w => lead_any y hy w
  obtain ⟨s1, s2, s3⟩ := lead_up y (by omega) hy
  rw [← hs] at s1 s2 s3
  clear hs
  have u1 := up_lt hi lo y s s1 hl hh
  have u2 := up_or hi lo s s1 hl
  have u3 := up_sum hi lo s s1
  obtain ⟨d1, d2⟩ := div_down (hi * 18446744073709551616 + lo) y s
  rw [← u3] at d1 d2
  have eB : IntKind.u64.wrap ((hi : Int) * 2 ^ s) = ((hi * 2 ^ s % 18446744073709551616 : Nat) : Int) := wrap_shl hi s
  have eY : IntKind.u64.wrap ((y : Int) * 2 ^ s) = ((y * 2 ^ s % 18446744073709551616 : Nat) : Int) := wrap_shl y s
  have eL : IntKind.u64.wrap ((lo : Int) * 2 ^ s) = ((lo * 2 ^ s % 18446744073709551616 : Nat) : Int) := wrap_shl lo s
  have hL : lo * 2 ^ s % 18446744073709551616 < 18446744073709551616 := Nat.mod_lt _ (by decide)
  rw [Nat.mod_eq_of_lt s3] at eY
  have eK : (lo : Int) / 2 ^ (64 - s) = ((lo / 2 ^ (64 - s) : Nat) : Int) := by simp
  obtain ⟨QQ, hQQ⟩ : ∃ x, x = (hi * 18446744073709551616 + lo) / y := ⟨_, rfl⟩
  obtain ⟨RR, hRR⟩ : ∃ x, x = (hi * 18446744073709551616 + lo) % y := ⟨_, rfl⟩
  obtain ⟨L, hLe⟩ : ∃ x, x = lo * 2 ^ s % 18446744073709551616 := ⟨_, rfl⟩
  obtain ⟨B, hBe⟩ : ∃ x, x = hi * 2 ^ s := ⟨_, rfl⟩
  obtain ⟨C, hCe⟩ : ∃ x, x = lo / 2 ^ (64 - s) := ⟨_, rfl⟩
  obtain ⟨Y, hYe⟩ : ∃ x, x = y * 2 ^ s := ⟨_, rfl⟩
  rw [← hQQ] at d1
  rw [← hRR] at d2
  rw [← hQQ, ← hRR]
  rw [← hLe] at eL hL u3 d1 d2
  rw [← hYe] at eY s2 s3 u1 d1 d2
  rw [← hBe] at eB u1 u2 u3 d1 d2
  rw [← hCe] at u1 u2 u3 d1 d2 eK
  clear hQQ hRR hLe hBe hCe hYe u3
  obtain ⟨H, hHe⟩ : ∃ x, x = B + C := ⟨_, rfl⟩
  rw [← hHe] at u1 u2 d1 d2
  have hB : B < 18446744073709551616 := by omega
  rw [Nat.mod_eq_of_lt hB] at eB
  have eO : bits .or .u64 (B : Int) ((lo : Int) / 2 ^ (64 - s)) = (H : Int) := by
    rw [eK, bits_or_u64_nat _ _ hB (by omega), u2]
  clear u2 eK hHe
  have eA : bits .and .u64 (Y : Int) 4294967295 = ((Y % 4294967296 : Nat) : Int) := by
    rw [show (4294967295 : Int) = ((2 ^ 32 - 1 : Nat) : Int) by rfl, bits_and_u64_nat _ _ s3 (by decide), Nat.and_two_pow_sub_one_eq_mod]
  have eA' : bits .and .u64 (L : Int) 4294967295 = ((L % 4294967296 : Nat) : Int) := by
    rw [show (4294967295 : Int) = ((2 ^ 32 - 1 : Nat) : Int) by rfl, bits_and_u64_nat _ _ hL (by decide), Nat.and_two_pow_sub_one_eq_mod]
  have eD : (Y : Int) / 4294967296 = ((Y / 4294967296 : Nat) : Int) := by simp
  have eD' : (L : Int) / 4294967296 = ((L / 4294967296 : Nat) : Int) := by simp
  obtain ⟨v1, e1⟩ : ∃ v1, v1 = Y / 4294967296 := ⟨_, rfl⟩
  obtain ⟨v0, e0⟩ : ∃ v0, v0 = Y % 4294967296 := ⟨_, rfl⟩
  obtain ⟨n1, f1⟩ : ∃ n1, n1 = L / 4294967296 := ⟨_, rfl⟩
  obtain ⟨n0, f0⟩ : ∃ n0, n0 = L % 4294967296 := ⟨_, rfl⟩
  have HV : Y = v1 * 4294967296 + v0 := by omega
  have HN : L = n1 * 4294967296 + n0 := by omega
  rw [← e1] at eD
  rw [← e0] at eA
  rw [← f1] at eD'
  rw [← f0] at eA'
  have b1 : 2147483648 ≤ v1 := by omega
  have b1' : v1 < 4294967296 := by omega
  have b0 : v0 < 4294967296 := by omega
  have c1 : n1 < 4294967296 := by omega
  have c0 : n0 < 4294967296 := by omega
  have hYp : 0 < Y := by omega
  clear e1 e0 f1 f0
  have hH : H < 18446744073709551616 := by omega
  have hU : rst H n1 Y < Y := rst_lt H n1 Y hYp
  have hF : rst (rst H n1 Y) n0 Y < Y := rst_lt (rst H n1 Y) n0 Y hYp
  obtain ⟨t1, t2⟩ := two_digits H n1 n0 Y hYp
  have eT : H * 18446744073709551616 + n1 * 4294967296 + n0 = H * 18446744073709551616 + L := by omega
  rw [eT] at t1 t2
  rw [t1] at d1
  rw [t2] at d2
  obtain ⟨a1, a2, a3, k1, k2, k3, g1, g2, g3, g4⟩ := cut64 H n1 (dgt H n1 Y) Y (rst H n1 Y) (dgt_rst H n1 Y) (by omega)
  obtain ⟨o1, o2, o3, k1', k2', k3', i1, i2, i3, i4⟩ := cut64 (rst H n1 Y) n0 (dgt (rst H n1 Y) n0 Y) Y (rst (rst H n1 Y) n0 Y) (dgt_rst (rst H n1 Y) n0 Y) (by omega)
  have hD := dgt_lt H n1 Y c1 u1
  have hE := dgt_lt (rst H n1 Y) n0 Y c0 hU
  have hU' : rst H n1 Y < 18446744073709551616 := by omega
  have quo : ∀ x : Nat, x < 18446744073709551616 → IntKind.u64.wrap ((x : Int) / (v1 : Int)) = ((x / v1 : Nat) : Int) := fun x hx => by
    rw [show (x : Int) / (v1 : Int) = ((x / v1 : Nat) : Int) by simp, wrap_nat _ (Nat.lt_of_le_of_lt (Nat.div_le_self _ _) hx)]
  have mul : ∀ x : Nat, x < 18446744073709551616 → IntKind.u64.wrap (((x / v1 : Nat) : Int) * (v1 : Int)) = ((x / v1 * v1 : Nat) : Int) := fun x hx => wrap_mul_lt _ _ (Nat.lt_of_le_of_lt (Nat.div_mul_le_self x v1) hx)
  have sub : ∀ x : Nat, (x : Int) - ((x / v1 * v1 : Nat) : Int) = ((x % v1 : Nat) : Int) := fun x => by have := Nat.div_add_mod' x v1; omega
  exact div64_core hi lo y s B Y L H QQ RR v1 v0 n1 n0 (H / v1) (H % v1) (H / v1 * v1) hh0 hh hl hy s1 HL eB eY eL eO u1 s3 hL eA eD eA' eD' b1 b1' b0 c1 c0
    (Gs.start H n1 Y v1 v0 HV b1 b1' c1) (quo H hH) (mul H hH) (Nat.div_mul_le_self H v1) (sub H)
    (dgt H n1 Y) (rst H n1 Y) a1 a2 a3 (rst H n1 Y / v1) (rst H n1 Y / v1 * v1) (rst H n1 Y % v1) rfl hU k1 k2 k3 g1 g2 g3 g4
    (Gs.start (rst H n1 Y) n0 Y v1 v0 HV b1 b1' c0) (quo _ hU') (mul _ hU') (Nat.div_mul_le_self _ v1) (sub _)
    (dgt (rst H n1 Y) n0 Y) (rst (rst H n1 Y) n0 Y) o1 o2 o3 rfl hF k1' k2' k3' i1 i2 i3 i4 hD hE d1 d2 w

/-- Div64: two parts by a number above the first. -/
theorem div64_any (hi lo y : Nat) (hh : hi < y) (hl : lo < 18446744073709551616) (hy : y < 18446744073709551616) (w : World) :
    Calls Try.prog 92 #[.int .u64 (hi : Int), .int .u64 (lo : Int), .int .u64 (y : Int)] w fun e w' => e = .returned (.tuple #[.int .u64 (((hi * 18446744073709551616 + lo) / y : Nat) : Int), .int .u64 (((hi * 18446744073709551616 + lo) % y : Nat) : Int)]) ∧ (w' = w ∨ w' = w.drew) := by
  rcases Nat.eq_zero_or_pos hi with h0 | h0
  · subst h0
    refine (div64_zero lo y hl hy hh w).mono ?_
    rintro e w' ⟨he, hw⟩
    exact ⟨by rw [he, Nat.zero_mul, Nat.zero_add], Or.inr hw⟩
  · refine (div64_one hi lo y h0 hh hl hy w).mono ?_
    rintro e w' ⟨he, hw⟩
    exact ⟨he, Or.inl hw⟩

end Go.Proofs.Ytdlmighfmkhpkaa

namespace Go.Proofs.Ytdlmighfmkhpkaa
open Go Go.RowKit
open Wd

theorem div64_N (hi lo y : Nat) (hh : hi < y) (hl : lo < 18446744073709551616) (hy : y < 18446744073709551616) (w : World) :
    Calls Try.prog 92 #[.int .u64 (hi : Int), .int .u64 (lo : Int), .int .u64 (y : Int)] w fun e w' => e = .returned (.tuple #[.int .u64 (((hi * 18446744073709551616 + lo) / y : Nat) : Int), .int .u64 (((hi * 18446744073709551616 + lo) % y : Nat) : Int)]) ∧ ∃ n, w' = w.drewN n := by
  refine (div64_any hi lo y hh hl hy w).mono ?_
  rintro e w' ⟨he, hw⟩
  refine ⟨he, ?_⟩
  rcases hw with h | h
  · exact ⟨0, by rw [h, World.drewN_zero]⟩
  · exact ⟨1, h⟩

end Go.Proofs.Ytdlmighfmkhpkaa
