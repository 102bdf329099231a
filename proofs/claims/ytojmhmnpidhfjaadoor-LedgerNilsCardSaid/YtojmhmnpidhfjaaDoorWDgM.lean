/-
  Mathematics of binary digits put together again. Nothing of the program.
-/
import Derived.Test.YtojmhmnpidhfjaaDoorWDvN

namespace Go.Proofs.YtojmhmnpidhfjaaDoor
open Go
namespace Wd
/-- Binary digit i. -/
def bt (a i : Nat) : Nat := a / 2 ^ i % 2
def bts (a n : Nat) : List Nat := (List.range n).map (bt a)
/-- How many binary digits. -/
def blen (a : Nat) : Nat := if a = 0 then 0 else a.log2 + 1
theorem bts_length (a n : Nat) : (bts a n).length = n := by simp [bts]
theorem bts_getD (a n i : Nat) (h : i < n) : (bts a n).getD i 0 = bt a i := by simp [bts, h]
theorem bts_succ (a n : Nat) : bts a (n + 1) = bts a n ++ [bt a n] := by simp [bts, List.range_succ]
theorem bt_lt (a i : Nat) : bt a i < 2 := Nat.mod_lt _ (by decide)
theorem blen_lt (a : Nat) : a < 2 ^ blen a := by
  unfold blen
  by_cases h : a = 0
  · subst h; simp
  · rw [if_neg h]; exact Nat.lt_log2_self
theorem blen_ge (a k : Nat) (h : blen a = k + 1) : 2 ^ k ≤ a := by
  unfold blen at h
  by_cases h0 : a = 0
  · rw [if_pos h0] at h; omega
  · rw [if_neg h0] at h
    obtain rfl : a.log2 = k := by omega
    exact Nat.log2_self_le h0
theorem blen_le (a n : Nat) (h : a < 2 ^ n) : blen a ≤ n := by
  by_cases h0 : a = 0
  · subst h0; simp [blen]
  · unfold blen; rw [if_neg h0]
    have := (Nat.log2_lt h0).2 h
    omega
theorem bt_zero (a i : Nat) (h : blen a ≤ i) : bt a i = 0 := by
  unfold bt
  rw [Nat.div_eq_of_lt (Nat.lt_of_lt_of_le (blen_lt a) (Nat.pow_le_pow_right (by decide) h))]
theorem bt_top (a k : Nat) (h : blen a = k + 1) : bt a k = 1 := by
  have h1 := blen_ge a k h
  have h2 := blen_lt a
  rw [h, Nat.pow_succ] at h2
  unfold bt
  have : a / 2 ^ k = 1 := by
    refine Nat.div_eq_of_lt_le (by omega) (by omega)
  rw [this]
theorem bt_lim (a i : Nat) : lim a (i / 64) / 2 ^ (i % 64) % 2 = bt a i := by
  unfold lim bt
  have hi : i = 64 * (i / 64) + i % 64 := (Nat.div_add_mod i 64).symm
  have hr : i % 64 < 64 := Nat.mod_lt _ (by decide)
  generalize i / 64 = q at *
  generalize i % 64 = r at *
  rw [hi, Nat.pow_add, ← Nat.div_div_eq_div_mul]
  generalize a / 2 ^ (64 * q) = A
  have hA := Nat.div_add_mod A 18446744073709551616
  generalize A % 18446744073709551616 = A0 at *
  generalize A / 18446744073709551616 = A1 at *
  have hp : 18446744073709551616 = 2 ^ r * (2 * 2 ^ (63 - r)) := by
    rw [← Nat.pow_succ', ← Nat.pow_add, show r + (63 - r + 1) = 64 by omega]
  rw [← hA]
  have e : 18446744073709551616 * A1 + A0 = 2 ^ r * (2 * (2 ^ (63 - r) * A1)) + A0 := by
    rw [hp]; congr 1; grind
  rw [e, Nat.mul_add_div (Nat.two_pow_pos r)]
  omega
/-- Compared. -/
theorem len_lt (a b : Nat) (h : blen a < blen b) : a < b := by
  obtain ⟨k, hk⟩ : ∃ k, blen b = k + 1 := ⟨blen b - 1, by omega⟩
  have h1 := blen_ge b k hk
  have h2 := blen_lt a
  have h3 : 2 ^ blen a ≤ 2 ^ k := Nat.pow_le_pow_right (by decide) (by omega)
  omega
theorem half_eq (a t : Nat) : a / 2 ^ t = 2 * (a / 2 ^ (t + 1)) + bt a t := by
  unfold bt
  rw [Nat.pow_succ, ← Nat.div_div_eq_div_mul]
  omega
theorem bit_lt (a b t : Nat) (h : a / 2 ^ (t + 1) = b / 2 ^ (t + 1)) (hl : bt a t < bt b t) : a < b := by
  have h1 := half_eq a t
  have h2 := half_eq b t
  have h3 : a / 2 ^ t < b / 2 ^ t := by omega
  exact Nat.lt_of_not_le (fun h4 => by have := Nat.div_le_div_right (c := 2 ^ t) h4; omega)
theorem bit_eq (a b t : Nat) (h : a / 2 ^ (t + 1) = b / 2 ^ (t + 1)) (he : bt a t = bt b t) : a / 2 ^ t = b / 2 ^ t := by
  rw [half_eq a t, half_eq b t, h, he]
/-- The program's way of counting bits. -/
theorem blen_bits (a : Nat) (ha : a < 2 ^ 256) : bitsR a = blen a := by
  by_cases h0 : a = 0
  · subst h0; decide
  · obtain ⟨t1, t2⟩ := topi_spec a ha (by omega)
    have hl := lim_lt a (topi a)
    obtain ⟨b1, b2, b3⟩ := Lib.bitLenAux_bounds 64 (lim a (topi a)) hl (by omega)
    change 1 ≤ Lib.bitLen (lim a (topi a)) at b1
    change 2 ^ (Lib.bitLen (lim a (topi a)) - 1) ≤ lim a (topi a) at b2
    change lim a (topi a) < 2 ^ Lib.bitLen (lim a (topi a)) at b3
    unfold bitsR
    generalize Lib.bitLen (lim a (topi a)) = L at *
    generalize lim a (topi a) = y at *
    generalize topi a = i at *
    have hP := pB i
    have e64 : 18446744073709551616 ^ i = 2 ^ (64 * i) := (pow64 i).symm
    have d1 : 2 ^ (64 * i + L - 1) ≤ a := by
      have : y * 18446744073709551616 ^ i ≤ a := by rw [← t2]; exact Nat.div_mul_le_self _ _
      refine Nat.le_trans ?_ this
      rw [e64, show 64 * i + L - 1 = (L - 1) + 64 * i by omega, Nat.pow_add]
      exact Nat.mul_le_mul_right _ b2
    have d2 : a < 2 ^ (64 * i + L) := by
      have h1 : a < (y + 1) * 18446744073709551616 ^ i := by
        have := Nat.lt_div_mul_add (a := a) hP
        rw [t2] at this
        rw [Nat.add_mul]; omega
      refine Nat.lt_of_lt_of_le h1 ?_
      rw [e64, show 64 * i + L = L + 64 * i by omega, Nat.pow_add]
      exact Nat.mul_le_mul_right _ b3
    unfold blen
    rw [if_neg h0]
    have h1 := (Nat.log2_lt h0).2 d2
    have h2 : 64 * i + L - 1 ≤ a.log2 := by
      rcases Nat.lt_or_ge a.log2 (64 * i + L - 1) with h | h
      · have := (Nat.log2_lt h0).1 h; omega
      · exact h
    omega

/-! ### Lists of numbers in slots and cells -/
def vI (l : List Nat) : List Value := l.map (fun (x : Nat) => Value.int .i64 (x : Int))
theorem vI_length (l : List Nat) : (vI l).length = l.length := by simp [vI]
theorem vI_get (l : List Nat) (i : Nat) (h : i < l.length) : (vI l)[i]? = some (.int .i64 ((l.getD i 0 : Nat) : Int)) := by simp [vI, h]
theorem vI_set (l : List Nat) (i : Nat) (x : Nat) : (vI l).set i (.int .i64 (x : Int)) = vI (l.set i x) := by simp [vI, List.map_set]

end Wd
end Go.Proofs.YtojmhmnpidhfjaaDoor

namespace Go.Proofs.YtojmhmnpidhfjaaDoor
open Go
namespace Wd
theorem mod_bit (m t : Nat) : m % 2 ^ (t + 1) = m % 2 ^ t + bt m t * 2 ^ t := by
  unfold bt
  rw [Nat.pow_succ, Nat.mod_mul, Nat.mul_comm]
theorem bt_mod (m t j : Nat) (h : j < t) : bt (m % 2 ^ t) j = bt m j := by
  unfold bt
  have e : 2 ^ t = 2 ^ j * (2 * 2 ^ (t - j - 1)) := by
    rw [← Nat.pow_succ', ← Nat.pow_add, show j + (t - j - 1 + 1) = t by omega]
  rw [e, Nat.mod_mul_right_div_self, Nat.mod_mul_right_mod]
/-- One digit more of a number in parts. -/
theorem put_bit (m t : Nat) (h : t < 256) : lim (m % 2 ^ t) (t / 64) < 2 ^ (t % 64) ∧ (dgs (m % 2 ^ t) 4).set (t / 64) (lim (m % 2 ^ t) (t / 64) + bt m t * 2 ^ (t % 64)) = dgs (m % 2 ^ (t + 1)) 4 ∧ bt m t * 2 ^ (t % 64) < 18446744073709551616 := by
  have hr : t % 64 < 64 := Nat.mod_lt _ (by decide)
  have hq : t / 64 < 4 := by omega
  have ht : 2 ^ t = 18446744073709551616 ^ (t / 64) * 2 ^ (t % 64) := by
    rw [← pow64, ← Nat.pow_add, Nat.div_add_mod]
  have hM : m % 2 ^ t < 2 ^ t := Nat.mod_lt _ (Nat.two_pow_pos t)
  have hM4 : m % 2 ^ t < 18446744073709551616 ^ 4 := Nat.lt_of_lt_of_le hM (by
    rw [← pow64]; exact Nat.pow_le_pow_right (by decide) (by omega))
  have hb := bt_lt m t
  have hr2 : 2 ^ (t % 64) ≤ 9223372036854775808 := Nat.pow_le_pow_right (n := 2) (by decide) (show t % 64 ≤ 63 by omega)
  have hx : lim (m % 2 ^ t) (t / 64) < 2 ^ (t % 64) := by
    rw [lim_pow]
    refine Nat.lt_of_le_of_lt (Nat.mod_le _ _) (Nat.div_lt_of_lt_mul ?_)
    rw [← ht]; exact hM
  have hd : bt m t * 2 ^ (t % 64) ≤ 2 ^ (t % 64) := by
    have := Nat.mul_le_mul_right (2 ^ (t % 64)) (show bt m t ≤ 1 by omega)
    omega
  refine ⟨hx, ?_, by omega⟩
  have n1 := nset (dgs (m % 2 ^ t) 4) (t / 64) (lim (m % 2 ^ t) (t / 64) + bt m t * 2 ^ (t % 64)) (by rw [dgs_length]; exact hq)
  rw [dgs_getD _ _ _ hq, num_dgs' _ _ hM4] at n1
  have hs := dgs_num ((dgs (m % 2 ^ t) 4).set (t / 64) (lim (m % 2 ^ t) (t / 64) + bt m t * 2 ^ (t % 64))) (set_all _ _ _ (all_dgs _ _) (by omega))
  rw [List.length_set, dgs_length] at hs
  have e : (lim (m % 2 ^ t) (t / 64) + bt m t * 2 ^ (t % 64)) * 18446744073709551616 ^ (t / 64) = lim (m % 2 ^ t) (t / 64) * 18446744073709551616 ^ (t / 64) + bt m t * 2 ^ t := by
    rw [ht]; grind
  rw [e] at n1
  have hv : num ((dgs (m % 2 ^ t) 4).set (t / 64) (lim (m % 2 ^ t) (t / 64) + bt m t * 2 ^ (t % 64))) = m % 2 ^ (t + 1) := by
    rw [mod_bit m t]; omega
  rw [hv] at hs
  exact hs.symm
/-! ### The difference -/
def brw (a b t : Nat) : Nat := if a % 2 ^ t < b % 2 ^ t then 1 else 0
theorem brw_zero (a b : Nat) : brw a b 0 = 0 := by simp [brw, Nat.mod_one]
theorem brw_le (a b t : Nat) : brw a b t ≤ 1 := by unfold brw; split <;> omega
/-- A digit of the difference. -/
theorem less_step (a b t : Nat) (h : b ≤ a) : bt a t + 2 * brw a b (t + 1) = bt b t + brw a b t + bt (a - b) t := by
  have hp : 0 < 2 ^ t := Nat.two_pow_pos t
  have ha := mod_bit a t
  have hb := mod_bit b t
  have hd := mod_bit (a - b) t
  have h1 := Nat.mod_lt a hp
  have h2 := Nat.mod_lt b hp
  have h3 := Nat.mod_lt (a - b) hp
  have x1 := bt_lt a t
  have x2 := bt_lt b t
  have x3 := bt_lt (a - b) t
  -- the difference's lower digits, with a borrow
  have key : ∀ s, (a - b) % 2 ^ s + b % 2 ^ s = a % 2 ^ s + brw a b s * 2 ^ s := fun s => by
    have hps : 0 < 2 ^ s := Nat.two_pow_pos s
    have e : ((a - b) % 2 ^ s + b % 2 ^ s) % 2 ^ s = a % 2 ^ s := by
      rw [← Nat.add_mod, Nat.sub_add_cancel h]
    have y1 := Nat.mod_lt (a - b) hps
    have y2 := Nat.mod_lt b hps
    have y3 := Nat.mod_lt a hps
    unfold brw
    generalize (a - b) % 2 ^ s = u at *
    generalize b % 2 ^ s = v at *
    generalize a % 2 ^ s = z at *
    generalize 2 ^ s = p at *
    rcases Nat.lt_or_ge (u + v) p with hlt | hge
    · rw [Nat.mod_eq_of_lt hlt] at e
      rw [if_neg (by omega)]; omega
    · have e2 : (u + v) % p = u + v - p := by
        rw [Nat.mod_eq_sub_mod hge, Nat.mod_eq_of_lt (by omega)]
      rw [e2] at e
      rw [if_pos (by omega)]; omega
  have k0 := key t
  have k1 := key (t + 1)
  rw [ha, hb, hd, Nat.pow_succ] at k1
  have b0 := brw_le a b t
  have b1 := brw_le a b (t + 1)
  generalize brw a b (t + 1) = B1 at *
  generalize brw a b t = B0 at *
  generalize bt a t = A at *
  generalize bt b t = Bb at *
  generalize bt (a - b) t = Dd at *
  generalize 2 ^ t = p at *
  have e1 : (Dd + Bb + B0) * p = (A + 2 * B1) * p := by grind
  have := Nat.eq_of_mul_eq_mul_right hp e1
  omega

end Wd
end Go.Proofs.YtojmhmnpidhfjaaDoor
