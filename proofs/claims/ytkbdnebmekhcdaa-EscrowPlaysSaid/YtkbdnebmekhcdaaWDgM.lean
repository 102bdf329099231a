/-
  Mathematics of binary digits put together again. Nothing of the program.
-/
import Derived.Test.YtkbdnebmekhcdaaWOM
namespace Go.Proofs.Ytkbdnebmekhcdaa
open Go
namespace Wd
theorem mod_bit (m t : Nat) : m % 2 ^ (t + 1) = m % 2 ^ t + bt m t * 2 ^ t := by
  unfold bt
  rw [Nat.pow_succ, Nat.mod_mul, Nat.mul_comm]
theorem bt_mod (m t j : Nat) (h : j < t) : bt (m % 2 ^ t) j = bt m j := by
  unfold bt
  have e : 2 ^ t = 2 ^ j * (2 * 2 ^ (t - j - 1)) := by
    rw [← Nat.pow_succ', ← Nat.pow_add, show j + (t - j - 1 + 1) = t by omega]
  rw [e, Nat.mod_mul_right_div_self, Nat.mod_mul_right_mod]
/-- One digit more of a number in parts. -/
theorem put_bit (m t : Nat) (h : t < 256) : lim (m % 2 ^ t) (t / 64) < 2 ^ (t % 64) ∧ (dgs (m % 2 ^ t) 4).set (t / 64) (lim (m % 2 ^ t) (t / 64) + bt m t * 2 ^ (t % 64)) = dgs (m % 2 ^ (t + 1)) 4 ∧ bt m t * 2 ^ (t % 64) < 18446744073709551616 := by
  have hr : t % 64 < 64 := Nat.mod_lt _ (by decide)
  have hq : t / 64 < 4 := by omega
  have ht : 2 ^ t = 18446744073709551616 ^ (t / 64) * 2 ^ (t % 64) := by
    rw [← pow64, ← Nat.pow_add, Nat.div_add_mod]
  have hM : m % 2 ^ t < 2 ^ t := Nat.mod_lt _ (Nat.two_pow_pos t)
  have hM4 : m % 2 ^ t < 18446744073709551616 ^ 4 := Nat.lt_of_lt_of_le hM (by
    rw [← pow64]; exact Nat.pow_le_pow_right (by decide) (by omega))
  have hb := bt_lt m t
  have hr2 : 2 ^ (t % 64) ≤ 9223372036854775808 := Nat.pow_le_pow_right (n := 2) (by decide) (show t % 64 ≤ 63 by omega)
  have hx : lim (m % 2 ^ t) (t / 64) < 2 ^ (t % 64) := by
    rw [lim_pow]
    refine Nat.lt_of_le_of_lt (Nat.mod_le _ _) (Nat.div_lt_of_lt_mul ?_)
    rw [← ht]; exact hM
  have hd : bt m t * 2 ^ (t % 64) ≤ 2 ^ (t % 64) := by
    have := Nat.mul_le_mul_right (2 ^ (t % 64)) (show bt m t ≤ 1 by omega)
    omega
  refine ⟨hx, ?_, by omega⟩
  have n1 := nset (dgs (m % 2 ^ t) 4) (t / 64) (lim (m % 2 ^ t) (t / 64) + bt m t * 2 ^ (t % 64)) (by rw [dgs_length]; exact hq)
  rw [dgs_getD _ _ _ hq, num_dgs' _ _ hM4] at n1
  have hs := dgs_num ((dgs (m % 2 ^ t) 4).set (t / 64) (lim (m % 2 ^ t) (t / 64) + bt m t * 2 ^ (t % 64))) (set_all _ _ _ (all_dgs _ _) (by omega))
  rw [List.length_set, dgs_length] at hs
  have e : (lim (m % 2 ^ t) (t / 64) + bt m t * 2 ^ (t % 64)) * 18446744073709551616 ^ (t / 64) = lim (m % 2 ^ t) (t / 64) * 18446744073709551616 ^ (t / 64) + bt m t * 2 ^ t := by
    rw [ht]; grind
  rw [e] at n1
  have hv : num ((dgs (m % 2 ^ t) 4).set (t / 64) (lim (m % 2 ^ t) (t / 64) + bt m t * 2 ^ (t % 64))) = m % 2 ^ (t + 1) := by
    rw [mod_bit m t]; omega
  rw [hv] at hs
  exact hs.symm
/-! ### The difference -/
def brw (a b t : Nat) : Nat := if a % 2 ^ t < b % 2 ^ t then 1 else 0
theorem brw_zero (a b : Nat) : brw a b 0 = 0 := by simp [brw, Nat.mod_one]
theorem brw_le (a b t : Nat) : brw a b t ≤ 1 := by unfold brw; split <;> omega
/-- A digit of the difference. -/
theorem less_step (a b t : Nat) (h : b ≤ a) : bt a t + 2 * brw a b (t + 1) = bt b t + brw a b t + bt (a - b) t := by
  have hp : 0 < 2 ^ t := Nat.two_pow_pos t
  have ha := mod_bit a t
  have hb := mod_bit b t
  have hd := mod_bit (a - b) t
  have h1 := Nat.mod_lt a hp
  have h2 := Nat.mod_lt b hp
  have h3 := Nat.mod_lt (a - b) hp
  have x1 := bt_lt a t
  have x2 := bt_lt b t
  have x3 := bt_lt (a - b) t
  -- the difference's lower digits, with a borrow
  have key : ∀ s, (a - b) % 2 ^ s + b % 2 ^ s = a % 2 ^ s + brw a b s * 2 ^ s := fun s => by
    have hps : 0 < 2 ^ s := Nat.two_pow_pos s
    have e : ((a - b) % 2 ^ s + b % 2 ^ s) % 2 ^ s = a % 2 ^ s := by
      rw [← Nat.add_mod, Nat.sub_add_cancel h]
    have y1 := Nat.mod_lt (a - b) hps
    have y2 := Nat.mod_lt b hps
    have y3 := Nat.mod_lt a hps
    unfold brw
    generalize (a - b) % 2 ^ s = u at *
    generalize b % 2 ^ s = v at *
    generalize a % 2 ^ s = z at *
    generalize 2 ^ s = p at *
    rcases Nat.lt_or_ge (u + v) p with hlt | hge
    · rw [Nat.mod_eq_of_lt hlt] at e
      rw [if_neg (by omega)]; omega
    · have e2 : (u + v) % p = u + v - p := by
        rw [Nat.mod_eq_sub_mod hge, Nat.mod_eq_of_lt (by omega)]
      rw [e2] at e
      rw [if_pos (by omega)]; omega
  have k0 := key t
  have k1 := key (t + 1)
  rw [ha, hb, hd, Nat.pow_succ] at k1
  have b0 := brw_le a b t
  have b1 := brw_le a b (t + 1)
  generalize brw a b (t + 1) = B1 at *
  generalize brw a b t = B0 at *
  generalize bt a t = A at *
  generalize bt b t = Bb at *
  generalize bt (a - b) t = Dd at *
  generalize 2 ^ t = p at *
  have e1 : (Dd + Bb + B0) * p = (A + 2 * B1) * p := by grind
  have := Nat.eq_of_mul_eq_mul_right hp e1
  omega

end Wd
end Go.Proofs.Ytkbdnebmekhcdaa
