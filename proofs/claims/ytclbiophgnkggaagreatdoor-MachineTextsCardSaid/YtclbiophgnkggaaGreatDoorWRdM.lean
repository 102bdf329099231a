/-
  A number's bytes: apart, and put together again. Nothing of the program.
-/
import Derived.Test.YtclbiophgnkggaaGreatDoorWOM

namespace Go.Proofs.YtclbiophgnkggaaGreatDoor
open Go
namespace Wd
theorem mod_bit (m t : Nat) : m % 2 ^ (t + 1) = m % 2 ^ t + bt m t * 2 ^ t := by
  unfold bt
  rw [Nat.pow_succ, Nat.mod_mul, Nat.mul_comm]
theorem bt_mod (m t j : Nat) (h : j < t) : bt (m % 2 ^ t) j = bt m j := by
  unfold bt
  have e : 2 ^ t = 2 ^ j * (2 * 2 ^ (t - j - 1)) := by
    rw [← Nat.pow_succ', ← Nat.pow_add, show j + (t - j - 1 + 1) = t by omega]
  rw [e, Nat.mod_mul_right_div_self, Nat.mod_mul_right_mod]
/-- One digit more of a number in parts. -/
theorem put_bit (m t : Nat) (h : t < 256) : lim (m % 2 ^ t) (t / 64) < 2 ^ (t % 64) ∧ (dgs (m % 2 ^ t) 4).set (t / 64) (lim (m % 2 ^ t) (t / 64) + bt m t * 2 ^ (t % 64)) = dgs (m % 2 ^ (t + 1)) 4 ∧ bt m t * 2 ^ (t % 64) < 18446744073709551616 := by
  have hr : t % 64 < 64 := Nat.mod_lt _ (by decide)
  have hq : t / 64 < 4 := by omega
  have ht : 2 ^ t = 18446744073709551616 ^ (t / 64) * 2 ^ (t % 64) := by
    rw [← pow64, ← Nat.pow_add, Nat.div_add_mod]
  have hM : m % 2 ^ t < 2 ^ t := Nat.mod_lt _ (Nat.two_pow_pos t)
  have hM4 : m % 2 ^ t < 18446744073709551616 ^ 4 := Nat.lt_of_lt_of_le hM (by
    rw [← pow64]; exact Nat.pow_le_pow_right (by decide) (by omega))
  have hb := bt_lt m t
  have hr2 : 2 ^ (t % 64) ≤ 9223372036854775808 := Nat.pow_le_pow_right (n := 2) (by decide) (show t % 64 ≤ 63 by omega)
  have hx : lim (m % 2 ^ t) (t / 64) < 2 ^ (t % 64) := by
    rw [lim_pow]
    refine Nat.lt_of_le_of_lt (Nat.mod_le _ _) (Nat.div_lt_of_lt_mul ?_)
    rw [← ht]; exact hM
  have hd : bt m t * 2 ^ (t % 64) ≤ 2 ^ (t % 64) := by
    have := Nat.mul_le_mul_right (2 ^ (t % 64)) (show bt m t ≤ 1 by omega)
    omega
  refine ⟨hx, ?_, by omega⟩
  have n1 := nset (dgs (m % 2 ^ t) 4) (t / 64) (lim (m % 2 ^ t) (t / 64) + bt m t * 2 ^ (t % 64)) (by rw [dgs_length]; exact hq)
  rw [dgs_getD _ _ _ hq, num_dgs' _ _ hM4] at n1
  have hs := dgs_num ((dgs (m % 2 ^ t) 4).set (t / 64) (lim (m % 2 ^ t) (t / 64) + bt m t * 2 ^ (t % 64))) (set_all _ _ _ (all_dgs _ _) (by omega))
  rw [List.length_set, dgs_length] at hs
  have e : (lim (m % 2 ^ t) (t / 64) + bt m t * 2 ^ (t % 64)) * 18446744073709551616 ^ (t / 64) = lim (m % 2 ^ t) (t / 64) * 18446744073709551616 ^ (t / 64) + bt m t * 2 ^ t := by
    rw [ht]; grind
  rw [e] at n1
  have hv : num ((dgs (m % 2 ^ t) 4).set (t / 64) (lim (m % 2 ^ t) (t / 64) + bt m t * 2 ^ (t % 64))) = m % 2 ^ (t + 1) := by
    rw [mod_bit m t]; omega
  rw [hv] at hs
  exact hs.symm
/-! ### The difference -/
def brw (a b t : Nat) : Nat := if a % 2 ^ t < b % 2 ^ t then 1 else 0
theorem brw_zero (a b : Nat) : brw a b 0 = 0 := by simp [brw, Nat.mod_one]
theorem brw_le (a b t : Nat) : brw a b t ≤ 1 := by unfold brw; split <;> omega
/-- A digit of the difference. -/
theorem less_step (a b t : Nat) (h : b ≤ a) : bt a t + 2 * brw a b (t + 1) = bt b t + brw a b t + bt (a - b) t := by
  have hp : 0 < 2 ^ t := Nat.two_pow_pos t
  have ha := mod_bit a t
  have hb := mod_bit b t
  have hd := mod_bit (a - b) t
  have h1 := Nat.mod_lt a hp
  have h2 := Nat.mod_lt b hp
  have h3 := Nat.mod_lt (a - b) hp
  have x1 := bt_lt a t
  have x2 := bt_lt b t
  have x3 := bt_lt (a - b) t
  -- the difference's lower digits, with a borrow
  have key : ∀ s, (a - b) % 2 ^ s + b % 2 ^ s = a % 2 ^ s + brw a b s * 2 ^ s := fun s => by
    have hps : 0 < 2 ^ s := Nat.two_pow_pos s
    have e : ((a - b) % 2 ^ s + b % 2 ^ s) % 2 ^ s = a % 2 ^ s := by
      rw [← Nat.add_mod, Nat.sub_add_cancel h]
    have y1 := Nat.mod_lt (a - b) hps
    have y2 := Nat.mod_lt b hps
    have y3 := Nat.mod_lt a hps
    unfold brw
    generalize (a - b) % 2 ^ s = u at *
    generalize b % 2 ^ s = v at *
    generalize a % 2 ^ s = z at *
    generalize 2 ^ s = p at *
    rcases Nat.lt_or_ge (u + v) p with hlt | hge
    · rw [Nat.mod_eq_of_lt hlt] at e
      rw [if_neg (by omega)]; omega
    · have e2 : (u + v) % p = u + v - p := by
        rw [Nat.mod_eq_sub_mod hge, Nat.mod_eq_of_lt (by omega)]
      rw [e2] at e
      rw [if_pos (by omega)]; omega
  have k0 := key t
  have k1 := key (t + 1)
  rw [ha, hb, hd, Nat.pow_succ] at k1
  have b0 := brw_le a b t
  have b1 := brw_le a b (t + 1)
  generalize brw a b (t + 1) = B1 at *
  generalize brw a b t = B0 at *
  generalize bt a t = A at *
  generalize bt b t = Bb at *
  generalize bt (a - b) t = Dd at *
  generalize 2 ^ t = p at *
  have e1 : (Dd + Bb + B0) * p = (A + 2 * B1) * p := by grind
  have := Nat.eq_of_mul_eq_mul_right hp e1
  omega

end Wd
end Go.Proofs.YtclbiophgnkggaaGreatDoor

namespace Go.Proofs.YtclbiophgnkggaaGreatDoor
open Go
namespace Wd
def by8 (m t : Nat) : Nat := m / 2 ^ (8 * t) % 256
theorem by8_lt (m t : Nat) : by8 m t < 256 := Nat.mod_lt _ (by decide)
theorem mod_byte (m t : Nat) : m % 2 ^ (8 * (t + 1)) = m % 2 ^ (8 * t) + by8 m t * 2 ^ (8 * t) := by
  unfold by8
  rw [show 8 * (t + 1) = 8 * t + 8 by omega, Nat.pow_add, Nat.mod_mul, show (2 : Nat) ^ 8 = 256 from rfl, Nat.mul_comm (2 ^ (8 * t))]
/-- A byte, out of the part that it stands in. -/
theorem by8_lim (a t : Nat) : lim a (t / 8) / 2 ^ (t % 8 * 8) % 256 = by8 a t := by
  unfold lim by8
  have e : (18446744073709551616 : Nat) = 2 ^ (t % 8 * 8) * (256 * 2 ^ (56 - t % 8 * 8)) := by
    rw [show (256 : Nat) = 2 ^ 8 from rfl, ← Nat.pow_add, ← Nat.pow_add, show t % 8 * 8 + (8 + (56 - t % 8 * 8)) = 64 by omega]
  rw [e, Nat.mod_mul_right_div_self, Nat.mod_mul_right_mod, Nat.div_div_eq_div_mul, ← Nat.pow_add, show 64 * (t / 8) + t % 8 * 8 = 8 * t by omega]
/-- One byte more of a number in parts. -/
theorem put_byte (m t : Nat) (h : t < 32) : lim (m % 2 ^ (8 * t)) (t / 8) < 2 ^ (t % 8 * 8) ∧ (dgs (m % 2 ^ (8 * t)) 4).set (t / 8) (lim (m % 2 ^ (8 * t)) (t / 8) + by8 m t * 2 ^ (t % 8 * 8)) = dgs (m % 2 ^ (8 * (t + 1))) 4 ∧ by8 m t * 2 ^ (t % 8 * 8) < 18446744073709551616 := by
  have hq : t / 8 < 4 := by omega
  have ht : 2 ^ (8 * t) = 18446744073709551616 ^ (t / 8) * 2 ^ (t % 8 * 8) := by
    rw [← pow64, ← Nat.pow_add, show 64 * (t / 8) + t % 8 * 8 = 8 * t by omega]
  have hM : m % 2 ^ (8 * t) < 2 ^ (8 * t) := Nat.mod_lt _ (Nat.two_pow_pos _)
  have hM4 : m % 2 ^ (8 * t) < 18446744073709551616 ^ 4 := Nat.lt_of_lt_of_le hM (by
    rw [← pow64]; exact Nat.pow_le_pow_right (by decide) (by omega))
  have hb := by8_lt m t
  have hr2 : 2 ^ (t % 8 * 8) ≤ 72057594037927936 := Nat.pow_le_pow_right (n := 2) (by decide) (show t % 8 * 8 ≤ 56 by omega)
  have hx : lim (m % 2 ^ (8 * t)) (t / 8) < 2 ^ (t % 8 * 8) := by
    rw [lim_pow]
    refine Nat.lt_of_le_of_lt (Nat.mod_le _ _) (Nat.div_lt_of_lt_mul ?_)
    rw [← ht]; exact hM
  have hd : by8 m t * 2 ^ (t % 8 * 8) ≤ 255 * 2 ^ (t % 8 * 8) := Nat.mul_le_mul_right _ (by omega)
  refine ⟨hx, ?_, by omega⟩
  have n1 := nset (dgs (m % 2 ^ (8 * t)) 4) (t / 8) (lim (m % 2 ^ (8 * t)) (t / 8) + by8 m t * 2 ^ (t % 8 * 8)) (by rw [dgs_length]; exact hq)
  rw [dgs_getD _ _ _ hq, num_dgs' _ _ hM4] at n1
  have hs := dgs_num ((dgs (m % 2 ^ (8 * t)) 4).set (t / 8) (lim (m % 2 ^ (8 * t)) (t / 8) + by8 m t * 2 ^ (t % 8 * 8))) (set_all _ _ _ (all_dgs _ _) (by omega))
  rw [List.length_set, dgs_length] at hs
  have e : (lim (m % 2 ^ (8 * t)) (t / 8) + by8 m t * 2 ^ (t % 8 * 8)) * 18446744073709551616 ^ (t / 8) = lim (m % 2 ^ (8 * t)) (t / 8) * 18446744073709551616 ^ (t / 8) + by8 m t * 2 ^ (8 * t) := by
    rw [ht]; grind
  rw [e] at n1
  have hv : num ((dgs (m % 2 ^ (8 * t)) 4).set (t / 8) (lim (m % 2 ^ (8 * t)) (t / 8) + by8 m t * 2 ^ (t % 8 * 8))) = m % 2 ^ (8 * (t + 1)) := by
    rw [mod_byte m t]; omega
  rw [hv] at hs
  exact hs.symm

/-- Bytes put together, the lowest first. -/
def rdv (f : Nat → Nat) : Nat → Nat
  | 0 => 0
  | t + 1 => rdv f t + f t * 2 ^ (8 * t)
theorem rdv_lt (f : Nat → Nat) (hf : ∀ i, f i < 256) : ∀ t, rdv f t < 2 ^ (8 * t)
  | 0 => by simp [rdv]
  | t + 1 => by
    have h1 := rdv_lt f hf t
    have h2 : f t * 2 ^ (8 * t) ≤ 255 * 2 ^ (8 * t) := Nat.mul_le_mul_right _ (by have := hf t; omega)
    rw [show 8 * (t + 1) = 8 * t + 8 by omega, Nat.pow_add]
    show rdv f t + f t * 2 ^ (8 * t) < _
    omega
theorem rdv_mod (f : Nat → Nat) (hf : ∀ i, f i < 256) (t : Nat) : ∀ k, rdv f (t + k) % 2 ^ (8 * t) = rdv f t
  | 0 => Nat.mod_eq_of_lt (rdv_lt f hf t)
  | k + 1 => by
    have e : 2 ^ (8 * (t + k)) = 2 ^ (8 * t) * 2 ^ (8 * k) := by rw [← Nat.pow_add, show 8 * t + 8 * k = 8 * (t + k) by omega]
    rw [show rdv f (t + (k + 1)) = rdv f (t + k) + f (t + k) * 2 ^ (8 * (t + k)) from rfl, e, show f (t + k) * (2 ^ (8 * t) * 2 ^ (8 * k)) = 2 ^ (8 * t) * (f (t + k) * 2 ^ (8 * k)) by grind, Nat.add_mul_mod_self_left]
    exact rdv_mod f hf t k
theorem rdv_by8 (f : Nat → Nat) (hf : ∀ i, f i < 256) (n t : Nat) (h : t < n) : by8 (rdv f n) t = f t := by
  obtain ⟨k, rfl⟩ : ∃ k, n = (t + 1) + k := ⟨n - (t + 1), by omega⟩
  have h1 := mod_byte (rdv f (t + 1 + k)) t
  rw [rdv_mod f hf (t + 1) k] at h1
  have h2 := rdv_mod f hf t (1 + k)
  rw [← Nat.add_assoc] at h2
  rw [h2, show rdv f (t + 1) = rdv f t + f t * 2 ^ (8 * t) from rfl] at h1
  have hp : 0 < 2 ^ (8 * t) := Nat.two_pow_pos _
  exact (Nat.eq_of_mul_eq_mul_right hp (by omega)).symm
theorem rdv_back (a : Nat) : ∀ t, rdv (by8 a) t = a % 2 ^ (8 * t)
  | 0 => by simp [rdv, Nat.mod_one]
  | t + 1 => by rw [mod_byte, ← rdv_back a t]; rfl
theorem rdv_congr (f g : Nat → Nat) : ∀ t, (∀ i, i < t → f i = g i) → rdv f t = rdv g t
  | 0, _ => rfl
  | t + 1, h => by
    show rdv f t + f t * _ = rdv g t + g t * _
    rw [rdv_congr f g t (fun i hi => h i (by omega)), h t (by omega)]

/-- A list from its last thing on. -/
def rx (f : Nat → Nat) (k : Nat) : List Nat := ((List.range k).map f).reverse
theorem rx_length (f : Nat → Nat) (k : Nat) : (rx f k).length = k := by simp [rx]
theorem rx_succ (f : Nat → Nat) (k : Nat) : rx f (k + 1) = f k :: rx f k := by simp [rx, List.range_succ]
theorem rx_fill (f : Nat → Nat) (k n : Nat) (h : k < n) : (List.replicate (n - k) 0 ++ rx f k).set (n - 1 - k) (f k) = List.replicate (n - (k + 1)) 0 ++ rx f (k + 1) := by
  rw [rx_succ, show n - k = (n - (k + 1)) + 1 by omega, List.replicate_succ', List.append_assoc, List.set_append_right _ _ (by simp; omega)]
  rw [show n - 1 - k - (List.replicate (n - (k + 1)) 0).length = 0 by simp; omega]
  rfl
theorem rx_getD (f : Nat → Nat) (n j : Nat) (h : j < n) : (rx f n).getD j 0 = f (n - 1 - j) := by
  unfold rx
  rw [List.getD_eq_getElem?_getD, List.getElem?_reverse (by simpa using h)]
  simp [show n - 1 - j < n by omega]
/-- The 32 bytes of a number. -/
def bl (a : Nat) : List Nat := rx (by8 a) 32
theorem bl_length (a : Nat) : (bl a).length = 32 := rx_length _ _
theorem bl_lt (a : Nat) : ∀ x ∈ bl a, x < 256 := by
  intro x hx
  unfold bl rx at hx
  rw [List.mem_reverse] at hx
  obtain ⟨i, _, rfl⟩ := List.mem_map.1 hx
  exact by8_lt a i
/-- What 32 bytes say. -/
def rdn (l : List Nat) : Nat := rdv (fun i => l.getD (31 - i) 0) 32
def rdR (l : List Nat) : Nat := if l.length = 32 then rdn l else 0
def rdE (l : List Nat) : Int := if l.length = 32 then 0 else 20
theorem byte_lt {l : List Nat} (hl : ∀ x ∈ l, x < 256) (i : Nat) : l.getD i 0 < 256 := by
  rw [List.getD_eq_getElem?_getD]
  cases h : l[i]? with
  | none => decide
  | some x => exact hl x (List.mem_of_getElem? h)
theorem rdn_lt {l : List Nat} (hl : ∀ x ∈ l, x < 256) : rdn l < 2 ^ 256 := rdv_lt _ (fun _ => byte_lt hl _) 32
theorem rdn_by8 {l : List Nat} (hl : ∀ x ∈ l, x < 256) (t : Nat) (h : t < 32) : by8 (rdn l) t = l.getD (31 - t) 0 := rdv_by8 _ (fun _ => byte_lt hl _) 32 t h
theorem rdn_bl (a : Nat) (h : a < 2 ^ 256) : rdn (bl a) = a := by
  unfold rdn
  rw [rdv_congr _ (by8 a) 32 (fun i hi => by
    show (bl a).getD (31 - i) 0 = by8 a i
    unfold bl
    rw [rx_getD _ _ _ (by omega)]
    congr 1; omega), rdv_back]
  exact Nat.mod_eq_of_lt h
theorem bl_rdn {l : List Nat} (hl : ∀ x ∈ l, x < 256) (h : l.length = 32) : bl (rdn l) = l := by
  apply List.ext_getElem
  · rw [bl_length, h]
  · intro i h1 h2
    have e1 : (bl (rdn l)).getD i 0 = l.getD i 0 := by
      unfold bl
      rw [bl_length] at h1
      rw [rx_getD _ _ _ h1, rdn_by8 hl _ (by omega), show 31 - (32 - 1 - i) = i by omega]
    simpa [h1, h2] using e1
end Wd

end Go.Proofs.YtclbiophgnkggaaGreatDoor
