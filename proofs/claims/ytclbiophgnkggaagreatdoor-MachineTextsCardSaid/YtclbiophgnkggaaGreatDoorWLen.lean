/-
  math/bits.Len64, LeadingZeros64.
-/
import Derived.WalkKit
import Derived.Test.YtclbiophgnkggaaGreatDoorWParse
import Derived.Lib.Slices
import Derived.Lib.Small
import Derived.Lib.Walk
import Derived.Lib.BitFns

namespace Go.Proofs.YtclbiophgnkggaaGreatDoor
namespace Wd

/-- The digit: u * 2^32 + n by v. -/
def dgt (u n v : Nat) : Nat := (u * 4294967296 + n) / v

/-- What the guess keeps. -/
structure Gs (u n v v1 v0 q r : Nat) : Prop where
  div : v = v1 * 4294967296 + v0
  sum : q * v1 + r = u
  ge : dgt u n v ≤ q
  lt : r < 4294967296

theorem dgt_lt (u n v : Nat) (hn : n < 4294967296) (hu : u < v) : dgt u n v < 4294967296 := by
  unfold dgt
  rw [Nat.div_lt_iff_lt_mul (by omega)]
  have : (u + 1) * 4294967296 ≤ v * 4294967296 := Nat.mul_le_mul_right _ hu
  omega

theorem Gs.start (u n v v1 v0 : Nat) (hd : v = v1 * 4294967296 + v0) (h1 : 2147483648 ≤ v1) (h1' : v1 < 4294967296) (hn : n < 4294967296) : Gs u n v v1 v0 (u / v1) (u % v1) := by
  have hv : 0 < v1 := by omega
  refine ⟨hd, Nat.div_add_mod' u v1, ?_, Nat.lt_trans (Nat.mod_lt _ hv) h1'⟩
  unfold dgt
  have e : (u * 4294967296 + n) / (v1 * 4294967296) = u / v1 := by
    rw [Nat.mul_comm v1 4294967296, ← Nat.div_div_eq_div_mul, show (u * 4294967296 + n) / 4294967296 = u by omega]
  rw [← e]
  exact Nat.div_le_div_left (by omega) (Nat.mul_pos hv (by decide))

/-- The guess is right where the test fails. -/
theorem Gs.right {u n v v1 v0 q r : Nat} (h : Gs u n v v1 v0 q r) (hv : 0 < v1) (ht : q * v0 ≤ 4294967296 * r + n) : q = dgt u n v := by
  refine Nat.le_antisymm ?_ h.ge
  unfold dgt
  have hvv := h.div
  rw [Nat.le_div_iff_mul_le (by omega)]
  have hs := h.sum
  have e : q * v = (q * v1) * 4294967296 + q * v0 := by rw [h.div]; grind
  rw [e]
  generalize q * v1 = a at *
  generalize q * v0 = b at *
  omega

/-- Where the test holds the guess is too great. -/
theorem Gs.great {u n v v1 v0 q r : Nat} (h : Gs u n v v1 v0 q r) (hn : n < 4294967296) (hu : u < v) (ht : 4294967296 ≤ q ∨ 4294967296 * r + n < q * v0) : dgt u n v < q := by
  rcases ht with ht | ht
  · exact Nat.lt_of_lt_of_le (dgt_lt u n v hn hu) ht
  · unfold dgt
    rw [Nat.div_lt_iff_lt_mul (by omega)]
    have hs := h.sum
    have e : q * v = (q * v1) * 4294967296 + q * v0 := by rw [h.div]; grind
    rw [e]
    generalize q * v1 = a at *
    generalize q * v0 = b at *
    omega

/-- One less: the rest still small. -/
theorem Gs.less {u n v v1 v0 q r : Nat} (h : Gs u n v v1 v0 q r) (hn : n < 4294967296) (hu : u < v) (ht : 4294967296 ≤ q ∨ 4294967296 * r + n < q * v0) (hr : r + v1 < 4294967296) : Gs u n v v1 v0 (q - 1) (r + v1) := by
  have hg := h.great hn hu ht
  refine ⟨h.div, ?_, by omega, hr⟩
  have hs := h.sum
  have e : (q - 1) * v1 + v1 = q * v1 := by
    obtain ⟨p, rfl⟩ : ∃ p, q = p + 1 := ⟨q - 1, by omega⟩
    simp; grind
  omega

/-- One less, and the rest too great for the test: it is right. -/
theorem Gs.stop {u n v v1 v0 q r : Nat} (h : Gs u n v v1 v0 q r) (h0 : v0 < 4294967296) (hn : n < 4294967296) (hu : u < v) (ht : 4294967296 ≤ q ∨ 4294967296 * r + n < q * v0) (hr : 4294967296 ≤ r + v1) : q - 1 = dgt u n v := by
  have hg := h.great hn hu ht
  have hs := h.sum
  refine Nat.le_antisymm ?_ (by omega)
  have hvd := h.div
  have hq : q ≤ 4294967297 := by
    have h2 : q * v1 ≤ u := by omega
    have h3 : q * v1 < (4294967298) * v1 := by
      have : (4294967298) * v1 = v1 * 4294967296 + 2 * v1 := by grind
      omega
    have := Nat.lt_of_mul_lt_mul_right h3
    omega
  have e : (q - 1) * v1 + v1 = q * v1 := by
    obtain ⟨p, rfl⟩ : ∃ p, q = p + 1 := ⟨q - 1, by omega⟩
    simp; grind
  have hm : (q - 1) * v0 ≤ 4294967296 * 4294967296 := Nat.mul_le_mul (by omega) (by omega)
  unfold dgt
  have hvv := h.div
  rw [Nat.le_div_iff_mul_le (by omega)]
  have e2 : (q - 1) * v = ((q - 1) * v1) * 4294967296 + (q - 1) * v0 := by rw [h.div]; grind
  rw [e2]
  generalize (q - 1) * v1 = a at *
  generalize (q - 1) * v0 = b at *
  generalize q * v1 = d at *
  omega

/-- The rest behind a digit. -/
def rst (u n v : Nat) : Nat := (u * 4294967296 + n) % v
theorem dgt_rst (u n v : Nat) : dgt u n v * v + rst u n v = u * 4294967296 + n := by
  unfold dgt rst; exact Nat.div_add_mod' _ _
theorem rst_lt (u n v : Nat) (hv : 0 < v) : rst u n v < v := Nat.mod_lt _ hv
/-- Two digits make the quotient. -/
theorem two_digits (u n1 n0 v : Nat) (hv : 0 < v) :
    (u * 18446744073709551616 + n1 * 4294967296 + n0) / v = dgt u n1 v * 4294967296 + dgt (rst u n1 v) n0 v ∧ (u * 18446744073709551616 + n1 * 4294967296 + n0) % v = rst (rst u n1 v) n0 v := by
  have a1 := dgt_rst u n1 v
  have a2 := dgt_rst (rst u n1 v) n0 v
  have b2 := rst_lt (rst u n1 v) n0 v hv
  generalize dgt (rst u n1 v) n0 v = q0 at *
  generalize rst (rst u n1 v) n0 v = r0 at *
  generalize dgt u n1 v = q1 at *
  generalize rst u n1 v = r1 at *
  have e : u * 18446744073709551616 + n1 * 4294967296 + n0 = v * (q1 * 4294967296 + q0) + r0 := by
    have e1 : v * (q1 * 4294967296 + q0) = (q1 * v) * 4294967296 + q0 * v := by grind
    rw [e1]
    generalize q1 * v = x at *
    generalize q0 * v = y at *
    omega
  rw [e]
  exact ⟨by rw [Nat.mul_add_div hv, Nat.div_eq_of_lt b2, Nat.add_zero], by rw [Nat.mul_add_mod, Nat.mod_eq_of_lt b2]⟩

end Wd
end Go.Proofs.YtclbiophgnkggaaGreatDoor

namespace Go.Proofs.YtclbiophgnkggaaGreatDoor
open Go Go.RowKit
open Wd

section
variable {ops : Array Oper} {rest : List Oper} {op : Oper} {a : Act} {w : World} {Q : Exit → Act → World → Prop}
/-- The table of lengths, at a byte. -/
theorem wpList_index_tab (hgd : op.guard = none) (x y : Operand) (ho : op.op = .index 9 x y) (hx : a.eval x = .string Lib.len8tab) (z : Int) (hy : a.eval y = .int .u8 z) (h0 : 0 ≤ z) (h1 : z ≤ 255)
    (h : ∀ k : Nat, k = Lib.bitLen z.toNat → k ≤ 8 → wpList Tryz.prog ops Q rest (a.put op.dst (.int .u8 (k : Int))) w) : wpList Tryz.prog ops Q (op :: rest) a w :=
  wpList_plain hgd fun _ hK => by
    have hr := run_index_string (P := Tryz.prog) w 9 Lib.len8tab .u8 z Tryz.underlying9
    have hs : Lib.len8tab.size = 256 := by decide +kernel
    rw [dif_pos (by omega)] at hr
    have h8 := Lib.len8_of z h0 h1
    have hb := Lib.bitLen_le8' z h0 h1
    have hz : z.toNat < Lib.len8tab.size := by omega
    have e : ((Lib.len8tab[z.toNat]'hz).toNat : Int) = ((Lib.bitLen z.toNat : Nat) : Int) := by
      rw [← h8]; unfold Lib.len8; rw [getElem?_pos Lib.len8tab z.toNat hz]; rfl
    unfold Oper.wp execOp
    simp only [ho, hx, hy, Sem.run_bind, hr, Result.andThen_ok, Sem.run_pure, Oper.upon_value, e]
    exact hK _ _ (h _ rfl hb)
end

set_option maxHeartbeats 4000000 in
set_option maxRecDepth 100000 in
theorem len64_int (x : Int) (h0 : 0 ≤ x) (h1 : x ≤ 18446744073709551615) (w : World) :
    Calls Tryz.prog 119 #[.int .u64 x] w fun e w' => e = .returned (.int .i64 ((Lib.bitLen x.toNat : Nat) : Int)) ∧ w' = w := by
  go_enter Tryz.func119, Tryz.ntmps119
  go_wp2_with (refine wpList_index_tab rfl _ (.tmp 21) rfl rfl _ rfl (by omega) (by omega) ?_; intro k hk hk8; have HK : Hid _ := hk; clear hk; simp only [Act.put, List.setIfInBounds_toArray, List.set_cons_zero, List.set_cons_succ])
  all_goals (go_ret; have hk := HK.out; clear HK)
  all_goals refine ⟨congrArg Ending.returned (congrArg (Value.int IntKind.i64) ?_), rfl⟩
  · rw [Lib.bitLen_shift56 x.toNat (by omega) (by omega), hk, show (x / 4294967296 / 65536 / 256).toNat = x.toNat / 72057594037927936 by omega]; omega
  · rw [Lib.bitLen_shift48 x.toNat (by omega) (by omega), hk, show (x / 4294967296 / 65536).toNat = x.toNat / 281474976710656 by omega]; omega
  · rw [Lib.bitLen_shift40 x.toNat (by omega) (by omega), hk, show (x / 4294967296 / 256).toNat = x.toNat / 1099511627776 by omega]; omega
  · rw [Lib.bitLen_shift32 x.toNat (by omega) (by omega), hk, show (x / 4294967296).toNat = x.toNat / 4294967296 by omega]; omega
  · rw [Lib.bitLen_shift24 x.toNat (by omega) (by omega), hk, show (x / 65536 / 256).toNat = x.toNat / 16777216 by omega]; omega
  · rw [Lib.bitLen_shift16 x.toNat (by omega) (by omega), hk, show (x / 65536).toNat = x.toNat / 65536 by omega]; omega
  · rw [Lib.bitLen_shift8 x.toNat (by omega) (by omega), hk, show (x / 256).toNat = x.toNat / 256 by omega]; omega
  · rw [hk]

theorem len64_any (x : Nat) (hx : x < 18446744073709551616) (w : World) :
    Calls Tryz.prog 119 #[.int .u64 (x : Int)] w fun e w' => e = .returned (.int .i64 ((Lib.bitLen x : Nat) : Int)) ∧ w' = w := len64_int (x : Int) (by omega) (by omega) w

set_option maxHeartbeats 1000000 in
theorem lead_any (x : Nat) (hx : x < 18446744073709551616) (w : World) :
    Calls Tryz.prog 108 #[.int .u64 (x : Int)] w fun e w' => e = .returned (.int .i64 (((64 - Lib.bitLen x : Nat) : Nat) : Int)) ∧ w' = w := by
  have hb : Lib.bitLen x ≤ 64 := Lib.bitLen_le x 64 (by decide) hx
  have HL : Hid (∀ w, _) := len64_any x hx
  generalize Lib.bitLen x = k at *
  go_enter Tryz.func108, Tryz.ntmps108
  go_wp2_with (go_at_call 119; refine (HL.out w).mono ?_; rintro e w ⟨rfl, rfl⟩)
  go_ret
  exact ⟨by rw [show (((64 - k : Nat) : Nat) : Int) = 64 - (k : Int) by omega]; rfl, rfl⟩

end Go.Proofs.YtclbiophgnkggaaGreatDoor
