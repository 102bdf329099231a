/-
  causewayref02.Add, Mul, Sub.
-/
import Derived.Test.YtkbdnebmekhcdaaWDgM
import Derived.Test.YtkbdnebmekhcdaaWLess
import Derived.Test.YtkbdnebmekhcdaaWPls
import Derived.Test.YtkbdnebmekhcdaaWRef

namespace Go.Proofs.Ytkbdnebmekhcdaa
open Go
namespace Wd
/-- The number of a list of columns. -/
def bnum : List Nat → Nat
  | [] => 0
  | x :: r => x + 2 * bnum r
theorem bset : ∀ (l : List Nat) (k v : Nat), k < l.length → bnum (l.set k v) + l.getD k 0 * 2 ^ k = bnum l + v * 2 ^ k
  | [], k, v, h => by simp at h
  | x :: r, 0, v, _ => by simp [bnum]; omega
  | x :: r, k + 1, v, h => by
    have ih := bset r k v (by simpa using h)
    simp only [List.set_cons_succ, bnum, List.getD_cons_succ, Nat.pow_succ]
    generalize bnum (r.set k v) = A at *
    generalize bnum r = C at *
    generalize r.getD k 0 = p at *
    generalize 2 ^ k = q at *
    grind
theorem bnum_zero (n : Nat) : bnum (List.replicate n 0) = 0 := by
  induction n with
  | zero => rfl
  | succ n ih => rw [List.replicate_succ]; simp [bnum, ih]
theorem bt_cons (x n i : Nat) (h : x < 2) : bt (x + 2 * n) (i + 1) = bt n i := by
  unfold bt
  rw [show i + 1 = 1 + i by omega, Nat.pow_add, ← Nat.div_div_eq_div_mul, show (x + 2 * n) / 2 ^ 1 = n by omega]
theorem bits_of : ∀ (l : List Nat), (∀ k, l.getD k 0 < 2) → bts (bnum l) l.length = l
  | [], _ => rfl
  | x :: r, h => by
    have hx : x < 2 := by simpa using h 0
    have ih := bits_of r (fun k => by simpa using h (k + 1))
    unfold bts at ih ⊢
    rw [List.length_cons, List.range_succ_eq_map, List.map_cons, List.map_map]
    simp only [bnum]
    congr 1
    · unfold bt; simp; omega
    · rw [← ih]
      rw [List.length_map, List.length_range]
      apply List.map_congr_left
      intro i _
      rw [ih]
      exact bt_cons x (bnum r) i hx
theorem col_le : ∀ (l : List Nat) (k : Nat), l.getD k 0 * 2 ^ k ≤ bnum l
  | [], k => by simp
  | x :: r, 0 => by simp [bnum]
  | x :: r, k + 1 => by
    have ih := col_le r k
    simp only [List.getD_cons_succ, bnum, Nat.pow_succ]
    generalize r.getD k 0 = p at *
    generalize bnum r = C at *
    generalize 2 ^ k = q at *
    have : p * (q * 2) = 2 * (p * q) := by grind
    omega
theorem getD_set_same (l : List Nat) (k v : Nat) (h : k < l.length) : (l.set k v).getD k 0 = v := by simp [h]
theorem getD_set_ne (l : List Nat) (k j v : Nat) (h : k ≠ j) : (l.set k v).getD j 0 = l.getD j 0 := by
  rw [List.getD_eq_getElem?_getD, List.getElem?_set_ne h, ← List.getD_eq_getElem?_getD]
/-- While columns are counted. -/
structure Tm (L P Bd : Nat) (l : List Nat) : Prop where
  len : l.length = L
  sum : bnum l = P
  bd : ∀ k, l.getD k 0 ≤ Bd
theorem Tm.start (L : Nat) : Tm L 0 0 (List.replicate L 0) :=
  ⟨by simp, bnum_zero L, fun k => by
    rw [List.getD_eq_getElem?_getD, List.getElem?_replicate]; split <;> simp⟩
theorem Tm.more {L P Bd : Nat} {l : List Nat} (h : Tm L P Bd l) (Bd' : Nat) (hb : Bd ≤ Bd') : Tm L P Bd' l := ⟨h.len, h.sum, fun k => Nat.le_trans (h.bd k) hb⟩
theorem Tm.add {L P Bd : Nat} {l : List Nat} (h : Tm L P Bd l) (k y : Nat) (hk : k < L) (hy : y ≤ 1) : Tm L (P + y * 2 ^ k) (Bd + 1) (l.set k (l.getD k 0 + y)) := by
  refine ⟨by rw [List.length_set]; exact h.len, ?_, fun j => ?_⟩
  · have := bset l k (l.getD k 0 + y) (by rw [h.len]; exact hk)
    rw [h.sum, Nat.add_mul] at this
    omega
  · by_cases e : k = j
    · subst e
      rw [getD_set_same _ _ _ (by rw [h.len]; exact hk)]
      have := h.bd k; omega
    · rw [getD_set_ne _ _ _ _ e]; have := h.bd j; omega
theorem inner_sum (P b i j : Nat) : P + 2 ^ i * (b % 2 ^ j) + bt b j * 2 ^ (i + j) = P + 2 ^ i * (b % 2 ^ (j + 1)) := by
  rw [mod_bit, Nat.pow_add]; grind
theorem outer_zero (a b i : Nat) (h : bt a i = 0) : (a % 2 ^ (i + 1)) * b = (a % 2 ^ i) * b := by
  rw [mod_bit, h]; simp
theorem outer_one (a b i : Nat) (h : bt a i = 1) : (a % 2 ^ (i + 1)) * b = (a % 2 ^ i) * b + 2 ^ i * b := by
  rw [mod_bit, h]; grind
/-- While they are carried on. -/
structure Cy (L m Bd t : Nat) (l : List Nat) : Prop where
  len : l.length = L
  sum : bnum l = m
  bd : ∀ k, l.getD k 0 ≤ 2 * Bd
  up : ∀ k, t < k → l.getD k 0 ≤ Bd
  lo : ∀ k, k < t → l.getD k 0 < 2
theorem Cy.start {L m Bd : Nat} {l : List Nat} (h : Tm L m Bd l) : Cy L m Bd 0 l := ⟨h.len, h.sum, fun k => by have := h.bd k; omega, fun k _ => h.bd k, fun k hk => by omega⟩
theorem Cy.step {L m Bd t : Nat} {l : List Nat} (h : Cy L m Bd t l) (ht : t + 1 < L) :
    Cy L m Bd (t + 1) ((l.set (t + 1) (l.getD (t + 1) 0 + l.getD t 0 / 2)).set t (l.getD t 0 % 2)) := by
  have hl := h.len
  have b1 := h.bd t
  have b2 := h.up (t + 1) (by omega)
  refine ⟨by rw [List.length_set, List.length_set]; exact hl, ?_, fun k => ?_, fun k hk => ?_, fun k hk => ?_⟩
  · have e1 := bset l (t + 1) (l.getD (t + 1) 0 + l.getD t 0 / 2) (by omega)
    have e2 := bset (l.set (t + 1) (l.getD (t + 1) 0 + l.getD t 0 / 2)) t (l.getD t 0 % 2) (by rw [List.length_set]; omega)
    rw [getD_set_ne _ _ _ _ (by omega)] at e2
    rw [← h.sum]
    have e3 := Nat.div_add_mod (l.getD t 0) 2
    generalize bnum ((l.set (t + 1) (l.getD (t + 1) 0 + l.getD t 0 / 2)).set t (l.getD t 0 % 2)) = X at *
    generalize bnum (l.set (t + 1) (l.getD (t + 1) 0 + l.getD t 0 / 2)) = Y at *
    generalize bnum l = Z at *
    generalize l.getD (t + 1) 0 = u at *
    generalize l.getD t 0 = v at *
    rw [Nat.pow_succ] at e1
    generalize 2 ^ t = q at *
    have e4 : (u + v / 2) * (q * 2) = u * (q * 2) + 2 * (v / 2) * q := by grind
    have e5 : v * q = 2 * (v / 2) * q + v % 2 * q := by rw [← Nat.add_mul]; rw [e3]
    omega
  · by_cases e : t = k
    · subst e
      rw [getD_set_same _ _ _ (by rw [List.length_set]; omega)]
      have := Nat.mod_le (l.getD t 0) 2; omega
    · rw [getD_set_ne _ _ _ _ e]
      by_cases e' : t + 1 = k
      · subst e'; rw [getD_set_same _ _ _ (by omega)]; omega
      · rw [getD_set_ne _ _ _ _ e']; exact h.bd k
  · rw [getD_set_ne _ _ _ _ (by omega), getD_set_ne _ _ _ _ (by omega)]
    exact h.up k (by omega)
  · by_cases e : t = k
    · subst e
      rw [getD_set_same _ _ _ (by rw [List.length_set]; omega)]
      exact Nat.mod_lt _ (by decide)
    · rw [getD_set_ne _ _ _ _ e, getD_set_ne _ _ _ _ (by omega)]
      exact h.lo k (by omega)
theorem Cy.done {L m Bd t : Nat} {l : List Nat} (h : Cy L m Bd t l) (ht : t + 1 = L) (hm : m < 2 ^ t) : l = bts m L := by
  have h1 := bits_of l (fun k => by
    rcases Nat.lt_or_ge k t with hk | hk
    · exact h.lo k hk
    · rcases Nat.eq_or_lt_of_le hk with e | hk
      · subst e
        have := col_le l t
        rw [h.sum] at this
        have h2 : l.getD t 0 * 2 ^ t < 1 * 2 ^ t := by omega
        have := Nat.lt_of_mul_lt_mul_right h2
        omega
      · rw [List.getD_eq_getElem?_getD, List.getElem?_eq_none (by rw [h.len]; omega)]; decide)
  rw [h.sum, h.len] at h1
  exact h1.symm
end Wd
end Go.Proofs.Ytkbdnebmekhcdaa

namespace Go.Proofs.Ytkbdnebmekhcdaa
open Go Go.RowKit
open Wd

end Go.Proofs.Ytkbdnebmekhcdaa

namespace Go.Proofs.Ytkbdnebmekhcdaa
open Go Go.RowKit
open Wd

set_option maxRecDepth 100000 in
set_option maxHeartbeats 4000000 in
theorem refAdd_any (a b : Nat) (ha : a < 2 ^ 256) (hb : b < 2 ^ 256) (w : World) :
    Calls Try.prog 17 #[.agg (vQ (dgs a 4)).toArray, .agg (vQ (dgs b 4)).toArray] w fun e w' => e = .returned (.tuple #[.agg (vQ (dgs (numR (a + b)) 4)).toArray, .int .i64 (ansErr (a + b))]) ∧ Below w.heap.size w w' := by
  have HDA : Hid (∀ w, _) := digits_any a ha
  have HDB : Hid (∀ w, _) := digits_any b hb
  have HLA : Hid (blen a ≤ 256) := blen_le a 256 ha
  have HLB : Hid (blen b ≤ 256) := blen_le b 256 hb
  obtain ⟨ca, Ha⟩ : ∃ c, Wc c a := ⟨_, rfl⟩
  obtain ⟨cb, Hb⟩ : ∃ c, Wc c b := ⟨_, rfl⟩
  rw [← show ca = vQ (dgs a 4) from Ha] at HDA ⊢
  rw [← show cb = vQ (dgs b 4) from Hb] at HDB ⊢
  have HOP : Hid (∀ (N M : Nat) (w : World), Row w N (vI (bts a 256)) 3 → Row w M (vI (bts b 256)) 3 → Calls Try.prog 44 #[.slice (some ⟨N, 0, none⟩) (blen a) 256, .slice (some ⟨M, 0, none⟩) (blen b) 256] w fun e w' => ∃ v, e = .returned v ∧ Dg w' v (blen ((a + b))) ((a + b)) ∧ Below w.heap.size w w') := fun N M w r1 r2 => plus_dg a b (blen a) (blen b) _ _ (Nat.le_trans HLA.out (by decide)) (Nat.le_trans HLB.out (by decide)) w ⟨blen_lt a, by have := HLA.out; omega, Or.inr ⟨N, 256, rfl, HLA.out, (Cl.row r1).less HLA.out⟩⟩ ⟨blen_lt b, by have := HLB.out; omega, Or.inr ⟨M, 256, rfl, HLB.out, (Cl.row r2).less HLB.out⟩⟩
  have HAN : Hid (∀ (v : Value) (w : World), Dg w v (blen ((a + b))) ((a + b)) → _) := fun v w h => answered_dg v (blen ((a + b))) ((a + b)) w h
  obtain ⟨m, hm⟩ : ∃ m, m = (a + b) := ⟨_, rfl⟩
  rw [← hm] at HOP HAN ⊢
  clear hm
  obtain ⟨cR, HR⟩ : ∃ c, Wc c (numR m) := ⟨_, rfl⟩
  rw [← show cR = vQ (dgs (numR m) 4) from HR] at HAN ⊢
  generalize ansErr m = E at *
  clear ha hb HLA HLB
  have hb1 : Below w.heap.size w (((w.alloc (Obj.cells ca.toArray 33)).alloc (Obj.cells cb.toArray 33)).alloc (Obj.cells #[Value.int IntKind.u64 0, Value.int IntKind.u64 0, Value.int IntKind.u64 0, Value.int IntKind.u64 0] 33)) := (((Below.refl _ _).alloc (Nat.le_refl _) _).alloc (by simp) _).alloc (by simp; omega) _
  have r0 : Row (((w.alloc (Obj.cells ca.toArray 33)).alloc (Obj.cells cb.toArray 33)).alloc (Obj.cells #[Value.int IntKind.u64 0, Value.int IntKind.u64 0, Value.int IntKind.u64 0, Value.int IntKind.u64 0] 33)) w.heap.size ca 33 := ((Row.new w ca _).alloc _).alloc _
  have r1 : Row (((w.alloc (Obj.cells ca.toArray 33)).alloc (Obj.cells cb.toArray 33)).alloc (Obj.cells #[Value.int IntKind.u64 0, Value.int IntKind.u64 0, Value.int IntKind.u64 0, Value.int IntKind.u64 0] 33)) (w.heap.size + 1) cb 33 := (Row.new' (by simp) rfl).alloc _
  have r2 : Row (((w.alloc (Obj.cells ca.toArray 33)).alloc (Obj.cells cb.toArray 33)).alloc (Obj.cells #[Value.int IntKind.u64 0, Value.int IntKind.u64 0, Value.int IntKind.u64 0, Value.int IntKind.u64 0] 33)) (w.heap.size + 2) (vQ (List.replicate 4 0)) 33 := Row.new' (by simp) rfl
  go_enter Try.func17, Try.ntmps17
  go_wp2
  generalize (((w.alloc (Obj.cells ca.toArray 33)).alloc (Obj.cells cb.toArray 33)).alloc (Obj.cells #[Value.int IntKind.u64 0, Value.int IntKind.u64 0, Value.int IntKind.u64 0, Value.int IntKind.u64 0] 33)) = W0 at *
  refine wp_region_inv (by kernel_rfl) (fun listed act W => ∃ (b0 b1 b2 b3 b4 b5 b6 b7 b8 b9 : Bool) (N7 N9 : Nat) (x5 x6 x7 x8 x9 x10 x11 x12 x13 : Value), listed = #[b0, b1, b2, b3, b4, b5, b6, b7, b8, b9] ∧ act = { tmps := #[.agg ca.toArray, .agg cb.toArray, .pointer (some ⟨w.heap.size, 0, none⟩), .pointer (some ⟨w.heap.size + 1, 0, none⟩), .pointer (some ⟨w.heap.size + 2, 0, none⟩), x5, x6, x7, x8, x9, x10, x11, x12, x13], defers := [] } ∧ Below w.heap.size w W ∧ Row W w.heap.size ca 33 ∧ Row W (w.heap.size + 1) cb 33 ∧ Row W (w.heap.size + 2) (if b8 = true then cR else vQ (List.replicate 4 0)) 33 ∧ (b0 = true → x6 = .agg ca.toArray) ∧ (b2 = true → x8 = .agg cb.toArray) ∧ (b5 = true → x11 = .tuple #[.agg cR.toArray, .int .i64 E]) ∧ (b6 = true → x12 = .agg cR.toArray) ∧ (b7 = true → x13 = .int .i64 E) ∧ (b9 = true → x5 = .int .i64 E) ∧ (b1 = true → b8 = false → x7 = .slice (some ⟨N7, 0, none⟩) (blen a) 256 ∧ Row W N7 (vI (bts a 256)) 3) ∧ (b3 = true → b8 = false → x9 = .slice (some ⟨N9, 0, none⟩) (blen b) 256 ∧ Row W N9 (vI (bts b 256)) 3) ∧ (b4 = true → b8 = false → Dg W x10 (blen m) m) ∧ (b8 = true → b4 = true ∧ b5 = true)) ?_ ?_ ?_
  · exact ⟨false, false, false, false, false, false, false, false, false, false, 0, 0, .int .i64 0, undef, undef, undef, undef, undef, undef, undef, undef, rfl, rfl, Below.drew hb1, Row.drew r0, Row.drew r1, (by rw [if_neg (by decide)]; exact Row.drew r2), (fun h => by cases h), (fun h => by cases h), (fun h => by cases h), (fun h => by cases h), (fun h => by cases h), (fun h => by cases h), (fun h => by cases h), (fun h => by cases h), (fun h => by cases h), (fun h => by cases h)⟩
  · clear hb1 r0 r1 r2 
    intro listed act W k hI hk
    obtain ⟨b0, b1, b2, b3, b4, b5, b6, b7, b8, b9, N7, N9, x5, x6, x7, x8, x9, x10, x11, x12, x13, rfl, rfl, hb1, r0, r1, r2, f0, f1, f2, f3, f4, f5, f6, f7, f8, f9⟩ := hI
    have hk2 := (List.mem_filter.1 hk).2
    have hk1 : k < 10 := List.mem_range.1 (List.mem_filter.1 hk).1
    clear hk
    rcases (show k = 0 ∨ k = 1 ∨ k = 2 ∨ k = 3 ∨ k = 4 ∨ k = 5 ∨ k = 6 ∨ k = 7 ∨ k = 8 ∨ k = 9 by omega) with rfl | rfl | rfl | rfl | rfl | rfl | rfl | rfl | rfl | rfl
    · exact wpOp_plain rfl rfl (wp_load_mid 33 (.tmp 2) rfl w.heap.size 0 rfl ca _ r0.all Try.underlying33 rfl Ha.info ⟨true, b1, b2, b3, b4, b5, b6, b7, b8, b9, N7, N9, x5, .agg ca.toArray, x7, x8, x9, x10, x11, x12, x13, rfl, rfl, hb1, r0, r1, r2, fun _ => rfl, f1, f2, f3, f4, f5, f6, f7, f8, f9⟩)
    · simp [Region.binds] at hk2
      obtain rfl := f0 (by simp [hk2])
      refine wpOp_plain rfl rfl (wp_fcall 45 #[.agg ca.toArray] (by go_simp) ((HDA.out W).mono ?_))
      rintro e W2 ⟨yN, yL, yR, rfl, hB2⟩
      exact ⟨_, rfl, b0, true, b2, b3, b4, b5, b6, b7, b8, b9, yN, N9, x5, .agg ca.toArray, .slice (some ⟨yN, 0, none⟩) (blen a) 256, x8, x9, x10, x11, x12, x13, rfl, rfl, hb1.trans (hB2.mono hb1.size), Row.below r0 hB2 (Row.lt r0), Row.below r1 hB2 (Row.lt r1), Row.below r2 hB2 (Row.lt r2), fun _ => rfl, f1, f2, f3, f4, f5, fun _ _ => ⟨rfl, yR⟩, fun h g => ⟨(f7 h g).1, Row.below (f7 h g).2 hB2 (Row.lt (f7 h g).2)⟩, fun h g => (f8 h g).below hB2, f9⟩
    · exact wpOp_plain rfl rfl (wp_load_mid 33 (.tmp 3) rfl (w.heap.size + 1) 0 rfl cb _ r1.all Try.underlying33 rfl Hb.info ⟨b0, b1, true, b3, b4, b5, b6, b7, b8, b9, N7, N9, x5, x6, x7, .agg cb.toArray, x9, x10, x11, x12, x13, rfl, rfl, hb1, r0, r1, r2, f0, fun _ => rfl, f2, f3, f4, f5, f6, f7, f8, f9⟩)
    · simp [Region.binds] at hk2
      obtain rfl := f1 (by simp [hk2])
      refine wpOp_plain rfl rfl (wp_fcall 45 #[.agg cb.toArray] (by go_simp) ((HDB.out W).mono ?_))
      rintro e W2 ⟨yN, yL, yR, rfl, hB2⟩
      exact ⟨_, rfl, b0, b1, b2, true, b4, b5, b6, b7, b8, b9, N7, yN, x5, x6, x7, .agg cb.toArray, .slice (some ⟨yN, 0, none⟩) (blen b) 256, x10, x11, x12, x13, rfl, rfl, hb1.trans (hB2.mono hb1.size), Row.below r0 hB2 (Row.lt r0), Row.below r1 hB2 (Row.lt r1), Row.below r2 hB2 (Row.lt r2), f0, fun _ => rfl, f2, f3, f4, f5, fun h g => ⟨(f6 h g).1, Row.below (f6 h g).2 hB2 (Row.lt (f6 h g).2)⟩, fun _ _ => ⟨rfl, yR⟩, fun h g => (f8 h g).below hB2, f9⟩
    · simp [Region.binds] at hk2
      have h8 : b8 = false := by
        cases e8 : b8 with
        | false => rfl
        | true => exact absurd (f9 e8).1 (by simp [hk2])
      obtain ⟨rfl, y1⟩ := f6 (by simp [hk2]) h8
      obtain ⟨rfl, y3⟩ := f7 (by simp [hk2]) h8
      refine wpOp_plain rfl rfl (wp_fcall 44 #[.slice (some ⟨N7, 0, none⟩) (blen a) 256, .slice (some ⟨N9, 0, none⟩) (blen b) 256] (by go_simp) ((HOP.out N7 N9 W y1 y3).mono ?_))
      rintro e W2 ⟨yv, rfl, yD, hB2⟩
      exact ⟨_, rfl, b0, b1, b2, b3, true, b5, b6, b7, b8, b9, N7, N9, x5, x6, .slice (some ⟨N7, 0, none⟩) (blen a) 256, x8, .slice (some ⟨N9, 0, none⟩) (blen b) 256, yv, x11, x12, x13, rfl, rfl, hb1.trans (hB2.mono hb1.size), Row.below r0 hB2 (Row.lt r0), Row.below r1 hB2 (Row.lt r1), Row.below r2 hB2 (Row.lt r2), f0, f1, f2, f3, f4, f5, fun _ _ => ⟨rfl, Row.below y1 hB2 (Row.lt y1)⟩, fun _ _ => ⟨rfl, Row.below y3 hB2 (Row.lt y3)⟩, fun _ _ => yD, fun h => ⟨rfl, (f9 h).2⟩⟩
    · simp [Region.binds] at hk2
      have h8 : b8 = false := by
        cases e8 : b8 with
        | false => rfl
        | true => exact absurd (f9 e8).2 (by simp [hk2])
      have y4 := f8 (by simp [hk2]) h8
      refine wpOp_plain rfl rfl (wp_fcall 43 #[x10] (by go_simp) ((HAN.out x10 W y4).mono ?_))
      rintro e W2 ⟨rfl, hB2⟩
      exact ⟨_, rfl, b0, b1, b2, b3, b4, true, b6, b7, b8, b9, N7, N9, x5, x6, x7, x8, x9, x10, .tuple #[.agg cR.toArray, .int .i64 E], x12, x13, rfl, rfl, hb1.trans (hB2.mono hb1.size), Row.below r0 hB2 (Row.lt r0), Row.below r1 hB2 (Row.lt r1), Row.below r2 hB2 (Row.lt r2), f0, f1, fun _ => rfl, f3, f4, f5, fun h g => ⟨(f6 h g).1, Row.below (f6 h g).2 hB2 (Row.lt (f6 h g).2)⟩, fun h g => ⟨(f7 h g).1, Row.below (f7 h g).2 hB2 (Row.lt (f7 h g).2)⟩, fun h g => (f8 h g).below hB2, fun h => ⟨(f9 h).1, rfl⟩⟩
    · simp [Region.binds] at hk2
      obtain rfl := f2 (by simp [hk2])
      exact wpOp_plain rfl rfl (wp_extract (.tmp 11) 0 rfl _ rfl _ rfl ⟨b0, b1, b2, b3, b4, b5, true, b7, b8, b9, N7, N9, x5, x6, x7, x8, x9, x10, .tuple #[.agg cR.toArray, .int .i64 E], .agg cR.toArray, x13, rfl, rfl, hb1, r0, r1, r2, f0, f1, fun _ => rfl, fun _ => rfl, f4, f5, f6, f7, f8, f9⟩)
    · simp [Region.binds] at hk2
      obtain rfl := f2 (by simp [hk2])
      exact wpOp_plain rfl rfl (wp_extract (.tmp 11) 1 rfl _ rfl _ rfl ⟨b0, b1, b2, b3, b4, b5, b6, true, b8, b9, N7, N9, x5, x6, x7, x8, x9, x10, .tuple #[.agg cR.toArray, .int .i64 E], x12, .int .i64 E, rfl, rfl, hb1, r0, r1, r2, f0, f1, fun _ => rfl, f3, fun _ => rfl, f5, f6, f7, f8, f9⟩)
    · simp [Region.binds] at hk2
      obtain rfl : b6 = true := by simp [hk2]
      obtain rfl : b8 = false := by simp [hk2]
      obtain rfl := f3 rfl
      obtain rfl : b4 = true := by simp [hk2]
      obtain rfl : b5 = true := by simp [hk2]
      rw [if_neg (by decide)] at r2
      have T := r2.there 0 cR.toArray.size (by simp [HR.len, vQ_length])
      have fin := r2.over (vs := cR) (by rw [HR.len]; rfl)
      exact wpOp_plain rfl rfl (wp_store_mid 33 (.tmp 4) (.tmp 12) rfl (w.heap.size + 2) 0 cR.toArray rfl rfl T HR.info' HR.one ⟨b0, b1, b2, b3, true, true, true, b7, true, b9, N7, N9, x5, x6, x7, x8, x9, x10, x11, .agg cR.toArray, x13, rfl, rfl, below_setCells hb1 (by omega) _, Row.setCells_other r0 _ _ _ (by omega), Row.setCells_other r1 _ _ _ (by omega), (by rw [if_pos rfl]; exact fin), f0, f1, f2, fun _ => rfl, f4, f5, (fun _ h => by cases h), (fun _ h => by cases h), (fun _ h => by cases h), fun _ => ⟨rfl, rfl⟩⟩)
    · simp [Region.binds] at hk2
      obtain rfl := f4 (by simp [hk2])
      exact wpOp_plain rfl rfl (wp_assign (.tmp 13) rfl ⟨b0, b1, b2, b3, b4, b5, b6, b7, b8, true, N7, N9, .int .i64 E, x6, x7, x8, x9, x10, x11, x12, .int .i64 E, rfl, rfl, hb1, r0, r1, r2, f0, f1, f2, f3, fun _ => rfl, fun _ => rfl, f6, f7, f8, f9⟩)
  · clear hb1 r0 r1 r2 
    intro listed act W hI hr
    obtain ⟨b0, b1, b2, b3, b4, b5, b6, b7, b8, b9, N7, N9, x5, x6, x7, x8, x9, x10, x11, x12, x13, rfl, rfl, hb1, r0, r1, r2, f0, f1, f2, f3, f4, f5, f6, f7, f8, f9⟩ := hI
    have hr2 := List.filter_eq_nil_iff.1 hr
    obtain rfl : b0 = true := by have := hr2 0 (List.mem_range.2 (by decide)); simpa [Region.binds] using this
    obtain rfl : b1 = true := by have := hr2 1 (List.mem_range.2 (by decide)); simpa [Region.binds] using this
    obtain rfl : b2 = true := by have := hr2 2 (List.mem_range.2 (by decide)); simpa [Region.binds] using this
    obtain rfl : b3 = true := by have := hr2 3 (List.mem_range.2 (by decide)); simpa [Region.binds] using this
    obtain rfl : b4 = true := by have := hr2 4 (List.mem_range.2 (by decide)); simpa [Region.binds] using this
    obtain rfl : b5 = true := by have := hr2 5 (List.mem_range.2 (by decide)); simpa [Region.binds] using this
    obtain rfl : b6 = true := by have := hr2 6 (List.mem_range.2 (by decide)); simpa [Region.binds] using this
    obtain rfl : b7 = true := by have := hr2 7 (List.mem_range.2 (by decide)); simpa [Region.binds] using this
    obtain rfl : b8 = true := by have := hr2 8 (List.mem_range.2 (by decide)); simpa [Region.binds] using this
    obtain rfl : b9 = true := by have := hr2 9 (List.mem_range.2 (by decide)); simpa [Region.binds] using this
    rw [if_pos rfl] at r2
    obtain rfl := f5 rfl
    clear hr hr2 f0 f1 f2 f3 f4 f5 f6 f7 f8 f9
    go_wp2
    exact bodyPost_ret (results_row_tmp Try.results17 _ _ (w.heap.size + 2) 33 cR (.int .i64 E) rfl rfl r2 Try.underlying33 info_w4 HR.len) rfl ⟨rfl, hb1⟩

theorem refAdd_c (a b : Nat) (ha : a < 2 ^ 256) (hb : b < 2 ^ 256) (w : World) :
    Calls Try.prog 17 #[.agg (vQ (dgs a 4)).toArray, .agg (vQ (dgs b 4)).toArray] w fun e w' => e = .returned (.tuple #[.agg (vQ (dgs (addR a b) 4)).toArray, .int .i64 (addE a b)]) ∧ Below w.heap.size w w' := refAdd_any a b ha hb w

end Go.Proofs.Ytkbdnebmekhcdaa
