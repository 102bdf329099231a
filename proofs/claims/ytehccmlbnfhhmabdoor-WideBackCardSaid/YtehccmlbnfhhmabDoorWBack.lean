/-
  causewaylaw02.WideBack.
-/
import Derived.Test.YtehccmlbnfhhmabDoorWKnown
import Derived.Test.YtehccmlbnfhhmabDoorWMdC
import Derived.Test.YtehccmlbnfhhmabDoorWAl
import Derived.Test.YtehccmlbnfhhmabDoorWRpM
import Derived.Deep.CutRange
namespace Go.Proofs.YtehccmlbnfhhmabDoor
open Go Go.RowKit
open Wd
open Go.Lib (decDigits)

theorem parse_c {s : ByteArray} {l : List Nat} (hs : StrN s l) (hn : l.length < 9223372036854775808) {r : Nat} {E : Int} (hr : ansR (parse l) = r) (hE : ansE (parse l) = E) (w : World) : Calls Tryd.prog 15 #[.string s] w fun e w' => ∃ c, Wc c r ∧ e = .returned (.tuple #[.agg c.toArray, .int .i64 E]) ∧ Below w.heap.size w w' := by
  subst hr hE
  exact (parse_any s l hs hn w).mono fun e w' h => ⟨_, rfl, h.1, h.2⟩
theorem range_at {W : World} {N k : Nat} {x c y : List Value} {t : TypeId} (r : Row W N (x ++ (c ++ y)) t) (hk : x.length = k) : W.rangeAt N k c :=
  r.range k c (fun j v hv => by rw [List.getElem?_append_right (by omega), show k + j - x.length = j by omega, List.getElem?_append_left (List.getElem?_eq_some_iff.1 hv).1]; exact hv)
theorem cell_at {W : World} {N k : Nat} {x y : List Value} {v : Value} {t : TypeId} (r : Row W N (x ++ v :: y) t) (hk : x.length = k) : W.cell? ⟨N, k, none⟩ = some v :=
  r.cell k v (by rw [List.getElem?_append_right (by omega), show k - x.length = 0 by omega]; rfl)
/-- The struct's cells. -/
def thc (ca cb cc : List Value) (v x : Value) : List Value := ca ++ (cb ++ (cc ++ [v, x]))
theorem thc_b (ca cb cc : List Value) (v x : Value) : thc ca cb cc v x = ca ++ (cb ++ (cc ++ [v, x])) := rfl
theorem thc_c (ca cb cc : List Value) (v x : Value) : thc ca cb cc v x = (ca ++ cb) ++ (cc ++ [v, x]) := by simp [thc]
theorem thc_v (ca cb cc : List Value) (v x : Value) : thc ca cb cc v x = (ca ++ cb ++ cc) ++ v :: [x] := by simp [thc]
theorem thc_x (ca cb cc : List Value) (v x : Value) : thc ca cb cc v x = (ca ++ cb ++ cc ++ [v]) ++ x :: [] := by simp [thc]

set_option maxRecDepth 100000 in
set_option maxHeartbeats 16000000 in
theorem back_walk (a b c : Nat) (ha : a < 2 ^ 256) (hb : b < 2 ^ 256) (hc : c < 2 ^ 256) (raw : List Nat) (hraw : ∀ x ∈ raw, x < 256) (A : Option Addr) (cap : Nat) (s : ByteArray) (sl : List Nat) (hs : StrN s sl) (hn : sl.length < 9223372036854775808) (w : World) (hby : By w A raw) (hp : P10 w) :
    Calls Tryd.prog 3 #[.agg (thc (vQ (dgs a 4)) (vQ (dgs b 4)) (vQ (dgs c 4)) (.slice A raw.length cap) (.string s)).toArray] w fun e w' => e = .returned (.bool true) ∧ Below w.heap.size w w' := by
  have HP : Hid (P10 w) := hp
  have HA : Hid (a < 2 ^ 256) := ha
  have HB : Hid (b < 2 ^ 256) := hb
  have HC : Hid (c < 2 ^ 256) := hc
  have HS : Hid (StrN s sl) := hs
  have HN : Hid (sl.length < 9223372036854775808) := hn
  have HBY : Hid (By w A raw) := hby
  have HRW : Hid (∀ x ∈ raw, x < 256) := hraw
  obtain ⟨p, hp1⟩ : ∃ p, addR a b = p := ⟨_, rfl⟩
  obtain ⟨E1, hE1⟩ : ∃ E, addE a b = E := ⟨_, rfl⟩
  obtain ⟨q, hq1⟩ : ∃ q, subR p b = q := ⟨_, rfl⟩
  obtain ⟨F1, hF1⟩ : ∃ E, subE p b = E := ⟨_, rfl⟩
  obtain ⟨m, hm1⟩ : ∃ m, mulR a b = m := ⟨_, rfl⟩
  obtain ⟨E2, hE2⟩ : ∃ E, mulE a b = E := ⟨_, rfl⟩
  obtain ⟨x, hx1⟩ : ∃ x, divQ m b = x := ⟨_, rfl⟩
  obtain ⟨y, hy1⟩ : ∃ y, divR m b = y := ⟨_, rfl⟩
  obtain ⟨F2, hF2⟩ : ∃ E, divE b = E := ⟨_, rfl⟩
  obtain ⟨n, hn1⟩ : ∃ n, mdR a b c = n := ⟨_, rfl⟩
  obtain ⟨G, hG⟩ : ∃ E, mdE a b c = E := ⟨_, rfl⟩
  obtain ⟨v, hv1⟩ : ∃ v, divQ m c = v := ⟨_, rfl⟩
  obtain ⟨r, hr1⟩ : ∃ r, divR m c = r := ⟨_, rfl⟩
  obtain ⟨J, hJ⟩ : ∃ E, divE c = E := ⟨_, rfl⟩
  obtain ⟨u, hu1⟩ : ∃ u, rdR raw = u := ⟨_, rfl⟩
  obtain ⟨L, hL⟩ : ∃ E, rdE raw = E := ⟨_, rfl⟩
  obtain ⟨z, hz1⟩ : ∃ z, ansR (parse sl) = z := ⟨_, rfl⟩
  obtain ⟨Z, hZ⟩ : ∃ E, ansE (parse sl) = E := ⟨_, rfl⟩
  have lp : p < 2 ^ 256 := by rw [← hp1]; unfold addR; split; assumption; decide
  have lq : q < 2 ^ 256 := by rw [← hq1]; unfold subR; split; decide; omega
  have lm : m < 2 ^ 256 := by rw [← hm1]; unfold mulR; split; assumption; decide
  have lx : x < 2 ^ 256 := by rw [← hx1]; unfold divQ; split; decide; exact Nat.lt_of_le_of_lt (Nat.div_le_self _ _) lm
  have ly : y < 2 ^ 256 := by rw [← hy1]; unfold divR; split; decide; exact Nat.lt_of_le_of_lt (Nat.mod_le _ _) lm
  have ln : n < 2 ^ 256 := by rw [← hn1]; unfold mdR; split; decide; split; assumption; decide
  have lv : v < 2 ^ 256 := by rw [← hv1]; unfold divQ; split; decide; exact Nat.lt_of_le_of_lt (Nat.div_le_self _ _) lm
  have lu : u < 2 ^ 256 := by rw [← hu1]; unfold rdR; split; exact rdn_lt hraw; decide
  have lz : z < 2 ^ 256 := by
    rw [← hz1]
    cases hq : parse sl with
    | none => decide
    | some k => exact (parse_back sl k hq).1
  have k1 : E1 ≠ 0 ∨ (E1 = 0 ∧ F1 = 0 ∧ q = a) := by
    by_cases h : a + b < 2 ^ 256
    · right
      have e1 : p = a + b := by rw [← hp1]; exact if_pos h
      refine ⟨by rw [← hE1]; exact if_pos h, by rw [← hF1, e1]; exact if_neg (by omega), ?_⟩
      rw [← hq1, e1]
      exact (if_neg (by omega)).trans (by omega)
    · left
      rw [← hE1, show addE a b = 22 from if_neg h]
      decide
  have k2 : E2 ≠ 0 ∨ (E2 = 0 ∧ b = 0) ∨ (E2 = 0 ∧ b ≠ 0 ∧ F2 = 0 ∧ x = a ∧ y = 0) := by
    by_cases h : a * b < 2 ^ 256
    · right
      have e0 : E2 = 0 := by rw [← hE2]; exact if_pos h
      have e1 : m = a * b := by rw [← hm1]; exact if_pos h
      by_cases h0 : b = 0
      · exact .inl ⟨e0, h0⟩
      · refine .inr ⟨e0, h0, by rw [← hF2]; exact if_neg h0, ?_, ?_⟩
        · rw [← hx1, e1]; exact (if_neg h0).trans (Nat.mul_div_cancel _ (by omega))
        · rw [← hy1, e1]; exact (if_neg h0).trans (Nat.mul_mod_left _ _)
    · left
      rw [← hE2, show mulE a b = 22 from if_neg h]
      decide
  have k3 : E2 ≠ 0 ∨ (E2 = 0 ∧ G = J ∧ n = v) := by
    by_cases h : a * b < 2 ^ 256
    · right
      have e1 : m = a * b := by rw [← hm1]; exact if_pos h
      refine ⟨by rw [← hE2]; exact if_pos h, ?_, ?_⟩
      · rw [← hG, ← hJ]
        by_cases h0 : c = 0
        · rw [show mdE a b c = 24 from if_pos h0, show divE c = 24 from if_pos h0]
        · rw [show divE c = 0 from if_neg h0]
          exact (if_neg h0).trans (if_pos (Nat.lt_of_le_of_lt (Nat.div_le_self _ _) h))
      · rw [← hn1, ← hv1, e1]
        by_cases h0 : c = 0
        · rw [show mdR a b c = 0 from if_pos h0, show divQ (a * b) c = 0 from if_pos h0]
        · rw [show divQ (a * b) c = a * b / c from if_neg h0]
          exact (if_neg h0).trans (if_pos (Nat.lt_of_le_of_lt (Nat.div_le_self _ _) h))
    · left
      rw [← hE2, show mulE a b = 22 from if_neg h]
      decide
  have k4 : L ≠ 0 ∨ (L = 0 ∧ bl u = raw) := by
    by_cases h : raw.length = 32
    · right
      refine ⟨by rw [← hL]; exact if_pos h, ?_⟩
      rw [← hu1, show rdR raw = rdn raw from if_pos h]
      exact bl_rdn hraw h
    · left
      rw [← hL, show rdE raw = 20 from if_neg h]
      decide
  have k5 : Z ≠ 0 ∨ (Z = 0 ∧ s = ⟨(decDigits z).toArray⟩) := by
    cases hq : parse sl with
    | none =>
      left
      rw [← hZ, hq]
      decide
    | some k =>
      right
      refine ⟨by rw [← hZ, hq]; rfl, ?_⟩
      have h2 := (parse_back sl k hq).2
      have e1 : z = k := by rw [← hz1, hq]; rfl
      rw [e1]
      exact strn_eq (by rw [h2]; exact hs)
  have HLP : Hid (p < 2 ^ 256) := lp
  have HLQ : Hid (q < 2 ^ 256) := lq
  have HLM : Hid (m < 2 ^ 256) := lm
  have HLX : Hid (x < 2 ^ 256) := lx
  have HLY : Hid (y < 2 ^ 256) := ly
  have HLN : Hid (n < 2 ^ 256) := ln
  have HLV : Hid (v < 2 ^ 256) := lv
  have HLU : Hid (u < 2 ^ 256) := lu
  have HLZ : Hid (z < 2 ^ 256) := lz
  have K1 : Hid (_ ∨ _) := k1
  have K2 : Hid (_ ∨ _) := k2
  have K3 : Hid (_ ∨ _) := k3
  have K4 : Hid (_ ∨ _) := k4
  have K5 : Hid (_ ∨ _) := k5
  have Q1 : Hid (addR a b = p ∧ addE a b = E1) := ⟨hp1, hE1⟩
  have Q2 : Hid (subR p b = q ∧ subE p b = F1) := ⟨hq1, hF1⟩
  have Q3 : Hid (mulR a b = m ∧ mulE a b = E2) := ⟨hm1, hE2⟩
  have Q4 : Hid (divQ m b = x ∧ divR m b = y ∧ divE b = F2) := ⟨hx1, hy1, hF2⟩
  have Q5 : Hid (mdR a b c = n ∧ mdE a b c = G) := ⟨hn1, hG⟩
  have Q6 : Hid (divQ m c = v ∧ divR m c = r ∧ divE c = J) := ⟨hv1, hr1, hJ⟩
  have Q7 : Hid (rdR raw = u ∧ rdE raw = L) := ⟨hu1, hL⟩
  have Q8 : Hid (ansR (parse sl) = z ∧ ansE (parse sl) = Z) := ⟨hz1, hZ⟩
  have Q9 : Hid (rdR (bl a) = a ∧ rdE (bl a) = 0) := ⟨(if_pos (bl_length a)).trans (rdn_bl a ha), if_pos (bl_length a)⟩
  have Q10 : Hid (ansR (parse (nums a)) = a ∧ ansE (parse (nums a)) = 0) := by show _ ∧ _; rw [parse_nums a ha]; exact ⟨rfl, rfl⟩
  have QN : Hid ((nums a).length < 9223372036854775808) := by show _ < _; unfold nums; rw [List.length_map, Go.Lib.decDigits_length]; exact Nat.lt_of_le_of_lt (nd_few a ha) (by decide)
  have QL : Hid (∀ k, (bl k).length = 32) := bl_length
  obtain ⟨rn, ern⟩ : ∃ k, raw.length = k := ⟨_, rfl⟩
  have QR : Hid (raw.length = rn) := ern
  obtain ⟨ca, Ha⟩ : ∃ x, Wc x a := ⟨_, rfl⟩
  obtain ⟨cb, Hb⟩ : ∃ x, Wc x b := ⟨_, rfl⟩
  obtain ⟨cc, Hc⟩ : ∃ x, Wc x c := ⟨_, rfl⟩
  rw [ern, ← show ca = vQ (dgs a 4) from Ha, ← show cb = vQ (dgs b 4) from Hb, ← show cc = vQ (dgs c 4) from Hc]
  obtain ⟨ct, hct⟩ : ∃ x, x = thc ca cb cc (.slice A rn cap) (.string s) := ⟨_, rfl⟩
  rw [← hct]
  have HCT : Hid (ct = thc ca cb cc (.slice A rn cap) (.string s)) := hct
  obtain ⟨D1, hD1⟩ : ∃ D, decDigits a = D := ⟨_, rfl⟩
  obtain ⟨D2, hD2⟩ : ∃ D, decDigits z = D := ⟨_, rfl⟩
  have HD1 : Hid (decDigits a = D1) := hD1
  have HD2 : Hid (decDigits z = D2) := hD2
  have HSN : Hid (StrN ⟨D1.toArray⟩ (nums a)) := by show StrN _ _; rw [← hD1]; exact strn_nums a
  rw [hD2] at K5
  clear ha hb hc hraw hs hn hby hp hp1 hE1 hq1 hF1 hm1 hE2 hx1 hy1 hF2 hn1 hG hv1 hr1 hJ hu1 hL hz1 hZ lp lq lm lx ly ln lv lu lz k1 k2 k3 k4 k5 ern hct hD1 hD2
  have hb : Below w.heap.size w (w.alloc (Obj.cells ct.toArray 27)) := (Below.refl _ _).alloc (Nat.le_refl _) _
  have rO : Row (w.alloc (Obj.cells ct.toArray 27)) w.heap.size ct 27 := Row.new w ct _
  go_enter Tryd.func3, Tryd.ntmps3
  go_wp2_with fail
  generalize (w.alloc (Obj.cells ct.toArray 27)) = W0 at *
  refine (known_any W0 (HP.out.below hb)).mono ?_
  rintro e V0 ⟨rfl, hB⟩
  replace hb := hb.trans (hB.mono hb.size)
  replace rO := Row.below rO hB (Row.lt rO)
  clear hB
  have rg : V0.rangeAt w.heap.size 0 ca := by have r1 := rO; rw [HCT.out, thc_b] at r1; exact (range_at (x := []) r1 rfl)
  have n0 : Row (V0.alloc (Obj.cells #[Value.int IntKind.u64 0, Value.int IntKind.u64 0, Value.int IntKind.u64 0, Value.int IntKind.u64 0] 24)) V0.heap.size (vQ (List.replicate 4 0)) 24 := Row.new' rfl rfl
  have T0 := Ha.there n0 rfl
  replace n0 := n0.over (vs := ca) (by rw [Ha.len]; rfl)
  have hB : Below V0.heap.size V0 ((V0.alloc (Obj.cells #[Value.int IntKind.u64 0, Value.int IntKind.u64 0, Value.int IntKind.u64 0, Value.int IntKind.u64 0] 24)).setCells V0.heap.size 0 ca) := below_setCells ((Below.refl _ _).alloc (Nat.le_refl _) _) (b := V0.heap.size) (o := 0) (Nat.le_refl _) ca
  replace rO := Row.below rO hB (Row.lt rO)
  replace hb := hb.trans (hB.mono hb.size)
  clear hB
  have r4 := n0
  clear n0
  go_upto_region 3 with (first
    | (refine wpList_load_w rfl 24 (.tmp 32) rfl w.heap.size 0 rfl ca _ rg Tryd.underlying24 rfl Ha.info ?_; simp only [Act.put, List.setIfInBounds_toArray, List.set_cons_zero, List.set_cons_succ])
    | (refine wpList_store_mid rfl 24 (.tmp 4) (.tmp 33) rfl V0.heap.size 0 ca.toArray rfl rfl T0 Ha.info' Ha.one ?_; simp only [Act.put]; clear T0 rg; (change wpList _ _ _ _ _ ((V0.alloc (Obj.cells #[Value.int IntKind.u64 0, Value.int IntKind.u64 0, Value.int IntKind.u64 0, Value.int IntKind.u64 0] 24)).setCells V0.heap.size 0 ca)); (generalize ((V0.alloc (Obj.cells #[Value.int IntKind.u64 0, Value.int IntKind.u64 0, Value.int IntKind.u64 0, Value.int IntKind.u64 0] 24)).setCells V0.heap.size 0 ca) = Y0 at *); (generalize hN0 : V0.heap.size = N4 at *; clear hN0)))
  have rg : Y0.rangeAt w.heap.size 4 cb := by have r1 := rO; rw [HCT.out, thc_b] at r1; exact (range_at r1 Ha.len)
  have n0 : Row (Y0.alloc (Obj.cells #[Value.int IntKind.u64 0, Value.int IntKind.u64 0, Value.int IntKind.u64 0, Value.int IntKind.u64 0] 24)) Y0.heap.size (vQ (List.replicate 4 0)) 24 := Row.new' rfl rfl
  have T0 := Hb.there n0 rfl
  replace n0 := n0.over (vs := cb) (by rw [Hb.len]; rfl)
  have hB : Below Y0.heap.size Y0 ((Y0.alloc (Obj.cells #[Value.int IntKind.u64 0, Value.int IntKind.u64 0, Value.int IntKind.u64 0, Value.int IntKind.u64 0] 24)).setCells Y0.heap.size 0 cb) := below_setCells ((Below.refl _ _).alloc (Nat.le_refl _) _) (b := Y0.heap.size) (o := 0) (Nat.le_refl _) cb
  replace rO := Row.below rO hB (Row.lt rO)
  replace r4 := Row.below r4 hB (Row.lt r4)
  replace hb := hb.trans (hB.mono hb.size)
  clear hB
  have r5 := n0
  clear n0
  go_upto_region 4 with (first
    | (refine wpList_load_w rfl 24 (.tmp 34) rfl w.heap.size 4 rfl cb _ rg Tryd.underlying24 rfl Hb.info ?_; simp only [Act.put, List.setIfInBounds_toArray, List.set_cons_zero, List.set_cons_succ])
    | (refine wpList_store_mid rfl 24 (.tmp 5) (.tmp 35) rfl Y0.heap.size 0 cb.toArray rfl rfl T0 Hb.info' Hb.one ?_; simp only [Act.put]; clear T0 rg; (change wpList _ _ _ _ _ ((Y0.alloc (Obj.cells #[Value.int IntKind.u64 0, Value.int IntKind.u64 0, Value.int IntKind.u64 0, Value.int IntKind.u64 0] 24)).setCells Y0.heap.size 0 cb)); (generalize ((Y0.alloc (Obj.cells #[Value.int IntKind.u64 0, Value.int IntKind.u64 0, Value.int IntKind.u64 0, Value.int IntKind.u64 0] 24)).setCells Y0.heap.size 0 cb) = Y1 at *); (generalize hN0 : Y0.heap.size = N5 at *; clear hN0)))
  have rg : Y1.rangeAt w.heap.size 8 cc := by have r1 := rO; rw [HCT.out, thc_c] at r1; exact (range_at r1 (by simp [Ha.len, Hb.len]))
  have n0 : Row (Y1.alloc (Obj.cells #[Value.int IntKind.u64 0, Value.int IntKind.u64 0, Value.int IntKind.u64 0, Value.int IntKind.u64 0] 24)) Y1.heap.size (vQ (List.replicate 4 0)) 24 := Row.new' rfl rfl
  have T0 := Hc.there n0 rfl
  replace n0 := n0.over (vs := cc) (by rw [Hc.len]; rfl)
  have hB : Below Y1.heap.size Y1 ((Y1.alloc (Obj.cells #[Value.int IntKind.u64 0, Value.int IntKind.u64 0, Value.int IntKind.u64 0, Value.int IntKind.u64 0] 24)).setCells Y1.heap.size 0 cc) := below_setCells ((Below.refl _ _).alloc (Nat.le_refl _) _) (b := Y1.heap.size) (o := 0) (Nat.le_refl _) cc
  replace rO := Row.below rO hB (Row.lt rO)
  replace r4 := Row.below r4 hB (Row.lt r4)
  replace r5 := Row.below r5 hB (Row.lt r5)
  replace hb := hb.trans (hB.mono hb.size)
  clear hB
  have r6 := n0
  clear n0
  go_upto_region 5 with (first
    | (refine wpList_load_w rfl 24 (.tmp 36) rfl w.heap.size 8 rfl cc _ rg Tryd.underlying24 rfl Hc.info ?_; simp only [Act.put, List.setIfInBounds_toArray, List.set_cons_zero, List.set_cons_succ])
    | (refine wpList_store_mid rfl 24 (.tmp 6) (.tmp 37) rfl Y1.heap.size 0 cc.toArray rfl rfl T0 Hc.info' Hc.one ?_; simp only [Act.put]; clear T0 rg; (change wpList _ _ _ _ _ ((Y1.alloc (Obj.cells #[Value.int IntKind.u64 0, Value.int IntKind.u64 0, Value.int IntKind.u64 0, Value.int IntKind.u64 0] 24)).setCells Y1.heap.size 0 cc)); (generalize ((Y1.alloc (Obj.cells #[Value.int IntKind.u64 0, Value.int IntKind.u64 0, Value.int IntKind.u64 0, Value.int IntKind.u64 0] 24)).setCells Y1.heap.size 0 cc) = Y2 at *); (generalize hN0 : Y1.heap.size = N6 at *; clear hN0)))
  have g12 : Y2.cell? ⟨w.heap.size, 12, none⟩ = some (.slice A rn cap) := by have r1 := rO; rw [HCT.out, thc_v] at r1; exact cell_at r1 (by simp [Ha.len, Hb.len, Hc.len])
  have g13 : Y2.cell? ⟨w.heap.size, 13, none⟩ = some (.string s) := by have r1 := rO; rw [HCT.out, thc_x] at r1; exact cell_at r1 (by simp [Ha.len, Hb.len, Hc.len])
  clear rO
  go_wp2_with (first
    | (refine wpList_load_w rfl 24 (.tmp 4) rfl N4 0 rfl ca _ r4.all Tryd.underlying24 rfl Ha.info ?_; simp only [Act.put, List.setIfInBounds_toArray, List.set_cons_zero, List.set_cons_succ])
    | (refine wpList_load_w rfl 24 (.tmp 5) rfl N5 0 rfl cb _ r5.all Tryd.underlying24 rfl Hb.info ?_; simp only [Act.put, List.setIfInBounds_toArray, List.set_cons_zero, List.set_cons_succ]))
  clear g12 g13
  refine (add_c Ha Hb HA.out HB.out Q1.out.1 Q1.out.2 Y2).mono ?_
  rintro e V1 ⟨c9, H9, rfl, hB⟩
  replace hb := hb.trans (hB.mono hb.size)
  replace r4 := Row.below r4 hB (Row.lt r4)
  replace r5 := Row.below r5 hB (Row.lt r5)
  replace r6 := Row.below r6 hB (Row.lt r6)
  clear hB
  have n0 : Row (V1.alloc (Obj.cells #[Value.int IntKind.u64 0, Value.int IntKind.u64 0, Value.int IntKind.u64 0, Value.int IntKind.u64 0] 24)) V1.heap.size (vQ (List.replicate 4 0)) 24 := Row.new' rfl rfl
  have T0 := H9.there n0 rfl
  replace n0 := n0.over (vs := c9) (by rw [H9.len]; rfl)
  have lt := Row.lt r4
  replace r4 := (Row.setCells_other (Row.alloc r4 (Obj.cells #[Value.int IntKind.u64 0, Value.int IntKind.u64 0, Value.int IntKind.u64 0, Value.int IntKind.u64 0] 24)) V1.heap.size 0 c9 (by omega))
  clear lt
  have lt := Row.lt r5
  replace r5 := (Row.setCells_other (Row.alloc r5 (Obj.cells #[Value.int IntKind.u64 0, Value.int IntKind.u64 0, Value.int IntKind.u64 0, Value.int IntKind.u64 0] 24)) V1.heap.size 0 c9 (by omega))
  clear lt
  have lt := Row.lt r6
  replace r6 := (Row.setCells_other (Row.alloc r6 (Obj.cells #[Value.int IntKind.u64 0, Value.int IntKind.u64 0, Value.int IntKind.u64 0, Value.int IntKind.u64 0] 24)) V1.heap.size 0 c9 (by omega))
  clear lt
  have hbn : Below w.heap.size w ((V1.alloc (Obj.cells #[Value.int IntKind.u64 0, Value.int IntKind.u64 0, Value.int IntKind.u64 0, Value.int IntKind.u64 0] 24)).setCells V1.heap.size 0 c9) := (below_setCells (hb.alloc hb.size (Obj.cells #[Value.int IntKind.u64 0, Value.int IntKind.u64 0, Value.int IntKind.u64 0, Value.int IntKind.u64 0] 24)) (b := V1.heap.size) (o := 0) (by have := hb.size; omega) c9)
  replace hb := hbn
  clear hbn
  have r9 := n0
  clear n0
  go_wp2_with (first
    | (refine wpList_store_mid rfl 24 (.tmp 9) (.tmp 46) rfl V1.heap.size 0 c9.toArray rfl rfl T0 H9.info' H9.one ?_; simp only [Act.put]; clear T0; (change wpList _ _ _ _ _ ((V1.alloc (Obj.cells #[Value.int IntKind.u64 0, Value.int IntKind.u64 0, Value.int IntKind.u64 0, Value.int IntKind.u64 0] 24)).setCells V1.heap.size 0 c9)); (generalize ((V1.alloc (Obj.cells #[Value.int IntKind.u64 0, Value.int IntKind.u64 0, Value.int IntKind.u64 0, Value.int IntKind.u64 0] 24)).setCells V1.heap.size 0 c9) = X1 at *); (generalize hN0 : V1.heap.size = N9 at *; clear hN0))
    | (refine wpList_load_w rfl 24 (.tmp 9) rfl N9 0 rfl c9 _ r9.all Tryd.underlying24 rfl H9.info ?_; simp only [Act.put, List.setIfInBounds_toArray, List.set_cons_zero, List.set_cons_succ])
    | (refine wpList_load_w rfl 24 (.tmp 5) rfl N5 0 rfl cb _ r5.all Tryd.underlying24 rfl Hb.info ?_; simp only [Act.put, List.setIfInBounds_toArray, List.set_cons_zero, List.set_cons_succ]))
  refine (sub_c H9 Hb HLP.out HB.out Q2.out.1 Q2.out.2 X1).mono ?_
  rintro e V2 ⟨c11, H11, rfl, hB⟩
  replace hb := hb.trans (hB.mono hb.size)
  replace r4 := Row.below r4 hB (Row.lt r4)
  replace r5 := Row.below r5 hB (Row.lt r5)
  replace r6 := Row.below r6 hB (Row.lt r6)
  replace r9 := Row.below r9 hB (Row.lt r9)
  clear hB
  have n0 : Row (V2.alloc (Obj.cells #[Value.int IntKind.u64 0, Value.int IntKind.u64 0, Value.int IntKind.u64 0, Value.int IntKind.u64 0] 24)) V2.heap.size (vQ (List.replicate 4 0)) 24 := Row.new' rfl rfl
  have T0 := H11.there n0 rfl
  replace n0 := n0.over (vs := c11) (by rw [H11.len]; rfl)
  have lt := Row.lt r4
  replace r4 := (Row.setCells_other (Row.alloc r4 (Obj.cells #[Value.int IntKind.u64 0, Value.int IntKind.u64 0, Value.int IntKind.u64 0, Value.int IntKind.u64 0] 24)) V2.heap.size 0 c11 (by omega))
  clear lt
  have lt := Row.lt r5
  replace r5 := (Row.setCells_other (Row.alloc r5 (Obj.cells #[Value.int IntKind.u64 0, Value.int IntKind.u64 0, Value.int IntKind.u64 0, Value.int IntKind.u64 0] 24)) V2.heap.size 0 c11 (by omega))
  clear lt
  have lt := Row.lt r6
  replace r6 := (Row.setCells_other (Row.alloc r6 (Obj.cells #[Value.int IntKind.u64 0, Value.int IntKind.u64 0, Value.int IntKind.u64 0, Value.int IntKind.u64 0] 24)) V2.heap.size 0 c11 (by omega))
  clear lt
  have lt := Row.lt r9
  replace r9 := (Row.setCells_other (Row.alloc r9 (Obj.cells #[Value.int IntKind.u64 0, Value.int IntKind.u64 0, Value.int IntKind.u64 0, Value.int IntKind.u64 0] 24)) V2.heap.size 0 c11 (by omega))
  clear lt
  have hbn : Below w.heap.size w ((V2.alloc (Obj.cells #[Value.int IntKind.u64 0, Value.int IntKind.u64 0, Value.int IntKind.u64 0, Value.int IntKind.u64 0] 24)).setCells V2.heap.size 0 c11) := (below_setCells (hb.alloc hb.size (Obj.cells #[Value.int IntKind.u64 0, Value.int IntKind.u64 0, Value.int IntKind.u64 0, Value.int IntKind.u64 0] 24)) (b := V2.heap.size) (o := 0) (by have := hb.size; omega) c11)
  replace hb := hbn
  clear hbn
  have r11 := n0
  clear n0
  go_upto_region 9 with (refine wpList_store_mid rfl 24 (.tmp 11) (.tmp 52) rfl V2.heap.size 0 c11.toArray rfl rfl T0 H11.info' H11.one ?_; simp only [Act.put]; clear T0; (change wpList _ _ _ _ _ ((V2.alloc (Obj.cells #[Value.int IntKind.u64 0, Value.int IntKind.u64 0, Value.int IntKind.u64 0, Value.int IntKind.u64 0] 24)).setCells V2.heap.size 0 c11)); (generalize ((V2.alloc (Obj.cells #[Value.int IntKind.u64 0, Value.int IntKind.u64 0, Value.int IntKind.u64 0, Value.int IntKind.u64 0] 24)).setCells V2.heap.size 0 c11) = X2 at *); (generalize hN0 : V2.heap.size = N11 at *; clear hN0))
  go_cut [64] from 54 to 64 (fun c64 wz => c64 = .bool false ∧ wz = X2)
  case first =>
    rcases K1.out with h | ⟨h1, h2, h3⟩
    · have hz : (E1 == 0) = false := by rw [beq_eq_false_iff_ne]; exact h
      go_wp2_with fail
      go_meet
      exact ⟨rfl, rfl⟩
    · subst h1 h2
      go_wp2_with (first
        | (refine wpList_load_w rfl 24 (.tmp 11) rfl N11 0 rfl c11 _ r11.all Tryd.underlying24 rfl H11.info ?_; simp only [Act.put, List.setIfInBounds_toArray, List.set_cons_zero, List.set_cons_succ])
        | (refine wpList_load_w rfl 24 (.tmp 4) rfl N4 0 rfl ca _ r4.all Tryd.underlying24 rfl Ha.info ?_; simp only [Act.put, List.setIfInBounds_toArray, List.set_cons_zero, List.set_cons_succ])
        | (refine wpList_neq_c (B := false) rfl (.tmp 60) (.tmp 61) 24 rfl H11 Ha HLQ.out HA.out rfl rfl (by simp [h3]) ?_; simp only [Act.put, List.setIfInBounds_toArray, List.set_cons_zero, List.set_cons_succ]))
      go_meet
      exact ⟨rfl, rfl⟩
  case rest =>
    obtain ⟨rfl, hwc⟩ := hcut
    subst hwc
    go_wp2_with (first
      | (refine wpList_load_w rfl 24 (.tmp 4) rfl N4 0 rfl ca _ r4.all Tryd.underlying24 rfl Ha.info ?_; simp only [Act.put, List.setIfInBounds_toArray, List.set_cons_zero, List.set_cons_succ])
      | (refine wpList_load_w rfl 24 (.tmp 5) rfl N5 0 rfl cb _ r5.all Tryd.underlying24 rfl Hb.info ?_; simp only [Act.put, List.setIfInBounds_toArray, List.set_cons_zero, List.set_cons_succ]))
    refine (mul_c Ha Hb HA.out HB.out Q3.out.1 Q3.out.2 wc).mono ?_
    rintro e V3 ⟨c13, H13, rfl, hB⟩
    replace hb := hb.trans (hB.mono hb.size)
    replace r4 := Row.below r4 hB (Row.lt r4)
    replace r5 := Row.below r5 hB (Row.lt r5)
    replace r6 := Row.below r6 hB (Row.lt r6)
    replace r9 := Row.below r9 hB (Row.lt r9)
    replace r11 := Row.below r11 hB (Row.lt r11)
    clear hB
    have n0 : Row (V3.alloc (Obj.cells #[Value.int IntKind.u64 0, Value.int IntKind.u64 0, Value.int IntKind.u64 0, Value.int IntKind.u64 0] 24)) V3.heap.size (vQ (List.replicate 4 0)) 24 := Row.new' rfl rfl
    have T0 := H13.there n0 rfl
    replace n0 := n0.over (vs := c13) (by rw [H13.len]; rfl)
    have lt := Row.lt r4
    replace r4 := (Row.setCells_other (Row.alloc r4 (Obj.cells #[Value.int IntKind.u64 0, Value.int IntKind.u64 0, Value.int IntKind.u64 0, Value.int IntKind.u64 0] 24)) V3.heap.size 0 c13 (by omega))
    clear lt
    have lt := Row.lt r5
    replace r5 := (Row.setCells_other (Row.alloc r5 (Obj.cells #[Value.int IntKind.u64 0, Value.int IntKind.u64 0, Value.int IntKind.u64 0, Value.int IntKind.u64 0] 24)) V3.heap.size 0 c13 (by omega))
    clear lt
    have lt := Row.lt r6
    replace r6 := (Row.setCells_other (Row.alloc r6 (Obj.cells #[Value.int IntKind.u64 0, Value.int IntKind.u64 0, Value.int IntKind.u64 0, Value.int IntKind.u64 0] 24)) V3.heap.size 0 c13 (by omega))
    clear lt
    have lt := Row.lt r9
    replace r9 := (Row.setCells_other (Row.alloc r9 (Obj.cells #[Value.int IntKind.u64 0, Value.int IntKind.u64 0, Value.int IntKind.u64 0, Value.int IntKind.u64 0] 24)) V3.heap.size 0 c13 (by omega))
    clear lt
    have lt := Row.lt r11
    replace r11 := (Row.setCells_other (Row.alloc r11 (Obj.cells #[Value.int IntKind.u64 0, Value.int IntKind.u64 0, Value.int IntKind.u64 0, Value.int IntKind.u64 0] 24)) V3.heap.size 0 c13 (by omega))
    clear lt
    have hbn : Below w.heap.size w ((V3.alloc (Obj.cells #[Value.int IntKind.u64 0, Value.int IntKind.u64 0, Value.int IntKind.u64 0, Value.int IntKind.u64 0] 24)).setCells V3.heap.size 0 c13) := (below_setCells (hb.alloc hb.size (Obj.cells #[Value.int IntKind.u64 0, Value.int IntKind.u64 0, Value.int IntKind.u64 0, Value.int IntKind.u64 0] 24)) (b := V3.heap.size) (o := 0) (by have := hb.size; omega) c13)
    replace hb := hbn
    clear hbn
    have r13 := n0
    clear n0
    go_wp2_with (first
      | (refine wpList_store_mid rfl 24 (.tmp 13) (.tmp 69) rfl V3.heap.size 0 c13.toArray rfl rfl T0 H13.info' H13.one ?_; simp only [Act.put]; clear T0; (change wpList _ _ _ _ _ ((V3.alloc (Obj.cells #[Value.int IntKind.u64 0, Value.int IntKind.u64 0, Value.int IntKind.u64 0, Value.int IntKind.u64 0] 24)).setCells V3.heap.size 0 c13)); (generalize ((V3.alloc (Obj.cells #[Value.int IntKind.u64 0, Value.int IntKind.u64 0, Value.int IntKind.u64 0, Value.int IntKind.u64 0] 24)).setCells V3.heap.size 0 c13) = X3 at *); (generalize hN0 : V3.heap.size = N13 at *; clear hN0))
      | (refine wpList_load_w rfl 24 (.tmp 13) rfl N13 0 rfl c13 _ r13.all Tryd.underlying24 rfl H13.info ?_; simp only [Act.put, List.setIfInBounds_toArray, List.set_cons_zero, List.set_cons_succ])
      | (refine wpList_load_w rfl 24 (.tmp 5) rfl N5 0 rfl cb _ r5.all Tryd.underlying24 rfl Hb.info ?_; simp only [Act.put, List.setIfInBounds_toArray, List.set_cons_zero, List.set_cons_succ]))
    refine (div_c H13 Hb HLM.out HB.out Q4.out.1 Q4.out.2.1 Q4.out.2.2 X3).mono ?_
    rintro e V4 ⟨c14, c15, H14, H15, rfl, hB⟩
    replace hb := hb.trans (hB.mono hb.size)
    replace r4 := Row.below r4 hB (Row.lt r4)
    replace r5 := Row.below r5 hB (Row.lt r5)
    replace r6 := Row.below r6 hB (Row.lt r6)
    replace r9 := Row.below r9 hB (Row.lt r9)
    replace r11 := Row.below r11 hB (Row.lt r11)
    replace r13 := Row.below r13 hB (Row.lt r13)
    clear hB
    have n0 : Row ((V4.alloc (Obj.cells #[Value.int IntKind.u64 0, Value.int IntKind.u64 0, Value.int IntKind.u64 0, Value.int IntKind.u64 0] 24)).alloc (Obj.cells #[Value.int IntKind.u64 0, Value.int IntKind.u64 0, Value.int IntKind.u64 0, Value.int IntKind.u64 0] 24)) V4.heap.size (vQ (List.replicate 4 0)) 24 := (Row.new' rfl rfl).alloc _
    have n1 : Row ((V4.alloc (Obj.cells #[Value.int IntKind.u64 0, Value.int IntKind.u64 0, Value.int IntKind.u64 0, Value.int IntKind.u64 0] 24)).alloc (Obj.cells #[Value.int IntKind.u64 0, Value.int IntKind.u64 0, Value.int IntKind.u64 0, Value.int IntKind.u64 0] 24)) (V4.heap.size + 1) (vQ (List.replicate 4 0)) 24 := Row.new' (by simp) rfl
    have T0 := H14.there n0 rfl
    replace n0 := n0.over (vs := c14) (by rw [H14.len]; rfl)
    replace n1 := Row.setCells_other n1 V4.heap.size 0 c14 (by omega)
    have T1 := H15.there n1 rfl
    replace n0 := Row.setCells_other n0 (V4.heap.size + 1) 0 c15 (by omega)
    replace n1 := n1.over (vs := c15) (by rw [H15.len]; rfl)
    have lt := Row.lt r4
    replace r4 := (Row.setCells_other (Row.setCells_other (Row.alloc (Row.alloc r4 (Obj.cells #[Value.int IntKind.u64 0, Value.int IntKind.u64 0, Value.int IntKind.u64 0, Value.int IntKind.u64 0] 24)) (Obj.cells #[Value.int IntKind.u64 0, Value.int IntKind.u64 0, Value.int IntKind.u64 0, Value.int IntKind.u64 0] 24)) V4.heap.size 0 c14 (by omega)) (V4.heap.size + 1) 0 c15 (by omega))
    clear lt
    have lt := Row.lt r5
    replace r5 := (Row.setCells_other (Row.setCells_other (Row.alloc (Row.alloc r5 (Obj.cells #[Value.int IntKind.u64 0, Value.int IntKind.u64 0, Value.int IntKind.u64 0, Value.int IntKind.u64 0] 24)) (Obj.cells #[Value.int IntKind.u64 0, Value.int IntKind.u64 0, Value.int IntKind.u64 0, Value.int IntKind.u64 0] 24)) V4.heap.size 0 c14 (by omega)) (V4.heap.size + 1) 0 c15 (by omega))
    clear lt
    have lt := Row.lt r6
    replace r6 := (Row.setCells_other (Row.setCells_other (Row.alloc (Row.alloc r6 (Obj.cells #[Value.int IntKind.u64 0, Value.int IntKind.u64 0, Value.int IntKind.u64 0, Value.int IntKind.u64 0] 24)) (Obj.cells #[Value.int IntKind.u64 0, Value.int IntKind.u64 0, Value.int IntKind.u64 0, Value.int IntKind.u64 0] 24)) V4.heap.size 0 c14 (by omega)) (V4.heap.size + 1) 0 c15 (by omega))
    clear lt
    have lt := Row.lt r9
    replace r9 := (Row.setCells_other (Row.setCells_other (Row.alloc (Row.alloc r9 (Obj.cells #[Value.int IntKind.u64 0, Value.int IntKind.u64 0, Value.int IntKind.u64 0, Value.int IntKind.u64 0] 24)) (Obj.cells #[Value.int IntKind.u64 0, Value.int IntKind.u64 0, Value.int IntKind.u64 0, Value.int IntKind.u64 0] 24)) V4.heap.size 0 c14 (by omega)) (V4.heap.size + 1) 0 c15 (by omega))
    clear lt
    have lt := Row.lt r11
    replace r11 := (Row.setCells_other (Row.setCells_other (Row.alloc (Row.alloc r11 (Obj.cells #[Value.int IntKind.u64 0, Value.int IntKind.u64 0, Value.int IntKind.u64 0, Value.int IntKind.u64 0] 24)) (Obj.cells #[Value.int IntKind.u64 0, Value.int IntKind.u64 0, Value.int IntKind.u64 0, Value.int IntKind.u64 0] 24)) V4.heap.size 0 c14 (by omega)) (V4.heap.size + 1) 0 c15 (by omega))
    clear lt
    have lt := Row.lt r13
    replace r13 := (Row.setCells_other (Row.setCells_other (Row.alloc (Row.alloc r13 (Obj.cells #[Value.int IntKind.u64 0, Value.int IntKind.u64 0, Value.int IntKind.u64 0, Value.int IntKind.u64 0] 24)) (Obj.cells #[Value.int IntKind.u64 0, Value.int IntKind.u64 0, Value.int IntKind.u64 0, Value.int IntKind.u64 0] 24)) V4.heap.size 0 c14 (by omega)) (V4.heap.size + 1) 0 c15 (by omega))
    clear lt
    have hbn : Below w.heap.size w ((((V4.alloc (Obj.cells #[Value.int IntKind.u64 0, Value.int IntKind.u64 0, Value.int IntKind.u64 0, Value.int IntKind.u64 0] 24)).alloc (Obj.cells #[Value.int IntKind.u64 0, Value.int IntKind.u64 0, Value.int IntKind.u64 0, Value.int IntKind.u64 0] 24)).setCells V4.heap.size 0 c14).setCells (V4.heap.size + 1) 0 c15) := (below_setCells (below_setCells ((hb.alloc hb.size (Obj.cells #[Value.int IntKind.u64 0, Value.int IntKind.u64 0, Value.int IntKind.u64 0, Value.int IntKind.u64 0] 24)).alloc (by simp; have := hb.size; omega) (Obj.cells #[Value.int IntKind.u64 0, Value.int IntKind.u64 0, Value.int IntKind.u64 0, Value.int IntKind.u64 0] 24)) (b := V4.heap.size) (o := 0) (by have := hb.size; omega) c14) (b := V4.heap.size + 1) (o := 0) (by have := hb.size; omega) c15)
    replace hb := hbn
    clear hbn
    have r14 := n0
    have r15 := n1
    clear n0 n1
    go_wp2_with (first
      | (refine wpList_store_mid rfl 24 (.tmp 14) (.tmp 75) rfl V4.heap.size 0 c14.toArray rfl rfl T0 H14.info' H14.one ?_; simp only [Act.put])
      | (refine wpList_store_mid rfl 24 (.tmp 15) (.tmp 76) rfl (V4.heap.size + 1) 0 c15.toArray rfl rfl T1 H15.info' H15.one ?_; simp only [Act.put]; clear T0 T1; (change wpList _ _ _ _ _ ((((V4.alloc (Obj.cells #[Value.int IntKind.u64 0, Value.int IntKind.u64 0, Value.int IntKind.u64 0, Value.int IntKind.u64 0] 24)).alloc (Obj.cells #[Value.int IntKind.u64 0, Value.int IntKind.u64 0, Value.int IntKind.u64 0, Value.int IntKind.u64 0] 24)).setCells V4.heap.size 0 c14).setCells (V4.heap.size + 1) 0 c15)); (generalize ((((V4.alloc (Obj.cells #[Value.int IntKind.u64 0, Value.int IntKind.u64 0, Value.int IntKind.u64 0, Value.int IntKind.u64 0] 24)).alloc (Obj.cells #[Value.int IntKind.u64 0, Value.int IntKind.u64 0, Value.int IntKind.u64 0, Value.int IntKind.u64 0] 24)).setCells V4.heap.size 0 c14).setCells (V4.heap.size + 1) 0 c15) = X4 at *); (generalize hN1 : V4.heap.size + 1 = N15 at *; clear hN1); (generalize hN0 : V4.heap.size = N14 at *; clear hN0))
      | (refine wpList_load_w rfl 24 (.tmp 4) rfl N4 0 rfl ca _ r4.all Tryd.underlying24 rfl Ha.info ?_; simp only [Act.put, List.setIfInBounds_toArray, List.set_cons_zero, List.set_cons_succ])
      | (refine wpList_load_w rfl 24 (.tmp 5) rfl N5 0 rfl cb _ r5.all Tryd.underlying24 rfl Hb.info ?_; simp only [Act.put, List.setIfInBounds_toArray, List.set_cons_zero, List.set_cons_succ])
      | (refine wpList_load_w rfl 24 (.tmp 6) rfl N6 0 rfl cc _ r6.all Tryd.underlying24 rfl Hc.info ?_; simp only [Act.put, List.setIfInBounds_toArray, List.set_cons_zero, List.set_cons_succ]))
    refine (md_c Ha Hb Hc HA.out HB.out HC.out Q5.out.1 Q5.out.2 X4).mono ?_
    rintro e V5 ⟨c16, H16, rfl, hB⟩
    replace hb := hb.trans (hB.mono hb.size)
    replace r4 := Row.below r4 hB (Row.lt r4)
    replace r5 := Row.below r5 hB (Row.lt r5)
    replace r6 := Row.below r6 hB (Row.lt r6)
    replace r9 := Row.below r9 hB (Row.lt r9)
    replace r11 := Row.below r11 hB (Row.lt r11)
    replace r13 := Row.below r13 hB (Row.lt r13)
    replace r14 := Row.below r14 hB (Row.lt r14)
    replace r15 := Row.below r15 hB (Row.lt r15)
    clear hB
    have n0 : Row (V5.alloc (Obj.cells #[Value.int IntKind.u64 0, Value.int IntKind.u64 0, Value.int IntKind.u64 0, Value.int IntKind.u64 0] 24)) V5.heap.size (vQ (List.replicate 4 0)) 24 := Row.new' rfl rfl
    have T0 := H16.there n0 rfl
    replace n0 := n0.over (vs := c16) (by rw [H16.len]; rfl)
    have lt := Row.lt r4
    replace r4 := (Row.setCells_other (Row.alloc r4 (Obj.cells #[Value.int IntKind.u64 0, Value.int IntKind.u64 0, Value.int IntKind.u64 0, Value.int IntKind.u64 0] 24)) V5.heap.size 0 c16 (by omega))
    clear lt
    have lt := Row.lt r5
    replace r5 := (Row.setCells_other (Row.alloc r5 (Obj.cells #[Value.int IntKind.u64 0, Value.int IntKind.u64 0, Value.int IntKind.u64 0, Value.int IntKind.u64 0] 24)) V5.heap.size 0 c16 (by omega))
    clear lt
    have lt := Row.lt r6
    replace r6 := (Row.setCells_other (Row.alloc r6 (Obj.cells #[Value.int IntKind.u64 0, Value.int IntKind.u64 0, Value.int IntKind.u64 0, Value.int IntKind.u64 0] 24)) V5.heap.size 0 c16 (by omega))
    clear lt
    have lt := Row.lt r9
    replace r9 := (Row.setCells_other (Row.alloc r9 (Obj.cells #[Value.int IntKind.u64 0, Value.int IntKind.u64 0, Value.int IntKind.u64 0, Value.int IntKind.u64 0] 24)) V5.heap.size 0 c16 (by omega))
    clear lt
    have lt := Row.lt r11
    replace r11 := (Row.setCells_other (Row.alloc r11 (Obj.cells #[Value.int IntKind.u64 0, Value.int IntKind.u64 0, Value.int IntKind.u64 0, Value.int IntKind.u64 0] 24)) V5.heap.size 0 c16 (by omega))
    clear lt
    have lt := Row.lt r13
    replace r13 := (Row.setCells_other (Row.alloc r13 (Obj.cells #[Value.int IntKind.u64 0, Value.int IntKind.u64 0, Value.int IntKind.u64 0, Value.int IntKind.u64 0] 24)) V5.heap.size 0 c16 (by omega))
    clear lt
    have lt := Row.lt r14
    replace r14 := (Row.setCells_other (Row.alloc r14 (Obj.cells #[Value.int IntKind.u64 0, Value.int IntKind.u64 0, Value.int IntKind.u64 0, Value.int IntKind.u64 0] 24)) V5.heap.size 0 c16 (by omega))
    clear lt
    have lt := Row.lt r15
    replace r15 := (Row.setCells_other (Row.alloc r15 (Obj.cells #[Value.int IntKind.u64 0, Value.int IntKind.u64 0, Value.int IntKind.u64 0, Value.int IntKind.u64 0] 24)) V5.heap.size 0 c16 (by omega))
    clear lt
    have hbn : Below w.heap.size w ((V5.alloc (Obj.cells #[Value.int IntKind.u64 0, Value.int IntKind.u64 0, Value.int IntKind.u64 0, Value.int IntKind.u64 0] 24)).setCells V5.heap.size 0 c16) := (below_setCells (hb.alloc hb.size (Obj.cells #[Value.int IntKind.u64 0, Value.int IntKind.u64 0, Value.int IntKind.u64 0, Value.int IntKind.u64 0] 24)) (b := V5.heap.size) (o := 0) (by have := hb.size; omega) c16)
    replace hb := hbn
    clear hbn
    have r16 := n0
    clear n0
    go_wp2_with (first
      | (refine wpList_store_mid rfl 24 (.tmp 16) (.tmp 83) rfl V5.heap.size 0 c16.toArray rfl rfl T0 H16.info' H16.one ?_; simp only [Act.put]; clear T0; (change wpList _ _ _ _ _ ((V5.alloc (Obj.cells #[Value.int IntKind.u64 0, Value.int IntKind.u64 0, Value.int IntKind.u64 0, Value.int IntKind.u64 0] 24)).setCells V5.heap.size 0 c16)); (generalize ((V5.alloc (Obj.cells #[Value.int IntKind.u64 0, Value.int IntKind.u64 0, Value.int IntKind.u64 0, Value.int IntKind.u64 0] 24)).setCells V5.heap.size 0 c16) = X5 at *); (generalize hN0 : V5.heap.size = N16 at *; clear hN0))
      | (refine wpList_load_w rfl 24 (.tmp 13) rfl N13 0 rfl c13 _ r13.all Tryd.underlying24 rfl H13.info ?_; simp only [Act.put, List.setIfInBounds_toArray, List.set_cons_zero, List.set_cons_succ])
      | (refine wpList_load_w rfl 24 (.tmp 6) rfl N6 0 rfl cc _ r6.all Tryd.underlying24 rfl Hc.info ?_; simp only [Act.put, List.setIfInBounds_toArray, List.set_cons_zero, List.set_cons_succ]))
    refine (div_c H13 Hc HLM.out HC.out Q6.out.1 Q6.out.2.1 Q6.out.2.2 X5).mono ?_
    rintro e V6 ⟨c18, c19, H18, H19, rfl, hB⟩
    replace hb := hb.trans (hB.mono hb.size)
    replace r4 := Row.below r4 hB (Row.lt r4)
    replace r5 := Row.below r5 hB (Row.lt r5)
    replace r6 := Row.below r6 hB (Row.lt r6)
    replace r9 := Row.below r9 hB (Row.lt r9)
    replace r11 := Row.below r11 hB (Row.lt r11)
    replace r13 := Row.below r13 hB (Row.lt r13)
    replace r14 := Row.below r14 hB (Row.lt r14)
    replace r15 := Row.below r15 hB (Row.lt r15)
    replace r16 := Row.below r16 hB (Row.lt r16)
    clear hB
    have n0 : Row ((V6.alloc (Obj.cells #[Value.int IntKind.u64 0, Value.int IntKind.u64 0, Value.int IntKind.u64 0, Value.int IntKind.u64 0] 24)).alloc (Obj.cells #[Value.int IntKind.u64 0, Value.int IntKind.u64 0, Value.int IntKind.u64 0, Value.int IntKind.u64 0] 24)) V6.heap.size (vQ (List.replicate 4 0)) 24 := (Row.new' rfl rfl).alloc _
    have n1 : Row ((V6.alloc (Obj.cells #[Value.int IntKind.u64 0, Value.int IntKind.u64 0, Value.int IntKind.u64 0, Value.int IntKind.u64 0] 24)).alloc (Obj.cells #[Value.int IntKind.u64 0, Value.int IntKind.u64 0, Value.int IntKind.u64 0, Value.int IntKind.u64 0] 24)) (V6.heap.size + 1) (vQ (List.replicate 4 0)) 24 := Row.new' (by simp) rfl
    have T0 := H18.there n0 rfl
    replace n0 := n0.over (vs := c18) (by rw [H18.len]; rfl)
    replace n1 := Row.setCells_other n1 V6.heap.size 0 c18 (by omega)
    have T1 := H19.there n1 rfl
    replace n0 := Row.setCells_other n0 (V6.heap.size + 1) 0 c19 (by omega)
    replace n1 := n1.over (vs := c19) (by rw [H19.len]; rfl)
    have lt := Row.lt r4
    replace r4 := (Row.setCells_other (Row.setCells_other (Row.alloc (Row.alloc r4 (Obj.cells #[Value.int IntKind.u64 0, Value.int IntKind.u64 0, Value.int IntKind.u64 0, Value.int IntKind.u64 0] 24)) (Obj.cells #[Value.int IntKind.u64 0, Value.int IntKind.u64 0, Value.int IntKind.u64 0, Value.int IntKind.u64 0] 24)) V6.heap.size 0 c18 (by omega)) (V6.heap.size + 1) 0 c19 (by omega))
    clear lt
    have lt := Row.lt r5
    replace r5 := (Row.setCells_other (Row.setCells_other (Row.alloc (Row.alloc r5 (Obj.cells #[Value.int IntKind.u64 0, Value.int IntKind.u64 0, Value.int IntKind.u64 0, Value.int IntKind.u64 0] 24)) (Obj.cells #[Value.int IntKind.u64 0, Value.int IntKind.u64 0, Value.int IntKind.u64 0, Value.int IntKind.u64 0] 24)) V6.heap.size 0 c18 (by omega)) (V6.heap.size + 1) 0 c19 (by omega))
    clear lt
    have lt := Row.lt r6
    replace r6 := (Row.setCells_other (Row.setCells_other (Row.alloc (Row.alloc r6 (Obj.cells #[Value.int IntKind.u64 0, Value.int IntKind.u64 0, Value.int IntKind.u64 0, Value.int IntKind.u64 0] 24)) (Obj.cells #[Value.int IntKind.u64 0, Value.int IntKind.u64 0, Value.int IntKind.u64 0, Value.int IntKind.u64 0] 24)) V6.heap.size 0 c18 (by omega)) (V6.heap.size + 1) 0 c19 (by omega))
    clear lt
    have lt := Row.lt r9
    replace r9 := (Row.setCells_other (Row.setCells_other (Row.alloc (Row.alloc r9 (Obj.cells #[Value.int IntKind.u64 0, Value.int IntKind.u64 0, Value.int IntKind.u64 0, Value.int IntKind.u64 0] 24)) (Obj.cells #[Value.int IntKind.u64 0, Value.int IntKind.u64 0, Value.int IntKind.u64 0, Value.int IntKind.u64 0] 24)) V6.heap.size 0 c18 (by omega)) (V6.heap.size + 1) 0 c19 (by omega))
    clear lt
    have lt := Row.lt r11
    replace r11 := (Row.setCells_other (Row.setCells_other (Row.alloc (Row.alloc r11 (Obj.cells #[Value.int IntKind.u64 0, Value.int IntKind.u64 0, Value.int IntKind.u64 0, Value.int IntKind.u64 0] 24)) (Obj.cells #[Value.int IntKind.u64 0, Value.int IntKind.u64 0, Value.int IntKind.u64 0, Value.int IntKind.u64 0] 24)) V6.heap.size 0 c18 (by omega)) (V6.heap.size + 1) 0 c19 (by omega))
    clear lt
    have lt := Row.lt r13
    replace r13 := (Row.setCells_other (Row.setCells_other (Row.alloc (Row.alloc r13 (Obj.cells #[Value.int IntKind.u64 0, Value.int IntKind.u64 0, Value.int IntKind.u64 0, Value.int IntKind.u64 0] 24)) (Obj.cells #[Value.int IntKind.u64 0, Value.int IntKind.u64 0, Value.int IntKind.u64 0, Value.int IntKind.u64 0] 24)) V6.heap.size 0 c18 (by omega)) (V6.heap.size + 1) 0 c19 (by omega))
    clear lt
    have lt := Row.lt r14
    replace r14 := (Row.setCells_other (Row.setCells_other (Row.alloc (Row.alloc r14 (Obj.cells #[Value.int IntKind.u64 0, Value.int IntKind.u64 0, Value.int IntKind.u64 0, Value.int IntKind.u64 0] 24)) (Obj.cells #[Value.int IntKind.u64 0, Value.int IntKind.u64 0, Value.int IntKind.u64 0, Value.int IntKind.u64 0] 24)) V6.heap.size 0 c18 (by omega)) (V6.heap.size + 1) 0 c19 (by omega))
    clear lt
    have lt := Row.lt r15
    replace r15 := (Row.setCells_other (Row.setCells_other (Row.alloc (Row.alloc r15 (Obj.cells #[Value.int IntKind.u64 0, Value.int IntKind.u64 0, Value.int IntKind.u64 0, Value.int IntKind.u64 0] 24)) (Obj.cells #[Value.int IntKind.u64 0, Value.int IntKind.u64 0, Value.int IntKind.u64 0, Value.int IntKind.u64 0] 24)) V6.heap.size 0 c18 (by omega)) (V6.heap.size + 1) 0 c19 (by omega))
    clear lt
    have lt := Row.lt r16
    replace r16 := (Row.setCells_other (Row.setCells_other (Row.alloc (Row.alloc r16 (Obj.cells #[Value.int IntKind.u64 0, Value.int IntKind.u64 0, Value.int IntKind.u64 0, Value.int IntKind.u64 0] 24)) (Obj.cells #[Value.int IntKind.u64 0, Value.int IntKind.u64 0, Value.int IntKind.u64 0, Value.int IntKind.u64 0] 24)) V6.heap.size 0 c18 (by omega)) (V6.heap.size + 1) 0 c19 (by omega))
    clear lt
    have hbn : Below w.heap.size w ((((V6.alloc (Obj.cells #[Value.int IntKind.u64 0, Value.int IntKind.u64 0, Value.int IntKind.u64 0, Value.int IntKind.u64 0] 24)).alloc (Obj.cells #[Value.int IntKind.u64 0, Value.int IntKind.u64 0, Value.int IntKind.u64 0, Value.int IntKind.u64 0] 24)).setCells V6.heap.size 0 c18).setCells (V6.heap.size + 1) 0 c19) := (below_setCells (below_setCells ((hb.alloc hb.size (Obj.cells #[Value.int IntKind.u64 0, Value.int IntKind.u64 0, Value.int IntKind.u64 0, Value.int IntKind.u64 0] 24)).alloc (by simp; have := hb.size; omega) (Obj.cells #[Value.int IntKind.u64 0, Value.int IntKind.u64 0, Value.int IntKind.u64 0, Value.int IntKind.u64 0] 24)) (b := V6.heap.size) (o := 0) (by have := hb.size; omega) c18) (b := V6.heap.size + 1) (o := 0) (by have := hb.size; omega) c19)
    replace hb := hbn
    clear hbn
    have r18 := n0
    have r19 := n1
    clear n0 n1
    go_upto_region 15 with (first
      | (refine wpList_store_mid rfl 24 (.tmp 18) (.tmp 89) rfl V6.heap.size 0 c18.toArray rfl rfl T0 H18.info' H18.one ?_; simp only [Act.put])
      | (refine wpList_store_mid rfl 24 (.tmp 19) (.tmp 90) rfl (V6.heap.size + 1) 0 c19.toArray rfl rfl T1 H19.info' H19.one ?_; simp only [Act.put]; clear T0 T1; (change wpList _ _ _ _ _ ((((V6.alloc (Obj.cells #[Value.int IntKind.u64 0, Value.int IntKind.u64 0, Value.int IntKind.u64 0, Value.int IntKind.u64 0] 24)).alloc (Obj.cells #[Value.int IntKind.u64 0, Value.int IntKind.u64 0, Value.int IntKind.u64 0, Value.int IntKind.u64 0] 24)).setCells V6.heap.size 0 c18).setCells (V6.heap.size + 1) 0 c19)); (generalize ((((V6.alloc (Obj.cells #[Value.int IntKind.u64 0, Value.int IntKind.u64 0, Value.int IntKind.u64 0, Value.int IntKind.u64 0] 24)).alloc (Obj.cells #[Value.int IntKind.u64 0, Value.int IntKind.u64 0, Value.int IntKind.u64 0, Value.int IntKind.u64 0] 24)).setCells V6.heap.size 0 c18).setCells (V6.heap.size + 1) 0 c19) = X6 at *); (generalize hN1 : V6.heap.size + 1 = N19 at *; clear hN1); (generalize hN0 : V6.heap.size = N18 at *; clear hN0)))
    go_cut [112] from 92 to 112 (fun c112 wz => c112 = .bool false ∧ wz = X6)
    case first =>
      rcases K2.out with h | ⟨h1, h2⟩ | ⟨h1, h2, h3, h4, h5⟩
      · have hz : (E2 == 0) = false := by rw [beq_eq_false_iff_ne]; exact h
        go_wp2_with fail
        go_meet
        exact ⟨rfl, rfl⟩
      · subst h1
        go_wp2_with (first
          | (refine wpList_load_w rfl 24 (.tmp 5) rfl N5 0 rfl cb _ r5.all Tryd.underlying24 rfl Hb.info ?_; simp only [Act.put, List.setIfInBounds_toArray, List.set_cons_zero, List.set_cons_succ])
          | (refine wpList_neq_c (B := false) rfl (.tmp 95) (.tmp 96) 24 rfl Hb Wc.zero HB.out (by decide) rfl rfl (by simp [h2]) ?_; simp only [Act.put, List.setIfInBounds_toArray, List.set_cons_zero, List.set_cons_succ]))
        go_meet
        exact ⟨rfl, rfl⟩
      · subst h1 h3
        go_wp2_with (first
          | (refine wpList_load_w rfl 24 (.tmp 5) rfl N5 0 rfl cb _ r5.all Tryd.underlying24 rfl Hb.info ?_; simp only [Act.put, List.setIfInBounds_toArray, List.set_cons_zero, List.set_cons_succ])
          | (refine wpList_load_w rfl 24 (.tmp 14) rfl N14 0 rfl c14 _ r14.all Tryd.underlying24 rfl H14.info ?_; simp only [Act.put, List.setIfInBounds_toArray, List.set_cons_zero, List.set_cons_succ])
          | (refine wpList_load_w rfl 24 (.tmp 4) rfl N4 0 rfl ca _ r4.all Tryd.underlying24 rfl Ha.info ?_; simp only [Act.put, List.setIfInBounds_toArray, List.set_cons_zero, List.set_cons_succ])
          | (refine wpList_load_w rfl 24 (.tmp 15) rfl N15 0 rfl c15 _ r15.all Tryd.underlying24 rfl H15.info ?_; simp only [Act.put, List.setIfInBounds_toArray, List.set_cons_zero, List.set_cons_succ])
          | (refine wpList_neq_c (B := true) rfl (.tmp 95) (.tmp 96) 24 rfl Hb Wc.zero HB.out (by decide) rfl rfl (by simp [h2]) ?_; simp only [Act.put, List.setIfInBounds_toArray, List.set_cons_zero, List.set_cons_succ])
          | (refine wpList_neq_c (B := false) rfl (.tmp 103) (.tmp 104) 24 rfl H14 Ha HLX.out HA.out rfl rfl (by simp [h4]) ?_; simp only [Act.put, List.setIfInBounds_toArray, List.set_cons_zero, List.set_cons_succ])
          | (refine wpList_neq_c (B := false) rfl (.tmp 108) (.tmp 109) 24 rfl H15 Wc.zero HLY.out (by decide) rfl rfl (by simp [h5]) ?_; simp only [Act.put, List.setIfInBounds_toArray, List.set_cons_zero, List.set_cons_succ]))
        go_meet
        exact ⟨rfl, rfl⟩
    case rest =>
      obtain ⟨rfl, hwc⟩ := hcut
      subst hwc
      clear r9 r11 r14 r15 r19
      go_upto_region 17 with fail
      go_cut [124] from 113 to 124 (fun c124 wz => c124 = .bool false ∧ wz = wc)
      case first =>
        rcases K3.out with h | ⟨h1, h2, h3⟩
        · have hz : (E2 == 0) = false := by rw [beq_eq_false_iff_ne]; exact h
          go_wp2_with fail
          go_meet
          exact ⟨rfl, rfl⟩
        · subst h1 h2
          go_wp2_with (first
            | (refine wpList_load_w rfl 24 (.tmp 16) rfl N16 0 rfl c16 _ r16.all Tryd.underlying24 rfl H16.info ?_; simp only [Act.put, List.setIfInBounds_toArray, List.set_cons_zero, List.set_cons_succ])
            | (refine wpList_load_w rfl 24 (.tmp 18) rfl N18 0 rfl c18 _ r18.all Tryd.underlying24 rfl H18.info ?_; simp only [Act.put, List.setIfInBounds_toArray, List.set_cons_zero, List.set_cons_succ])
            | (refine wpList_neq_c (B := false) rfl (.tmp 120) (.tmp 121) 24 rfl H16 H18 HLN.out HLV.out rfl rfl (by simp [h3]) ?_; simp only [Act.put, List.setIfInBounds_toArray, List.set_cons_zero, List.set_cons_succ]))
          go_meet
          exact ⟨rfl, rfl⟩
      case rest =>
        obtain ⟨rfl, hwc⟩ := hcut
        subst hwc
        clear r13 r16 r18
        go_wp2_with (refine wpList_load_w rfl 24 (.tmp 4) rfl N4 0 rfl ca _ r4.all Tryd.underlying24 rfl Ha.info ?_; simp only [Act.put, List.setIfInBounds_toArray, List.set_cons_zero, List.set_cons_succ])
        refine (bytes_c Ha _).mono ?_
        rintro e V7 ⟨NA, _, rA, rfl, hB⟩
        replace hb := hb.trans (hB.mono hb.size)
        replace r4 := Row.below r4 hB (Row.lt r4)
        replace r5 := Row.below r5 hB (Row.lt r5)
        replace r6 := Row.below r6 hB (Row.lt r6)
        clear hB
        go_wp2_with fail
        have HRD := read_c (bl_lt a) (bl_length a) 32 Q9.out.1 Q9.out.2 V7 (By.row rA)
        clear rA
        refine ((fun _ => HRD) V7).mono ?_
        rintro e V8 ⟨c21, H21, rfl, hB⟩
        replace hb := hb.trans (hB.mono hb.size)
        replace r4 := Row.below r4 hB (Row.lt r4)
        replace r5 := Row.below r5 hB (Row.lt r5)
        replace r6 := Row.below r6 hB (Row.lt r6)
        clear hB
        have n0 : Row (V8.alloc (Obj.cells #[Value.int IntKind.u64 0, Value.int IntKind.u64 0, Value.int IntKind.u64 0, Value.int IntKind.u64 0] 24)) V8.heap.size (vQ (List.replicate 4 0)) 24 := Row.new' rfl rfl
        have T0 := H21.there n0 rfl
        replace n0 := n0.over (vs := c21) (by rw [H21.len]; rfl)
        have lt := Row.lt r4
        replace r4 := (Row.setCells_other (Row.alloc r4 (Obj.cells #[Value.int IntKind.u64 0, Value.int IntKind.u64 0, Value.int IntKind.u64 0, Value.int IntKind.u64 0] 24)) V8.heap.size 0 c21 (by omega))
        clear lt
        have lt := Row.lt r5
        replace r5 := (Row.setCells_other (Row.alloc r5 (Obj.cells #[Value.int IntKind.u64 0, Value.int IntKind.u64 0, Value.int IntKind.u64 0, Value.int IntKind.u64 0] 24)) V8.heap.size 0 c21 (by omega))
        clear lt
        have lt := Row.lt r6
        replace r6 := (Row.setCells_other (Row.alloc r6 (Obj.cells #[Value.int IntKind.u64 0, Value.int IntKind.u64 0, Value.int IntKind.u64 0, Value.int IntKind.u64 0] 24)) V8.heap.size 0 c21 (by omega))
        clear lt
        have hbn : Below w.heap.size w ((V8.alloc (Obj.cells #[Value.int IntKind.u64 0, Value.int IntKind.u64 0, Value.int IntKind.u64 0, Value.int IntKind.u64 0] 24)).setCells V8.heap.size 0 c21) := (below_setCells (hb.alloc hb.size (Obj.cells #[Value.int IntKind.u64 0, Value.int IntKind.u64 0, Value.int IntKind.u64 0, Value.int IntKind.u64 0] 24)) (b := V8.heap.size) (o := 0) (by have := hb.size; omega) c21)
        replace hb := hbn
        clear hbn
        have r21 := n0
        clear n0
        go_wp2_with (first
          | (refine wpList_store_mid rfl 24 (.tmp 21) (.tmp 129) rfl V8.heap.size 0 c21.toArray rfl rfl T0 H21.info' H21.one ?_; simp only [Act.put]; clear T0; (change wpList _ _ _ _ _ ((V8.alloc (Obj.cells #[Value.int IntKind.u64 0, Value.int IntKind.u64 0, Value.int IntKind.u64 0, Value.int IntKind.u64 0] 24)).setCells V8.heap.size 0 c21)); (generalize ((V8.alloc (Obj.cells #[Value.int IntKind.u64 0, Value.int IntKind.u64 0, Value.int IntKind.u64 0, Value.int IntKind.u64 0] 24)).setCells V8.heap.size 0 c21) = X8 at *); (generalize hN0 : V8.heap.size = N21 at *; clear hN0))
          | (refine wpList_load_w rfl 24 (.tmp 4) rfl N4 0 rfl ca _ r4.all Tryd.underlying24 rfl Ha.info ?_; simp only [Act.put, List.setIfInBounds_toArray, List.set_cons_zero, List.set_cons_succ]))
        clear HRD
        refine (text_c Ha HA.out HD1.out _ (HP.out.below hb)).mono ?_
        rintro e V9 ⟨rfl, hB⟩
        replace hb := hb.trans (hB.mono hb.size)
        replace r4 := Row.below r4 hB (Row.lt r4)
        replace r5 := Row.below r5 hB (Row.lt r5)
        replace r6 := Row.below r6 hB (Row.lt r6)
        replace r21 := Row.below r21 hB (Row.lt r21)
        clear hB
        go_wp2_with fail
        refine (parse_c HSN.out QN.out Q10.out.1 Q10.out.2 V9).mono ?_
        rintro e V10 ⟨c23, H23, rfl, hB⟩
        replace hb := hb.trans (hB.mono hb.size)
        replace r4 := Row.below r4 hB (Row.lt r4)
        replace r5 := Row.below r5 hB (Row.lt r5)
        replace r6 := Row.below r6 hB (Row.lt r6)
        replace r21 := Row.below r21 hB (Row.lt r21)
        clear hB
        have n0 : Row (V10.alloc (Obj.cells #[Value.int IntKind.u64 0, Value.int IntKind.u64 0, Value.int IntKind.u64 0, Value.int IntKind.u64 0] 24)) V10.heap.size (vQ (List.replicate 4 0)) 24 := Row.new' rfl rfl
        have T0 := H23.there n0 rfl
        replace n0 := n0.over (vs := c23) (by rw [H23.len]; rfl)
        have lt := Row.lt r4
        replace r4 := (Row.setCells_other (Row.alloc r4 (Obj.cells #[Value.int IntKind.u64 0, Value.int IntKind.u64 0, Value.int IntKind.u64 0, Value.int IntKind.u64 0] 24)) V10.heap.size 0 c23 (by omega))
        clear lt
        have lt := Row.lt r5
        replace r5 := (Row.setCells_other (Row.alloc r5 (Obj.cells #[Value.int IntKind.u64 0, Value.int IntKind.u64 0, Value.int IntKind.u64 0, Value.int IntKind.u64 0] 24)) V10.heap.size 0 c23 (by omega))
        clear lt
        have lt := Row.lt r6
        replace r6 := (Row.setCells_other (Row.alloc r6 (Obj.cells #[Value.int IntKind.u64 0, Value.int IntKind.u64 0, Value.int IntKind.u64 0, Value.int IntKind.u64 0] 24)) V10.heap.size 0 c23 (by omega))
        clear lt
        have lt := Row.lt r21
        replace r21 := (Row.setCells_other (Row.alloc r21 (Obj.cells #[Value.int IntKind.u64 0, Value.int IntKind.u64 0, Value.int IntKind.u64 0, Value.int IntKind.u64 0] 24)) V10.heap.size 0 c23 (by omega))
        clear lt
        have hbn : Below w.heap.size w ((V10.alloc (Obj.cells #[Value.int IntKind.u64 0, Value.int IntKind.u64 0, Value.int IntKind.u64 0, Value.int IntKind.u64 0] 24)).setCells V10.heap.size 0 c23) := (below_setCells (hb.alloc hb.size (Obj.cells #[Value.int IntKind.u64 0, Value.int IntKind.u64 0, Value.int IntKind.u64 0, Value.int IntKind.u64 0] 24)) (b := V10.heap.size) (o := 0) (by have := hb.size; omega) c23)
        replace hb := hbn
        clear hbn
        have r23 := n0
        clear n0
        go_wp2_with (refine wpList_store_mid rfl 24 (.tmp 23) (.tmp 135) rfl V10.heap.size 0 c23.toArray rfl rfl T0 H23.info' H23.one ?_; simp only [Act.put]; clear T0; (change wpList _ _ _ _ _ ((V10.alloc (Obj.cells #[Value.int IntKind.u64 0, Value.int IntKind.u64 0, Value.int IntKind.u64 0, Value.int IntKind.u64 0] 24)).setCells V10.heap.size 0 c23)); (generalize ((V10.alloc (Obj.cells #[Value.int IntKind.u64 0, Value.int IntKind.u64 0, Value.int IntKind.u64 0, Value.int IntKind.u64 0] 24)).setCells V10.heap.size 0 c23) = X10 at *); (generalize hN0 : V10.heap.size = N23 at *; clear hN0))
        have HRD := read_c HRW.out QR.out cap Q7.out.1 Q7.out.2 X10 (HBY.out.below hb)
        refine ((fun _ => HRD) X10).mono ?_
        rintro e V11 ⟨c25, H25, rfl, hB⟩
        replace hb := hb.trans (hB.mono hb.size)
        replace r4 := Row.below r4 hB (Row.lt r4)
        replace r5 := Row.below r5 hB (Row.lt r5)
        replace r6 := Row.below r6 hB (Row.lt r6)
        replace r21 := Row.below r21 hB (Row.lt r21)
        replace r23 := Row.below r23 hB (Row.lt r23)
        clear hB
        have n0 : Row (V11.alloc (Obj.cells #[Value.int IntKind.u64 0, Value.int IntKind.u64 0, Value.int IntKind.u64 0, Value.int IntKind.u64 0] 24)) V11.heap.size (vQ (List.replicate 4 0)) 24 := Row.new' rfl rfl
        have T0 := H25.there n0 rfl
        replace n0 := n0.over (vs := c25) (by rw [H25.len]; rfl)
        have lt := Row.lt r4
        replace r4 := (Row.setCells_other (Row.alloc r4 (Obj.cells #[Value.int IntKind.u64 0, Value.int IntKind.u64 0, Value.int IntKind.u64 0, Value.int IntKind.u64 0] 24)) V11.heap.size 0 c25 (by omega))
        clear lt
        have lt := Row.lt r5
        replace r5 := (Row.setCells_other (Row.alloc r5 (Obj.cells #[Value.int IntKind.u64 0, Value.int IntKind.u64 0, Value.int IntKind.u64 0, Value.int IntKind.u64 0] 24)) V11.heap.size 0 c25 (by omega))
        clear lt
        have lt := Row.lt r6
        replace r6 := (Row.setCells_other (Row.alloc r6 (Obj.cells #[Value.int IntKind.u64 0, Value.int IntKind.u64 0, Value.int IntKind.u64 0, Value.int IntKind.u64 0] 24)) V11.heap.size 0 c25 (by omega))
        clear lt
        have lt := Row.lt r21
        replace r21 := (Row.setCells_other (Row.alloc r21 (Obj.cells #[Value.int IntKind.u64 0, Value.int IntKind.u64 0, Value.int IntKind.u64 0, Value.int IntKind.u64 0] 24)) V11.heap.size 0 c25 (by omega))
        clear lt
        have lt := Row.lt r23
        replace r23 := (Row.setCells_other (Row.alloc r23 (Obj.cells #[Value.int IntKind.u64 0, Value.int IntKind.u64 0, Value.int IntKind.u64 0, Value.int IntKind.u64 0] 24)) V11.heap.size 0 c25 (by omega))
        clear lt
        have hbn : Below w.heap.size w ((V11.alloc (Obj.cells #[Value.int IntKind.u64 0, Value.int IntKind.u64 0, Value.int IntKind.u64 0, Value.int IntKind.u64 0] 24)).setCells V11.heap.size 0 c25) := (below_setCells (hb.alloc hb.size (Obj.cells #[Value.int IntKind.u64 0, Value.int IntKind.u64 0, Value.int IntKind.u64 0, Value.int IntKind.u64 0] 24)) (b := V11.heap.size) (o := 0) (by have := hb.size; omega) c25)
        replace hb := hbn
        clear hbn
        have r25 := n0
        clear n0
        go_wp2_with (refine wpList_store_mid rfl 24 (.tmp 25) (.tmp 140) rfl V11.heap.size 0 c25.toArray rfl rfl T0 H25.info' H25.one ?_; simp only [Act.put]; clear T0; (change wpList _ _ _ _ _ ((V11.alloc (Obj.cells #[Value.int IntKind.u64 0, Value.int IntKind.u64 0, Value.int IntKind.u64 0, Value.int IntKind.u64 0] 24)).setCells V11.heap.size 0 c25)); (generalize ((V11.alloc (Obj.cells #[Value.int IntKind.u64 0, Value.int IntKind.u64 0, Value.int IntKind.u64 0, Value.int IntKind.u64 0] 24)).setCells V11.heap.size 0 c25) = X11 at *); (generalize hN0 : V11.heap.size = N25 at *; clear hN0))
        clear HRD
        refine (parse_c HS.out HN.out Q8.out.1 Q8.out.2 X11).mono ?_
        rintro e V12 ⟨c27, H27, rfl, hB⟩
        replace hb := hb.trans (hB.mono hb.size)
        replace r4 := Row.below r4 hB (Row.lt r4)
        replace r5 := Row.below r5 hB (Row.lt r5)
        replace r6 := Row.below r6 hB (Row.lt r6)
        replace r21 := Row.below r21 hB (Row.lt r21)
        replace r23 := Row.below r23 hB (Row.lt r23)
        replace r25 := Row.below r25 hB (Row.lt r25)
        clear hB
        have n0 : Row (V12.alloc (Obj.cells #[Value.int IntKind.u64 0, Value.int IntKind.u64 0, Value.int IntKind.u64 0, Value.int IntKind.u64 0] 24)) V12.heap.size (vQ (List.replicate 4 0)) 24 := Row.new' rfl rfl
        have T0 := H27.there n0 rfl
        replace n0 := n0.over (vs := c27) (by rw [H27.len]; rfl)
        have lt := Row.lt r4
        replace r4 := (Row.setCells_other (Row.alloc r4 (Obj.cells #[Value.int IntKind.u64 0, Value.int IntKind.u64 0, Value.int IntKind.u64 0, Value.int IntKind.u64 0] 24)) V12.heap.size 0 c27 (by omega))
        clear lt
        have lt := Row.lt r5
        replace r5 := (Row.setCells_other (Row.alloc r5 (Obj.cells #[Value.int IntKind.u64 0, Value.int IntKind.u64 0, Value.int IntKind.u64 0, Value.int IntKind.u64 0] 24)) V12.heap.size 0 c27 (by omega))
        clear lt
        have lt := Row.lt r6
        replace r6 := (Row.setCells_other (Row.alloc r6 (Obj.cells #[Value.int IntKind.u64 0, Value.int IntKind.u64 0, Value.int IntKind.u64 0, Value.int IntKind.u64 0] 24)) V12.heap.size 0 c27 (by omega))
        clear lt
        have lt := Row.lt r21
        replace r21 := (Row.setCells_other (Row.alloc r21 (Obj.cells #[Value.int IntKind.u64 0, Value.int IntKind.u64 0, Value.int IntKind.u64 0, Value.int IntKind.u64 0] 24)) V12.heap.size 0 c27 (by omega))
        clear lt
        have lt := Row.lt r23
        replace r23 := (Row.setCells_other (Row.alloc r23 (Obj.cells #[Value.int IntKind.u64 0, Value.int IntKind.u64 0, Value.int IntKind.u64 0, Value.int IntKind.u64 0] 24)) V12.heap.size 0 c27 (by omega))
        clear lt
        have lt := Row.lt r25
        replace r25 := (Row.setCells_other (Row.alloc r25 (Obj.cells #[Value.int IntKind.u64 0, Value.int IntKind.u64 0, Value.int IntKind.u64 0, Value.int IntKind.u64 0] 24)) V12.heap.size 0 c27 (by omega))
        clear lt
        have hbn : Below w.heap.size w ((V12.alloc (Obj.cells #[Value.int IntKind.u64 0, Value.int IntKind.u64 0, Value.int IntKind.u64 0, Value.int IntKind.u64 0] 24)).setCells V12.heap.size 0 c27) := (below_setCells (hb.alloc hb.size (Obj.cells #[Value.int IntKind.u64 0, Value.int IntKind.u64 0, Value.int IntKind.u64 0, Value.int IntKind.u64 0] 24)) (b := V12.heap.size) (o := 0) (by have := hb.size; omega) c27)
        replace hb := hbn
        clear hbn
        have r27 := n0
        clear n0
        go_wp2_with (first
          | (refine wpList_store_mid rfl 24 (.tmp 27) (.tmp 145) rfl V12.heap.size 0 c27.toArray rfl rfl T0 H27.info' H27.one ?_; simp only [Act.put]; clear T0; (change wpList _ _ _ _ _ ((V12.alloc (Obj.cells #[Value.int IntKind.u64 0, Value.int IntKind.u64 0, Value.int IntKind.u64 0, Value.int IntKind.u64 0] 24)).setCells V12.heap.size 0 c27)); (generalize ((V12.alloc (Obj.cells #[Value.int IntKind.u64 0, Value.int IntKind.u64 0, Value.int IntKind.u64 0, Value.int IntKind.u64 0] 24)).setCells V12.heap.size 0 c27) = X12 at *); (generalize hN0 : V12.heap.size = N27 at *; clear hN0))
          | (refine wpList_load_w rfl 24 (.tmp 25) rfl N25 0 rfl c25 _ r25.all Tryd.underlying24 rfl H25.info ?_; simp only [Act.put, List.setIfInBounds_toArray, List.set_cons_zero, List.set_cons_succ]))
        refine (bytes_c H25 _).mono ?_
        rintro e V13 ⟨NB, _, rB, rfl, hB⟩
        replace hb := hb.trans (hB.mono hb.size)
        replace r4 := Row.below r4 hB (Row.lt r4)
        replace r5 := Row.below r5 hB (Row.lt r5)
        replace r6 := Row.below r6 hB (Row.lt r6)
        replace r21 := Row.below r21 hB (Row.lt r21)
        replace r23 := Row.below r23 hB (Row.lt r23)
        replace r25 := Row.below r25 hB (Row.lt r25)
        replace r27 := Row.below r27 hB (Row.lt r27)
        clear hB
        go_wp2_with (refine wpList_load_w rfl 24 (.tmp 27) rfl N27 0 rfl c27 _ r27.all Tryd.underlying24 rfl H27.info ?_; simp only [Act.put, List.setIfInBounds_toArray, List.set_cons_zero, List.set_cons_succ])
        refine (text_c H27 HLZ.out HD2.out _ (HP.out.below hb)).mono ?_
        rintro e V14 ⟨rfl, hB⟩
        replace hb := hb.trans (hB.mono hb.size)
        replace r4 := Row.below r4 hB (Row.lt r4)
        replace r5 := Row.below r5 hB (Row.lt r5)
        replace r6 := Row.below r6 hB (Row.lt r6)
        replace r21 := Row.below r21 hB (Row.lt r21)
        replace r23 := Row.below r23 hB (Row.lt r23)
        replace r25 := Row.below r25 hB (Row.lt r25)
        replace r27 := Row.below r27 hB (Row.lt r27)
        replace rB := Row.below rB hB (Row.lt rB)
        clear hB
        go_upto_region 25 with fail
        go_cut [167] from 151 to 167 (fun c167 wz => c167 = .bool false ∧ wz = V14)
        case first =>
          have hA1 : L = 0 → bl u = raw → Calls Tryd.prog 17 #[.slice (some ⟨NB, 0, none⟩) 32 32, .slice A rn cap] V14 fun e w' => e = .returned (.bool true) ∧ w' = V14 := fun _ h => by
            have h2 := alike_any raw HRW.out (some ⟨NB, 0, none⟩) A 32 cap V14 (by rw [← h]; exact By.row rB) (HBY.out.below hb)
            rw [QR.out, show rn = 32 by rw [← QR.out, ← h]; exact QL.out u] at h2
            rw [show rn = 32 by rw [← QR.out, ← h]; exact QL.out u]
            exact h2
          rcases K4.out with h4 | ⟨h4, h4b⟩
          · have hz4 : (L == 0) = false := by rw [beq_eq_false_iff_ne]; exact h4
            clear hA1
            rcases K5.out with h5 | ⟨h5, h5b⟩
            · have hz5 : (Z == 0) = false := by rw [beq_eq_false_iff_ne]; exact h5
              go_wp2_with fail
              go_meet
              exact ⟨rfl, rfl⟩
            · subst h5 h5b
              go_wp2_with fail
              go_meet
              exact ⟨rfl, rfl⟩
          · have HA1 : Hid (Calls _ _ _ _ _) := hA1 h4 h4b
            clear hA1 h4b
            subst h4
            rcases K5.out with h5 | ⟨h5, h5b⟩
            · have hz5 : (Z == 0) = false := by rw [beq_eq_false_iff_ne]; exact h5
              go_wp2_with (go_at_call 17; refine HA1.out.mono ?_; rintro e w2 ⟨rfl, rfl⟩)
              go_meet
              exact ⟨rfl, rfl⟩
            · subst h5 h5b
              go_wp2_with (go_at_call 17; refine HA1.out.mono ?_; rintro e w2 ⟨rfl, rfl⟩)
              go_meet
              exact ⟨rfl, rfl⟩
        case rest =>
          obtain ⟨rfl, hwc⟩ := hcut
          subst hwc
          go_wp2_with (first
            | (refine wpList_load_w rfl 24 (.tmp 21) rfl N21 0 rfl c21 _ r21.all Tryd.underlying24 rfl H21.info ?_; simp only [Act.put, List.setIfInBounds_toArray, List.set_cons_zero, List.set_cons_succ])
            | (refine wpList_load_w rfl 24 (.tmp 4) rfl N4 0 rfl ca _ r4.all Tryd.underlying24 rfl Ha.info ?_; simp only [Act.put, List.setIfInBounds_toArray, List.set_cons_zero, List.set_cons_succ])
            | (refine wpList_load_w rfl 24 (.tmp 23) rfl N23 0 rfl c23 _ r23.all Tryd.underlying24 rfl H23.info ?_; simp only [Act.put, List.setIfInBounds_toArray, List.set_cons_zero, List.set_cons_succ])
            | (refine wpList_eql_c (B := true) rfl (.tmp 170) (.tmp 171) 24 rfl H21 Ha HA.out HA.out rfl rfl (by simp) ?_; simp only [Act.put, List.setIfInBounds_toArray, List.set_cons_zero, List.set_cons_succ])
            | (refine wpList_eql_c (B := true) rfl (.tmp 179) (.tmp 180) 24 rfl H23 Ha HA.out HA.out rfl rfl (by simp) ?_; simp only [Act.put, List.setIfInBounds_toArray, List.set_cons_zero, List.set_cons_succ]))
          go_ret
          exact ⟨rfl, hb⟩

end Go.Proofs.YtehccmlbnfhhmabDoor
