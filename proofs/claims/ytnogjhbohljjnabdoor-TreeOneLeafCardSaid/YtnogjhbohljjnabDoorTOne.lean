/-
  The law TreeOneLeaf.
-/
import Derived.Test.YtnogjhbohljjnabDoorTOneM
namespace Go.Proofs.YtnogjhbohljjnabDoor
open Go Go.RowKit
open Sha

/-- The cells of two leaves at one place. -/
def fooled (root : List (BitVec 8)) (n i : Int) (o p t q : Value) : List Value := vB root ++ [Value.int .i64 n, Value.int .i64 i, o, p, t, q]
theorem PAt.be {w w' : World} {v : Value} {ds : List (List (BitVec 8))} (h : PAt w v ds) (k : Below w.heap.size w w') : PAt w' v ds := h.below k
theorem Given.be {w w' : World} (h : Given w) (k : Below w.heap.size w w') : Given w' := h.low k

set_option maxRecDepth 100000 in
set_option maxHeartbeats 8000000 in
theorem oneLeaf_walk (root x y : List (BitVec 8)) (us vs : List (List (BitVec 8))) (Hroot : Dl root) (n i : Int) (hx : x.length ≤ 140737488351232) (hy : y.length ≤ 140737488351232) (A1 A2 P1 P2 : Option Addr) (c1 c2 d1 d2 : Nat) (z1 : A1 = none → c1 = 0) (z2 : A2 = none → c2 = 0) (cs : List Value) (hcs : cs = fooled root n i (.slice A1 x.length c1) (.slice P1 us.length d1) (.slice A2 y.length c2) (.slice P2 vs.length d2)) (w : World) (fG : Given w)
    (f1 : SlAt w (.slice A1 x.length c1) x) (f2 : SlAt w (.slice A2 y.length c2) y) (p1 : PAt w (.slice P1 us.length d1) us) (p2 : PAt w (.slice P2 vs.length d2) vs) :
    Calls Tryd.prog 4 #[.agg cs.toArray] w fun e w' => e = .returned (.bool true) ∧ Below w.heap.size w w' := by
  obtain ⟨E1, hE1⟩ : ∃ E1, E1 = ck root n i x us := ⟨_, rfl⟩
  obtain ⟨E2, hE2⟩ : ∃ E2, E2 = ck root n i y vs := ⟨_, rfl⟩
  have HE1 : Hid (E1 = _) := hE1
  have HE2 : Hid (E2 = _) := hE2
  have HX : Hid (x.length ≤ 140737488351232) := hx
  have HY : Hid (y.length ≤ 140737488351232) := hy
  have HX2 : Hid (x.length < 1152921504606846975) := by show _ < _; omega
  have HY2 : Hid (y.length < 1152921504606846975) := by show _ < _; omega
  have Z1 : Hid (A1 = none → c1 = 0) := z1
  have Z2 : Hid (A2 = none → c2 = 0) := z2
  have HU : Hid (∀ d ∈ us, d.length = 32) := p1.1
  have HV : Hid (∀ d ∈ vs, d.length = 32) := p2.1
  have HR32 : Hid ((vB root).length = 32) := Hroot.len
  have hB0 : Below w.heap.size w (w.alloc (.cells cs.toArray 46)) := (Below.refl _ _).alloc (Nat.le_refl _) _
  have r1 : Row (w.alloc (.cells cs.toArray 46)) w.heap.size cs 46 := Row.new' rfl rfl
  have HCS : Hid (cs = _) := hcs
  have hget : ∀ k v, [Value.int .i64 n, Value.int .i64 i, .slice A1 x.length c1, .slice P1 us.length d1, .slice A2 y.length c2, .slice P2 vs.length d2][k]? = some v → cs[32 + k]? = some v := fun k v h => by
    rw [hcs, fooled, List.getElem?_append_right (by rw [HR32.out]; omega), HR32.out, Nat.add_sub_cancel_left]; exact h
  have q0 : (w.alloc (.cells cs.toArray 46)).rangeAt w.heap.size 0 (vB root) := fun j v hv => r1.all j v (by rw [hcs, fooled, List.getElem?_append_left (List.getElem?_eq_some_iff.1 hv).1]; exact hv)
  have g32 := r1.cell 32 (.int .i64 n) (hget 0 _ rfl)
  have g33 := r1.cell 33 (.int .i64 i) (hget 1 _ rfl)
  have g34 := r1.cell 34 (.slice A1 x.length c1) (hget 2 _ rfl)
  have g35 := r1.cell 35 (.slice P1 us.length d1) (hget 3 _ rfl)
  have g36 := r1.cell 36 (.slice A2 y.length c2) (hget 4 _ rfl)
  have g37 := r1.cell 37 (.slice P2 vs.length d2) (hget 5 _ rfl)
  have FKW : Hid (∀ W, Below w.heap.size w W → Tab W 3) := fun W hB => fG.cub.be hB
  replace f1 := f1.be hB0
  replace f2 := f2.be hB0
  replace p1 := p1.be hB0
  replace p2 := p2.be hB0
  replace fG := fG.be hB0
  have hb := hB0
  clear r1 hB0 hE1 hE2 hx hy z1 z2 hget hcs
  obtain ⟨W0, hW0⟩ : ∃ W0, W0 = (w.alloc (.cells cs.toArray 46)) := ⟨_, rfl⟩
  rw [← hW0] at q0 g32 g33 g34 g35 g36 g37 f1 f2 p1 p2 fG hb
  go_enter Tryd.func4, Tryd.ntmps4
  go_wp2_with fail
  rw [← hW0]
  clear hW0
  refine (awake_any W0 fG.cub).mono ?_
  rintro e V0 ⟨rfl, hB⟩
  replace hb := hb.trans (hB.mono hb.size)
  replace fG := fG.be hB
  replace f1 := f1.be hB
  replace f2 := f2.be hB
  replace p1 := p1.be hB
  replace p2 := p2.be hB
  replace q0 := range_below q0 hB (Nat.le_refl _)
  replace g32 := cell_be g32 hB
  replace g33 := cell_be g33 hB
  replace g34 := cell_be g34 hB
  replace g35 := cell_be g35 hB
  replace g36 := cell_be g36 hB
  replace g37 := cell_be g37 hB
  clear hB
  go_wp2_with (refine wpList_load_w rfl 28 (.tmp 10) rfl w.heap.size 0 rfl (vB root) _ q0 Tryd.underlying28 rfl Hroot.info ?_; simp only [Act.put, List.setIfInBounds_toArray, List.set_cons_zero, List.set_cons_succ])
  refine (check_any n i root x us Hroot HX2.out _ _ V0 fG.cub p1 f1).mono ?_
  rintro e V1 ⟨rfl, hB⟩
  replace hb := hb.trans (hB.mono hb.size)
  replace fG := fG.be hB
  replace f1 := f1.be hB
  replace f2 := f2.be hB
  replace p1 := p1.be hB
  replace p2 := p2.be hB
  replace q0 := range_below q0 hB (Nat.le_refl _)
  replace g32 := cell_be g32 hB
  replace g33 := cell_be g33 hB
  replace g34 := cell_be g34 hB
  replace g35 := cell_be g35 hB
  replace g36 := cell_be g36 hB
  replace g37 := cell_be g37 hB
  clear hB
  rw [← HE1.out]
  go_wp2_with (refine wpList_load_w rfl 28 (.tmp 21) rfl w.heap.size 0 rfl (vB root) _ q0 Tryd.underlying28 rfl Hroot.info ?_; simp only [Act.put, List.setIfInBounds_toArray, List.set_cons_zero, List.set_cons_succ])
  refine (check_any n i root y vs Hroot HY2.out _ _ V1 fG.cub p2 f2).mono ?_
  rintro e V2 ⟨rfl, hB⟩
  replace hb := hb.trans (hB.mono hb.size)
  replace fG := fG.be hB
  replace f1 := f1.be hB
  replace f2 := f2.be hB
  replace p1 := p1.be hB
  replace p2 := p2.be hB
  replace q0 := range_below q0 hB (Nat.le_refl _)
  replace g32 := cell_be g32 hB
  replace g33 := cell_be g33 hB
  replace g34 := cell_be g34 hB
  replace g35 := cell_be g35 hB
  replace g36 := cell_be g36 hB
  replace g37 := cell_be g37 hB
  clear hB
  rw [← HE2.out]
  have k1 := run_convert_sl (P := Tryd.prog) V2 38 5 9 Tryd.underlying38 Tryd.underlying5 Tryd.underlying9 _ x f1
  have k2 := run_convert_sl (P := Tryd.prog) V2 38 5 9 Tryd.underlying38 Tryd.underlying5 Tryd.underlying9 _ y f2
  have HST : Hid (((str x).toList == (str y).toList) = decide (x = y)) := str_beq x y
  generalize str x = s1 at *
  generalize str y = s2 at *
  by_cases e1 : E1 = 0
  · by_cases e2 : E2 = 0
    · subst e1; subst e2
      by_cases e3 : x = y
      · have hst : (s1.toList == s2.toList) = true := by rw [HST.out]; exact decide_eq_true e3
        clear HST e3
        go_wp2_with fail
        go_ret
        exact ⟨rfl, hb⟩
      · have hst : (s1.toList == s2.toList) = false := by rw [HST.out]; exact decide_eq_false e3
        have HNE : Hid (x ≠ y) := e3
        clear HST e3
        obtain ⟨N, I, rfl, rfl, hIN, hN, lu, ru⟩ := ck_ok HE1.out.symm
        have HE2b := ck_ok HE2.out.symm
        obtain ⟨N2, I2, eN, eI, _, _, lv, rv⟩ := HE2b
        obtain rfl : N = N2 := by omega
        obtain rfl : I = I2 := by omega
        have LU : Hid (us.length = pl N I) := lu
        have LV : Hid (vs.length = pl N I) := lv
        have RU : Hid (rb N I x us = root) := ru
        have RV : Hid (rb N I y vs = root) := rv
        have HIN : Hid (I < N) := hIN
        have HNN : Hid (N ≤ 1099511627776) := hN
        have HSL : Hid ((sd N I).length = us.length) := by show _ = _; rw [sd_length N I (by omega) (by omega), lu]
        have HUV : Hid (vs.length = us.length) := by show _ = _; rw [lv, lu]
        have HUB : Hid (us.length ≤ 1099511627776) := by show _ ≤ _; have := pl_lt N I (by omega) (by omega); omega
        have t1 : ¬ (N : Int) < 1 := by omega
        have t2 : ¬ (1099511627776 : Int) < (N : Int) := by omega
        have t2b : (N : Int) ≤ 1099511627776 := by omega
        have t2c : decide ((1099511627776 : Int) < (N : Int)) = false := decide_eq_false t2
        have t3 : ¬ (I : Int) < 0 := by omega
        have t4 : ¬ (N : Int) ≤ (I : Int) := by omega
        have HCL : Hid (∃ i k, _) := clash_of N I hIN (by omega) us vs x y root HU.out HV.out lu lv ru rv HNE.out _ rfl
        have HTL : Hid (∀ i, _ → _) := two_lists_len (sd N I) us vs x y HU.out HV.out HX.out HY.out (us.length + 1) (vs.length + 1) _ rfl
        clear lu lv ru rv hIN hN eN eI HE1 HE2
        go_wp2_with fail
        refine (sides_any N I HIN.out HNN.out V2).mono ?_
        rintro e V3 ⟨v6, rfl, hO6, hB⟩
        replace hb := hb.trans (hB.mono hb.size)
        replace fG := fG.be hB
        replace f1 := f1.be hB
        replace f2 := f2.be hB
        replace p1 := p1.be hB
        replace p2 := p2.be hB
        replace q0 := range_below q0 hB (Nat.le_refl _)
        replace g32 := cell_be g32 hB
        replace g33 := cell_be g33 hB
        replace g34 := cell_be g34 hB
        replace g35 := cell_be g35 hB
        replace g36 := cell_be g36 hB
        replace g37 := cell_be g37 hB
        clear hB
        rw [HSL.out] at hO6
        obtain ⟨A6, c6, e6⟩ := own_form hO6
        subst e6
        have vl : (vs.length : Int) = (us.length : Int) := by rw [HUV.out]
        clear k1 k2 hO6
        go_wp2_with fail
        have HS7 : Hid (w.heap.size ≤ V3.heap.size) := hb.size
        refine (texts_any N I HIN.out HNN.out x _ rfl (by have := HX.out; omega) us LU.out A1 P1 c1 d1 Z1.out V3 fG f1 p1).mono ?_
        rintro e V4 ⟨v7, vs7, rfl, T7, hB⟩
        replace hb := hb.trans (hB.mono hb.size)
        replace fG := fG.be hB
        replace f1 := f1.be hB
        replace f2 := f2.be hB
        replace p1 := p1.be hB
        replace p2 := p2.be hB
        replace q0 := range_below q0 hB (Nat.le_refl _)
        replace g32 := cell_be g32 hB
        replace g33 := cell_be g33 hB
        replace g34 := cell_be g34 hB
        replace g35 := cell_be g35 hB
        replace g36 := cell_be g36 hB
        replace g37 := cell_be g37 hB
        clear hB
        obtain ⟨g7, c7, e7, _, _, _⟩ := T7.form (by rw [txs_length]; omega)
        rw [txs_length] at e7
        subst e7
        go_wp2_with fail
        have HS8 : Hid (w.heap.size ≤ V4.heap.size) := hb.size
        refine (texts_any N I HIN.out HNN.out y _ rfl (by have := HY.out; omega) vs LV.out A2 P2 c2 d2 Z2.out V4 fG f2 p2).mono ?_
        rintro e V5 ⟨v8, vs8, rfl, T8, hB⟩
        replace hb := hb.trans (hB.mono hb.size)
        replace fG := fG.be hB
        replace f1 := f1.be hB
        replace f2 := f2.be hB
        replace p1 := p1.be hB
        replace p2 := p2.be hB
        replace q0 := range_below q0 hB (Nat.le_refl _)
        replace g32 := cell_be g32 hB
        replace g33 := cell_be g33 hB
        replace g34 := cell_be g34 hB
        replace g35 := cell_be g35 hB
        replace g36 := cell_be g36 hB
        replace g37 := cell_be g37 hB
        replace T7 := T7.below hB
        clear hB
        obtain ⟨g8, c8, e8, _, _, _⟩ := T8.form (by rw [txs_length]; omega)
        rw [txs_length] at e8
        subst e8
        have T7w := T7.less (M := w.heap.size) HS7.out
        have T8w := T8.less (M := w.heap.size) HS8.out
        go_wp2_with (refine wpList_join rfl (.tmp 106) (.tmp 107) rfl V5 w w.heap.size w.heap.size _ _ _ _ _ _ T7w T8w (by rw [txs_length]; omega) rfl rfl (by rw [txs_length, txs_length, HUV.out]; have := HUB.out; omega) hb.size (Nat.le_refl _) hb ?_; intro v9 w9 T9 hB9 hG9; (obtain ⟨g9, c9, e9, _, _, hr9⟩ := T9.form (by rw [List.length_append, txs_length]; omega)); (rw [List.length_append, txs_length, txs_length] at e9); subst e9; simp only [Act.put, List.setIfInBounds_toArray, List.set_cons_zero, List.set_cons_succ])
        refine (clash_true _ _ (by rw [List.length_append, txs_length, txs_length]) (by rw [HUV.out]; have := HUB.out; omega) HTL.out HCL.out g9 0 c9 w9 (FKW.out w9 hB9) (T9.ls hr9)).mono ?_
        rintro e V9 ⟨rfl, hB⟩
        go_wp2_with fail
        go_ret
        exact ⟨rfl, hB9.trans (hB.mono hB9.size)⟩
    · subst e1
      clear HST
      go_wp2_with fail
      go_ret
      exact ⟨rfl, hb⟩
  · clear HST
    go_wp2_with fail
    go_ret
    exact ⟨rfl, hb⟩

end Go.Proofs.YtnogjhbohljjnabDoor
