/-
  The law's loan of leaves: what it is.
-/
import Derived.Test.YtdicgenhfmhklaaGreatDoorTTxt
import Derived.Test.YtdicgenhfmhklaaGreatDoorTRoot
import Derived.Test.YtdicgenhfmhklaaGreatDoorTLent

namespace Go.Proofs.YtdicgenhfmhklaaGreatDoor
open Go Go.RowKit
open Sha

/-- A slice without a place has no room. -/
def NlT (v : Value) : Prop := ∀ A n c, v = .slice A n c → A = none → c = 0
/-- Leaves that stand one behind the other, as bytes of a caller. -/
def LnAt (w : World) (b o : Nat) (ps : List (List (BitVec 8))) : Prop := ∃ vs : List Value, vs.length = ps.length ∧ w.rangeAt b o vs ∧ ∀ i, i < ps.length → SlAtT w (vs.getD i undef) (ps.getD i []) ∧ NlT (vs.getD i undef)
theorem LnAt.ls {w : World} {b o : Nat} {ps : List (List (BitVec 8))} (h : LnAt w b o ps) : LsAt w b o ps := by
  obtain ⟨vs, h1, h2, h3⟩ := h
  exact ⟨vs, h1, h2, fun i hi => (h3 i hi).1⟩
theorem LnAt.below {w w' : World} {b o : Nat} {ps : List (List (BitVec 8))} (h : LnAt w b o ps) (k : Below w.heap.size w w') : LnAt w' b o ps := by
  obtain ⟨vs, h1, h2, h3⟩ := h
  exact ⟨vs, h1, range_below h2 k (Nat.le_refl _), fun i hi => ⟨(h3 i hi).1.below k (Nat.le_refl _), (h3 i hi).2⟩⟩
theorem LnAt.take {w : World} {b o : Nat} {ps : List (List (BitVec 8))} (h : LnAt w b o ps) (k : Nat) : LnAt w b o (ps.take k) := by
  obtain ⟨vs, h1, h2, h3⟩ := h
  refine ⟨vs.take k, by rw [List.length_take, List.length_take, h1], fun j v hv => ?_, fun i hi => ?_⟩
  · have hj : j < k := by have := (List.getElem?_eq_some_iff.1 hv).1; rw [List.length_take] at this; omega
    rw [List.getElem?_take_of_lt hj] at hv
    exact h2 j v hv
  · rw [List.length_take] at hi
    have e1 : (vs.take k).getD i undef = vs.getD i undef := by simp [List.getD_eq_getElem?_getD, show i < k by omega]
    have e2 : (ps.take k).getD i [] = ps.getD i [] := by simp [List.getD_eq_getElem?_getD, show i < k by omega]
    rw [e1, e2]; exact h3 i (by omega)
theorem LnAt.drop {w : World} {b o : Nat} {ps : List (List (BitVec 8))} (h : LnAt w b o ps) (k : Nat) : LnAt w b (o + k) (ps.drop k) := by
  obtain ⟨vs, h1, h2, h3⟩ := h
  refine ⟨vs.drop k, by rw [List.length_drop, List.length_drop, h1], fun j v hv => ?_, fun i hi => ?_⟩
  · rw [List.getElem?_drop] at hv
    have := h2 (k + j) v hv
    rwa [show o + k + j = o + (k + j) by omega]
  · rw [List.length_drop] at hi
    have e1 : (vs.drop k).getD i undef = vs.getD (k + i) undef := by simp [List.getD_eq_getElem?_getD, List.getElem?_drop]
    have e2 : (ps.drop k).getD i [] = ps.getD (k + i) [] := by simp [List.getD_eq_getElem?_getD, List.getElem?_drop]
    rw [e1, e2]; exact h3 (k + i) (by omega)

section
variable {ops : Array Oper} {rest : List Oper} {op : Oper} {a : Act} {w : World} {Q : Exit → Act → World → Prop}
theorem wpList_slice_to (hw : Region.wanted op (yielded ops a.tmps) = true) (t e : TypeId) (x z : Operand) (b f n cap k : Nat) (ho : op.op = .slice t x none (some z) none) (hx : a.eval x = .slice (some ⟨b, f, none⟩) n cap) (hz : a.eval z = .int .i64 (k : Int)) (hk : k ≤ cap)
    (hu : Tryz.prog.underlying t = some (.slice e)) (hs : (Tryz.prog.info? e).map (·.size) = some 1) (h : wpList Tryz.prog ops Q rest (a.put op.dst (.slice (some ⟨b, f, none⟩) k cap)) w) : wpList Tryz.prog ops Q (op :: rest) a w :=
  BigFrame.wpList_want hw fun _ hK => wp_slice_to t e x z b f n cap k ho hx hz hk hu hs (hK _ _ h)
theorem wpList_slice_on (hw : Region.wanted op (yielded ops a.tmps) = true) (t e : TypeId) (x z : Operand) (b f n cap k : Nat) (ho : op.op = .slice t x (some z) none none) (hx : a.eval x = .slice (some ⟨b, f, none⟩) n cap) (hz : a.eval z = .int .i64 (k : Int)) (hk : k ≤ n) (hc : k < cap)
    (hu : Tryz.prog.underlying t = some (.slice e)) (hs : (Tryz.prog.info? e).map (·.size) = some 1) (h : wpList Tryz.prog ops Q rest (a.put op.dst (.slice (some ⟨b, f + k, none⟩) (n - k) (cap - k))) w) : wpList Tryz.prog ops Q (op :: rest) a w :=
  BigFrame.wpList_want hw fun _ hK => wp_slice_on t e x z b f n cap k ho hx hz hk hc hu hs (hK _ _ h)
end

set_option maxRecDepth 100000 in
set_option maxHeartbeats 2000000 in
theorem rleaf_anyT (d dd : List (BitVec 8)) (hd : dd = dig ([0#8] ++ d)) (L : Nat) (hL : d.length = L) (hl : L + 1 ≤ 140737488355000) (A : Option Addr) (cap : Nat) (hnil : A = none → cap = 0) (w : World) (fG : Given w) (hv : SlAtT w (.slice A L cap) d) :
    Calls Tryz.prog 46 #[.slice A L cap] w fun e w' => e = .returned (.agg (vB dd).toArray) ∧ Below w.heap.size w w' := by
  have HD : Dl dd := by rw [hd]; exact dig_length _
  have HE : Hid (dd = dig ([0#8] ++ d)) := hd
  have HL : Hid (d.length = L) := hL
  have HL1 : Hid (L + 1 ≤ 140737488355000) := hl
  have HN : Hid (A = none → cap = 0) := hnil
  have hb : Below w.heap.size w (w.alloc (Obj.cells z32T.toArray 44)) := (Below.refl _ _).alloc (Nat.le_refl _) _
  have r2 : Row (w.alloc (Obj.cells z32T.toArray 44)) w.heap.size z32T 44 := Row.new' rfl rfl
  replace fG := fG.low hb
  replace hv := hv.below hb (Nat.le_refl _)
  clear hd hL hl hnil
  go_enter Tryz.func46, Tryz.ntmps46
  go_wp2_with fail
  refine (leafText_any d L HL.out (by have := HL1.out; omega) A cap _ hv HN.out).mono ?_
  rintro e V0 ⟨tv, rfl, hO, hB⟩
  replace hb := hb.trans (hB.mono hb.size)
  replace r2 := Row.below r2 hB (Row.lt r2)
  replace fG := fG.low hB
  clear hB
  clear hv
  obtain ⟨hsl, A6, c6, e6⟩ := owns_slAt hO
  subst e6
  clear hO
  go_wp2_with fail
  refine (rsum_any ([0#8] ++ d) dd HE.out (by rw [List.length_append, HL.out]; have := HL1.out; simp only [List.length_singleton]; omega) _ V0 hsl fG).mono ?_
  rintro e V1 ⟨rfl, hB⟩
  replace hb := hb.trans (hB.mono hb.size)
  replace r2 := Row.below r2 hB (Row.lt r2)
  replace fG := fG.low hB
  clear hB
  have T9 := HD.there r2 rfl
  have nf := r2.over (vs := vB dd) (HD.over rfl)
  have nB := below_setCells hb (b := w.heap.size) (o := 0) (by omega) (vB dd)
  go_wp2_with (refine wpList_store_mid rfl 44 (.tmp 2) (.tmp 7) rfl (w.heap.size) 0 (vB dd).toArray rfl rfl T9 HD.info' HD.one ?_)
  exact bodyPost_ret (results_row Tryz.results46 _ _ (w.heap.size) 44 (vB dd) rfl nf Tryz.underlying44 info_dig HD.len) rfl ⟨rfl, nB⟩

set_option maxRecDepth 100000 in
set_option maxHeartbeats 2000000 in
theorem rnode_any (l r dd : List (BitVec 8)) (Hl : Dl l) (Hr : Dl r) (hd : dd = dig ([1#8] ++ (l ++ r))) (w : World) (fG : Given w) :
    Calls Tryz.prog 48 #[.agg (vB l).toArray, .agg (vB r).toArray] w fun e w' => e = .returned (.agg (vB dd).toArray) ∧ Below w.heap.size w w' := by
  have HD : Dl dd := by rw [hd]; exact dig_length _
  have HE : Hid (dd = dig ([1#8] ++ (l ++ r))) := hd
  have HL : Hid (([1#8] ++ (l ++ r)).length = 65) := by show _ = _; rw [List.length_append, List.length_append, show l.length = 32 from Hl, show r.length = 32 from Hr]; rfl
  have hb : Below w.heap.size w (((w.alloc (Obj.cells (vB l).toArray 44)).alloc (Obj.cells (vB r).toArray 44)).alloc (Obj.cells z32T.toArray 44)) := (((Below.refl _ _).alloc (Nat.le_refl _) _).alloc (by simp) _).alloc (by simp; omega) _
  have q0 : Row (((w.alloc (Obj.cells (vB l).toArray 44)).alloc (Obj.cells (vB r).toArray 44)).alloc (Obj.cells z32T.toArray 44)) w.heap.size (vB l) 44 := ((Row.new w (vB l) _).alloc _).alloc _
  have q1 : Row (((w.alloc (Obj.cells (vB l).toArray 44)).alloc (Obj.cells (vB r).toArray 44)).alloc (Obj.cells z32T.toArray 44)) (w.heap.size + 1) (vB r) 44 := (Row.new' (by simp) rfl).alloc _
  have r2 : Row (((w.alloc (Obj.cells (vB l).toArray 44)).alloc (Obj.cells (vB r).toArray 44)).alloc (Obj.cells z32T.toArray 44)) (w.heap.size + 2) z32T 44 := Row.new' (by simp) rfl
  replace fG := fG.low hb
  clear hd
  go_enter Tryz.func48, Tryz.ntmps48
  go_wp2_with (first
    | (refine wpList_load_wT rfl 44 (.tmp 2) rfl (w.heap.size) 0 rfl (vB l) _ q0.all Tryz.underlying44 rfl Hl.info ?_; simp only [Act.put, List.setIfInBounds_toArray, List.set_cons_zero, List.set_cons_succ])
    | (refine wpList_load_wT rfl 44 (.tmp 3) rfl (w.heap.size + 1) 0 rfl (vB r) _ q1.all Tryz.underlying44 rfl Hr.info ?_; simp only [Act.put, List.setIfInBounds_toArray, List.set_cons_zero, List.set_cons_succ]))
  refine (nodeText_any l r Hl Hr _).mono ?_
  rintro e V0 ⟨tv, rfl, hO, hB⟩
  replace hb := hb.trans (hB.mono hb.size)
  replace r2 := Row.below r2 hB (Row.lt r2)
  replace fG := fG.low hB
  clear hB
  obtain ⟨hsl, A6, c6, e6⟩ := owns_slAt hO
  subst e6
  clear hO q0 q1
  go_wp2_with fail
  refine (rsum_any ([1#8] ++ (l ++ r)) dd HE.out (by rw [HL.out]; decide) _ V0 hsl fG).mono ?_
  rintro e V1 ⟨rfl, hB⟩
  replace hb := hb.trans (hB.mono hb.size)
  replace r2 := Row.below r2 hB (Row.lt r2)
  replace fG := fG.low hB
  clear hB
  have T9 := HD.there r2 rfl
  have nf := r2.over (vs := vB dd) (HD.over rfl)
  have nB := below_setCells hb (b := w.heap.size + 2) (o := 0) (by omega) (vB dd)
  go_wp2_with (refine wpList_store_mid rfl 44 (.tmp 4) (.tmp 10) rfl (w.heap.size + 2) 0 (vB dd).toArray rfl rfl T9 HD.info' HD.one ?_)
  exact bodyPost_ret (results_row Tryz.results48 _ _ (w.heap.size + 2) 44 (vB dd) rfl nf Tryz.underlying44 info_dig HD.len) rfl ⟨rfl, nB⟩

set_option maxRecDepth 100000 in
set_option maxHeartbeats 2000000 in
theorem rroot_nil (A : Option Addr) (cap : Nat) (dd : List (BitVec 8)) (hd : dd = dig []) (w : World) (fG : Given w) :
    Calls Tryz.prog 25 #[.slice A 0 cap] w fun e w' => e = .returned (.agg (vB dd).toArray) ∧ Below w.heap.size w w' := by
  have HD : Dl dd := by rw [hd]; exact dig_length _
  have HE : Hid (dd = dig []) := hd
  have hb : Below w.heap.size w (w.alloc (Obj.cells z32T.toArray 44)) := (Below.refl _ _).alloc (Nat.le_refl _) _
  have r2 : Row (w.alloc (Obj.cells z32T.toArray 44)) w.heap.size z32T 44 := Row.new' rfl rfl
  replace fG := fG.low hb
  clear hd
  go_enter Tryz.func25, Tryz.ntmps25
  go_wp2_with fail
  refine (rsum_any [] dd HE.out (by decide) _ _ (.inl ⟨rfl, _, _, rfl⟩) fG).mono ?_
  rintro e V0 ⟨rfl, hB⟩
  replace hb := hb.trans (hB.mono hb.size)
  replace r2 := Row.below r2 hB (Row.lt r2)
  clear hB
  have T9 := HD.there r2 rfl
  have nf := r2.over (vs := vB dd) (HD.over rfl)
  have nB := below_setCells hb (b := w.heap.size) (o := 0) (by omega) (vB dd)
  go_wp2_with (refine wpList_store_mid rfl 44 (.tmp 2) (.tmp 9) rfl (w.heap.size) 0 (vB dd).toArray rfl rfl T9 HD.info' HD.one ?_)
  exact bodyPost_ret (results_row Tryz.results25 _ _ (w.heap.size) 44 (vB dd) rfl nf Tryz.underlying44 info_dig HD.len) rfl ⟨rfl, nB⟩

set_option maxRecDepth 100000 in
set_option maxHeartbeats 2000000 in
theorem rroot_one (d dd : List (BitVec 8)) (hd : dd = dig ([0#8] ++ d)) (hl : d.length + 1 ≤ 140737488355000) (b o cap : Nat) (v : Value) (hnl : NlT v) (w : World) (fG : Given w) (hc : w.cell? ⟨b, o, none⟩ = some v) (hv : SlAtT w v d) :
    Calls Tryz.prog 25 #[.slice (some ⟨b, o, none⟩) 1 cap] w fun e w' => e = .returned (.agg (vB dd).toArray) ∧ Below w.heap.size w w' := by
  obtain ⟨A, c, hev⟩ : ∃ A c, v = .slice A d.length c := by
    rcases hv with ⟨h1, A, c, h2⟩ | ⟨b', o', c, h2, _⟩
    · exact ⟨A, c, by rw [h2, h1]; rfl⟩
    · exact ⟨_, c, h2⟩
  subst hev
  have HD : Dl dd := by rw [hd]; exact dig_length _
  have HE : Hid (dd = dig ([0#8] ++ d)) := hd
  have HL1 : Hid (d.length + 1 ≤ 140737488355000) := hl
  have HN : Hid (A = none → c = 0) := hnl A _ c rfl
  have hb : Below w.heap.size w (w.alloc (Obj.cells z32T.toArray 44)) := (Below.refl _ _).alloc (Nat.le_refl _) _
  have r2 : Row (w.alloc (Obj.cells z32T.toArray 44)) w.heap.size z32T 44 := Row.new' rfl rfl
  have gk : (w.alloc (Obj.cells #[.int .u8 0, .int .u8 0, .int .u8 0, .int .u8 0, .int .u8 0, .int .u8 0, .int .u8 0, .int .u8 0, .int .u8 0, .int .u8 0, .int .u8 0, .int .u8 0, .int .u8 0, .int .u8 0, .int .u8 0, .int .u8 0, .int .u8 0, .int .u8 0, .int .u8 0, .int .u8 0, .int .u8 0, .int .u8 0, .int .u8 0, .int .u8 0, .int .u8 0, .int .u8 0, .int .u8 0, .int .u8 0, .int .u8 0, .int .u8 0, .int .u8 0, .int .u8 0] 44)).cell? ⟨b, o, none⟩ = some (.slice A d.length c) := cell_beT hc hb
  replace fG := fG.low hb
  replace hv := hv.below hb (Nat.le_refl _)
  clear hd hl hnl hc
  go_enter Tryz.func25, Tryz.ntmps25
  go_wp2_with fail
  refine (rleaf_anyT d dd HE.out _ rfl HL1.out A c HN.out _ fG hv).mono ?_
  rintro e V0 ⟨rfl, hB⟩
  replace hb := hb.trans (hB.mono hb.size)
  replace r2 := Row.below r2 hB (Row.lt r2)
  clear hB
  have T9 := HD.there r2 rfl
  have nf := r2.over (vs := vB dd) (HD.over rfl)
  have nB := below_setCells hb (b := w.heap.size) (o := 0) (by omega) (vB dd)
  go_wp2_with (refine wpList_store_mid rfl 44 (.tmp 2) (.tmp 16) rfl (w.heap.size) 0 (vB dd).toArray rfl rfl T9 HD.info' HD.one ?_)
  exact bodyPost_ret (results_row Tryz.results25 _ _ (w.heap.size) 44 (vB dd) rfl nf Tryz.underlying44 info_dig HD.len) rfl ⟨rfl, nB⟩

set_option maxRecDepth 100000 in
set_option maxHeartbeats 4000000 in
theorem rroot_step (n k : Nat) (h2 : 2 ≤ n) (hn : n < 4611686018427387904) (hk : fpart n = k) (l r dd : List (BitVec 8)) (Hl : Dl l) (Hr : Dl r) (hd : dd = dig ([1#8] ++ (l ++ r))) (b o cap : Nat) (hc : n ≤ cap) (w : World) (fG : Given w)
    (hL : ∀ W, Below w.heap.size w W → Calls Tryz.prog 25 #[.slice (some ⟨b, o, none⟩) k cap] W fun e w' => e = .returned (.agg (vB l).toArray) ∧ Below W.heap.size W w')
    (hR : ∀ W, Below w.heap.size w W → Calls Tryz.prog 25 #[.slice (some ⟨b, o + k, none⟩) (n - k) (cap - k)] W fun e w' => e = .returned (.agg (vB r).toArray) ∧ Below W.heap.size W w') :
    Calls Tryz.prog 25 #[.slice (some ⟨b, o, none⟩) n cap] w fun e w' => e = .returned (.agg (vB dd).toArray) ∧ Below w.heap.size w w' := by
  have HD : Dl dd := by rw [hd]; exact dig_length _
  have HE : Hid (dd = dig ([1#8] ++ (l ++ r))) := hd
  have HL : Hid (∀ W, _ → _) := hL
  have HR : Hid (∀ W, _ → _) := hR
  have HKN : Hid (k < n) := by show _ < _; rw [← hk]; exact (fpart_bounds n h2 hn).1
  have HC : Hid (n ≤ cap) := hc
  have HF : Hid (∀ w, _) := fun w => rbelow_any n h2 hn w
  rw [hk] at HF
  have n0 : ¬ (n : Int) = 0 := by omega
  have n1 : ¬ (n : Int) = 1 := by omega
  clear hd hL hR hk h2 hn hc
  have hb : Below w.heap.size w (w.alloc (Obj.cells z32T.toArray 44)) := (Below.refl _ _).alloc (Nat.le_refl _) _
  have r2 : Row (w.alloc (Obj.cells z32T.toArray 44)) w.heap.size z32T 44 := Row.new' rfl rfl
  replace fG := fG.low hb
  obtain ⟨W0, hW0⟩ : ∃ W0, W0 = w.alloc (Obj.cells z32T.toArray 44) := ⟨_, rfl⟩
  rw [← hW0] at hb r2 fG
  go_enter Tryz.func25, Tryz.ntmps25
  go_wp2_with fail
  refine (HF.out (w.alloc (Obj.cells z32T.toArray 44))).mono ?_
  rintro e w2 ⟨rfl, rfl⟩
  rw [← hW0]
  clear hW0
  go_wp2_with (refine wpList_slice_to rfl 27 54 (.tmp 20) (.tmp 21) b o n cap k rfl rfl rfl (Nat.le_trans (Nat.le_of_lt HKN.out) HC.out) Tryz.underlying27 info_slbT ?_; simp only [Act.put, List.setIfInBounds_toArray, List.set_cons_zero, List.set_cons_succ])
  refine (HL.out W0 hb).mono ?_
  rintro e V0 ⟨rfl, hB⟩
  replace hb := hb.trans (hB.mono hb.size)
  replace r2 := Row.below r2 hB (Row.lt r2)
  replace fG := fG.low hB
  clear hB
  have o_r4 : w.heap.size < V0.heap.size := Row.lt r2
  have n0 : Row (V0.alloc (Obj.cells z32T.toArray 44)) V0.heap.size z32T 44 := Row.new' rfl rfl
  have T0 := Hl.there n0 rfl
  replace n0 := n0.over (vs := vB l) (Hl.over rfl)
  have hB : Below V0.heap.size V0 ((V0.alloc (Obj.cells z32T.toArray 44)).setCells V0.heap.size 0 (vB l)) := below_setCells ((Below.refl _ _).alloc (Nat.le_refl _) (Obj.cells z32T.toArray 44)) (b := V0.heap.size) (o := 0) (Nat.le_refl _) (vB l)
  replace hb := hb.trans (hB.mono hb.size)
  replace r2 := Row.below r2 hB (Row.lt r2)
  replace fG := fG.low hB
  clear hB
  have r4 := n0
  clear n0
  go_wp2_with (first
    | (refine wpList_store_mid rfl 44 (.tmp 4) (.tmp 23) rfl V0.heap.size 0 (vB l).toArray rfl rfl T0 Hl.info' Hl.one ?_; simp only [Act.put]; clear T0; (change wpList _ _ _ _ _ ((V0.alloc (Obj.cells z32T.toArray 44)).setCells V0.heap.size 0 (vB l))); (generalize ((V0.alloc (Obj.cells z32T.toArray 44)).setCells V0.heap.size 0 (vB l)) = X1 at *); (generalize hN : V0.heap.size = N4 at *; clear hN))
    | (refine wpList_slice_on rfl 27 54 (.tmp 24) (.tmp 25) b o n cap k rfl rfl rfl (Nat.le_of_lt HKN.out) (Nat.lt_of_lt_of_le HKN.out HC.out) Tryz.underlying27 info_slbT ?_; simp only [Act.put, List.setIfInBounds_toArray, List.set_cons_zero, List.set_cons_succ]))
  refine (HR.out X1 hb).mono ?_
  rintro e V2 ⟨rfl, hB⟩
  replace hb := hb.trans (hB.mono hb.size)
  replace r2 := Row.below r2 hB (Row.lt r2)
  replace r4 := Row.below r4 hB (Row.lt r4)
  replace fG := fG.low hB
  clear hB
  have o_r5 : N4 < V2.heap.size := Row.lt r4
  have n0 : Row (V2.alloc (Obj.cells z32T.toArray 44)) V2.heap.size z32T 44 := Row.new' rfl rfl
  have T0 := Hr.there n0 rfl
  replace n0 := n0.over (vs := vB r) (Hr.over rfl)
  have hB : Below V2.heap.size V2 ((V2.alloc (Obj.cells z32T.toArray 44)).setCells V2.heap.size 0 (vB r)) := below_setCells ((Below.refl _ _).alloc (Nat.le_refl _) (Obj.cells z32T.toArray 44)) (b := V2.heap.size) (o := 0) (Nat.le_refl _) (vB r)
  replace hb := hb.trans (hB.mono hb.size)
  replace r2 := Row.below r2 hB (Row.lt r2)
  replace r4 := Row.below r4 hB (Row.lt r4)
  replace fG := fG.low hB
  clear hB
  have r5 := n0
  clear n0
  go_wp2_with (first
    | (refine wpList_store_mid rfl 44 (.tmp 5) (.tmp 27) rfl V2.heap.size 0 (vB r).toArray rfl rfl T0 Hr.info' Hr.one ?_; simp only [Act.put]; clear T0; (change wpList _ _ _ _ _ ((V2.alloc (Obj.cells z32T.toArray 44)).setCells V2.heap.size 0 (vB r))); (generalize ((V2.alloc (Obj.cells z32T.toArray 44)).setCells V2.heap.size 0 (vB r)) = X3 at *); (generalize hN : V2.heap.size = N5 at *; clear hN))
    | (refine wpList_load_wT rfl 44 (.tmp 4) rfl N4 0 rfl (vB l) _ r4.all Tryz.underlying44 rfl Hl.info ?_; simp only [Act.put, List.setIfInBounds_toArray, List.set_cons_zero, List.set_cons_succ])
    | (refine wpList_load_wT rfl 44 (.tmp 5) rfl N5 0 rfl (vB r) _ r5.all Tryz.underlying44 rfl Hr.info ?_; simp only [Act.put, List.setIfInBounds_toArray, List.set_cons_zero, List.set_cons_succ]))
  refine (rnode_any l r dd Hl Hr HE.out X3 fG).mono ?_
  rintro e V4 ⟨rfl, hB⟩
  replace hb := hb.trans (hB.mono hb.size)
  replace r2 := Row.below r2 hB (Row.lt r2)
  replace r4 := Row.below r4 hB (Row.lt r4)
  replace r5 := Row.below r5 hB (Row.lt r5)
  replace fG := fG.low hB
  clear hB
  have T9 := HD.there r2 rfl
  have nf := r2.over (vs := vB dd) (HD.over rfl)
  have nB := below_setCells hb (b := w.heap.size) (o := 0) (by omega) (vB dd)
  go_wp2_with (refine wpList_store_mid rfl 44 (.tmp 2) (.tmp 30) rfl (w.heap.size) 0 (vB dd).toArray rfl rfl T9 HD.info' HD.one ?_)
  exact bodyPost_ret (results_row Tryz.results25 _ _ (w.heap.size) 44 (vB dd) rfl nf Tryz.underlying44 info_dig HD.len) rfl ⟨rfl, nB⟩

theorem rroot_any (n : Nat) : ∀ (ps : List (List (BitVec 8))), ps.length = n → n < 4611686018427387904 → (∀ i, i < ps.length → (ps.getD i []).length + 1 ≤ 140737488355000) → ∀ (dd : List (BitVec 8)), dd = rt ps → ∀ (b o cap : Nat), n ≤ cap → ∀ w : World, Given w → LnAt w b o ps →
    Calls Tryz.prog 25 #[.slice (some ⟨b, o, none⟩) n cap] w fun e w' => e = .returned (.agg (vB dd).toArray) ∧ Below w.heap.size w w' := by
  induction n using Nat.strongRecOn with
  | ind n ih =>
    intro ps hn hlt hm dd hd b o cap hc w fG hv
    subst hd
    rcases (show n = 0 ∨ n = 1 ∨ 2 ≤ n by omega) with rfl | rfl | h2
    · rw [rt_nil ps hn]
      exact rroot_nil _ _ _ rfl w fG
    · rw [rt_one ps hn]
      obtain ⟨vs, h1, h3, h4⟩ := hv
      have hx : vs[0]? = some (vs.getD 0 undef) := by rw [List.getD_eq_getElem?_getD, List.getElem?_eq_getElem (show 0 < vs.length by omega)]; rfl
      exact rroot_one (ps.getD 0 []) _ rfl (hm 0 (by omega)) b o cap (vs.getD 0 undef) (h4 0 (by omega)).2 w fG (h3 0 _ hx) (h4 0 (by omega)).1
    · have hb := fpart_bounds n h2 hlt
      have hp := fpart_pos n
      rw [rt_many ps (by omega) (by omega), hn]
      generalize hk : fpart n = k at *
      have t1 : (ps.take k).length = k := by rw [List.length_take]; omega
      have t2 : (ps.drop k).length = n - k := by rw [List.length_drop]; omega
      refine rroot_step n k h2 hlt hk _ _ _ (rt_length _) (rt_length _) rfl b o cap hc w fG (fun W hB => ?_) (fun W hB => ?_)
      · refine ih k hb.1 (ps.take k) t1 (by omega) (fun i hi => ?_) _ rfl b o cap (by omega) W (fG.low hB) ((hv.below hB).take k)
        have hi2 : i < k := by omega
        have e2 : (ps.take k).getD i [] = ps.getD i [] := by simp [List.getD_eq_getElem?_getD, hi2]
        rw [e2]
        exact hm i (by omega)
      · refine ih (n - k) (by omega) (ps.drop k) t2 (by omega) (fun i hi => ?_) _ rfl b (o + k) (cap - k) (by omega) W (fG.low hB) ((hv.below hB).drop k)
        have e2 : (ps.drop k).getD i [] = ps.getD (k + i) [] := by simp [List.getD_eq_getElem?_getD, List.getElem?_drop]
        rw [e2]
        exact hm (k + i) (by omega)

end Go.Proofs.YtdicgenhfmhklaaGreatDoor

namespace Go.Proofs.YtdicgenhfmhklaaGreatDoor
open Go Go.RowKit
open Sha

/-- A list of leaves that is a caller's. -/
def Lv (w : World) (A : Option Addr) (ps : List (List (BitVec 8))) : Prop := ps = [] ∨ ∃ b o, A = some ⟨b, o, none⟩ ∧ LnAt w b o ps
theorem Lv.below {w w' : World} {A : Option Addr} {ps : List (List (BitVec 8))} (h : Lv w A ps) (k : Below w.heap.size w w') : Lv w' A ps := by
  rcases h with h | ⟨b, o, h1, h2⟩
  · exact .inl h
  · exact .inr ⟨b, o, h1, h2.below k⟩
/-- The values of leaves that stand in blocks one behind the other. -/
def twv (g : Nat) (ps : List (List (BitVec 8))) (t : Nat) : List Value := (List.range t).map fun i => Value.slice (some ⟨g + i, 0, none⟩) (ps.getD i []).length (ps.getD i []).length
theorem twv_len (g : Nat) (ps : List (List (BitVec 8))) (t : Nat) : (twv g ps t).length = t := by simp [twv]
theorem twv_get (g : Nat) (ps : List (List (BitVec 8))) (t i : Nat) (h : i < t) : (twv g ps t)[i]? = some (Value.slice (some ⟨g + i, 0, none⟩) (ps.getD i []).length (ps.getD i []).length) := by simp [twv, h]
theorem twv_set (g : Nat) (ps : List (List (BitVec 8))) (n t : Nat) (h : t < n) : (twv g ps t ++ List.replicate (n - t) (Value.slice none 0 0)).set t (Value.slice (some ⟨g + t, 0, none⟩) (ps.getD t []).length (ps.getD t []).length) = twv g ps (t + 1) ++ List.replicate (n - (t + 1)) (Value.slice none 0 0) := by
  rw [List.set_append_right _ _ (by rw [twv_len]; omega), twv_len, Nat.sub_self, show n - t = (n - (t + 1)) + 1 by omega, List.replicate_succ, List.set_cons_zero]
  unfold twv
  rw [List.range_succ, List.map_append, List.append_assoc]; rfl
/-- Leaves in memory of their own: the list in one block, each in one behind it. -/
structure Tw (w : World) (g : Nat) (ps : List (List (BitVec 8))) (t n : Nat) : Prop where
  row : Row w g (twv (g + 1) ps t ++ List.replicate (n - t) (Value.slice none 0 0)) 54
  each : ∀ i, i < t → Row w (g + 1 + i) (vB (ps.getD i [])) 5

theorem made_sls (n : Nat) : madeCells (Value.slice none 0 0).cells (n * 1) = (List.replicate n (Value.slice none 0 0)).toArray := by
  apply Array.ext'
  rw [show (Value.slice none 0 0).cells = #[Value.slice none 0 0] from rfl, toList_madeCells_one]
  simp
section
variable {ops : Array Oper} {rest : List Oper} {op : Oper} {a : Act} {w : World} {Q : Exit → Act → World → Prop}
/-- make of a list of leaves. -/
theorem wpList_make_sl (hgd : op.guard = none) (x y : Operand) (ho : op.op = .makeSlice 27 x y) (n : Nat) (l l' : Int) (hl : l = (n : Int)) (hl' : l' = (n : Int)) (hx : a.eval x = .int .i64 l) (hy : a.eval y = .int .i64 l') (hn : n * 24 ≤ 281474976710656)
    (h : wpList Tryz.prog ops Q rest (a.put op.dst (.slice (some ⟨w.heap.size, 0, none⟩) n n)) (w.alloc (.cells (List.replicate n (Value.slice none 0 0)).toArray 54))) : wpList Tryz.prog ops Q (op :: rest) a w :=
  wpList_plain hgd fun _ hK => by
    subst hl; subst hl'
    obtain ⟨i, hi0, hz, hs, hb⟩ := info_parts info_all_slb
    have hr := run_make (P := Tryz.prog) w 27 54 i (.slice none 0 0) Tryz.underlying27 hi0 hz .i64 .i64 (n : Int) (n : Int) (by omega) (by omega) (by rw [hb]; omega) (by omega)
    rw [hs, Int.toNat_natCast, made_sls] at hr
    unfold Oper.wp execOp
    simp only [ho, hx, hy, Sem.run_bind, hr, Result.andThen_ok, Sem.run_pure, Oper.upon_value]
    exact hK _ _ h
end

end Go.Proofs.YtdicgenhfmhklaaGreatDoor

namespace Go.Proofs.YtdicgenhfmhklaaGreatDoor
open Go Go.RowKit
open Sha

/-- A leaf, its first bytes turned. -/
def xw (d : List (BitVec 8)) (s : Nat) : List (BitVec 8) := (d.take s).map (· ^^^ 165#8) ++ d.drop s
theorem xw_len (d : List (BitVec 8)) (s : Nat) : (xw d s).length = d.length := by simp [xw]; omega
theorem xw_zero (d : List (BitVec 8)) : xw d 0 = d := by simp [xw]
theorem xw_all (d : List (BitVec 8)) : xw d d.length = d.map (· ^^^ 165#8) := by simp [xw]
theorem xw_get (d : List (BitVec 8)) (s : Nat) (h : s < d.length) : (xw d s).getD s 0 = d.getD s 0 := by
  unfold xw
  rw [List.getD_eq_getElem?_getD, List.getElem?_append_right (by simp; omega), List.getElem?_drop, List.getD_eq_getElem?_getD]
  congr 2
  simp; omega
theorem xw_set (d : List (BitVec 8)) (s : Nat) (h : s < d.length) : (xw d s).set s (d.getD s 0 ^^^ 165#8) = xw d (s + 1) := by
  unfold xw
  have hl : ((d.take s).map (· ^^^ 165#8)).length = s := by simp; omega
  rw [List.set_append_right _ _ (by omega), hl, Nat.sub_self, List.drop_eq_getElem_cons h, List.set_cons_zero, List.take_succ_eq_append_getElem h, List.map_append, List.append_assoc]
  simp [List.getD_eq_getElem?_getD, List.getElem?_eq_getElem h]
/-- Leaves, all bytes other ones. -/
def oth (ps : List (List (BitVec 8))) : List (List (BitVec 8)) := ps.map (·.map (· ^^^ 165#8))
theorem oth_len (ps : List (List (BitVec 8))) : (oth ps).length = ps.length := by simp [oth]
theorem oth_get (ps : List (List (BitVec 8))) (i : Nat) : (oth ps).getD i [] = (ps.getD i []).map (· ^^^ 165#8) := by
  simp only [oth, List.getD_eq_getElem?_getD, List.getElem?_map]
  cases ps[i]? <;> rfl
theorem oth_twv (g : Nat) (ps : List (List (BitVec 8))) (t : Nat) : twv g (oth ps) t = twv g ps t := by
  unfold twv
  apply List.map_congr_left
  intro i _
  rw [oth_get, List.length_map]
/-- How far the leaf of a number is turned. -/
def far (ps : List (List (BitVec 8))) (t s i : Nat) : Nat := if i < t then (ps.getD i []).length else if i = t then s else 0
structure Ot (w : World) (g : Nat) (ps : List (List (BitVec 8))) (n t s : Nat) : Prop where
  row : Row w g (twv (g + 1) ps n) 54
  each : ∀ i, i < n → Row w (g + 1 + i) (vB (xw (ps.getD i []) (far ps t s i))) 5
theorem Ot.next {w : World} {g : Nat} {ps : List (List (BitVec 8))} {n t : Nat} (h : Ot w g ps n t (ps.getD t []).length) : Ot w g ps n (t + 1) 0 :=
  ⟨h.row, fun i hi => by
    have e : far ps (t + 1) 0 i = far ps t (ps.getD t []).length i := by
      unfold far
      by_cases h1 : i < t
      · rw [if_pos (by omega), if_pos h1]
      · by_cases h2 : i = t
        · subst h2; rw [if_pos (by omega), if_neg (by omega), if_pos rfl]
        · rw [if_neg (by omega), if_neg h1, if_neg h2, ite_self]
    rw [e]; exact h.each i hi⟩

end Go.Proofs.YtdicgenhfmhklaaGreatDoor

namespace Go.Proofs.YtdicgenhfmhklaaGreatDoor
open Go Go.RowKit
open Sha

def mark4 : List (BitVec 8) := [109#8, 97#8, 114#8, 107#8]
/-- A mark's bytes, as a constant text lies. -/
def Mk (w : World) (M : Nat) : Prop := w.heap[M]? = some (Obj.cells (vB mark4).toArray 5 (4, 5))
theorem Mk.lt {w : World} {M : Nat} (h : Mk w M) : M < w.heap.size := (Array.getElem?_eq_some_iff.1 h).1
theorem Mk.below {B : Nat} {w w' : World} {M : Nat} (h : Mk w M) (k : Below B w w') (hb : M < B) : Mk w' M := (k.block M hb).trans h
theorem Mk.set_other {w : World} {M : Nat} (h : Mk w M) (b' i : Nat) (v : Value) (hb : M ≠ b') : Mk (w.setCell ⟨b', i, none⟩ v) M := by
  unfold Mk; rw [Below.heap_setCell _ _ _ _ hb]; exact h
theorem Mk.setCells_other {w : World} {M : Nat} (h : Mk w M) (b' o : Nat) (vs : List Value) (hb : M ≠ b') : Mk (w.setCells b' o vs) M := by
  induction vs generalizing w o with
  | nil => exact h
  | cons v r ih => exact ih (h.set_other b' o v hb) (o + 1)
theorem Mk.at {w : World} {M : Nat} (h : Mk w M) : SlAtT w (.slice (some ⟨M, 0, none⟩) 4 4) mark4 :=
  .inr ⟨M, 0, 4, rfl, Nat.le_refl _, fun j v hv => by
    rw [cell_of_row _ _ _ _ _ (4, 5) h, Nat.zero_add]
    simpa using hv⟩
/-- A row of another type lies elsewhere. -/
theorem Mk.ne {w : World} {M b : Nat} {cs : List Value} {t : TypeId} (h : Mk w M) (r : Row w b cs t) (hne : t ≠ 5) : M ≠ b := fun e => by
  subst e
  have := r.symm.trans h
  simp only [Option.some.injEq, Obj.cells.injEq] at this
  exact hne this.2.1
/-- The owners' values. -/
def owv (B : Nat → Nat) (ps : List (List (BitVec 8))) (t : Nat) : List Value := (List.range t).map fun i => Value.slice (some ⟨B i, 0, none⟩) ((ps.getD i []).length + 70) ((ps.getD i []).length + 70)
def owt (qs : List (List (BitVec 8))) (t : Nat) : List (List (BitVec 8)) := (List.range t).map fun i => qs.getD i [] ++ marks70
theorem owv_len (B : Nat → Nat) (ps : List (List (BitVec 8))) (t : Nat) : (owv B ps t).length = t := by simp [owv]
theorem owt_len (qs : List (List (BitVec 8))) (t : Nat) : (owt qs t).length = t := by simp [owt]
theorem owv_get (B : Nat → Nat) (ps : List (List (BitVec 8))) (t i : Nat) (h : i < t) : (owv B ps t).getD i undef = Value.slice (some ⟨B i, 0, none⟩) ((ps.getD i []).length + 70) ((ps.getD i []).length + 70) := by simp [owv, h]
theorem owt_get (qs : List (List (BitVec 8))) (t i : Nat) (h : i < t) : (owt qs t).getD i [] = qs.getD i [] ++ marks70 := by simp [owt, h]
/-- One owner more. -/
def more (B : Nat → Nat) (t b : Nat) : Nat → Nat := fun i => if i = t then b else B i
theorem more_old (B : Nat → Nat) (t b i : Nat) (h : i < t) : more B t b i = B i := if_neg (by omega)
theorem more_new (B : Nat → Nat) (t b : Nat) : more B t b t = b := if_pos rfl
theorem owv_more (B : Nat → Nat) (ps : List (List (BitVec 8))) (t b : Nat) : owv (more B t b) ps (t + 1) = owv B ps t ++ [Value.slice (some ⟨b, 0, none⟩) ((ps.getD t []).length + 70) ((ps.getD t []).length + 70)] := by
  unfold owv
  rw [List.range_succ, List.map_append, List.map_singleton, more_new]
  congr 1
  apply List.map_congr_left
  intro i hi
  rw [more_old B t b i (List.mem_range.1 hi)]
theorem owt_more (qs : List (List (BitVec 8))) (t : Nat) : owt qs (t + 1) = owt qs t ++ [qs.getD t [] ++ marks70] := by
  unfold owt; rw [List.range_succ, List.map_append, List.map_singleton]

/-- Leaves that are lent: a of them have owners, f stand in the list, m marks behind. -/
structure Loan (w : World) (G : Nat) (ov : Value) (L : List Value) (B : Nat → Nat) (ps qs : List (List (BitVec 8))) (n a f m : Nat) : Prop where
  row : Row w G L 54
  len : L.length = n + 9
  own : w.ownsRow (G + 1) 54 1 ov a (owv B ps a)
  each : ∀ i, i < a → G < B i ∧ Row w (B i) (vB (qs.getD i [] ++ marks70)) 5
  apart : ∀ i j, i < j → j < a → B i ≠ B j
  front : ∀ i, i < f → L.getD i undef = .slice (some ⟨B i, 0, none⟩) (ps.getD i []).length ((ps.getD i []).length + 70)
  mark : ∀ j, n ≤ j → j < n + m → ∃ M, L.getD j undef = .slice (some ⟨M, 0, none⟩) 4 4 ∧ Mk w M ∧ ∀ i, i < a → B i ≠ M
section
variable {w w' : World} {G : Nat} {ov : Value} {L : List Value} {B : Nat → Nat} {ps qs : List (List (BitVec 8))} {n a f m : Nat}
theorem Loan.below (h : Loan w G ov L B ps qs n a f m) (k : Below w.heap.size w w') : Loan w' G ov L B ps qs n a f m :=
  ⟨Row.below h.row k h.row.lt, h.len, ownsRow_below h.own k (Nat.le_refl _), fun i hi => ⟨(h.each i hi).1, Row.below (h.each i hi).2 k (h.each i hi).2.lt⟩, h.apart, h.front, fun j h1 h2 => by
    obtain ⟨M, e1, e2, e3⟩ := h.mark j h1 h2
    exact ⟨M, e1, e2.below k e2.lt, e3⟩⟩
/-- A row of another type is changed. -/
theorem Loan.set {b : Nat} {cs : List Value} {t : TypeId} (h : Loan w G ov L B ps qs n a f m) (r : Row w b cs t) (h1 : t ≠ 54) (h2 : t ≠ 5) (i : Nat) (v : Value) : Loan (w.setCell ⟨b, i, none⟩ v) G ov L B ps qs n a f m := by
  have ne : ∀ {g : Nat} {xs : List Value} {s : TypeId}, Row w g xs s → t ≠ s → g ≠ b := fun {g xs s} r2 hne e => by
    subst e
    have := r.symm.trans r2
    simp only [Option.some.injEq, Obj.cells.injEq] at this
    exact hne this.2.1
  refine ⟨h.row.set_other _ _ _ (ne h.row h1), h.len, ⟨h.own.1, ?_⟩, fun j hj => ⟨(h.each j hj).1, (h.each j hj).2.set_other _ _ _ (ne (h.each j hj).2 h2)⟩, h.apart, h.front, fun j k1 k2 => ?_⟩
  · rcases h.own.2 with h3 | ⟨g, cap, cur, hv, hN, hh, r'⟩
    · exact .inl h3
    · have q : Row w g cur.toList 54 := by unfold Row; rw [hh]
      have q2 := q.set_other b i v (ne q h1)
      unfold Row at q2
      exact .inr ⟨g, cap, cur, hv, hN, q2, r'⟩
  · obtain ⟨M, e1, e2, e3⟩ := h.mark j k1 k2
    exact ⟨M, e1, e2.set_other _ _ _ (e2.ne r h2), e3⟩
/-- A row of another type is changed. -/
theorem Loan.sets {b : Nat} {cs : List Value} {t : TypeId} (h : Loan w G ov L B ps qs n a f m) (r : Row w b cs t) (h1 : t ≠ 54) (h2 : t ≠ 5) (i : Nat) (v : List Value) : Loan (w.setCells b i v) G ov L B ps qs n a f m := by
  have ne : ∀ {g : Nat} {xs : List Value} {s : TypeId}, Row w g xs s → t ≠ s → g ≠ b := fun {g xs s} r2 hne e => by
    subst e
    have := r.symm.trans r2
    simp only [Option.some.injEq, Obj.cells.injEq] at this
    exact hne this.2.1
  refine ⟨h.row.setCells_other _ _ _ (ne h.row h1), h.len, ⟨h.own.1, ?_⟩, fun j hj => ⟨(h.each j hj).1, (h.each j hj).2.setCells_other _ _ _ (ne (h.each j hj).2 h2)⟩, h.apart, h.front, fun j k1 k2 => ?_⟩
  · rcases h.own.2 with h3 | ⟨g, cap, cur, hv, hN, hh, r'⟩
    · exact .inl h3
    · have q : Row w g cur.toList 54 := by unfold Row; rw [hh]
      have q2 := q.setCells_other b i v (ne q h1)
      unfold Row at q2
      exact .inr ⟨g, cap, cur, hv, hN, q2, r'⟩
  · obtain ⟨M, e1, e2, e3⟩ := h.mark j k1 k2
    exact ⟨M, e1, e2.setCells_other _ _ _ (e2.ne r h2), e3⟩
/-- The owners as texts. -/
theorem Loan.txs (h : Loan w G ov L B ps ps n a f m) (hl : ∀ i, i < a → (ps.getD i []).length ≤ 140737488351232) : Txs w (G + 1) ov (owt ps a) (owv B ps a) :=
  ⟨by rw [owt_len]; exact h.own, fun i hi => by
    rw [owt_len] at hi
    rw [owv_get _ _ _ _ hi, owt_get _ _ _ hi]
    have e : (ps.getD i [] ++ marks70).length = (ps.getD i []).length + 70 := by simp [marks70]
    rw [← e]
    exact row_owns (h.each i hi).1 rfl (by rw [e]; have := hl i hi; omega) (h.each i hi).2⟩
/-- Behind append of an owner's value. -/
theorem Loan.grow {b : Nat} {v' : Value} (h : Loan w G ov L B ps ps n a f 0) (hf : f ≤ a) (hb : G < b) (hbn : ∀ i, i < a → B i ≠ b) (rb : Row w b (vB (ps.getD a [] ++ marks70)) 5) (hg : w.grownBy w' ov.ownBlock) (ho : w'.ownsRow (G + 1) 54 1 v' (a + 1) (owv (more B a b) ps (a + 1))) :
    Loan w' G v' L (more B a b) ps ps n (a + 1) f 0 := by
  have rg : ∀ {g : Nat} {xs : List Value}, Row w g xs 5 → Row w' g xs 5 := fun {g xs} r => by
    refine (hg.block g r.lt ?_).trans r
    rcases h.own.2 with ⟨h3, _⟩ | ⟨g', cap', cur', hv', _, hh', _⟩
    · rw [h3]; simp [Value.ownBlock]
    · rw [hv']
      simp only [Value.ownBlock, ne_eq, Option.some.injEq]
      intro e; subst e
      have := hh'.symm.trans r
      simp only [Option.some.injEq, Obj.cells.injEq] at this
      exact absurd this.2.1 (by decide)
  refine ⟨(hg.block G h.row.lt ?_).trans h.row, h.len, ho, fun i hi => ?_, fun i j hij hj => ?_, fun i hi => ?_, fun j h1 h2 => by omega⟩
  · intro e
    have := own_block h.own G e.symm
    omega
  · by_cases e : i < a
    · rw [more_old B a b i e]; exact ⟨(h.each i e).1, rg (h.each i e).2⟩
    · obtain rfl : i = a := by omega
      rw [more_new]; exact ⟨hb, rg rb⟩
  · rw [more_old B a b i (by omega)]
    by_cases e : j < a
    · rw [more_old B a b j e]; exact h.apart i j hij e
    · obtain rfl : j = a := by omega
      rw [more_new]; exact hbn i hij
  · rw [more_old B a b i (by omega)]; exact h.front i hi
/-- An owner's front is laid into the list. -/
theorem Loan.lay (h : Loan w G ov L B ps qs n (f + 1) f 0) (hn : f < n) : Loan (w.setCell ⟨G, f, none⟩ (.slice (some ⟨B f, 0, none⟩) (ps.getD f []).length ((ps.getD f []).length + 70))) G ov (L.set f (.slice (some ⟨B f, 0, none⟩) (ps.getD f []).length ((ps.getD f []).length + 70))) B ps qs n (f + 1) (f + 1) 0 := by
  have hne : ∀ {g : Nat} {xs : List Value}, Row w g xs 5 → g ≠ G := fun {g xs} r e => by
    subst e
    have := h.row.symm.trans r
    simp only [Option.some.injEq, Obj.cells.injEq] at this
    exact absurd this.2.1 (by decide)
  refine ⟨h.row.set f _, by rw [List.length_set]; exact h.len, ⟨h.own.1, ?_⟩, fun i hi => ⟨(h.each i hi).1, (h.each i hi).2.set_other _ _ _ (hne (h.each i hi).2)⟩, h.apart, fun i hi => ?_, fun j h1 h2 => by omega⟩
  · rcases h.own.2 with h3 | ⟨g, cap, cur, hv, hN, hh, r'⟩
    · exact .inl h3
    · have q : Row w g cur.toList 54 := by unfold Row; rw [hh]
      have q2 := q.set_other G f (.slice (some ⟨B f, 0, none⟩) (ps.getD f []).length ((ps.getD f []).length + 70)) (by omega)
      unfold Row at q2
      exact .inr ⟨g, cap, cur, hv, hN, q2, r'⟩
  · rw [List.getD_eq_getElem?_getD]
    by_cases e : i = f
    · subst e; rw [List.getElem?_set_self (by have := h.len; omega)]; rfl
    · rw [List.getElem?_set_ne (by omega), ← List.getD_eq_getElem?_getD]; exact h.front i (by omega)
/-- A mark is laid behind. -/
theorem Loan.mark_lay {M : Nat} (h : Loan w G ov L B ps qs n a f m) (hf : f ≤ n) (hm : m < 9) (rM : Mk w M) (hM : ∀ i, i < a → B i ≠ M) : Loan (w.setCell ⟨G, n + m, none⟩ (.slice (some ⟨M, 0, none⟩) 4 4)) G ov (L.set (n + m) (.slice (some ⟨M, 0, none⟩) 4 4)) B ps qs n a f (m + 1) := by
  have hne : ∀ {g : Nat} {xs : List Value}, Row w g xs 5 → g ≠ G := fun {g xs} r e => by
    subst e
    have := h.row.symm.trans r
    simp only [Option.some.injEq, Obj.cells.injEq] at this
    exact absurd this.2.1 (by decide)
  refine ⟨h.row.set _ _, by rw [List.length_set]; exact h.len, ⟨h.own.1, ?_⟩, fun i hi => ⟨(h.each i hi).1, (h.each i hi).2.set_other _ _ _ (hne (h.each i hi).2)⟩, h.apart, fun i hi => ?_, fun j h1 h2 => ?_⟩
  · rcases h.own.2 with h3 | ⟨g, cap, cur, hv, hN, hh, r'⟩
    · exact .inl h3
    · have q : Row w g cur.toList 54 := by unfold Row; rw [hh]
      have q2 := q.set_other G (n + m) (.slice (some ⟨M, 0, none⟩) 4 4) (by omega)
      unfold Row at q2
      exact .inr ⟨g, cap, cur, hv, hN, q2, r'⟩
  · rw [List.getD_eq_getElem?_getD, List.getElem?_set_ne (by omega), ← List.getD_eq_getElem?_getD]; exact h.front i hi
  · rw [List.getD_eq_getElem?_getD]
    by_cases e : j = n + m
    · subst e; rw [List.getElem?_set_self (by have := h.len; omega)]
      exact ⟨M, rfl, rM.set_other _ _ _ (rM.ne h.row (by decide)), hM⟩
    · rw [List.getElem?_set_ne (by omega), ← List.getD_eq_getElem?_getD]
      obtain ⟨M', e1, e2, e3⟩ := h.mark j h1 (by omega)
      exact ⟨M', e1, e2.set_other _ _ _ (e2.ne h.row (by decide)), e3⟩
end

end Go.Proofs.YtdicgenhfmhklaaGreatDoor
