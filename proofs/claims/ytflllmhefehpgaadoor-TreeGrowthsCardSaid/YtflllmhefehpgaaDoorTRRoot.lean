/-
  The document's Leaf, Node, Root.
-/
import Derived.Test.YtflllmhefehpgaaDoorTTxt
import Derived.Test.YtflllmhefehpgaaDoorTRoot
namespace Go.Proofs.YtflllmhefehpgaaDoor
open Go Go.RowKit
open Sha

/-- A slice without a place has no room. -/
def Nl (v : Value) : Prop := ∀ A n c, v = .slice A n c → A = none → c = 0
/-- Leaves that stand one behind the other, as bytes of a caller. -/
def LnAt (w : World) (b o : Nat) (ps : List (List (BitVec 8))) : Prop := ∃ vs : List Value, vs.length = ps.length ∧ w.rangeAt b o vs ∧ ∀ i, i < ps.length → SlAt w (vs.getD i undef) (ps.getD i []) ∧ Nl (vs.getD i undef)
theorem LnAt.ls {w : World} {b o : Nat} {ps : List (List (BitVec 8))} (h : LnAt w b o ps) : LsAt w b o ps := by
  obtain ⟨vs, h1, h2, h3⟩ := h
  exact ⟨vs, h1, h2, fun i hi => (h3 i hi).1⟩
theorem LnAt.below {w w' : World} {b o : Nat} {ps : List (List (BitVec 8))} (h : LnAt w b o ps) (k : Below w.heap.size w w') : LnAt w' b o ps := by
  obtain ⟨vs, h1, h2, h3⟩ := h
  exact ⟨vs, h1, range_below h2 k (Nat.le_refl _), fun i hi => ⟨(h3 i hi).1.below k (Nat.le_refl _), (h3 i hi).2⟩⟩
theorem LnAt.take {w : World} {b o : Nat} {ps : List (List (BitVec 8))} (h : LnAt w b o ps) (k : Nat) : LnAt w b o (ps.take k) := by
  obtain ⟨vs, h1, h2, h3⟩ := h
  refine ⟨vs.take k, by rw [List.length_take, List.length_take, h1], fun j v hv => ?_, fun i hi => ?_⟩
  · have hj : j < k := by have := (List.getElem?_eq_some_iff.1 hv).1; rw [List.length_take] at this; omega
    rw [List.getElem?_take_of_lt hj] at hv
    exact h2 j v hv
  · rw [List.length_take] at hi
    have e1 : (vs.take k).getD i undef = vs.getD i undef := by simp [List.getD_eq_getElem?_getD, show i < k by omega]
    have e2 : (ps.take k).getD i [] = ps.getD i [] := by simp [List.getD_eq_getElem?_getD, show i < k by omega]
    rw [e1, e2]; exact h3 i (by omega)
theorem LnAt.drop {w : World} {b o : Nat} {ps : List (List (BitVec 8))} (h : LnAt w b o ps) (k : Nat) : LnAt w b (o + k) (ps.drop k) := by
  obtain ⟨vs, h1, h2, h3⟩ := h
  refine ⟨vs.drop k, by rw [List.length_drop, List.length_drop, h1], fun j v hv => ?_, fun i hi => ?_⟩
  · rw [List.getElem?_drop] at hv
    have := h2 (k + j) v hv
    rwa [show o + k + j = o + (k + j) by omega]
  · rw [List.length_drop] at hi
    have e1 : (vs.drop k).getD i undef = vs.getD (k + i) undef := by simp [List.getD_eq_getElem?_getD, List.getElem?_drop]
    have e2 : (ps.drop k).getD i [] = ps.getD (k + i) [] := by simp [List.getD_eq_getElem?_getD, List.getElem?_drop]
    rw [e1, e2]; exact h3 (k + i) (by omega)

section
variable {ops : Array Oper} {rest : List Oper} {op : Oper} {a : Act} {w : World} {Q : Exit → Act → World → Prop}
theorem wpList_slice_to (hw : Region.wanted op (yielded ops a.tmps) = true) (t e : TypeId) (x z : Operand) (b f n cap k : Nat) (ho : op.op = .slice t x none (some z) none) (hx : a.eval x = .slice (some ⟨b, f, none⟩) n cap) (hz : a.eval z = .int .i64 (k : Int)) (hk : k ≤ cap)
    (hu : Tryd.prog.underlying t = some (.slice e)) (hs : (Tryd.prog.info? e).map (·.size) = some 1) (h : wpList Tryd.prog ops Q rest (a.put op.dst (.slice (some ⟨b, f, none⟩) k cap)) w) : wpList Tryd.prog ops Q (op :: rest) a w :=
  BigFrame.wpList_want hw fun _ hK => wp_slice_to t e x z b f n cap k ho hx hz hk hu hs (hK _ _ h)
theorem wpList_slice_on (hw : Region.wanted op (yielded ops a.tmps) = true) (t e : TypeId) (x z : Operand) (b f n cap k : Nat) (ho : op.op = .slice t x (some z) none none) (hx : a.eval x = .slice (some ⟨b, f, none⟩) n cap) (hz : a.eval z = .int .i64 (k : Int)) (hk : k ≤ n) (hc : k < cap)
    (hu : Tryd.prog.underlying t = some (.slice e)) (hs : (Tryd.prog.info? e).map (·.size) = some 1) (h : wpList Tryd.prog ops Q rest (a.put op.dst (.slice (some ⟨b, f + k, none⟩) (n - k) (cap - k))) w) : wpList Tryd.prog ops Q (op :: rest) a w :=
  BigFrame.wpList_want hw fun _ hK => wp_slice_on t e x z b f n cap k ho hx hz hk hc hu hs (hK _ _ h)
end

set_option maxRecDepth 100000 in
set_option maxHeartbeats 2000000 in
theorem rleaf_any (d dd : List (BitVec 8)) (hd : dd = dig ([0#8] ++ d)) (L : Nat) (hL : d.length = L) (hl : L + 1 ≤ 140737488355000) (A : Option Addr) (cap : Nat) (hnil : A = none → cap = 0) (w : World) (fG : Given w) (hv : SlAt w (.slice A L cap) d) :
    Calls Tryd.prog 20 #[.slice A L cap] w fun e w' => e = .returned (.agg (vB dd).toArray) ∧ Below w.heap.size w w' := by
  have HD : Dl dd := by rw [hd]; exact dig_length _
  have HE : Hid (dd = dig ([0#8] ++ d)) := hd
  have HL : Hid (d.length = L) := hL
  have HL1 : Hid (L + 1 ≤ 140737488355000) := hl
  have HN : Hid (A = none → cap = 0) := hnil
  have hb : Below w.heap.size w (w.alloc (Obj.cells z32.toArray 24)) := (Below.refl _ _).alloc (Nat.le_refl _) _
  have r2 : Row (w.alloc (Obj.cells z32.toArray 24)) w.heap.size z32 24 := Row.new' rfl rfl
  replace fG := fG.low hb
  replace hv := hv.below hb (Nat.le_refl _)
  clear hd hL hl hnil
  go_enter Tryd.func20, Tryd.ntmps20
  go_wp2_with fail
  refine (leafText_any d L HL.out (by have := HL1.out; omega) A cap _ hv HN.out).mono ?_
  rintro e V0 ⟨tv, rfl, hO, hB⟩
  replace hb := hb.trans (hB.mono hb.size)
  replace r2 := Row.below r2 hB (Row.lt r2)
  replace fG := fG.low hB
  clear hB
  clear hv
  obtain ⟨hsl, A6, c6, e6⟩ := owns_slAt hO
  subst e6
  clear hO
  go_wp2_with fail
  refine (rsum_any ([0#8] ++ d) dd HE.out (by rw [List.length_append, HL.out]; have := HL1.out; simp only [List.length_singleton]; omega) _ V0 hsl fG).mono ?_
  rintro e V1 ⟨rfl, hB⟩
  replace hb := hb.trans (hB.mono hb.size)
  replace r2 := Row.below r2 hB (Row.lt r2)
  replace fG := fG.low hB
  clear hB
  have T9 := HD.there r2 rfl
  have nf := r2.over (vs := vB dd) (HD.over rfl)
  have nB := below_setCells hb (b := w.heap.size) (o := 0) (by omega) (vB dd)
  go_wp2_with (refine wpList_store_mid rfl 24 (.tmp 2) (.tmp 7) rfl (w.heap.size) 0 (vB dd).toArray rfl rfl T9 HD.info' HD.one ?_)
  exact bodyPost_ret (results_row Tryd.results20 _ _ (w.heap.size) 24 (vB dd) rfl nf Tryd.underlying24 info_dig HD.len) rfl ⟨rfl, nB⟩

set_option maxRecDepth 100000 in
set_option maxHeartbeats 2000000 in
theorem rnode_any (l r dd : List (BitVec 8)) (Hl : Dl l) (Hr : Dl r) (hd : dd = dig ([1#8] ++ (l ++ r))) (w : World) (fG : Given w) :
    Calls Tryd.prog 21 #[.agg (vB l).toArray, .agg (vB r).toArray] w fun e w' => e = .returned (.agg (vB dd).toArray) ∧ Below w.heap.size w w' := by
  have HD : Dl dd := by rw [hd]; exact dig_length _
  have HE : Hid (dd = dig ([1#8] ++ (l ++ r))) := hd
  have HL : Hid (([1#8] ++ (l ++ r)).length = 65) := by show _ = _; rw [List.length_append, List.length_append, show l.length = 32 from Hl, show r.length = 32 from Hr]; rfl
  have hb : Below w.heap.size w (((w.alloc (Obj.cells (vB l).toArray 24)).alloc (Obj.cells (vB r).toArray 24)).alloc (Obj.cells z32.toArray 24)) := (((Below.refl _ _).alloc (Nat.le_refl _) _).alloc (by simp) _).alloc (by simp; omega) _
  have q0 : Row (((w.alloc (Obj.cells (vB l).toArray 24)).alloc (Obj.cells (vB r).toArray 24)).alloc (Obj.cells z32.toArray 24)) w.heap.size (vB l) 24 := ((Row.new w (vB l) _).alloc _).alloc _
  have q1 : Row (((w.alloc (Obj.cells (vB l).toArray 24)).alloc (Obj.cells (vB r).toArray 24)).alloc (Obj.cells z32.toArray 24)) (w.heap.size + 1) (vB r) 24 := (Row.new' (by simp) rfl).alloc _
  have r2 : Row (((w.alloc (Obj.cells (vB l).toArray 24)).alloc (Obj.cells (vB r).toArray 24)).alloc (Obj.cells z32.toArray 24)) (w.heap.size + 2) z32 24 := Row.new' (by simp) rfl
  replace fG := fG.low hb
  clear hd
  go_enter Tryd.func21, Tryd.ntmps21
  go_wp2_with (first
    | (refine wpList_load_w rfl 24 (.tmp 2) rfl (w.heap.size) 0 rfl (vB l) _ q0.all Tryd.underlying24 rfl Hl.info ?_; simp only [Act.put, List.setIfInBounds_toArray, List.set_cons_zero, List.set_cons_succ])
    | (refine wpList_load_w rfl 24 (.tmp 3) rfl (w.heap.size + 1) 0 rfl (vB r) _ q1.all Tryd.underlying24 rfl Hr.info ?_; simp only [Act.put, List.setIfInBounds_toArray, List.set_cons_zero, List.set_cons_succ]))
  refine (nodeText_any l r Hl Hr _).mono ?_
  rintro e V0 ⟨tv, rfl, hO, hB⟩
  replace hb := hb.trans (hB.mono hb.size)
  replace r2 := Row.below r2 hB (Row.lt r2)
  replace fG := fG.low hB
  clear hB
  obtain ⟨hsl, A6, c6, e6⟩ := owns_slAt hO
  subst e6
  clear hO q0 q1
  go_wp2_with fail
  refine (rsum_any ([1#8] ++ (l ++ r)) dd HE.out (by rw [HL.out]; decide) _ V0 hsl fG).mono ?_
  rintro e V1 ⟨rfl, hB⟩
  replace hb := hb.trans (hB.mono hb.size)
  replace r2 := Row.below r2 hB (Row.lt r2)
  replace fG := fG.low hB
  clear hB
  have T9 := HD.there r2 rfl
  have nf := r2.over (vs := vB dd) (HD.over rfl)
  have nB := below_setCells hb (b := w.heap.size + 2) (o := 0) (by omega) (vB dd)
  go_wp2_with (refine wpList_store_mid rfl 24 (.tmp 4) (.tmp 10) rfl (w.heap.size + 2) 0 (vB dd).toArray rfl rfl T9 HD.info' HD.one ?_)
  exact bodyPost_ret (results_row Tryd.results21 _ _ (w.heap.size + 2) 24 (vB dd) rfl nf Tryd.underlying24 info_dig HD.len) rfl ⟨rfl, nB⟩

set_option maxRecDepth 100000 in
set_option maxHeartbeats 2000000 in
theorem rroot_nil (A : Option Addr) (cap : Nat) (dd : List (BitVec 8)) (hd : dd = dig []) (w : World) (fG : Given w) :
    Calls Tryd.prog 22 #[.slice A 0 cap] w fun e w' => e = .returned (.agg (vB dd).toArray) ∧ Below w.heap.size w w' := by
  have HD : Dl dd := by rw [hd]; exact dig_length _
  have HE : Hid (dd = dig []) := hd
  have hb : Below w.heap.size w (w.alloc (Obj.cells z32.toArray 24)) := (Below.refl _ _).alloc (Nat.le_refl _) _
  have r2 : Row (w.alloc (Obj.cells z32.toArray 24)) w.heap.size z32 24 := Row.new' rfl rfl
  replace fG := fG.low hb
  clear hd
  go_enter Tryd.func22, Tryd.ntmps22
  go_wp2_with fail
  refine (rsum_any [] dd HE.out (by decide) _ _ (.inl ⟨rfl, _, _, rfl⟩) fG).mono ?_
  rintro e V0 ⟨rfl, hB⟩
  replace hb := hb.trans (hB.mono hb.size)
  replace r2 := Row.below r2 hB (Row.lt r2)
  clear hB
  have T9 := HD.there r2 rfl
  have nf := r2.over (vs := vB dd) (HD.over rfl)
  have nB := below_setCells hb (b := w.heap.size) (o := 0) (by omega) (vB dd)
  go_wp2_with (refine wpList_store_mid rfl 24 (.tmp 2) (.tmp 9) rfl (w.heap.size) 0 (vB dd).toArray rfl rfl T9 HD.info' HD.one ?_)
  exact bodyPost_ret (results_row Tryd.results22 _ _ (w.heap.size) 24 (vB dd) rfl nf Tryd.underlying24 info_dig HD.len) rfl ⟨rfl, nB⟩

set_option maxRecDepth 100000 in
set_option maxHeartbeats 2000000 in
theorem rroot_one (d dd : List (BitVec 8)) (hd : dd = dig ([0#8] ++ d)) (hl : d.length + 1 ≤ 140737488355000) (b o cap : Nat) (v : Value) (hnl : Nl v) (w : World) (fG : Given w) (hc : w.cell? ⟨b, o, none⟩ = some v) (hv : SlAt w v d) :
    Calls Tryd.prog 22 #[.slice (some ⟨b, o, none⟩) 1 cap] w fun e w' => e = .returned (.agg (vB dd).toArray) ∧ Below w.heap.size w w' := by
  obtain ⟨A, c, hev⟩ : ∃ A c, v = .slice A d.length c := by
    rcases hv with ⟨h1, A, c, h2⟩ | ⟨b', o', c, h2, _⟩
    · exact ⟨A, c, by rw [h2, h1]; rfl⟩
    · exact ⟨_, c, h2⟩
  subst hev
  have HD : Dl dd := by rw [hd]; exact dig_length _
  have HE : Hid (dd = dig ([0#8] ++ d)) := hd
  have HL1 : Hid (d.length + 1 ≤ 140737488355000) := hl
  have HN : Hid (A = none → c = 0) := hnl A _ c rfl
  have hb : Below w.heap.size w (w.alloc (Obj.cells z32.toArray 24)) := (Below.refl _ _).alloc (Nat.le_refl _) _
  have r2 : Row (w.alloc (Obj.cells z32.toArray 24)) w.heap.size z32 24 := Row.new' rfl rfl
  have gk : (w.alloc (Obj.cells #[.int .u8 0, .int .u8 0, .int .u8 0, .int .u8 0, .int .u8 0, .int .u8 0, .int .u8 0, .int .u8 0, .int .u8 0, .int .u8 0, .int .u8 0, .int .u8 0, .int .u8 0, .int .u8 0, .int .u8 0, .int .u8 0, .int .u8 0, .int .u8 0, .int .u8 0, .int .u8 0, .int .u8 0, .int .u8 0, .int .u8 0, .int .u8 0, .int .u8 0, .int .u8 0, .int .u8 0, .int .u8 0, .int .u8 0, .int .u8 0, .int .u8 0, .int .u8 0] 24)).cell? ⟨b, o, none⟩ = some (.slice A d.length c) := cell_be hc hb
  replace fG := fG.low hb
  replace hv := hv.below hb (Nat.le_refl _)
  clear hd hl hnl hc
  go_enter Tryd.func22, Tryd.ntmps22
  go_wp2_with fail
  refine (rleaf_any d dd HE.out _ rfl HL1.out A c HN.out _ fG hv).mono ?_
  rintro e V0 ⟨rfl, hB⟩
  replace hb := hb.trans (hB.mono hb.size)
  replace r2 := Row.below r2 hB (Row.lt r2)
  clear hB
  have T9 := HD.there r2 rfl
  have nf := r2.over (vs := vB dd) (HD.over rfl)
  have nB := below_setCells hb (b := w.heap.size) (o := 0) (by omega) (vB dd)
  go_wp2_with (refine wpList_store_mid rfl 24 (.tmp 2) (.tmp 16) rfl (w.heap.size) 0 (vB dd).toArray rfl rfl T9 HD.info' HD.one ?_)
  exact bodyPost_ret (results_row Tryd.results22 _ _ (w.heap.size) 24 (vB dd) rfl nf Tryd.underlying24 info_dig HD.len) rfl ⟨rfl, nB⟩

set_option maxRecDepth 100000 in
set_option maxHeartbeats 4000000 in
theorem rroot_step (n k : Nat) (h2 : 2 ≤ n) (hn : n < 4611686018427387904) (hk : fpart n = k) (l r dd : List (BitVec 8)) (Hl : Dl l) (Hr : Dl r) (hd : dd = dig ([1#8] ++ (l ++ r))) (b o cap : Nat) (hc : n ≤ cap) (w : World) (fG : Given w)
    (hL : ∀ W, Below w.heap.size w W → Calls Tryd.prog 22 #[.slice (some ⟨b, o, none⟩) k cap] W fun e w' => e = .returned (.agg (vB l).toArray) ∧ Below W.heap.size W w')
    (hR : ∀ W, Below w.heap.size w W → Calls Tryd.prog 22 #[.slice (some ⟨b, o + k, none⟩) (n - k) (cap - k)] W fun e w' => e = .returned (.agg (vB r).toArray) ∧ Below W.heap.size W w') :
    Calls Tryd.prog 22 #[.slice (some ⟨b, o, none⟩) n cap] w fun e w' => e = .returned (.agg (vB dd).toArray) ∧ Below w.heap.size w w' := by
  have HD : Dl dd := by rw [hd]; exact dig_length _
  have HE : Hid (dd = dig ([1#8] ++ (l ++ r))) := hd
  have HL : Hid (∀ W, _ → _) := hL
  have HR : Hid (∀ W, _ → _) := hR
  have HKN : Hid (k < n) := by show _ < _; rw [← hk]; exact (fpart_bounds n h2 hn).1
  have HC : Hid (n ≤ cap) := hc
  have HF : Hid (∀ w, _) := fun w => rbelow_any n h2 hn w
  rw [hk] at HF
  have n0 : ¬ (n : Int) = 0 := by omega
  have n1 : ¬ (n : Int) = 1 := by omega
  clear hd hL hR hk h2 hn hc
  have hb : Below w.heap.size w (w.alloc (Obj.cells z32.toArray 24)) := (Below.refl _ _).alloc (Nat.le_refl _) _
  have r2 : Row (w.alloc (Obj.cells z32.toArray 24)) w.heap.size z32 24 := Row.new' rfl rfl
  replace fG := fG.low hb
  obtain ⟨W0, hW0⟩ : ∃ W0, W0 = w.alloc (Obj.cells z32.toArray 24) := ⟨_, rfl⟩
  rw [← hW0] at hb r2 fG
  go_enter Tryd.func22, Tryd.ntmps22
  go_wp2_with fail
  refine (HF.out (w.alloc (Obj.cells z32.toArray 24))).mono ?_
  rintro e w2 ⟨rfl, rfl⟩
  rw [← hW0]
  clear hW0
  go_wp2_with (refine wpList_slice_to rfl 25 22 (.tmp 20) (.tmp 21) b o n cap k rfl rfl rfl (Nat.le_trans (Nat.le_of_lt HKN.out) HC.out) Tryd.underlying25 info_slb ?_; simp only [Act.put, List.setIfInBounds_toArray, List.set_cons_zero, List.set_cons_succ])
  refine (HL.out W0 hb).mono ?_
  rintro e V0 ⟨rfl, hB⟩
  replace hb := hb.trans (hB.mono hb.size)
  replace r2 := Row.below r2 hB (Row.lt r2)
  replace fG := fG.low hB
  clear hB
  have o_r4 : w.heap.size < V0.heap.size := Row.lt r2
  have n0 : Row (V0.alloc (Obj.cells z32.toArray 24)) V0.heap.size z32 24 := Row.new' rfl rfl
  have T0 := Hl.there n0 rfl
  replace n0 := n0.over (vs := vB l) (Hl.over rfl)
  have hB : Below V0.heap.size V0 ((V0.alloc (Obj.cells z32.toArray 24)).setCells V0.heap.size 0 (vB l)) := below_setCells ((Below.refl _ _).alloc (Nat.le_refl _) (Obj.cells z32.toArray 24)) (b := V0.heap.size) (o := 0) (Nat.le_refl _) (vB l)
  replace hb := hb.trans (hB.mono hb.size)
  replace r2 := Row.below r2 hB (Row.lt r2)
  replace fG := fG.low hB
  clear hB
  have r4 := n0
  clear n0
  go_wp2_with (first
    | (refine wpList_store_mid rfl 24 (.tmp 4) (.tmp 23) rfl V0.heap.size 0 (vB l).toArray rfl rfl T0 Hl.info' Hl.one ?_; simp only [Act.put]; clear T0; (change wpList _ _ _ _ _ ((V0.alloc (Obj.cells z32.toArray 24)).setCells V0.heap.size 0 (vB l))); (generalize ((V0.alloc (Obj.cells z32.toArray 24)).setCells V0.heap.size 0 (vB l)) = X1 at *); (generalize hN : V0.heap.size = N4 at *; clear hN))
    | (refine wpList_slice_on rfl 25 22 (.tmp 24) (.tmp 25) b o n cap k rfl rfl rfl (Nat.le_of_lt HKN.out) (Nat.lt_of_lt_of_le HKN.out HC.out) Tryd.underlying25 info_slb ?_; simp only [Act.put, List.setIfInBounds_toArray, List.set_cons_zero, List.set_cons_succ]))
  refine (HR.out X1 hb).mono ?_
  rintro e V2 ⟨rfl, hB⟩
  replace hb := hb.trans (hB.mono hb.size)
  replace r2 := Row.below r2 hB (Row.lt r2)
  replace r4 := Row.below r4 hB (Row.lt r4)
  replace fG := fG.low hB
  clear hB
  have o_r5 : N4 < V2.heap.size := Row.lt r4
  have n0 : Row (V2.alloc (Obj.cells z32.toArray 24)) V2.heap.size z32 24 := Row.new' rfl rfl
  have T0 := Hr.there n0 rfl
  replace n0 := n0.over (vs := vB r) (Hr.over rfl)
  have hB : Below V2.heap.size V2 ((V2.alloc (Obj.cells z32.toArray 24)).setCells V2.heap.size 0 (vB r)) := below_setCells ((Below.refl _ _).alloc (Nat.le_refl _) (Obj.cells z32.toArray 24)) (b := V2.heap.size) (o := 0) (Nat.le_refl _) (vB r)
  replace hb := hb.trans (hB.mono hb.size)
  replace r2 := Row.below r2 hB (Row.lt r2)
  replace r4 := Row.below r4 hB (Row.lt r4)
  replace fG := fG.low hB
  clear hB
  have r5 := n0
  clear n0
  go_wp2_with (first
    | (refine wpList_store_mid rfl 24 (.tmp 5) (.tmp 27) rfl V2.heap.size 0 (vB r).toArray rfl rfl T0 Hr.info' Hr.one ?_; simp only [Act.put]; clear T0; (change wpList _ _ _ _ _ ((V2.alloc (Obj.cells z32.toArray 24)).setCells V2.heap.size 0 (vB r))); (generalize ((V2.alloc (Obj.cells z32.toArray 24)).setCells V2.heap.size 0 (vB r)) = X3 at *); (generalize hN : V2.heap.size = N5 at *; clear hN))
    | (refine wpList_load_w rfl 24 (.tmp 4) rfl N4 0 rfl (vB l) _ r4.all Tryd.underlying24 rfl Hl.info ?_; simp only [Act.put, List.setIfInBounds_toArray, List.set_cons_zero, List.set_cons_succ])
    | (refine wpList_load_w rfl 24 (.tmp 5) rfl N5 0 rfl (vB r) _ r5.all Tryd.underlying24 rfl Hr.info ?_; simp only [Act.put, List.setIfInBounds_toArray, List.set_cons_zero, List.set_cons_succ]))
  refine (rnode_any l r dd Hl Hr HE.out X3 fG).mono ?_
  rintro e V4 ⟨rfl, hB⟩
  replace hb := hb.trans (hB.mono hb.size)
  replace r2 := Row.below r2 hB (Row.lt r2)
  replace r4 := Row.below r4 hB (Row.lt r4)
  replace r5 := Row.below r5 hB (Row.lt r5)
  replace fG := fG.low hB
  clear hB
  have T9 := HD.there r2 rfl
  have nf := r2.over (vs := vB dd) (HD.over rfl)
  have nB := below_setCells hb (b := w.heap.size) (o := 0) (by omega) (vB dd)
  go_wp2_with (refine wpList_store_mid rfl 24 (.tmp 2) (.tmp 30) rfl (w.heap.size) 0 (vB dd).toArray rfl rfl T9 HD.info' HD.one ?_)
  exact bodyPost_ret (results_row Tryd.results22 _ _ (w.heap.size) 24 (vB dd) rfl nf Tryd.underlying24 info_dig HD.len) rfl ⟨rfl, nB⟩

theorem rroot_any (n : Nat) : ∀ (ps : List (List (BitVec 8))), ps.length = n → n < 4611686018427387904 → (∀ i, i < ps.length → (ps.getD i []).length + 1 ≤ 140737488355000) → ∀ (dd : List (BitVec 8)), dd = rt ps → ∀ (b o cap : Nat), n ≤ cap → ∀ w : World, Given w → LnAt w b o ps →
    Calls Tryd.prog 22 #[.slice (some ⟨b, o, none⟩) n cap] w fun e w' => e = .returned (.agg (vB dd).toArray) ∧ Below w.heap.size w w' := by
  induction n using Nat.strongRecOn with
  | ind n ih =>
    intro ps hn hlt hm dd hd b o cap hc w fG hv
    subst hd
    rcases (show n = 0 ∨ n = 1 ∨ 2 ≤ n by omega) with rfl | rfl | h2
    · rw [rt_nil ps hn]
      exact rroot_nil _ _ _ rfl w fG
    · rw [rt_one ps hn]
      obtain ⟨vs, h1, h3, h4⟩ := hv
      have hx : vs[0]? = some (vs.getD 0 undef) := by rw [List.getD_eq_getElem?_getD, List.getElem?_eq_getElem (show 0 < vs.length by omega)]; rfl
      exact rroot_one (ps.getD 0 []) _ rfl (hm 0 (by omega)) b o cap (vs.getD 0 undef) (h4 0 (by omega)).2 w fG (h3 0 _ hx) (h4 0 (by omega)).1
    · have hb := fpart_bounds n h2 hlt
      have hp := fpart_pos n
      rw [rt_many ps (by omega) (by omega), hn]
      generalize hk : fpart n = k at *
      have t1 : (ps.take k).length = k := by rw [List.length_take]; omega
      have t2 : (ps.drop k).length = n - k := by rw [List.length_drop]; omega
      refine rroot_step n k h2 hlt hk _ _ _ (rt_length _) (rt_length _) rfl b o cap hc w fG (fun W hB => ?_) (fun W hB => ?_)
      · refine ih k hb.1 (ps.take k) t1 (by omega) (fun i hi => ?_) _ rfl b o cap (by omega) W (fG.low hB) ((hv.below hB).take k)
        have hi2 : i < k := by omega
        have e2 : (ps.take k).getD i [] = ps.getD i [] := by simp [List.getD_eq_getElem?_getD, hi2]
        rw [e2]
        exact hm i (by omega)
      · refine ih (n - k) (by omega) (ps.drop k) t2 (by omega) (fun i hi => ?_) _ rfl b (o + k) (cap - k) (by omega) W (fG.low hB) ((hv.below hB).drop k)
        have e2 : (ps.drop k).getD i [] = ps.getD (k + i) [] := by simp [List.getD_eq_getElem?_getD, List.getElem?_drop]
        rw [e2]
        exact hm (k + i) (by omega)

end Go.Proofs.YtflllmhefehpgaaDoor
