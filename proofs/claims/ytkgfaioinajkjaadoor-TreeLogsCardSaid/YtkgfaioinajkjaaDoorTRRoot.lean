/-
  The document's Leaf, Node, Root.
-/
import Derived.Test.YtkgfaioinajkjaaDoorTTxt
import Derived.Test.YtkgfaioinajkjaaDoorTRoot
namespace Go.Proofs.YtkgfaioinajkjaaDoor
open Go Go.RowKit
open Sha

/-- A slice without a place has no room. -/
def Nl (v : Value) : Prop := ∀ A n c, v = .slice A n c → A = none → c = 0
/-- Leaves that stand one behind the other, as bytes of a caller. -/
def LnAt (w : World) (b o : Nat) (ps : List (List (BitVec 8))) : Prop := ∃ vs : List Value, vs.length = ps.length ∧ w.rangeAt b o vs ∧ ∀ i, i < ps.length → SlAt w (vs.getD i undef) (ps.getD i []) ∧ Nl (vs.getD i undef)
theorem LnAt.ls {w : World} {b o : Nat} {ps : List (List (BitVec 8))} (h : LnAt w b o ps) : LsAt w b o ps := by
  obtain ⟨vs, h1, h2, h3⟩ := h
  exact ⟨vs, h1, h2, fun i hi => (h3 i hi).1⟩
theorem LnAt.below {w w' : World} {b o : Nat} {ps : List (List (BitVec 8))} (h : LnAt w b o ps) (k : Below w.heap.size w w') : LnAt w' b o ps := by
  obtain ⟨vs, h1, h2, h3⟩ := h
  exact ⟨vs, h1, range_below h2 k (Nat.le_refl _), fun i hi => ⟨(h3 i hi).1.below k (Nat.le_refl _), (h3 i hi).2⟩⟩
theorem LnAt.take {w : World} {b o : Nat} {ps : List (List (BitVec 8))} (h : LnAt w b o ps) (k : Nat) : LnAt w b o (ps.take k) := by
  obtain ⟨vs, h1, h2, h3⟩ := h
  refine ⟨vs.take k, by rw [List.length_take, List.length_take, h1], fun j v hv => ?_, fun i hi => ?_⟩
  · have hj : j < k := by have := (List.getElem?_eq_some_iff.1 hv).1; rw [List.length_take] at this; omega
    rw [List.getElem?_take_of_lt hj] at hv
    exact h2 j v hv
  · rw [List.length_take] at hi
    have e1 : (vs.take k).getD i undef = vs.getD i undef := by simp [List.getD_eq_getElem?_getD, show i < k by omega]
    have e2 : (ps.take k).getD i [] = ps.getD i [] := by simp [List.getD_eq_getElem?_getD, show i < k by omega]
    rw [e1, e2]; exact h3 i (by omega)
theorem LnAt.drop {w : World} {b o : Nat} {ps : List (List (BitVec 8))} (h : LnAt w b o ps) (k : Nat) : LnAt w b (o + k) (ps.drop k) := by
  obtain ⟨vs, h1, h2, h3⟩ := h
  refine ⟨vs.drop k, by rw [List.length_drop, List.length_drop, h1], fun j v hv => ?_, fun i hi => ?_⟩
  · rw [List.getElem?_drop] at hv
    have := h2 (k + j) v hv
    rwa [show o + k + j = o + (k + j) by omega]
  · rw [List.length_drop] at hi
    have e1 : (vs.drop k).getD i undef = vs.getD (k + i) undef := by simp [List.getD_eq_getElem?_getD, List.getElem?_drop]
    have e2 : (ps.drop k).getD i [] = ps.getD (k + i) [] := by simp [List.getD_eq_getElem?_getD, List.getElem?_drop]
    rw [e1, e2]; exact h3 (k + i) (by omega)

section
variable {ops : Array Oper} {rest : List Oper} {op : Oper} {a : Act} {w : World} {Q : Exit → Act → World → Prop}
theorem wpList_slice_to (hw : Region.wanted op (yielded ops a.tmps) = true) (t e : TypeId) (x z : Operand) (b f n cap k : Nat) (ho : op.op = .slice t x none (some z) none) (hx : a.eval x = .slice (some ⟨b, f, none⟩) n cap) (hz : a.eval z = .int .i64 (k : Int)) (hk : k ≤ cap)
    (hu : Tryd.prog.underlying t = some (.slice e)) (hs : (Tryd.prog.info? e).map (·.size) = some 1) (h : wpList Tryd.prog ops Q rest (a.put op.dst (.slice (some ⟨b, f, none⟩) k cap)) w) : wpList Tryd.prog ops Q (op :: rest) a w :=
  BigFrame.wpList_want hw fun _ hK => wp_slice_to t e x z b f n cap k ho hx hz hk hu hs (hK _ _ h)
theorem wpList_slice_on (hw : Region.wanted op (yielded ops a.tmps) = true) (t e : TypeId) (x z : Operand) (b f n cap k : Nat) (ho : op.op = .slice t x (some z) none none) (hx : a.eval x = .slice (some ⟨b, f, none⟩) n cap) (hz : a.eval z = .int .i64 (k : Int)) (hk : k ≤ n) (hc : k < cap)
    (hu : Tryd.prog.underlying t = some (.slice e)) (hs : (Tryd.prog.info? e).map (·.size) = some 1) (h : wpList Tryd.prog ops Q rest (a.put op.dst (.slice (some ⟨b, f + k, none⟩) (n - k) (cap - k))) w) : wpList Tryd.prog ops Q (op :: rest) a w :=
  BigFrame.wpList_want hw fun _ hK => wp_slice_on t e x z b f n cap k ho hx hz hk hc hu hs (hK _ _ h)
end

set_option maxRecDepth 100000 in
set_option maxHeartbeats 2000000 in
theorem rleaf_any (d dd : List (BitVec 8)) (hd : dd = dig ([0#8] ++ d)) (L : Nat) (hL : d.length = L) (hl : L + 1 ≤ 140737488355000) (A : Option Addr) (cap : Nat) (hnil : A = none → cap = 0) (w : World) (fG : Given w) (hv : SlAt w (.slice A L cap) d) :
    Calls Tryd.prog 28 #[.slice A L cap] w fun e w' => e = .returned (.agg (vB dd).toArray) ∧ Below w.heap.size w w' := by
  have HD : Dl dd := by rw [hd]; exact dig_length _
  have HE : Hid (dd = dig ([0#8] ++ d)) := hd
  have HL : Hid (d.length = L) := hL
  have HL1 : Hid (L + 1 ≤ 140737488355000) := hl
  have HN : Hid (A = none → cap = 0) := hnil
  have hb : Below w.heap.size w (w.alloc (Obj.cells z32.toArray 42)) := (Below.refl _ _).alloc (Nat.le_refl _) _
  have r2 : Row (w.alloc (Obj.cells z32.toArray 42)) w.heap.size z32 42 := Row.new' rfl rfl
  replace fG := fG.low hb
  replace hv := hv.below hb (Nat.le_refl _)
  clear hd hL hl hnil
  go_enter Tryd.func28, Tryd.ntmps28
  go_wp2_with fail
  refine (leafText_any d L HL.out (by have := HL1.out; omega) A cap _ hv HN.out).mono ?_
  rintro e V0 ⟨tv, rfl, hO, hB⟩
  replace hb := hb.trans (hB.mono hb.size)
  replace r2 := Row.below r2 hB (Row.lt r2)
  replace fG := fG.low hB
  clear hB
  clear hv
  obtain ⟨hsl, A6, c6, e6⟩ := owns_slAt hO
  subst e6
  clear hO
  go_wp2_with fail
  refine (rsum_any ([0#8] ++ d) dd HE.out (by rw [List.length_append, HL.out]; have := HL1.out; simp only [List.length_singleton]; omega) _ V0 hsl fG).mono ?_
  rintro e V1 ⟨rfl, hB⟩
  replace hb := hb.trans (hB.mono hb.size)
  replace r2 := Row.below r2 hB (Row.lt r2)
  replace fG := fG.low hB
  clear hB
  have T9 := HD.there r2 rfl
  have nf := r2.over (vs := vB dd) (HD.over rfl)
  have nB := below_setCells hb (b := w.heap.size) (o := 0) (by omega) (vB dd)
  go_wp2_with (refine wpList_store_mid rfl 42 (.tmp 2) (.tmp 7) rfl (w.heap.size) 0 (vB dd).toArray rfl rfl T9 HD.info' HD.one ?_)
  exact bodyPost_ret (results_row Tryd.results28 _ _ (w.heap.size) 42 (vB dd) rfl nf Tryd.underlying42 info_dig HD.len) rfl ⟨rfl, nB⟩

set_option maxRecDepth 100000 in
set_option maxHeartbeats 2000000 in
theorem rnode_any (l r dd : List (BitVec 8)) (Hl : Dl l) (Hr : Dl r) (hd : dd = dig ([1#8] ++ (l ++ r))) (w : World) (fG : Given w) :
    Calls Tryd.prog 29 #[.agg (vB l).toArray, .agg (vB r).toArray] w fun e w' => e = .returned (.agg (vB dd).toArray) ∧ Below w.heap.size w w' := by
  have HD : Dl dd := by rw [hd]; exact dig_length _
  have HE : Hid (dd = dig ([1#8] ++ (l ++ r))) := hd
  have HL : Hid (([1#8] ++ (l ++ r)).length = 65) := by show _ = _; rw [List.length_append, List.length_append, show l.length = 32 from Hl, show r.length = 32 from Hr]; rfl
  have hb : Below w.heap.size w (((w.alloc (Obj.cells (vB l).toArray 42)).alloc (Obj.cells (vB r).toArray 42)).alloc (Obj.cells z32.toArray 42)) := (((Below.refl _ _).alloc (Nat.le_refl _) _).alloc (by simp) _).alloc (by simp; omega) _
  have q0 : Row (((w.alloc (Obj.cells (vB l).toArray 42)).alloc (Obj.cells (vB r).toArray 42)).alloc (Obj.cells z32.toArray 42)) w.heap.size (vB l) 42 := ((Row.new w (vB l) _).alloc _).alloc _
  have q1 : Row (((w.alloc (Obj.cells (vB l).toArray 42)).alloc (Obj.cells (vB r).toArray 42)).alloc (Obj.cells z32.toArray 42)) (w.heap.size + 1) (vB r) 42 := (Row.new' (by simp) rfl).alloc _
  have r2 : Row (((w.alloc (Obj.cells (vB l).toArray 42)).alloc (Obj.cells (vB r).toArray 42)).alloc (Obj.cells z32.toArray 42)) (w.heap.size + 2) z32 42 := Row.new' (by simp) rfl
  replace fG := fG.low hb
  clear hd
  go_enter Tryd.func29, Tryd.ntmps29
  go_wp2_with (first
    | (refine wpList_load_w rfl 42 (.tmp 2) rfl (w.heap.size) 0 rfl (vB l) _ q0.all Tryd.underlying42 rfl Hl.info ?_; simp only [Act.put, List.setIfInBounds_toArray, List.set_cons_zero, List.set_cons_succ])
    | (refine wpList_load_w rfl 42 (.tmp 3) rfl (w.heap.size + 1) 0 rfl (vB r) _ q1.all Tryd.underlying42 rfl Hr.info ?_; simp only [Act.put, List.setIfInBounds_toArray, List.set_cons_zero, List.set_cons_succ]))
  refine (nodeText_any l r Hl Hr _).mono ?_
  rintro e V0 ⟨tv, rfl, hO, hB⟩
  replace hb := hb.trans (hB.mono hb.size)
  replace r2 := Row.below r2 hB (Row.lt r2)
  replace fG := fG.low hB
  clear hB
  obtain ⟨hsl, A6, c6, e6⟩ := owns_slAt hO
  subst e6
  clear hO q0 q1
  go_wp2_with fail
  refine (rsum_any ([1#8] ++ (l ++ r)) dd HE.out (by rw [HL.out]; decide) _ V0 hsl fG).mono ?_
  rintro e V1 ⟨rfl, hB⟩
  replace hb := hb.trans (hB.mono hb.size)
  replace r2 := Row.below r2 hB (Row.lt r2)
  replace fG := fG.low hB
  clear hB
  have T9 := HD.there r2 rfl
  have nf := r2.over (vs := vB dd) (HD.over rfl)
  have nB := below_setCells hb (b := w.heap.size + 2) (o := 0) (by omega) (vB dd)
  go_wp2_with (refine wpList_store_mid rfl 42 (.tmp 4) (.tmp 10) rfl (w.heap.size + 2) 0 (vB dd).toArray rfl rfl T9 HD.info' HD.one ?_)
  exact bodyPost_ret (results_row Tryd.results29 _ _ (w.heap.size + 2) 42 (vB dd) rfl nf Tryd.underlying42 info_dig HD.len) rfl ⟨rfl, nB⟩

end Go.Proofs.YtkgfaioinajkjaaDoor
