/-
  The law's other: as many leaves, all bytes other ones.
-/
import Derived.Test.YtlknanjbiicghaaDoorTTxt
import Derived.Test.YtlknanjbiicghaaDoorTRoot
import Derived.Test.YtlknanjbiicghaaDoorTLent

namespace Go.Proofs.YtlknanjbiicghaaDoor
open Go Go.RowKit
open Sha

/-- A slice without a place has no room. -/
def Nl (v : Value) : Prop := ∀ A n c, v = .slice A n c → A = none → c = 0
/-- Leaves that stand one behind the other, as bytes of a caller. -/
def LnAt (w : World) (b o : Nat) (ps : List (List (BitVec 8))) : Prop := ∃ vs : List Value, vs.length = ps.length ∧ w.rangeAt b o vs ∧ ∀ i, i < ps.length → SlAt w (vs.getD i undef) (ps.getD i []) ∧ Nl (vs.getD i undef)
theorem LnAt.ls {w : World} {b o : Nat} {ps : List (List (BitVec 8))} (h : LnAt w b o ps) : LsAt w b o ps := by
  obtain ⟨vs, h1, h2, h3⟩ := h
  exact ⟨vs, h1, h2, fun i hi => (h3 i hi).1⟩
theorem LnAt.below {w w' : World} {b o : Nat} {ps : List (List (BitVec 8))} (h : LnAt w b o ps) (k : Below w.heap.size w w') : LnAt w' b o ps := by
  obtain ⟨vs, h1, h2, h3⟩ := h
  exact ⟨vs, h1, range_below h2 k (Nat.le_refl _), fun i hi => ⟨(h3 i hi).1.below k (Nat.le_refl _), (h3 i hi).2⟩⟩
theorem LnAt.take {w : World} {b o : Nat} {ps : List (List (BitVec 8))} (h : LnAt w b o ps) (k : Nat) : LnAt w b o (ps.take k) := by
  obtain ⟨vs, h1, h2, h3⟩ := h
  refine ⟨vs.take k, by rw [List.length_take, List.length_take, h1], fun j v hv => ?_, fun i hi => ?_⟩
  · have hj : j < k := by have := (List.getElem?_eq_some_iff.1 hv).1; rw [List.length_take] at this; omega
    rw [List.getElem?_take_of_lt hj] at hv
    exact h2 j v hv
  · rw [List.length_take] at hi
    have e1 : (vs.take k).getD i undef = vs.getD i undef := by simp [List.getD_eq_getElem?_getD, show i < k by omega]
    have e2 : (ps.take k).getD i [] = ps.getD i [] := by simp [List.getD_eq_getElem?_getD, show i < k by omega]
    rw [e1, e2]; exact h3 i (by omega)
theorem LnAt.drop {w : World} {b o : Nat} {ps : List (List (BitVec 8))} (h : LnAt w b o ps) (k : Nat) : LnAt w b (o + k) (ps.drop k) := by
  obtain ⟨vs, h1, h2, h3⟩ := h
  refine ⟨vs.drop k, by rw [List.length_drop, List.length_drop, h1], fun j v hv => ?_, fun i hi => ?_⟩
  · rw [List.getElem?_drop] at hv
    have := h2 (k + j) v hv
    rwa [show o + k + j = o + (k + j) by omega]
  · rw [List.length_drop] at hi
    have e1 : (vs.drop k).getD i undef = vs.getD (k + i) undef := by simp [List.getD_eq_getElem?_getD, List.getElem?_drop]
    have e2 : (ps.drop k).getD i [] = ps.getD (k + i) [] := by simp [List.getD_eq_getElem?_getD, List.getElem?_drop]
    rw [e1, e2]; exact h3 (k + i) (by omega)

section
variable {ops : Array Oper} {rest : List Oper} {op : Oper} {a : Act} {w : World} {Q : Exit → Act → World → Prop}
theorem wpList_slice_to (hw : Region.wanted op (yielded ops a.tmps) = true) (t e : TypeId) (x z : Operand) (b f n cap k : Nat) (ho : op.op = .slice t x none (some z) none) (hx : a.eval x = .slice (some ⟨b, f, none⟩) n cap) (hz : a.eval z = .int .i64 (k : Int)) (hk : k ≤ cap)
    (hu : Tryd.prog.underlying t = some (.slice e)) (hs : (Tryd.prog.info? e).map (·.size) = some 1) (h : wpList Tryd.prog ops Q rest (a.put op.dst (.slice (some ⟨b, f, none⟩) k cap)) w) : wpList Tryd.prog ops Q (op :: rest) a w :=
  BigFrame.wpList_want hw fun _ hK => wp_slice_to t e x z b f n cap k ho hx hz hk hu hs (hK _ _ h)
theorem wpList_slice_on (hw : Region.wanted op (yielded ops a.tmps) = true) (t e : TypeId) (x z : Operand) (b f n cap k : Nat) (ho : op.op = .slice t x (some z) none none) (hx : a.eval x = .slice (some ⟨b, f, none⟩) n cap) (hz : a.eval z = .int .i64 (k : Int)) (hk : k ≤ n) (hc : k < cap)
    (hu : Tryd.prog.underlying t = some (.slice e)) (hs : (Tryd.prog.info? e).map (·.size) = some 1) (h : wpList Tryd.prog ops Q rest (a.put op.dst (.slice (some ⟨b, f + k, none⟩) (n - k) (cap - k))) w) : wpList Tryd.prog ops Q (op :: rest) a w :=
  BigFrame.wpList_want hw fun _ hK => wp_slice_on t e x z b f n cap k ho hx hz hk hc hu hs (hK _ _ h)
end

end Go.Proofs.YtlknanjbiicghaaDoor

namespace Go.Proofs.YtlknanjbiicghaaDoor
open Go Go.RowKit
open Sha

/-- A list of leaves that is a caller's. -/
def Lv (w : World) (A : Option Addr) (ps : List (List (BitVec 8))) : Prop := ps = [] ∨ ∃ b o, A = some ⟨b, o, none⟩ ∧ LnAt w b o ps
theorem Lv.below {w w' : World} {A : Option Addr} {ps : List (List (BitVec 8))} (h : Lv w A ps) (k : Below w.heap.size w w') : Lv w' A ps := by
  rcases h with h | ⟨b, o, h1, h2⟩
  · exact .inl h
  · exact .inr ⟨b, o, h1, h2.below k⟩
/-- The values of leaves that stand in blocks one behind the other. -/
def twv (g : Nat) (ps : List (List (BitVec 8))) (t : Nat) : List Value := (List.range t).map fun i => Value.slice (some ⟨g + i, 0, none⟩) (ps.getD i []).length (ps.getD i []).length
theorem twv_len (g : Nat) (ps : List (List (BitVec 8))) (t : Nat) : (twv g ps t).length = t := by simp [twv]
theorem twv_get (g : Nat) (ps : List (List (BitVec 8))) (t i : Nat) (h : i < t) : (twv g ps t)[i]? = some (Value.slice (some ⟨g + i, 0, none⟩) (ps.getD i []).length (ps.getD i []).length) := by simp [twv, h]
theorem twv_set (g : Nat) (ps : List (List (BitVec 8))) (n t : Nat) (h : t < n) : (twv g ps t ++ List.replicate (n - t) (Value.slice none 0 0)).set t (Value.slice (some ⟨g + t, 0, none⟩) (ps.getD t []).length (ps.getD t []).length) = twv g ps (t + 1) ++ List.replicate (n - (t + 1)) (Value.slice none 0 0) := by
  rw [List.set_append_right _ _ (by rw [twv_len]; omega), twv_len, Nat.sub_self, show n - t = (n - (t + 1)) + 1 by omega, List.replicate_succ, List.set_cons_zero]
  unfold twv
  rw [List.range_succ, List.map_append, List.append_assoc]; rfl
/-- Leaves in memory of their own: the list in one block, each in one behind it. -/
structure Tw (w : World) (g : Nat) (ps : List (List (BitVec 8))) (t n : Nat) : Prop where
  row : Row w g (twv (g + 1) ps t ++ List.replicate (n - t) (Value.slice none 0 0)) 38
  each : ∀ i, i < t → Row w (g + 1 + i) (vB (ps.getD i [])) 5

theorem made_sls (n : Nat) : madeCells (Value.slice none 0 0).cells (n * 1) = (List.replicate n (Value.slice none 0 0)).toArray := by
  apply Array.ext'
  rw [show (Value.slice none 0 0).cells = #[Value.slice none 0 0] from rfl, toList_madeCells_one]
  simp
section
variable {ops : Array Oper} {rest : List Oper} {op : Oper} {a : Act} {w : World} {Q : Exit → Act → World → Prop}
/-- make of a list of leaves. -/
theorem wpList_make_sl (hgd : op.guard = none) (x y : Operand) (ho : op.op = .makeSlice 22 x y) (n : Nat) (l l' : Int) (hl : l = (n : Int)) (hl' : l' = (n : Int)) (hx : a.eval x = .int .i64 l) (hy : a.eval y = .int .i64 l') (hn : n * 24 ≤ 281474976710656)
    (h : wpList Tryd.prog ops Q rest (a.put op.dst (.slice (some ⟨w.heap.size, 0, none⟩) n n)) (w.alloc (.cells (List.replicate n (Value.slice none 0 0)).toArray 38))) : wpList Tryd.prog ops Q (op :: rest) a w :=
  wpList_plain hgd fun _ hK => by
    subst hl; subst hl'
    obtain ⟨i, hi0, hz, hs, hb⟩ := info_parts info_all_slb
    have hr := run_make (P := Tryd.prog) w 22 38 i (.slice none 0 0) Tryd.underlying22 hi0 hz .i64 .i64 (n : Int) (n : Int) (by omega) (by omega) (by rw [hb]; omega) (by omega)
    rw [hs, Int.toNat_natCast, made_sls] at hr
    unfold Oper.wp execOp
    simp only [ho, hx, hy, Sem.run_bind, hr, Result.andThen_ok, Sem.run_pure, Oper.upon_value]
    exact hK _ _ h
end

end Go.Proofs.YtlknanjbiicghaaDoor

namespace Go.Proofs.YtlknanjbiicghaaDoor
open Go Go.RowKit
open Sha

/-- A leaf, its first bytes turned. -/
def xw (d : List (BitVec 8)) (s : Nat) : List (BitVec 8) := (d.take s).map (· ^^^ 165#8) ++ d.drop s
theorem xw_len (d : List (BitVec 8)) (s : Nat) : (xw d s).length = d.length := by simp [xw]; omega
theorem xw_zero (d : List (BitVec 8)) : xw d 0 = d := by simp [xw]
theorem xw_all (d : List (BitVec 8)) : xw d d.length = d.map (· ^^^ 165#8) := by simp [xw]
theorem xw_get (d : List (BitVec 8)) (s : Nat) (h : s < d.length) : (xw d s).getD s 0 = d.getD s 0 := by
  unfold xw
  rw [List.getD_eq_getElem?_getD, List.getElem?_append_right (by simp; omega), List.getElem?_drop, List.getD_eq_getElem?_getD]
  congr 2
  simp; omega
theorem xw_set (d : List (BitVec 8)) (s : Nat) (h : s < d.length) : (xw d s).set s (d.getD s 0 ^^^ 165#8) = xw d (s + 1) := by
  unfold xw
  have hl : ((d.take s).map (· ^^^ 165#8)).length = s := by simp; omega
  rw [List.set_append_right _ _ (by omega), hl, Nat.sub_self, List.drop_eq_getElem_cons h, List.set_cons_zero, List.take_succ_eq_append_getElem h, List.map_append, List.append_assoc]
  simp [List.getD_eq_getElem?_getD, List.getElem?_eq_getElem h]
/-- Leaves, all bytes other ones. -/
def oth (ps : List (List (BitVec 8))) : List (List (BitVec 8)) := ps.map (·.map (· ^^^ 165#8))
theorem oth_len (ps : List (List (BitVec 8))) : (oth ps).length = ps.length := by simp [oth]
theorem oth_get (ps : List (List (BitVec 8))) (i : Nat) : (oth ps).getD i [] = (ps.getD i []).map (· ^^^ 165#8) := by
  simp only [oth, List.getD_eq_getElem?_getD, List.getElem?_map]
  cases ps[i]? <;> rfl
theorem oth_twv (g : Nat) (ps : List (List (BitVec 8))) (t : Nat) : twv g (oth ps) t = twv g ps t := by
  unfold twv
  apply List.map_congr_left
  intro i _
  rw [oth_get, List.length_map]
/-- How far the leaf of a number is turned. -/
def far (ps : List (List (BitVec 8))) (t s i : Nat) : Nat := if i < t then (ps.getD i []).length else if i = t then s else 0
structure Ot (w : World) (g : Nat) (ps : List (List (BitVec 8))) (n t s : Nat) : Prop where
  row : Row w g (twv (g + 1) ps n) 38
  each : ∀ i, i < n → Row w (g + 1 + i) (vB (xw (ps.getD i []) (far ps t s i))) 5
theorem Ot.next {w : World} {g : Nat} {ps : List (List (BitVec 8))} {n t : Nat} (h : Ot w g ps n t (ps.getD t []).length) : Ot w g ps n (t + 1) 0 :=
  ⟨h.row, fun i hi => by
    have e : far ps (t + 1) 0 i = far ps t (ps.getD t []).length i := by
      unfold far
      by_cases h1 : i < t
      · rw [if_pos (by omega), if_pos h1]
      · by_cases h2 : i = t
        · subst h2; rw [if_pos (by omega), if_neg (by omega), if_pos rfl]
        · rw [if_neg (by omega), if_neg h1, if_neg h2, ite_self]
    rw [e]; exact h.each i hi⟩

end Go.Proofs.YtlknanjbiicghaaDoor
