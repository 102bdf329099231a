/-
  The law's loan of leaves: what it is.
-/
import Derived.Test.YtlknanjbiicghaaDoorTOther
namespace Go.Proofs.YtlknanjbiicghaaDoor
open Go Go.RowKit
open Sha

def mark4 : List (BitVec 8) := [109#8, 97#8, 114#8, 107#8]
/-- A mark's bytes, as a constant text lies. -/
def Mk (w : World) (M : Nat) : Prop := w.heap[M]? = some (Obj.cells (vB mark4).toArray 5 (4, 5))
theorem Mk.lt {w : World} {M : Nat} (h : Mk w M) : M < w.heap.size := (Array.getElem?_eq_some_iff.1 h).1
theorem Mk.below {B : Nat} {w w' : World} {M : Nat} (h : Mk w M) (k : Below B w w') (hb : M < B) : Mk w' M := (k.block M hb).trans h
theorem Mk.set_other {w : World} {M : Nat} (h : Mk w M) (b' i : Nat) (v : Value) (hb : M ≠ b') : Mk (w.setCell ⟨b', i, none⟩ v) M := by
  unfold Mk; rw [Below.heap_setCell _ _ _ _ hb]; exact h
theorem Mk.setCells_other {w : World} {M : Nat} (h : Mk w M) (b' o : Nat) (vs : List Value) (hb : M ≠ b') : Mk (w.setCells b' o vs) M := by
  induction vs generalizing w o with
  | nil => exact h
  | cons v r ih => exact ih (h.set_other b' o v hb) (o + 1)
theorem Mk.at {w : World} {M : Nat} (h : Mk w M) : SlAt w (.slice (some ⟨M, 0, none⟩) 4 4) mark4 :=
  .inr ⟨M, 0, 4, rfl, Nat.le_refl _, fun j v hv => by
    rw [cell_of_row _ _ _ _ _ (4, 5) h, Nat.zero_add]
    simpa using hv⟩
/-- A row of another type lies elsewhere. -/
theorem Mk.ne {w : World} {M b : Nat} {cs : List Value} {t : TypeId} (h : Mk w M) (r : Row w b cs t) (hne : t ≠ 5) : M ≠ b := fun e => by
  subst e
  have := r.symm.trans h
  simp only [Option.some.injEq, Obj.cells.injEq] at this
  exact hne this.2.1
/-- The owners' values. -/
def owv (B : Nat → Nat) (ps : List (List (BitVec 8))) (t : Nat) : List Value := (List.range t).map fun i => Value.slice (some ⟨B i, 0, none⟩) ((ps.getD i []).length + 70) ((ps.getD i []).length + 70)
def owt (qs : List (List (BitVec 8))) (t : Nat) : List (List (BitVec 8)) := (List.range t).map fun i => qs.getD i [] ++ marks70
theorem owv_len (B : Nat → Nat) (ps : List (List (BitVec 8))) (t : Nat) : (owv B ps t).length = t := by simp [owv]
theorem owt_len (qs : List (List (BitVec 8))) (t : Nat) : (owt qs t).length = t := by simp [owt]
theorem owv_get (B : Nat → Nat) (ps : List (List (BitVec 8))) (t i : Nat) (h : i < t) : (owv B ps t).getD i undef = Value.slice (some ⟨B i, 0, none⟩) ((ps.getD i []).length + 70) ((ps.getD i []).length + 70) := by simp [owv, h]
theorem owt_get (qs : List (List (BitVec 8))) (t i : Nat) (h : i < t) : (owt qs t).getD i [] = qs.getD i [] ++ marks70 := by simp [owt, h]
/-- One owner more. -/
def more (B : Nat → Nat) (t b : Nat) : Nat → Nat := fun i => if i = t then b else B i
theorem more_old (B : Nat → Nat) (t b i : Nat) (h : i < t) : more B t b i = B i := if_neg (by omega)
theorem more_new (B : Nat → Nat) (t b : Nat) : more B t b t = b := if_pos rfl
theorem owv_more (B : Nat → Nat) (ps : List (List (BitVec 8))) (t b : Nat) : owv (more B t b) ps (t + 1) = owv B ps t ++ [Value.slice (some ⟨b, 0, none⟩) ((ps.getD t []).length + 70) ((ps.getD t []).length + 70)] := by
  unfold owv
  rw [List.range_succ, List.map_append, List.map_singleton, more_new]
  congr 1
  apply List.map_congr_left
  intro i hi
  rw [more_old B t b i (List.mem_range.1 hi)]
theorem owt_more (qs : List (List (BitVec 8))) (t : Nat) : owt qs (t + 1) = owt qs t ++ [qs.getD t [] ++ marks70] := by
  unfold owt; rw [List.range_succ, List.map_append, List.map_singleton]

/-- Leaves that are lent: a of them have owners, f stand in the list, m marks behind. -/
structure Loan (w : World) (G : Nat) (ov : Value) (L : List Value) (B : Nat → Nat) (ps qs : List (List (BitVec 8))) (n a f m : Nat) : Prop where
  row : Row w G L 38
  len : L.length = n + 9
  own : w.ownsRow (G + 1) 38 1 ov a (owv B ps a)
  each : ∀ i, i < a → G < B i ∧ Row w (B i) (vB (qs.getD i [] ++ marks70)) 5
  apart : ∀ i j, i < j → j < a → B i ≠ B j
  front : ∀ i, i < f → L.getD i undef = .slice (some ⟨B i, 0, none⟩) (ps.getD i []).length ((ps.getD i []).length + 70)
  mark : ∀ j, n ≤ j → j < n + m → ∃ M, L.getD j undef = .slice (some ⟨M, 0, none⟩) 4 4 ∧ Mk w M ∧ ∀ i, i < a → B i ≠ M
section
variable {w w' : World} {G : Nat} {ov : Value} {L : List Value} {B : Nat → Nat} {ps qs : List (List (BitVec 8))} {n a f m : Nat}
theorem Loan.below (h : Loan w G ov L B ps qs n a f m) (k : Below w.heap.size w w') : Loan w' G ov L B ps qs n a f m :=
  ⟨Row.below h.row k h.row.lt, h.len, ownsRow_below h.own k (Nat.le_refl _), fun i hi => ⟨(h.each i hi).1, Row.below (h.each i hi).2 k (h.each i hi).2.lt⟩, h.apart, h.front, fun j h1 h2 => by
    obtain ⟨M, e1, e2, e3⟩ := h.mark j h1 h2
    exact ⟨M, e1, e2.below k e2.lt, e3⟩⟩
/-- A row of another type is changed. -/
theorem Loan.set {b : Nat} {cs : List Value} {t : TypeId} (h : Loan w G ov L B ps qs n a f m) (r : Row w b cs t) (h1 : t ≠ 38) (h2 : t ≠ 5) (i : Nat) (v : Value) : Loan (w.setCell ⟨b, i, none⟩ v) G ov L B ps qs n a f m := by
  have ne : ∀ {g : Nat} {xs : List Value} {s : TypeId}, Row w g xs s → t ≠ s → g ≠ b := fun {g xs s} r2 hne e => by
    subst e
    have := r.symm.trans r2
    simp only [Option.some.injEq, Obj.cells.injEq] at this
    exact hne this.2.1
  refine ⟨h.row.set_other _ _ _ (ne h.row h1), h.len, ⟨h.own.1, ?_⟩, fun j hj => ⟨(h.each j hj).1, (h.each j hj).2.set_other _ _ _ (ne (h.each j hj).2 h2)⟩, h.apart, h.front, fun j k1 k2 => ?_⟩
  · rcases h.own.2 with h3 | ⟨g, cap, cur, hv, hN, hh, r'⟩
    · exact .inl h3
    · have q : Row w g cur.toList 38 := by unfold Row; rw [hh]
      have q2 := q.set_other b i v (ne q h1)
      unfold Row at q2
      exact .inr ⟨g, cap, cur, hv, hN, q2, r'⟩
  · obtain ⟨M, e1, e2, e3⟩ := h.mark j k1 k2
    exact ⟨M, e1, e2.set_other _ _ _ (e2.ne r h2), e3⟩
/-- A row of another type is changed. -/
theorem Loan.sets {b : Nat} {cs : List Value} {t : TypeId} (h : Loan w G ov L B ps qs n a f m) (r : Row w b cs t) (h1 : t ≠ 38) (h2 : t ≠ 5) (i : Nat) (v : List Value) : Loan (w.setCells b i v) G ov L B ps qs n a f m := by
  have ne : ∀ {g : Nat} {xs : List Value} {s : TypeId}, Row w g xs s → t ≠ s → g ≠ b := fun {g xs s} r2 hne e => by
    subst e
    have := r.symm.trans r2
    simp only [Option.some.injEq, Obj.cells.injEq] at this
    exact hne this.2.1
  refine ⟨h.row.setCells_other _ _ _ (ne h.row h1), h.len, ⟨h.own.1, ?_⟩, fun j hj => ⟨(h.each j hj).1, (h.each j hj).2.setCells_other _ _ _ (ne (h.each j hj).2 h2)⟩, h.apart, h.front, fun j k1 k2 => ?_⟩
  · rcases h.own.2 with h3 | ⟨g, cap, cur, hv, hN, hh, r'⟩
    · exact .inl h3
    · have q : Row w g cur.toList 38 := by unfold Row; rw [hh]
      have q2 := q.setCells_other b i v (ne q h1)
      unfold Row at q2
      exact .inr ⟨g, cap, cur, hv, hN, q2, r'⟩
  · obtain ⟨M, e1, e2, e3⟩ := h.mark j k1 k2
    exact ⟨M, e1, e2.setCells_other _ _ _ (e2.ne r h2), e3⟩
/-- The owners as texts. -/
theorem Loan.txs (h : Loan w G ov L B ps ps n a f m) (hl : ∀ i, i < a → (ps.getD i []).length ≤ 140737488351232) : Txs w (G + 1) ov (owt ps a) (owv B ps a) :=
  ⟨by rw [owt_len]; exact h.own, fun i hi => by
    rw [owt_len] at hi
    rw [owv_get _ _ _ _ hi, owt_get _ _ _ hi]
    have e : (ps.getD i [] ++ marks70).length = (ps.getD i []).length + 70 := by simp [marks70]
    rw [← e]
    exact row_owns (h.each i hi).1 rfl (by rw [e]; have := hl i hi; omega) (h.each i hi).2⟩
/-- Behind append of an owner's value. -/
theorem Loan.grow {b : Nat} {v' : Value} (h : Loan w G ov L B ps ps n a f 0) (hf : f ≤ a) (hb : G < b) (hbn : ∀ i, i < a → B i ≠ b) (rb : Row w b (vB (ps.getD a [] ++ marks70)) 5) (hg : w.grownBy w' ov.ownBlock) (ho : w'.ownsRow (G + 1) 38 1 v' (a + 1) (owv (more B a b) ps (a + 1))) :
    Loan w' G v' L (more B a b) ps ps n (a + 1) f 0 := by
  have rg : ∀ {g : Nat} {xs : List Value}, Row w g xs 5 → Row w' g xs 5 := fun {g xs} r => by
    refine (hg.block g r.lt ?_).trans r
    rcases h.own.2 with ⟨h3, _⟩ | ⟨g', cap', cur', hv', _, hh', _⟩
    · rw [h3]; simp [Value.ownBlock]
    · rw [hv']
      simp only [Value.ownBlock, ne_eq, Option.some.injEq]
      intro e; subst e
      have := hh'.symm.trans r
      simp only [Option.some.injEq, Obj.cells.injEq] at this
      exact absurd this.2.1 (by decide)
  refine ⟨(hg.block G h.row.lt ?_).trans h.row, h.len, ho, fun i hi => ?_, fun i j hij hj => ?_, fun i hi => ?_, fun j h1 h2 => by omega⟩
  · intro e
    have := own_block h.own G e.symm
    omega
  · by_cases e : i < a
    · rw [more_old B a b i e]; exact ⟨(h.each i e).1, rg (h.each i e).2⟩
    · obtain rfl : i = a := by omega
      rw [more_new]; exact ⟨hb, rg rb⟩
  · rw [more_old B a b i (by omega)]
    by_cases e : j < a
    · rw [more_old B a b j e]; exact h.apart i j hij e
    · obtain rfl : j = a := by omega
      rw [more_new]; exact hbn i hij
  · rw [more_old B a b i (by omega)]; exact h.front i hi
/-- An owner's front is laid into the list. -/
theorem Loan.lay (h : Loan w G ov L B ps qs n (f + 1) f 0) (hn : f < n) : Loan (w.setCell ⟨G, f, none⟩ (.slice (some ⟨B f, 0, none⟩) (ps.getD f []).length ((ps.getD f []).length + 70))) G ov (L.set f (.slice (some ⟨B f, 0, none⟩) (ps.getD f []).length ((ps.getD f []).length + 70))) B ps qs n (f + 1) (f + 1) 0 := by
  have hne : ∀ {g : Nat} {xs : List Value}, Row w g xs 5 → g ≠ G := fun {g xs} r e => by
    subst e
    have := h.row.symm.trans r
    simp only [Option.some.injEq, Obj.cells.injEq] at this
    exact absurd this.2.1 (by decide)
  refine ⟨h.row.set f _, by rw [List.length_set]; exact h.len, ⟨h.own.1, ?_⟩, fun i hi => ⟨(h.each i hi).1, (h.each i hi).2.set_other _ _ _ (hne (h.each i hi).2)⟩, h.apart, fun i hi => ?_, fun j h1 h2 => by omega⟩
  · rcases h.own.2 with h3 | ⟨g, cap, cur, hv, hN, hh, r'⟩
    · exact .inl h3
    · have q : Row w g cur.toList 38 := by unfold Row; rw [hh]
      have q2 := q.set_other G f (.slice (some ⟨B f, 0, none⟩) (ps.getD f []).length ((ps.getD f []).length + 70)) (by omega)
      unfold Row at q2
      exact .inr ⟨g, cap, cur, hv, hN, q2, r'⟩
  · rw [List.getD_eq_getElem?_getD]
    by_cases e : i = f
    · subst e; rw [List.getElem?_set_self (by have := h.len; omega)]; rfl
    · rw [List.getElem?_set_ne (by omega), ← List.getD_eq_getElem?_getD]; exact h.front i (by omega)
/-- A mark is laid behind. -/
theorem Loan.mark_lay {M : Nat} (h : Loan w G ov L B ps qs n a f m) (hf : f ≤ n) (hm : m < 9) (rM : Mk w M) (hM : ∀ i, i < a → B i ≠ M) : Loan (w.setCell ⟨G, n + m, none⟩ (.slice (some ⟨M, 0, none⟩) 4 4)) G ov (L.set (n + m) (.slice (some ⟨M, 0, none⟩) 4 4)) B ps qs n a f (m + 1) := by
  have hne : ∀ {g : Nat} {xs : List Value}, Row w g xs 5 → g ≠ G := fun {g xs} r e => by
    subst e
    have := h.row.symm.trans r
    simp only [Option.some.injEq, Obj.cells.injEq] at this
    exact absurd this.2.1 (by decide)
  refine ⟨h.row.set _ _, by rw [List.length_set]; exact h.len, ⟨h.own.1, ?_⟩, fun i hi => ⟨(h.each i hi).1, (h.each i hi).2.set_other _ _ _ (hne (h.each i hi).2)⟩, h.apart, fun i hi => ?_, fun j h1 h2 => ?_⟩
  · rcases h.own.2 with h3 | ⟨g, cap, cur, hv, hN, hh, r'⟩
    · exact .inl h3
    · have q : Row w g cur.toList 38 := by unfold Row; rw [hh]
      have q2 := q.set_other G (n + m) (.slice (some ⟨M, 0, none⟩) 4 4) (by omega)
      unfold Row at q2
      exact .inr ⟨g, cap, cur, hv, hN, q2, r'⟩
  · rw [List.getD_eq_getElem?_getD, List.getElem?_set_ne (by omega), ← List.getD_eq_getElem?_getD]; exact h.front i hi
  · rw [List.getD_eq_getElem?_getD]
    by_cases e : j = n + m
    · subst e; rw [List.getElem?_set_self (by have := h.len; omega)]
      exact ⟨M, rfl, rM.set_other _ _ _ (rM.ne h.row (by decide)), hM⟩
    · rw [List.getElem?_set_ne (by omega), ← List.getD_eq_getElem?_getD]
      obtain ⟨M', e1, e2, e3⟩ := h.mark j h1 (by omega)
      exact ⟨M', e1, e2.set_other _ _ _ (e2.ne h.row (by decide)), e3⟩
end

end Go.Proofs.YtlknanjbiicghaaDoor
