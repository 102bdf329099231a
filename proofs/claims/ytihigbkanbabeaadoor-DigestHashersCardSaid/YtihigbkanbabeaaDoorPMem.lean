/-
  Lists of lists: what came in, what was lent; slices of them, make, append of one.
-/
import Derived.Test.YtihigbkanbabeaaDoorRAppend
import Derived.Test.YtihigbkanbabeaaDoorRSum
namespace Go.Proofs.YtihigbkanbabeaaDoor
open Go Go.RowKit
open Sha

/-- The list of lists that came in. -/
structure Ins (w : World) (A : Option Addr) (n : Nat) (ps : List (List (BitVec 8))) (vs : List Value) : Prop where
  len : vs.length = n
  num : ps.length = n
  each : ∀ i, i < n → SlAt w (vs.getD i undef) (ps.getD i [])
  form : ∀ i, i < n → ∃ A c, vs.getD i undef = .slice A (ps.getD i []).length c ∧ (A = none → c = 0)
  lies : 0 < n → ∃ pb po, A = some ⟨pb, po, none⟩ ∧ w.rangeAt pb po vs
theorem Ins.low {w w' : World} {A : Option Addr} {n : Nat} {ps : List (List (BitVec 8))} {vs : List Value} (h : Ins w A n ps vs) (k : Below w.heap.size w w') : Ins w' A n ps vs :=
  ⟨h.len, h.num, fun i hi => (h.each i hi).below k (Nat.le_refl _), h.form, fun hn => by obtain ⟨pb, po, hA, hr⟩ := h.lies hn; exact ⟨pb, po, hA, range_below hr k (Nat.le_refl _)⟩⟩
theorem vs_get (vs : List Value) (i : Nat) (h : i < vs.length) : vs[i]? = some (vs.getD i undef) := by
  rw [List.getElem?_eq_getElem h, List.getD_eq_getElem?_getD, List.getElem?_eq_getElem h]; rfl
/-- One of them, with its place. -/
theorem Ins.one {w : World} {A : Option Addr} {n : Nat} {ps : List (List (BitVec 8))} {vs : List Value} (h : Ins w A n ps vs) (i : Nat) (hi : i < n) :
    ∃ pb po A' c, A = some ⟨pb, po, none⟩ ∧ w.cell? ⟨pb, po + i, none⟩ = some (.slice A' (ps.getD i []).length c) ∧ SlAt w (.slice A' (ps.getD i []).length c) (ps.getD i []) ∧ (A' = none → c = 0) := by
  obtain ⟨pb, po, hA, hr⟩ := h.lies (by omega)
  obtain ⟨A', c, hf, hn⟩ := h.form i hi
  have he := h.each i hi
  rw [hf] at he
  refine ⟨pb, po, A', c, hA, ?_, he, hn⟩
  rw [← hf]
  exact hr i _ (vs_get vs i (by rw [h.len]; exact hi))

theorem flat_take (ps : List (List (BitVec 8))) (t : Nat) (h : t < ps.length) : (ps.take (t + 1)).flatten = (ps.take t).flatten ++ ps.getD t [] := take_flat ps t h

section
variable {P : Program} {ops : Array Oper} {rest : List Oper} {op : Oper} {a : Act} {w : World} {Q : Exit → Act → World → Prop}
/-- x[:k] of a whole row. -/
theorem wpList_slice_k (hgd : op.guard = none) (t : TypeId) (x z : Operand) (ho : op.op = .slice t x none (some z) none) (e : TypeId) (g n cap k : Nat) (l : Int) (hl : l = (k : Int)) (hx : a.eval x = .slice (some ⟨g, 0, none⟩) n cap) (hz : a.eval z = .int .i64 l) (hk : k ≤ cap)
    (hu : P.underlying t = some (.slice e)) (hs : (P.info? e).map (·.size) = some 1) (h : wpList P ops Q rest (a.put op.dst (.slice (some ⟨g, 0, none⟩) k cap)) w) : wpList P ops Q (op :: rest) a w :=
  wpList_plain hgd fun _ hK => by
    subst hl
    cases hq : P.info? e with
    | none => simp [hq] at hs
    | some inf =>
      have hr : (Instr.sliceAt t (.slice (some ⟨g, 0, none⟩) n cap) none (some (.int .i64 (k : Int))) none).run P w = .ok (.slice (some ⟨g, 0, none⟩) k cap) w := by
        simp [Instr.sliceAt, Instr.slice, run_underlying hu, Instr.sliceBounds, Instr.sliceBound, asIntOf, sizeOf, typeInfo, hq, hk, Addr.add]
      unfold Oper.wp execOp
      simp only [ho, hx, hz, Option.map_some, Option.map_none, Sem.run_bind, hr, Result.andThen_ok, Sem.run_pure, Oper.upon_value]
      exact hK _ _ h
theorem made_sls (n : Nat) : madeCells (Value.slice none 0 0).cells (n * 1) = (List.replicate n (Value.slice none 0 0)).toArray := by
  apply Array.ext'
  rw [show (Value.slice none 0 0).cells = #[Value.slice none 0 0] from rfl, toList_madeCells_one]
  simp
/-- make of n lists. -/
theorem wpList_make_sl (hgd : op.guard = none) (t : TypeId) (x y : Operand) (ho : op.op = .makeSlice t x y) (e : TypeId) (n : Nat) (l l' : Int) (hl : l = (n : Int)) (hl' : l' = (n : Int)) (hx : a.eval x = .int .i64 l) (hy : a.eval y = .int .i64 l') (hn : n * 24 ≤ 281474976710656)
    (hu : P.underlying t = some (.slice e)) (hi : (P.info? e).map (fun i => (i.zero, i.size, i.bytes)) = some (some (.slice none 0 0), 1, 24))
    (h : wpList P ops Q rest (a.put op.dst (.slice (some ⟨w.heap.size, 0, none⟩) n n)) (w.alloc (.cells (List.replicate n (Value.slice none 0 0)).toArray e))) : wpList P ops Q (op :: rest) a w :=
  wpList_plain hgd fun _ hK => by
    subst hl; subst hl'
    obtain ⟨i, hi0, hz, hs, hb⟩ := info_parts hi
    have hr := run_make (P := P) w t e i (.slice none 0 0) hu hi0 hz .i64 .i64 (n : Int) (n : Int) (by omega) (by omega) (by rw [hb]; omega) (by omega)
    rw [hs, Int.toNat_natCast, made_sls] at hr
    unfold Oper.wp execOp
    simp only [ho, hx, hy, Sem.run_bind, hr, Result.andThen_ok, Sem.run_pure, Oper.upon_value]
    exact hK _ _ h
end

theorem info_all_slb : (Tryd.prog.info? 22).map (fun i => (i.zero, i.size, i.bytes)) = some (some (.slice none 0 0), 1, 24) := by kernel_rfl

section
variable {ops : Array Oper} {rest : List Oper} {op : Oper} {a : Act} {Q : Exit → Act → World → Prop}
/-- append of one list onto a list of lists of the call's own. -/
theorem wpList_append_one (hgd : op.guard = none) (s x : Operand) (ho : op.op = .call { callee := .builtin .append, args := #[s, x], argTypes := #[30, 30] }) (W0 : World) (N : Nat) (vp v : Value) (n : Nat) (xs : List Value)
    (hown : W0.ownsRow N 22 1 vp n xs) (h1 : v.oneCell' = true) (hs : a.eval s = vp) (hx : a.eval x = .slice (some ⟨W0.heap.size, 0, none⟩) 1 1) (hk : (n + 1) * 24 ≤ 140737488355328) (hN : N ≤ W0.heap.size)
    (h : ∀ v' w', w'.ownsRow N 22 1 v' (n + 1) (xs ++ [v]) → Below N W0 w' → (∀ b cs t, Row W0 b cs t → t ≠ 22 → Row w' b cs t) → wpList Tryd.prog ops Q rest (a.put op.dst v') w') :
    wpList Tryd.prog ops Q (op :: rest) a (W0.alloc (.cells #[v] 22)) := by
  obtain ⟨i, hi0, hz, hsz, hby⟩ := info_parts info_all_slb
  have hk0 : Below W0.heap.size W0 (W0.alloc (.cells #[v] 22)) := (Below.refl _ _).alloc (Nat.le_refl _) _
  have hown1 := ownsRow_below hown hk0 (Nat.le_refl _)
  have hr : Row (W0.alloc (.cells #[v] 22)) W0.heap.size [v] 22 := Row.new _ _ _
  have hN1 : N ≤ (W0.alloc (.cells #[v] 22)).heap.size := Nat.le_trans hN hk0.size
  have hcell := hr.all
  have hkr : ∀ b cs t, Row W0 b cs t → Row (W0.alloc (.cells #[v] 22)) b cs t := fun b cs t hR => Row.alloc hR _
  have hb1 : Below N W0 (W0.alloc (.cells #[v] 22)) := hk0.mono hN
  generalize hW1 : W0.alloc (.cells #[v] 22) = W1 at *
  refine wpList_append_own _ hgd s x 30 ho N 22 i (.slice none 0 0) 1 24 Tryd.underlying30 hi0 hz hsz hby rfl (by decide) vp n xs hs hown1 ⟨W0.heap.size, 0, none⟩ 1 1 [v] hx rfl ?_ ?_ (by unfold maxLen; omega) hk hN1 ?_
  · intro j u hj; rw [Addr.add_mid]; exact hcell j u hj
  · intro u hu; rw [List.mem_singleton.1 hu]; exact h1
  · intro v' w' h2 h3 _
    refine h v' w' h2 (hb1.grown h3 hN1 (fun k hk => ?_)) (fun b cs t hR ht => ?_)
    · rcases hown1.2 with ⟨h2, _⟩ | ⟨g', cap, cur, hv, hg, _⟩
      · rw [h2] at hk; simp [Value.ownBlock] at hk
      · rw [hv] at hk; simp [Value.ownBlock] at hk; omega
    · have hR1 := hkr b cs t hR
      have hne : some b ≠ vp.ownBlock := by
        rcases hown1.2 with ⟨h2, _⟩ | ⟨g', cap, cur, hv, _, hh, _⟩
        · rw [h2]; simp [Value.ownBlock]
        · rw [hv]
          have hr' : Row W1 g' cur.toList 22 := by unfold Row; rw [hh]
          have := hR1.ne hr' ht
          simp [Value.ownBlock]; exact this
      exact (h3.block b hR1.lt hne).trans hR1
end

/-- What was lent: rows of their own, with marks behind. -/
structure Lent (w : World) (N : Nat) (gs : List Nat) (qs : List (List (BitVec 8))) : Prop where
  len : gs.length = qs.length
  low : ∀ i, i < gs.length → N ≤ gs.getD i 0
  row : ∀ i, i < gs.length → Row w (gs.getD i 0) (vB (qs.getD i [] ++ marks)) 5
  apart : ∀ i j, i < j → j < gs.length → gs.getD i 0 ≠ gs.getD j 0
theorem Lent.below {w w' : World} {B N : Nat} {gs : List Nat} {qs : List (List (BitVec 8))} (h : Lent w N gs qs) (k : Below B w w') (hB : w.heap.size ≤ B) : Lent w' N gs qs :=
  ⟨h.len, h.low, fun i hi => (h.row i hi).below k (Nat.lt_of_lt_of_le (h.row i hi).lt hB), h.apart⟩
theorem Lent.map {w w' : World} {N : Nat} {gs : List Nat} {qs : List (List (BitVec 8))} (h : Lent w N gs qs) (k : ∀ b cs, Row w b cs 5 → Row w' b cs 5) : Lent w' N gs qs :=
  ⟨h.len, h.low, fun i hi => k _ _ (h.row i hi), h.apart⟩
theorem getD_front {α : Type} (l r : List α) (x : α) (i : Nat) (h : i < l.length) : (l ++ r).getD i x = l.getD i x := by
  simp [List.getElem?_append_left h]
theorem getD_end {α : Type} (l : List α) (y x : α) (i : Nat) (h : i = l.length) : (l ++ [y]).getD i x = y := by
  subst h; simp
theorem Lent.more {w w' : World} {N g : Nat} {gs : List Nat} {qs : List (List (BitVec 8))} {q : List (BitVec 8)} (h : Lent w N gs qs) (k : Below w.heap.size w w') (hN : N ≤ w.heap.size) (hg : w.heap.size ≤ g) (hr : Row w' g (vB (q ++ marks)) 5) : Lent w' N (gs ++ [g]) (qs ++ [q]) := by
  have h2 := h.below k (Nat.le_refl _)
  refine ⟨by simp [h.len], fun i hi => ?_, fun i hi => ?_, fun i j hij hj => ?_⟩
  · by_cases hl : i < gs.length
    · rw [getD_front _ _ _ _ hl]; exact h.low i hl
    · rw [getD_end _ _ _ _ (by simp at hi; omega)]; omega
  · by_cases hl : i < gs.length
    · rw [getD_front _ _ _ _ hl, getD_front _ _ _ _ (by rw [← h.len]; exact hl)]; exact h2.row i hl
    · have e : i = gs.length := by simp at hi; omega
      rw [getD_end _ _ _ _ e, getD_end _ _ _ _ (by rw [e, h.len])]; exact hr
  · by_cases hl : j < gs.length
    · rw [getD_front _ _ _ _ hl, getD_front _ _ _ _ (by omega)]; exact h.apart i j hij hl
    · rw [getD_end _ _ _ _ (show j = gs.length by simp at hj; omega), getD_front _ _ _ _ (show i < gs.length by simp at hj; omega)]
      have := (h.row i (by simp at hj; omega)).lt
      omega
/-- One of them written over. -/
theorem Lent.write {w : World} {N : Nat} {gs : List Nat} {qs : List (List (BitVec 8))} (h : Lent w N gs qs) (i : Nat) (hi : i < gs.length) : Lent (w.setCells (gs.getD i 0) 0 (vB (oth (qs.getD i [])))) N gs (qs.set i (oth (qs.getD i []))) := by
  refine ⟨by rw [List.length_set]; exact h.len, h.low, fun j hj => ?_, h.apart⟩
  by_cases hij : j = i
  · subst hij
    have e : (qs.set j (oth (qs.getD j []))).getD j [] = oth (qs.getD j []) := by
      rw [List.getD_eq_getElem?_getD, List.getElem?_set_self (by rw [← h.len]; exact hj)]; rfl
    rw [e]
    have hr := h.row j hj
    have h0 := Row.setCells 0 (vB (oth (qs.getD j []))) hr (by simp [vB_length, oth_length])
    rw [show (vB (qs.getD j [] ++ marks)).take 0 ++ vB (oth (qs.getD j [])) ++ (vB (qs.getD j [] ++ marks)).drop (0 + (vB (oth (qs.getD j []))).length) = vB (oth (qs.getD j []) ++ marks) by
      simp only [List.take_zero, List.nil_append, Nat.zero_add, vB_length, oth_length, vB_append]
      rw [List.drop_left' (by rw [vB_length])]] at h0
    exact h0
  · have e : (qs.set i (oth (qs.getD i []))).getD j [] = qs.getD j [] := by
      rw [List.getD_eq_getElem?_getD, List.getElem?_set_ne (by omega), List.getD_eq_getElem?_getD]
    rw [e]
    refine Row.setCells_other (h.row j hj) _ _ _ ?_
    rcases Nat.lt_or_gt_of_ne hij with hl | hl
    · exact h.apart j i hl hi
    · exact (h.apart i j hl hj).symm

/-- The values of the lists lent, whole and cut. -/
def ov (g m : Nat) : Value := .slice (some ⟨g, 0, none⟩) (m + 80) (m + 80)
def mv (g m : Nat) : Value := .slice (some ⟨g, 0, none⟩) m (m + 80)
def oL (gs : List Nat) (ps : List (List (BitVec 8))) : List Value := List.zipWith (fun g p => ov g p.length) gs ps
def mL (gs : List Nat) (ps : List (List (BitVec 8))) : List Value := List.zipWith (fun g p => mv g p.length) gs ps
theorem oL_more (gs : List Nat) (ps : List (List (BitVec 8))) (g : Nat) (p : List (BitVec 8)) (h : gs.length = ps.length) : oL (gs ++ [g]) (ps ++ [p]) = oL gs ps ++ [ov g p.length] := by
  unfold oL; rw [List.zipWith_append h]; rfl
theorem mL_more (gs : List Nat) (ps : List (List (BitVec 8))) (g : Nat) (p : List (BitVec 8)) (h : gs.length = ps.length) : mL (gs ++ [g]) (ps ++ [p]) = mL gs ps ++ [mv g p.length] := by
  unfold mL; rw [List.zipWith_append h]; rfl
theorem oL_length (gs : List Nat) (ps : List (List (BitVec 8))) (h : gs.length = ps.length) : (oL gs ps).length = ps.length := by unfold oL; rw [List.length_zipWith]; omega
theorem mL_length (gs : List Nat) (ps : List (List (BitVec 8))) (h : gs.length = ps.length) : (mL gs ps).length = ps.length := by unfold mL; rw [List.length_zipWith]; omega
theorem oL_get (gs : List Nat) (ps : List (List (BitVec 8))) (i : Nat) (h : gs.length = ps.length) (hi : i < ps.length) : (oL gs ps)[i]? = some (ov (gs.getD i 0) (ps.getD i []).length) := by
  unfold oL; rw [List.getElem?_zipWith]; simp [hi, show i < gs.length by omega]
theorem mL_get (gs : List Nat) (ps : List (List (BitVec 8))) (i : Nat) (h : gs.length = ps.length) (hi : i < ps.length) : (mL gs ps)[i]? = some (mv (gs.getD i 0) (ps.getD i []).length) := by
  unfold mL; rw [List.getElem?_zipWith]; simp [hi, show i < gs.length by omega]
theorem mv_slAt {w : World} {g : Nat} {q : List (BitVec 8)} {m : Nat} (hm : q.length = m) (h : Row w g (vB (q ++ marks)) 5) : SlAt w (mv g m) q := by
  subst hm
  refine .inr ⟨g, 0, q.length + 80, rfl, by omega, ?_⟩
  intro j v hv
  refine h.all j v ?_
  rw [vB_append, List.getElem?_append_left ((List.getElem?_eq_some_iff.1 hv).1)]
  exact hv

end Go.Proofs.YtihigbkanbabeaaDoor
