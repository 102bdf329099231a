/-
  Before the law DigestHashers.
-/
import Derived.Test.YtihigbkanbabeaaDoorHMem
namespace Go.Proofs.YtihigbkanbabeaaDoor
open Go Go.RowKit
open Sha

theorem But.new_write {b g : Nat} {u v : World} (h : But b u v) (hg : u.heap.size ≤ g) (xs : List Value) : But b u (v.setCells g 0 xs) := by
  have k := But.setCells g 0 v xs
  exact ⟨k.os.trans h.os, k.tape.trans h.tape, k.output.trans h.output, Nat.le_trans h.size k.size, fun j hj hb => (k.block j (Nat.lt_of_lt_of_le hj h.size) (by omega)).trans (h.block j hj hb)⟩
theorem But.grown {b g : Nat} {u v w : World} (h : But b u v) (k : v.grownBy w (some g)) (hg : u.heap.size ≤ g) : But b u w :=
  ⟨k.os.trans h.os, k.tape.trans h.tape, k.output.trans h.output, Nat.le_trans h.size k.size, fun j hj hb => (k.block j (Nat.lt_of_lt_of_le hj h.size) (by simp; omega)).trans (h.block j hj hb)⟩

/-- t new hashers. -/
structure Pre4 (w : World) (N ph pk t : Nat) (bs : List Nat) : Prop where
  lb : bs.length = t
  hrow : Row w ph (bs.map ptr ++ List.replicate (4 - t) (.pointer none)) 48
  trow : Row w pk (List.replicate 4 (.slice none 0 0)) 49
  hat : ∀ i, i < t → HAt w (bs.getD i 0) []
  apart : ∀ i j, i < t → j < t → i ≠ j → bs.getD i 0 ≠ bs.getD j 0
  low : N ≤ ph ∧ N ≤ pk ∧ ∀ i, i < t → N ≤ bs.getD i 0

theorem Pre4.more {w w' : World} {N ph pk t : Nat} {bs : List Nat} (h : Pre4 w N ph pk t bs) (ht : t < 4) (b' : Nat) (hN : N ≤ w.heap.size) (hB : Below w.heap.size w w') (hb : w.heap.size ≤ b') (hH : HAt w' b' []) : Pre4 (w'.setCell ⟨ph, t, none⟩ (ptr b')) N ph pk (t + 1) (bs ++ [b']) := by
  have hhr := h.hrow.below hB h.hrow.lt
  have htr := h.trow.below hB h.trow.lt
  have hat2 : ∀ b, HAt w' b [] → HAt (w'.setCell ⟨ph, t, none⟩ (ptr b')) b [] := fun b hh => Row.set_other hh _ _ _ (Row.ne hh hhr (by decide))
  have hlt : ∀ i, i < t → bs.getD i 0 < w.heap.size := fun i hi => Row.lt (h.hat i hi)
  have e1 : ∀ i, i < t → (bs ++ [b']).getD i 0 = bs.getD i 0 := fun i hi => getD_front _ _ _ _ (by rw [h.lb]; exact hi)
  have e2 : (bs ++ [b']).getD t 0 = b' := getD_end _ _ _ _ h.lb.symm
  refine ⟨by simp [h.lb], ?_, htr.set_other _ _ _ (htr.ne hhr (by decide)), fun i hi => ?_, fun i j hi hj hij => ?_, h.low.1, h.low.2.1, fun i hi => ?_⟩
  · have := hhr.set t (ptr b')
    rw [mine_fill _ _ _ t 4 (by simp [h.lb]) ht] at this
    rw [List.map_append]; exact this
  · by_cases e : i < t
    · rw [e1 i e]; exact hat2 _ (Row.below (h.hat i e) hB (hlt i e))
    · obtain rfl : i = t := by omega
      rw [e2]; exact hat2 _ hH
  · by_cases e : i < t
    · by_cases e' : j < t
      · rw [e1 i e, e1 j e']; exact h.apart i j e e' hij
      · obtain rfl : j = t := by omega
        rw [e1 i e, e2]; have := hlt i e; omega
    · obtain rfl : i = t := by omega
      rw [e2, e1 j (by omega)]; have := hlt j (by omega); omega
  · by_cases e : i < t
    · rw [e1 i e]; exact h.low.2.2 i e
    · obtain rfl : i = t := by omega
      rw [e2]; omega

theorem four_getD {α : Type} (x d : α) (i : Nat) (h : i < 4) : (List.replicate 4 x).getD i d = x := by
  match i, h with
  | 0, _ => rfl
  | 1, _ => rfl
  | 2, _ => rfl
  | 3, _ => rfl
theorem Pre4.done {w : World} {N ph pk : Nat} {bs : List Nat} (h : Pre4 w N ph pk 4 bs) : St4 w N ph pk bs (List.replicate 4 []) (List.replicate 4 (.slice none 0 0)) := by
  refine ⟨h.lb, rfl, rfl, by simpa using h.hrow, h.trow, fun i hi => ?_, fun i hi => ?_, h.apart, h.low⟩
  · rw [four_getD _ _ _ hi]; exact h.hat i hi
  · rw [four_getD _ _ _ hi, four_getD _ _ _ hi]; exact World.ownsRow_nil _ _ _ _

theorem St4.hcell {w : World} {N ph pk : Nat} {bs : List Nat} {ts : List (List (BitVec 8))} {vs : List Value} (h : St4 w N ph pk bs ts vs) (k : Nat) (hk : k < 4) : w.cell? ⟨ph, k, none⟩ = some (.pointer (some ⟨bs.getD k 0, 0, none⟩)) :=
  h.hrow.cell k _ (by rw [List.getElem?_map, List.getElem?_eq_getElem (by rw [h.lb]; exact hk)]; simp [ptr, show k < bs.length by rw [h.lb]; exact hk])
theorem St4.tcell {w : World} {N ph pk : Nat} {bs : List Nat} {ts : List (List (BitVec 8))} {vs : List Value} (h : St4 w N ph pk bs ts vs) (k : Nat) (hk : k < 4) :
    ∃ A c, vs.getD k undef = .slice A (ts.getD k []).length c ∧ w.cell? ⟨pk, k, none⟩ = some (.slice A (ts.getD k []).length c) ∧ SlAt w (.slice A (ts.getD k []).length c) (ts.getD k []) := by
  obtain ⟨hs, A, c, hv⟩ := owns_slAt (h.own k hk)
  refine ⟨A, c, hv, ?_, by rw [← hv]; exact hs⟩
  rw [← hv]
  exact h.trow.cell k _ (vs_get vs k (by rw [h.lv]; exact hk))

theorem exec_slice_k {P : Program} {op : Oper} {a : Act} (t : TypeId) (x z : Operand) (ho : op.op = .slice t x none (some z) none) (e : TypeId) (g n cap k : Nat) (hx : a.eval x = .slice (some ⟨g, 0, none⟩) n cap) (hz : a.eval z = .int .i64 (k : Int)) (hk : k ≤ cap)
    (hu : P.underlying t = some (.slice e)) (hs : (P.info? e).map (·.size) = some 1) (w : World) : (execOp a.eval op).run P w = .ok (.value (.slice (some ⟨g, 0, none⟩) k cap)) w := by
  cases hq : P.info? e with
  | none => simp [hq] at hs
  | some inf =>
    have hr : (Instr.sliceAt t (.slice (some ⟨g, 0, none⟩) n cap) none (some (.int .i64 (k : Int))) none).run P w = .ok (.slice (some ⟨g, 0, none⟩) k cap) w := by
      simp [Instr.sliceAt, Instr.slice, run_underlying hu, Instr.sliceBounds, Instr.sliceBound, asIntOf, sizeOf, typeInfo, hq, hk, Addr.add]
    unfold execOp
    simp only [ho, hx, hz, Option.map_some, Option.map_none, Sem.run_bind, hr, Result.andThen_ok, Sem.run_pure]

theorem len_set (ts : List (List (BitVec 8))) (k : Nat) (t' : List (BitVec 8)) (S S' : Nat) (hl : ts.length = 4) (hk : k < 4) (h : ∀ j, j < 4 → (ts.getD j []).length ≤ S) (hS : S ≤ S') (ht : t'.length ≤ S') : ∀ j, j < 4 → ((ts.set k t').getD j []).length ≤ S' := by
  intro j hj
  by_cases e : k = j
  · subst e; rw [getD_set_eq _ _ _ _ (by omega)]; exact ht
  · rw [getD_set_other _ _ _ _ _ e]; exact Nat.le_trans (h j hj) hS
theorem Tab.drewN {w : World} {g : Nat} (h : Tab w g) (n : Nat) : Tab (w.drewN n) g := h
theorem St4.tcell_but {w w' : World} {N ph pk : Nat} {bs : List Nat} {ts : List (List (BitVec 8))} {vs : List Value} (h : St4 w N ph pk bs ts vs) (k : Nat) (hk : k < 4) (hB : But (bs.getD k 0) w w') :
    Row w' pk vs 49 ∧ ∃ A c, w'.cell? ⟨pk, k, none⟩ = some (.slice A (ts.getD k []).length c) ∧ SlAt w' (.slice A (ts.getD k []).length c) (ts.getD k []) := by
  have htr := h.trow.but hB (h.trow.ne (h.hat k hk) (by decide))
  obtain ⟨hs, A, c, hv⟩ := owns_slAt (owns_but (h.own k hk) hB (h.hat k hk) (by decide))
  refine ⟨htr, A, c, ?_, by rw [← hv]; exact hs⟩
  rw [← hv]
  exact htr.cell k _ (vs_get vs k (by rw [h.lv]; exact hk))

theorem mv_slAt_range {w : World} {g : Nat} {q : List (BitVec 8)} (h : Row w g (vB (q ++ marks)) 5) : w.rangeAt g 0 (vB q) := by
  rw [vB_append] at h; exact row_front h

theorem info_op : (Tryd.prog.info? 52).map (·.size) = some 4 := by kernel_rfl
theorem flat_more (os : List OpV) (t : Nat) (h : t < os.length) : ((dat os).take (t + 1)).flatten.length = ((dat os).take t).flatten.length + (os.getD t op0).d.length := by
  rw [flat_take (dat os) t (by rw [dat_length]; exact h), List.length_append, dat_get os t h]
theorem flat_le (os : List OpV) (t : Nat) : ((dat os).take t).flatten.length ≤ (dat os).flatten.length := by
  have h := List.take_append_drop t (dat os)
  have : (dat os).flatten = ((dat os).take t).flatten ++ ((dat os).drop t).flatten := by
    conv => lhs; rw [← h]
    rw [List.flatten_append]
  rw [this, List.length_append]; omega

end Go.Proofs.YtihigbkanbabeaaDoor
