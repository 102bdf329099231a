/-
  A region that draws its order, by an invariant over a frame that is a letter: each operation has its slot and its value.
-/
import Derived.Test.YtehccmlbnfhhmaaDoorWKn
namespace Go.Proofs.YtehccmlbnfhhmaaDoor
open Go Go.RowKit

theorem ready_dep {md : Region.Mode} {ops : Array Oper} {listed : Array Bool} {i : Nat} (h : i ∈ Region.ready md ops listed) (j : Nat) (hj : ((ops[i]?).map fun o => o.after.any fun e => Region.binds md e && e.on == j) = some true) : listed.getD j false = true := by
  have h1 := (List.mem_filter.1 h).2
  cases ho : ops[i]? with
  | none => rw [ho] at hj; simp at hj
  | some o =>
    rw [ho] at hj h1
    simp only [Option.map_some, Option.some.injEq, Option.getD_some, Bool.and_eq_true, Array.any_eq_true, Array.all_eq_true] at hj h1
    obtain ⟨k, hk, he⟩ := hj
    have := h1.2 k hk
    rw [he.1] at this
    have e2 : o.after[k].on = j := by simpa using he.2
    rw [e2] at this
    simpa using this

theorem all_listed {md : Region.Mode} {ops : Array Oper} {listed : Array Bool} (hb : ((List.range ops.size).all fun i => ((ops[i]?).map fun o => o.after.all fun e => !Region.binds md e || decide (e.on < i)).getD true) = true) (hl : listed.size = ops.size) (h : Region.ready md ops listed = []) : ∀ i, i < ops.size → listed.getD i false = true := by
  intro i
  induction i using Nat.strongRecOn with
  | ind i ih =>
    intro hi
    have h1 := List.filter_eq_nil_iff.1 h i (List.mem_range.2 hi)
    have h2 := List.all_eq_true.1 hb i (List.mem_range.2 hi)
    have ho : ops[i]? = some ops[i] := Array.getElem?_eq_getElem hi
    rw [ho] at h1 h2
    simp only [Option.map_some, Option.getD_some, Bool.and_eq_true, Bool.not_eq_true', not_and, Array.all_eq_true] at h1 h2
    have hg : listed.getD i false = listed.getD i true := by
      simp [Array.getD_eq_getD_getElem?, Array.getElem?_eq_getElem (show i < listed.size by omega)]
    rw [hg]
    cases hq : listed.getD i true with
    | true => rfl
    | false =>
      exfalso
      refine h1 hq (fun k hk => ?_)
      have h3 := h2 k hk
      cases hB : Region.binds md ops[i].after[k] with
      | false => simp
      | true =>
        rw [hB] at h3
        have h4 : ops[i].after[k].on < i := by simpa using h3
        simpa using ih _ h4 (by omega)

/-- The frame, so far: the operations that have been carried out have laid their values; other slots are as they were. -/
structure Fr (D : List (Tmp × Value)) (a0 : Act) (listed : Array Bool) (a : Act) : Prop where
  size : a.tmps.size = a0.tmps.size
  defers : a.defers = a0.defers
  keep : ∀ t, D.all (fun p => p.1 != t) = true → a.eval (.tmp t) = a0.eval (.tmp t)
  done : ∀ i p, D[i]? = some p → listed.getD i false = true → a.eval (.tmp p.1) = p.2
theorem Fr.start (D : List (Tmp × Value)) (a0 : Act) (n : Nat) : Fr D a0 (Array.replicate n false) a0 :=
  ⟨rfl, rfl, fun _ _ => rfl, fun i p _ h => by
    rw [Array.getD_eq_getD_getElem?, Array.getElem?_replicate] at h
    split at h <;> simp at h⟩
theorem getD_set (l : Array Bool) (i k : Nat) (hne : i ≠ k) : (l.setIfInBounds i true).getD k false = l.getD k false := by
  simp [Array.getD_eq_getD_getElem?, Array.getElem?_setIfInBounds_ne hne]
theorem Fr.put {D : List (Tmp × Value)} {a0 : Act} {listed : Array Bool} {a : Act} (h : Fr D a0 listed a) (i : Nat) (t : Tmp) (v : Value) (hp : D[i]? = some (t, v)) (hd : ((List.range D.length).all fun k => k == i || ((D[k]?).map fun p => p.1 != t).getD true) = true) (hs : t < a0.tmps.size) : Fr D a0 (listed.setIfInBounds i true) (a.put (some t) v) := by
  refine ⟨(size_put _ _ _).trans h.size, (defers_put _ _ _).trans h.defers, fun s hs' => ?_, fun k p hk hl => ?_⟩
  · have hne : t ≠ s := by
      have := List.all_eq_true.1 hs' (t, v) (List.mem_of_getElem? hp)
      simpa using this
    rw [eval_put_other a v hne]
    exact h.keep s hs'
  · by_cases e : i = k
    · subst e
      rw [hp] at hk
      obtain rfl := Option.some.inj hk
      exact eval_put_same a v (by rw [h.size]; exact hs)
    · have hkl : k < D.length := (List.getElem?_eq_some_iff.1 hk).1
      have h1 := List.all_eq_true.1 hd k (List.mem_range.2 hkl)
      rw [hk] at h1
      have hne : t ≠ p.1 := by
        have : ¬ k = i := fun x => e x.symm
        simp [this] at h1
        exact fun x => h1 x.symm
      rw [eval_put_other a v hne]
      exact h.done k p hk (by rw [getD_set _ _ _ e] at hl; exact hl)

section
variable {P : Program} {Q : Exit → Act → World → Prop} {o : Oper} {a : Act} {w : World} {K : Act → World → Prop}
theorem wp_move_v {x : Operand} (v : Value) (ho : o.op = .move x) (hx : a.eval x = v) (h : K (a.put o.dst v) w) : Oper.wp P o a w K Q := wp_move x ho (by rw [hx]; exact h)
theorem wp_assign_v {x : Operand} (v : Value) (ho : o.op = .assign x) (hx : a.eval x = v) (h : K (a.put o.dst v) w) : Oper.wp P o a w K Q := wp_assign x ho (by rw [hx]; exact h)
theorem wp_pick_v {c x y : Operand} (v : Value) (ho : o.op = .pick c x y) (hc : a.eval c = .bool true) (hx : a.eval x = v) (h : K (a.put o.dst v) w) : Oper.wp P o a w K Q := by
  unfold Oper.wp execOp
  simp only [ho, hc, hx]
  simp [go_sem]
  exact h
theorem wp_eqint_v {x y : Operand} {t yt : TypeId} {k : IntKind} {m n : Int} {B : Bool} (ho : o.op = .binOp .eql t x y yt) (hx : a.eval x = .int k m) (hy : a.eval y = .int k n) (hB : (m == n) = B) (h : K (a.put o.dst (.bool B)) w) : Oper.wp P o a w K Q := by
  subst hB
  unfold Oper.wp execOp
  simp only [ho, hx, hy]
  simp [go_sem]
  exact h
theorem wp_eqstr_v {x y : Operand} {t yt : TypeId} {u v : ByteArray} {B : Bool} (ho : o.op = .binOp .eql t x y yt) (hx : a.eval x = .string u) (hy : a.eval y = .string v) (hB : (u.toList == v.toList) = B) (h : K (a.put o.dst (.bool B)) w) : Oper.wp P o a w K Q := by
  subst hB
  unfold Oper.wp execOp
  simp only [ho, hx, hy]
  simp [go_sem]
  exact h
theorem wanted_g {ops : Array Oper} {g : Nat} {b : Bool} {t : Tmp} (ho : o.guard = some (g, b)) (hg : ((ops[g]?).bind fun o => o.dst) = some t) (h : a.eval (.tmp t) = .bool b) (hs : t < a.tmps.size) : Region.wanted o (yielded ops a.tmps) = true := by
  have h2 : a.tmps[t]? = some (.bool b) := by
    rw [Array.getElem?_eq_getElem hs]
    have : a.tmps[t]?.getD undef = .bool b := by simpa [Act.eval] using h
    rw [Array.getElem?_eq_getElem hs] at this
    simpa using this
  simp [Region.wanted, ho, yielded, hg, h2]
end

end Go.Proofs.YtehccmlbnfhhmaaDoor
