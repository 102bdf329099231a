/-
  A list of two numbers is built; an element's address.
-/
import Derived.Test.YtehccmlbnfhhmaaDoorWFr
import Derived.Great.BuildSlice

namespace Go.Proofs.YtehccmlbnfhhmaaDoor
open Go Go.RowKit

/-- What a slot may hold: a property of world and value that lasts. -/
structure SP where
  P : World → Value → Prop
  st : ∀ W W2 v, Below W.heap.size W W2 → P W v → P W2 v
def SP.is (v : Value) : SP := ⟨fun _ x => x = v, fun _ _ _ _ h => h⟩
def SP.any : SP := ⟨fun _ _ => True, fun _ _ _ _ h => h⟩
def SP.new (n c : Nat) (vs : List Value) (t : TypeId) : SP := ⟨fun W v => ∃ N, v = .slice (some ⟨N, 0, none⟩) n c ∧ Row W N vs t, fun _ _ _ hB ⟨N, e, r⟩ => ⟨N, e, Row.below r hB (Row.lt r)⟩⟩

structure Fp (D : List (Tmp × SP)) (a0 : Act) (listed : Array Bool) (a : Act) (W : World) : Prop where
  size : a.tmps.size = a0.tmps.size
  defers : a.defers = a0.defers
  keep : ∀ t, D.all (fun p => p.1 != t) = true → a.eval (.tmp t) = a0.eval (.tmp t)
  done : ∀ i p, D[i]? = some p → listed.getD i false = true → p.2.P W (a.eval (.tmp p.1))
theorem Fp.start (D : List (Tmp × SP)) (a0 : Act) (n : Nat) (W : World) : Fp D a0 (Array.replicate n false) a0 W :=
  ⟨rfl, rfl, fun _ _ => rfl, fun i p _ h => by
    rw [Array.getD_eq_getD_getElem?, Array.getElem?_replicate] at h
    split at h <;> simp at h⟩
theorem Fp.world {D : List (Tmp × SP)} {a0 : Act} {listed : Array Bool} {a : Act} {W W2 : World} (h : Fp D a0 listed a W) (hB : Below W.heap.size W W2) : Fp D a0 listed a W2 :=
  ⟨h.size, h.defers, h.keep, fun i p hp hl => p.2.st _ _ _ hB (h.done i p hp hl)⟩
theorem Fp.turn {D : List (Tmp × SP)} {a0 : Act} {listed : Array Bool} {a : Act} {W W2 : World} (h : Fp D a0 listed a W) (hW : ∀ p ∈ D, ∀ v, p.2.P W v → p.2.P W2 v) : Fp D a0 listed a W2 :=
  ⟨h.size, h.defers, h.keep, fun i p hp hl => hW p (List.mem_of_getElem? hp) _ (h.done i p hp hl)⟩
theorem Fp.put {D : List (Tmp × SP)} {a0 : Act} {listed : Array Bool} {a : Act} {W : World} (h : Fp D a0 listed a W) (i : Nat) (t : Tmp) (s : SP) (v : Value) (hp : D[i]? = some (t, s)) (hv : s.P W v) (hd : ((List.range D.length).all fun k => k == i || ((D[k]?).map fun p => p.1 != t).getD true) = true) (hs : t < a0.tmps.size) : Fp D a0 (listed.setIfInBounds i true) (a.put (some t) v) W := by
  refine ⟨(size_put _ _ _).trans h.size, (defers_put _ _ _).trans h.defers, fun s' hs' => ?_, fun k p hk hl => ?_⟩
  · have hne : t ≠ s' := by
      have := List.all_eq_true.1 hs' (t, s) (List.mem_of_getElem? hp)
      simpa using this
    rw [eval_put_other a v hne]
    exact h.keep s' hs'
  · by_cases e : i = k
    · subst e
      rw [hp] at hk
      obtain rfl := Option.some.inj hk
      show s.P W ((a.put (some t) v).eval (.tmp t))
      rw [eval_put_same a v (by rw [h.size]; exact hs)]
      exact hv
    · have hkl : k < D.length := (List.getElem?_eq_some_iff.1 hk).1
      have h1 := List.all_eq_true.1 hd k (List.mem_range.2 hkl)
      rw [hk] at h1
      have hne : t ≠ p.1 := by
        have : ¬ k = i := fun x => e x.symm
        simp [this] at h1
        exact fun x => h1 x.symm
      rw [eval_put_other a v hne]
      exact h.done k p hk (by rw [getD_set _ _ _ e] at hl; exact hl)
/-- A store: no slot. -/
theorem Fp.skip {D : List (Tmp × SP)} {a0 : Act} {listed : Array Bool} {a : Act} {W : World} (h : Fp D a0 listed a W) (i : Nat) (t : Tmp) (hp : D[i]? = some (t, SP.any)) : Fp D a0 (listed.setIfInBounds i true) a W :=
  ⟨h.size, h.defers, h.keep, fun k p hk hl => by
    by_cases e : i = k
    · subst e
      rw [hp] at hk
      obtain rfl := Option.some.inj hk
      trivial
    · exact h.done k p hk (by rw [getD_set _ _ _ e] at hl; exact hl)⟩

theorem lays_get (f : Tmp → Option Value) : ∀ (L : List (Tmp × Value)) (arr : Array Value), (∀ p ∈ L, p.1 < arr.size → f p.1 = some p.2) → ∀ k, k < arr.size → (L.foldl (fun t p => t.setIfInBounds p.1 p.2) arr)[k]? = if L.any (fun p => p.1 == k) then f k else arr[k]?
  | [], arr, _, k, _ => by simp
  | q :: L, arr, hL, k, hk => by
    have ih := lays_get f L (arr.setIfInBounds q.1 q.2) (fun p hp hs => hL p (List.mem_cons_of_mem _ hp) (by simpa using hs)) k (by simpa using hk)
    rw [List.foldl_cons, ih, List.any_cons]
    by_cases e : q.1 = k
    · subst e
      have h1 := hL q List.mem_cons_self hk
      simp [h1, hk]
    · have h2 : (q.1 == k) = false := by simpa using e
      rw [h2, Bool.false_or, Array.getElem?_setIfInBounds_ne e]
theorem lays_size : ∀ (L : List (Tmp × Value)) (arr : Array Value), (L.foldl (fun t p => t.setIfInBounds p.1 p.2) arr).size = arr.size
  | [], _ => rfl
  | q :: L, arr => by rw [List.foldl_cons, lays_size L]; simp

/-- The frame at the end, written out again. -/
theorem Fp.lay {D : List (Tmp × SP)} {a0 : Act} {listed : Array Bool} {a : Act} {W : World} (h : Fp D a0 listed a W) (L : List (Tmp × Value)) (hL : (D.all fun p => decide (a0.tmps.size ≤ p.1) || L.any (fun q => q.1 == p.1)) = true) (hv : ∀ p ∈ L, a.eval (.tmp p.1) = p.2) : a = { tmps := L.foldl (fun t p => t.setIfInBounds p.1 p.2) a0.tmps, defers := a0.defers } := by
  have e1 : a.tmps = L.foldl (fun t p => t.setIfInBounds p.1 p.2) a0.tmps := by
    apply Array.ext_getElem?
    intro k
    by_cases hk : k < a0.tmps.size
    · rw [lays_get (fun t => a.tmps[t]?) L a0.tmps (fun p hp hs => by
        have := hv p hp
        rw [← this]
        simp [Act.eval, Array.getElem?_eq_getElem (show p.1 < a.tmps.size by rw [h.size]; exact hs)]) k hk]
      cases hA : L.any (fun p => p.1 == k) with
      | true => rfl
      | false =>
        have hD : D.all (fun p => p.1 != k) = true := by
          rw [List.all_eq_true]
          intro p hp
          have := List.all_eq_true.1 hL p hp
          by_cases e : p.1 = k
          · subst e
            rw [hA] at this
            simp at this
            omega
          · simpa using e
        have := h.keep k hD
        simp [Act.eval, Array.getElem?_eq_getElem (show k < a.tmps.size by rw [h.size]; exact hk), Array.getElem?_eq_getElem hk] at this
        simp [Array.getElem?_eq_getElem (show k < a.tmps.size by rw [h.size]; exact hk), Array.getElem?_eq_getElem hk, this]
    · rw [Array.getElem?_eq_none (by rw [h.size]; omega), Array.getElem?_eq_none (by rw [lays_size]; omega)]
  have e2 := h.defers
  cases a
  simp at e1 e2
  subst e1 e2
  rfl

theorem not_yet {md : Region.Mode} {ops : Array Oper} {listed : Array Bool} {i : Nat} (h : i ∈ Region.ready md ops listed) : ¬ listed.getD i false = true := by
  have h1 := ready_false h
  rw [Array.getElem?_toList] at h1
  rw [Array.getD_eq_getD_getElem?, h1]
  simp
theorem start_no {n i : Nat} (h : (Array.replicate n false).getD i false = true) : False := by
  rw [Array.getD_eq_getD_getElem?, Array.getElem?_replicate] at h
  split at h <;> simp at h
theorem getD_same {l : Array Bool} {i : Nat} (h : i < l.size) : (l.setIfInBounds i true).getD i false = true := by
  simp [Array.getD_eq_getD_getElem?, h]

section
variable {P : Program} {Q : Exit → Act → World → Prop} {o : Oper} {a : Act} {w : World} {K : Act → World → Prop}
theorem wp_fcall_v {c : Call} (f : FuncId) (args : Array Value) (ho : o.op = .call c) (hc : c.callee = .value (.func f)) (ha : c.args.toList.map a.eval = args.toList) (hr : (callFunc f args).run P w = .ok (.enter f args) w) (h : Calls P f args w fun e w' => ∃ v, e = .returned v ∧ K (a.put o.dst v) w') : Oper.wp P o a w K Q := by
  have h2 : c.args.map a.eval = args := by
    apply Array.toList_inj.1
    rw [Array.toList_map]
    exact ha
  refine wp_fcall f args ?_ h
  unfold execOp
  simp only [ho, resolve, hc, Act.eval, Deferred.ofValue, h2, Sem.run_bind, Sem.run_pure, Result.andThen_ok, invoke, Array.append_empty, Array.empty_append]
  exact hr
end

end Go.Proofs.YtehccmlbnfhhmaaDoor

namespace Go.Proofs.YtehccmlbnfhhmaaDoor
open Go Go.RowKit
open Wd

theorem len4 {c : List Value} (h : c.length = 4) : ∃ x y z u, c = [x, y, z, u] := by
  match c, h with
  | [x, y, z, u], _ => exact ⟨x, y, z, u, rfl⟩
theorem wpList_build2 {ops : Array Oper} {rest : List Oper} {o : Oper} {a : Act} {w : World} {Q : Exit → Act → World → Prop} (hg : o.guard = none) (x y : Operand) (ho : o.op = .buildSlice 26 2 #[(0, x), (1, y)])
    (c d : List Value) (hc : c.length = 4) (hd : d.length = 4) (hx : a.eval x = .agg c.toArray) (hy : a.eval y = .agg d.toArray) (N : Nat) (hN : w.heap.size = N)
    (h : wpList Tryd.prog ops Q rest (a.put o.dst (.slice (some ⟨N, 0, none⟩) 2 2)) (w.alloc (.cells (c ++ d).toArray 24))) : wpList Tryd.prog ops Q (o :: rest) a w := by
  subst hN
  obtain ⟨c0, c1, c2, c3, rfl⟩ := len4 hc
  obtain ⟨d0, d1, d2, d3, rfl⟩ := len4 hd
  have i1 : (Tryd.prog.info? 24).map (·.size) = some 4 := by kernel_rfl
  have i2 : ((Tryd.prog.info? 24).bind (·.zero)).map (·.cells) = some #[.int .u64 0, .int .u64 0, .int .u64 0, .int .u64 0] := by kernel_rfl
  obtain ⟨ie, z, h1, h2, h3, h4⟩ : ∃ ie z, Tryd.prog.info? 24 = some ie ∧ ie.zero = some z ∧ ie.size = 4 ∧ z.cells = #[.int .u64 0, .int .u64 0, .int .u64 0, .int .u64 0] := by
    cases hi : Tryd.prog.info? 24 with
    | none => rw [hi] at i1; cases i1
    | some ie =>
      rw [hi] at i1 i2
      cases hz : ie.zero with
      | none => simp [hz] at i2
      | some z => exact ⟨ie, z, rfl, hz, by simpa using i1, by simpa [hz] using i2⟩
  refine wpList_buildSlice hg 26 24 2 _ ho _ ie z Tryd.underlying26 h1 h2 (by rw [h3]; decide) (by rw [h3]; decide) ?_ h
  rw [h3, h4]
  rw [show (Array.map (fun (p : Nat × Operand) => match p with | (i, x) => (i, a.eval x)) #[(0, x), (1, y)]).toList = [(0, a.eval x), (1, a.eval y)] by simp, hx, hy]
  rw [show (Array.range (2 * 4)).map (fun x => (#[.int .u64 0, .int .u64 0, .int .u64 0, .int .u64 0] : Array Value)[x % (#[.int .u64 0, .int .u64 0, .int .u64 0, .int .u64 0] : Array Value).size]!) = #[.int .u64 0, .int .u64 0, .int .u64 0, .int .u64 0, .int .u64 0, .int .u64 0, .int .u64 0, .int .u64 0] by kernel_rfl]
  simp [Instr.fill, Value.cells]

section
variable {Q : Exit → Act → World → Prop} {o : Oper} {a : Act} {w : World} {K : Act → World → Prop}
theorem run_indexAt_w (w : World) (N n c t : Nat) (ht : t < n) : (Instr.indexAt 26 (.slice (some ⟨N, 0, none⟩) n c) (.int .i64 (t : Int))).run Tryd.prog w = .ok (.pointer (some ⟨N, t * 4, none⟩)) w := by
  have hs : (Tryd.prog.info? 24).map (·.size) = some 4 := by kernel_rfl
  cases hi : Tryd.prog.info? 24 with
  | none => rw [hi] at hs; cases hs
  | some ie =>
    rw [hi] at hs
    have h4 : ie.size = 4 := by simpa using hs
    simp [Instr.indexAt, run_underlying Tryd.underlying26, asIntOf, ht, sizeOf, typeInfo, hi, h4, Addr.add]
    intro h0
    exact h0.symm
theorem wp_index_w {x y : Operand} (ho : o.op = .indexAddr 26 x y) (N n c t : Nat) (hx : a.eval x = .slice (some ⟨N, 0, none⟩) n c) (hy : a.eval y = .int .i64 (t : Int)) (ht : t < n)
    (h : K (a.put o.dst (.pointer (some ⟨N, t * 4, none⟩))) w) : Oper.wp Tryd.prog o a w K Q := by
  refine wp_pure (v := .pointer (some ⟨N, t * 4, none⟩)) ?_ h
  unfold execOp
  simp only [ho, hx, hy, Sem.run_bind, run_indexAt_w w N n c t ht, Result.andThen_ok]
  rfl
end

end Go.Proofs.YtehccmlbnfhhmaaDoor
