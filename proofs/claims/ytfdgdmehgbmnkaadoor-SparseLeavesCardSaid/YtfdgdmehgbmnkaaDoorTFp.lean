/-
  A region that draws its order, over a frame that is a letter, each of whose slots holds what a property tells: beside no package. (WFr and WFp, with fewer imports.)
-/
import Derived.Test.YtfdgdmehgbmnkaaDoorMem
import Derived.Test.YtfdgdmehgbmnkaaDoorWInv
import Derived.Great.BuildSlice
namespace Go.Proofs.YtfdgdmehgbmnkaaDoor
open Go Go.RowKit

theorem ready_dep {md : Region.Mode} {ops : Array Oper} {listed : Array Bool} {i : Nat} (h : i ∈ Region.ready md ops listed) (j : Nat) (hj : ((ops[i]?).map fun o => o.after.any fun e => Region.binds md e && e.on == j) = some true) : listed.getD j false = true := by
  have h1 := (List.mem_filter.1 h).2
  cases ho : ops[i]? with
  | none => rw [ho] at hj; simp at hj
  | some o =>
    rw [ho] at hj h1
    simp only [Option.map_some, Option.some.injEq, Option.getD_some, Bool.and_eq_true, Array.any_eq_true, Array.all_eq_true] at hj h1
    obtain ⟨k, hk, he⟩ := hj
    have := h1.2 k hk
    rw [he.1] at this
    have e2 : o.after[k].on = j := by simpa using he.2
    rw [e2] at this
    simpa using this

theorem all_listed {md : Region.Mode} {ops : Array Oper} {listed : Array Bool} (hb : ((List.range ops.size).all fun i => ((ops[i]?).map fun o => o.after.all fun e => !Region.binds md e || decide (e.on < i)).getD true) = true) (hl : listed.size = ops.size) (h : Region.ready md ops listed = []) : ∀ i, i < ops.size → listed.getD i false = true := by
  intro i
  induction i using Nat.strongRecOn with
  | ind i ih =>
    intro hi
    have h1 := List.filter_eq_nil_iff.1 h i (List.mem_range.2 hi)
    have h2 := List.all_eq_true.1 hb i (List.mem_range.2 hi)
    have ho : ops[i]? = some ops[i] := Array.getElem?_eq_getElem hi
    rw [ho] at h1 h2
    simp only [Option.map_some, Option.getD_some, Bool.and_eq_true, Bool.not_eq_true', not_and, Array.all_eq_true] at h1 h2
    have hg : listed.getD i false = listed.getD i true := by
      simp [Array.getD_eq_getD_getElem?, Array.getElem?_eq_getElem (show i < listed.size by omega)]
    rw [hg]
    cases hq : listed.getD i true with
    | true => rfl
    | false =>
      exfalso
      refine h1 hq (fun k hk => ?_)
      have h3 := h2 k hk
      cases hB : Region.binds md ops[i].after[k] with
      | false => simp
      | true =>
        rw [hB] at h3
        have h4 : ops[i].after[k].on < i := by simpa using h3
        simpa using ih _ h4 (by omega)

/-- The frame, so far: the operations that have been carried out have laid their values; other slots are as they were. -/
structure Fr (D : List (Tmp × Value)) (a0 : Act) (listed : Array Bool) (a : Act) : Prop where
  size : a.tmps.size = a0.tmps.size
  defers : a.defers = a0.defers
  keep : ∀ t, D.all (fun p => p.1 != t) = true → a.eval (.tmp t) = a0.eval (.tmp t)
  done : ∀ i p, D[i]? = some p → listed.getD i false = true → a.eval (.tmp p.1) = p.2
theorem Fr.start (D : List (Tmp × Value)) (a0 : Act) (n : Nat) : Fr D a0 (Array.replicate n false) a0 :=
  ⟨rfl, rfl, fun _ _ => rfl, fun i p _ h => by
    rw [Array.getD_eq_getD_getElem?, Array.getElem?_replicate] at h
    split at h <;> simp at h⟩
theorem getD_set (l : Array Bool) (i k : Nat) (hne : i ≠ k) : (l.setIfInBounds i true).getD k false = l.getD k false := by
  simp [Array.getD_eq_getD_getElem?, Array.getElem?_setIfInBounds_ne hne]
theorem Fr.put {D : List (Tmp × Value)} {a0 : Act} {listed : Array Bool} {a : Act} (h : Fr D a0 listed a) (i : Nat) (t : Tmp) (v : Value) (hp : D[i]? = some (t, v)) (hd : ((List.range D.length).all fun k => k == i || ((D[k]?).map fun p => p.1 != t).getD true) = true) (hs : t < a0.tmps.size) : Fr D a0 (listed.setIfInBounds i true) (a.put (some t) v) := by
  refine ⟨(size_put _ _ _).trans h.size, (defers_put _ _ _).trans h.defers, fun s hs' => ?_, fun k p hk hl => ?_⟩
  · have hne : t ≠ s := by
      have := List.all_eq_true.1 hs' (t, v) (List.mem_of_getElem? hp)
      simpa using this
    rw [eval_put_other a v hne]
    exact h.keep s hs'
  · by_cases e : i = k
    · subst e
      rw [hp] at hk
      obtain rfl := Option.some.inj hk
      exact eval_put_same a v (by rw [h.size]; exact hs)
    · have hkl : k < D.length := (List.getElem?_eq_some_iff.1 hk).1
      have h1 := List.all_eq_true.1 hd k (List.mem_range.2 hkl)
      rw [hk] at h1
      have hne : t ≠ p.1 := by
        have : ¬ k = i := fun x => e x.symm
        simp [this] at h1
        exact fun x => h1 x.symm
      rw [eval_put_other a v hne]
      exact h.done k p hk (by rw [getD_set _ _ _ e] at hl; exact hl)

section
variable {P : Program} {Q : Exit → Act → World → Prop} {o : Oper} {a : Act} {w : World} {K : Act → World → Prop}
theorem wp_move_v {x : Operand} (v : Value) (ho : o.op = .move x) (hx : a.eval x = v) (h : K (a.put o.dst v) w) : Oper.wp P o a w K Q := wp_move x ho (by rw [hx]; exact h)
theorem wp_assign_v {x : Operand} (v : Value) (ho : o.op = .assign x) (hx : a.eval x = v) (h : K (a.put o.dst v) w) : Oper.wp P o a w K Q := wp_assign x ho (by rw [hx]; exact h)
theorem wp_pick_v {c x y : Operand} (v : Value) (ho : o.op = .pick c x y) (hc : a.eval c = .bool true) (hx : a.eval x = v) (h : K (a.put o.dst v) w) : Oper.wp P o a w K Q := by
  unfold Oper.wp execOp
  simp only [ho, hc, hx]
  simp [go_sem]
  exact h
theorem wp_eqint_v {x y : Operand} {t yt : TypeId} {k : IntKind} {m n : Int} {B : Bool} (ho : o.op = .binOp .eql t x y yt) (hx : a.eval x = .int k m) (hy : a.eval y = .int k n) (hB : (m == n) = B) (h : K (a.put o.dst (.bool B)) w) : Oper.wp P o a w K Q := by
  subst hB
  unfold Oper.wp execOp
  simp only [ho, hx, hy]
  simp [go_sem]
  exact h
theorem wp_eqstr_v {x y : Operand} {t yt : TypeId} {u v : ByteArray} {B : Bool} (ho : o.op = .binOp .eql t x y yt) (hx : a.eval x = .string u) (hy : a.eval y = .string v) (hB : (u.toList == v.toList) = B) (h : K (a.put o.dst (.bool B)) w) : Oper.wp P o a w K Q := by
  subst hB
  unfold Oper.wp execOp
  simp only [ho, hx, hy]
  simp [go_sem]
  exact h
theorem wanted_g {ops : Array Oper} {g : Nat} {b : Bool} {t : Tmp} (ho : o.guard = some (g, b)) (hg : ((ops[g]?).bind fun o => o.dst) = some t) (h : a.eval (.tmp t) = .bool b) (hs : t < a.tmps.size) : Region.wanted o (yielded ops a.tmps) = true := by
  have h2 : a.tmps[t]? = some (.bool b) := by
    rw [Array.getElem?_eq_getElem hs]
    have : a.tmps[t]?.getD undef = .bool b := by simpa [Act.eval] using h
    rw [Array.getElem?_eq_getElem hs] at this
    simpa using this
  simp [Region.wanted, ho, yielded, hg, h2]
end


/-- What a slot may hold: a property of world and value that lasts. -/
structure SP where
  P : World → Value → Prop
  st : ∀ W W2 v, Below W.heap.size W W2 → P W v → P W2 v
def SP.is (v : Value) : SP := ⟨fun _ x => x = v, fun _ _ _ _ h => h⟩
def SP.any : SP := ⟨fun _ _ => True, fun _ _ _ _ h => h⟩
def SP.new (n c : Nat) (vs : List Value) (t : TypeId) : SP := ⟨fun W v => ∃ N, v = .slice (some ⟨N, 0, none⟩) n c ∧ Row W N vs t, fun _ _ _ hB ⟨N, e, r⟩ => ⟨N, e, Row.below r hB (Row.lt r)⟩⟩

structure Fp (D : List (Tmp × SP)) (a0 : Act) (listed : Array Bool) (a : Act) (W : World) : Prop where
  size : a.tmps.size = a0.tmps.size
  defers : a.defers = a0.defers
  keep : ∀ t, D.all (fun p => p.1 != t) = true → a.eval (.tmp t) = a0.eval (.tmp t)
  done : ∀ i p, D[i]? = some p → listed.getD i false = true → p.2.P W (a.eval (.tmp p.1))
  fresh : ∀ i p, D[i]? = some p → ¬ listed.getD i false = true → a.eval (.tmp p.1) = a0.eval (.tmp p.1)
theorem Fp.start (D : List (Tmp × SP)) (a0 : Act) (n : Nat) (W : World) : Fp D a0 (Array.replicate n false) a0 W :=
  ⟨rfl, rfl, fun _ _ => rfl, fun i p _ h => by
    rw [Array.getD_eq_getD_getElem?, Array.getElem?_replicate] at h
    split at h <;> simp at h, fun _ _ _ _ => rfl⟩
theorem Fp.world {D : List (Tmp × SP)} {a0 : Act} {listed : Array Bool} {a : Act} {W W2 : World} (h : Fp D a0 listed a W) (hB : Below W.heap.size W W2) : Fp D a0 listed a W2 :=
  ⟨h.size, h.defers, h.keep, fun i p hp hl => p.2.st _ _ _ hB (h.done i p hp hl), h.fresh⟩
theorem Fp.turn {D : List (Tmp × SP)} {a0 : Act} {listed : Array Bool} {a : Act} {W W2 : World} (h : Fp D a0 listed a W) (hW : ∀ p ∈ D, ∀ v, p.2.P W v → p.2.P W2 v) : Fp D a0 listed a W2 :=
  ⟨h.size, h.defers, h.keep, fun i p hp hl => hW p (List.mem_of_getElem? hp) _ (h.done i p hp hl), h.fresh⟩
theorem Fp.put {D : List (Tmp × SP)} {a0 : Act} {listed : Array Bool} {a : Act} {W : World} (h : Fp D a0 listed a W) (i : Nat) (t : Tmp) (s : SP) (v : Value) (hp : D[i]? = some (t, s)) (hv : s.P W v) (hd : ((List.range D.length).all fun k => k == i || ((D[k]?).map fun p => p.1 != t).getD true) = true) (hs : t < a0.tmps.size) (hbnd : ¬ listed.size ≤ i) : Fp D a0 (listed.setIfInBounds i true) (a.put (some t) v) W := by
  refine ⟨(size_put _ _ _).trans h.size, (defers_put _ _ _).trans h.defers, fun s' hs' => ?_, fun k p hk hl => ?_, fun k p hk hl => ?_⟩
  · have hne : t ≠ s' := by
      have := List.all_eq_true.1 hs' (t, s) (List.mem_of_getElem? hp)
      simpa using this
    rw [eval_put_other a v hne]
    exact h.keep s' hs'
  · by_cases e : i = k
    · subst e
      rw [hp] at hk
      obtain rfl := Option.some.inj hk
      show s.P W ((a.put (some t) v).eval (.tmp t))
      rw [eval_put_same a v (by rw [h.size]; exact hs)]
      exact hv
    · have hkl : k < D.length := (List.getElem?_eq_some_iff.1 hk).1
      have h1 := List.all_eq_true.1 hd k (List.mem_range.2 hkl)
      rw [hk] at h1
      have hne : t ≠ p.1 := by
        have : ¬ k = i := fun x => e x.symm
        simp [this] at h1
        exact fun x => h1 x.symm
      rw [eval_put_other a v hne]
      exact h.done k p hk (by rw [getD_set _ _ _ e] at hl; exact hl)
  · have hne : t ≠ p.1 := by
      have hkl : k < D.length := (List.getElem?_eq_some_iff.1 hk).1
      have h1 := List.all_eq_true.1 hd k (List.mem_range.2 hkl)
      rw [hk] at h1
      by_cases e : k = i
      · exfalso
        subst e
        by_cases hb : k < listed.size
        · exact hl (by simp [Array.getD_eq_getD_getElem?, hb])
        · exact hbnd (by omega)
      · simp [e] at h1
        exact fun x => h1 x.symm
    rw [eval_put_other a v hne]
    by_cases e : i = k
    · subst e
      by_cases hb : i < listed.size
      · exact absurd (by simp [Array.getD_eq_getD_getElem?, hb]) hl
      · exact absurd (by omega) hbnd
    · exact h.fresh k p hk (by rw [getD_set _ _ _ e] at hl; exact hl)
/-- A store: no slot. -/
theorem Fp.skip {D : List (Tmp × SP)} {a0 : Act} {listed : Array Bool} {a : Act} {W : World} (h : Fp D a0 listed a W) (i : Nat) (t : Tmp) (hp : D[i]? = some (t, SP.any)) (hbnd : ¬ listed.size ≤ i) : Fp D a0 (listed.setIfInBounds i true) a W :=
  ⟨h.size, h.defers, h.keep, fun k p hk hl => by
    by_cases e : i = k
    · subst e
      rw [hp] at hk
      obtain rfl := Option.some.inj hk
      trivial
    · exact h.done k p hk (by rw [getD_set _ _ _ e] at hl; exact hl), fun k p hk hl => by
    by_cases e : i = k
    · subst e
      by_cases hb : i < listed.size
      · exact absurd (by simp [Array.getD_eq_getD_getElem?, hb]) hl
      · exact absurd (by omega) hbnd
    · exact h.fresh k p hk (by rw [getD_set _ _ _ e] at hl; exact hl)⟩

theorem lays_get (f : Tmp → Option Value) : ∀ (L : List (Tmp × Value)) (arr : Array Value), (∀ p ∈ L, p.1 < arr.size → f p.1 = some p.2) → ∀ k, k < arr.size → (L.foldl (fun t p => t.setIfInBounds p.1 p.2) arr)[k]? = if L.any (fun p => p.1 == k) then f k else arr[k]?
  | [], arr, _, k, _ => by simp
  | q :: L, arr, hL, k, hk => by
    have ih := lays_get f L (arr.setIfInBounds q.1 q.2) (fun p hp hs => hL p (List.mem_cons_of_mem _ hp) (by simpa using hs)) k (by simpa using hk)
    rw [List.foldl_cons, ih, List.any_cons]
    by_cases e : q.1 = k
    · subst e
      have h1 := hL q List.mem_cons_self hk
      simp [h1, hk]
    · have h2 : (q.1 == k) = false := by simpa using e
      rw [h2, Bool.false_or, Array.getElem?_setIfInBounds_ne e]
theorem lays_size : ∀ (L : List (Tmp × Value)) (arr : Array Value), (L.foldl (fun t p => t.setIfInBounds p.1 p.2) arr).size = arr.size
  | [], _ => rfl
  | q :: L, arr => by rw [List.foldl_cons, lays_size L]; simp

/-- The frame at the end, written out again. -/
theorem Fp.lay {D : List (Tmp × SP)} {a0 : Act} {listed : Array Bool} {a : Act} {W : World} (h : Fp D a0 listed a W) (L : List (Tmp × Value)) (hL : (D.all fun p => decide (a0.tmps.size ≤ p.1) || L.any (fun q => q.1 == p.1)) = true) (hv : ∀ p ∈ L, a.eval (.tmp p.1) = p.2) : a = { tmps := L.foldl (fun t p => t.setIfInBounds p.1 p.2) a0.tmps, defers := a0.defers } := by
  have e1 : a.tmps = L.foldl (fun t p => t.setIfInBounds p.1 p.2) a0.tmps := by
    apply Array.ext_getElem?
    intro k
    by_cases hk : k < a0.tmps.size
    · rw [lays_get (fun t => a.tmps[t]?) L a0.tmps (fun p hp hs => by
        have := hv p hp
        rw [← this]
        simp [Act.eval, Array.getElem?_eq_getElem (show p.1 < a.tmps.size by rw [h.size]; exact hs)]) k hk]
      cases hA : L.any (fun p => p.1 == k) with
      | true => rfl
      | false =>
        have hD : D.all (fun p => p.1 != k) = true := by
          rw [List.all_eq_true]
          intro p hp
          have := List.all_eq_true.1 hL p hp
          by_cases e : p.1 = k
          · subst e
            rw [hA] at this
            simp at this
            omega
          · simpa using e
        have := h.keep k hD
        simp [Act.eval, Array.getElem?_eq_getElem (show k < a.tmps.size by rw [h.size]; exact hk), Array.getElem?_eq_getElem hk] at this
        simp [Array.getElem?_eq_getElem (show k < a.tmps.size by rw [h.size]; exact hk), Array.getElem?_eq_getElem hk, this]
    · rw [Array.getElem?_eq_none (by rw [h.size]; omega), Array.getElem?_eq_none (by rw [lays_size]; omega)]
  have e2 := h.defers
  cases a
  simp at e1 e2
  subst e1 e2
  rfl

/-- What has been carried out holds what it waits for. -/
def Down (ops : Array Oper) (listed : Array Bool) : Prop := ∀ i, listed.getD i false = true → ∀ j, ((ops[i]?).map fun o => o.after.any fun e => Region.binds .any e && e.on == j) = some true → listed.getD j false = true
theorem Down.step {ops : Array Oper} {listed : Array Bool} {i : Nat} (h : Down ops listed) (hk : i ∈ Region.ready .any ops listed) : Down ops (listed.setIfInBounds i true) := by
  have up : ∀ j, listed.getD j false = true → (listed.setIfInBounds i true).getD j false = true := fun j hj => by
    by_cases e : i = j
    · subst e
      by_cases hb : i < listed.size
      · simp [Array.getD_eq_getD_getElem?, hb]
      · simp [Array.getD_eq_getD_getElem?, show listed[i]? = none from Array.getElem?_eq_none (by omega)] at hj
    · rw [getD_set _ _ _ e]; exact hj
  intro k hkl j hj
  by_cases e : i = k
  · subst e
    exact up j (ready_dep hk j hj)
  · rw [getD_set _ _ _ e] at hkl
    exact up j (h k hkl j hj)
theorem wp_region_down {P : Program} {id : Nat} {ops : Array Oper} {Q : Exit → Act → World → Prop} {a : Act} {w : World} (hm : P.follows .mixedOrders = true) (I : Array Bool → Act → World → Prop)
    (h0 : I (Array.replicate ops.size false) a w.drew)
    (hstep : ∀ listed a w i, I listed a w → Down ops listed → i ∈ Region.ready .any ops listed → wpOp P ops Q i (I (listed.setIfInBounds i true)) a w)
    (hdone : ∀ listed a w, I listed a w → Region.ready .any ops listed = [] → Q .normal a w) : (Code.region id ops true).wp P Q a w :=
  wp_region_inv hm (fun l a w => I l a w ∧ Down ops l) ⟨h0, fun i h => by
      exfalso
      rw [Array.getD_eq_getD_getElem?, Array.getElem?_replicate] at h
      split at h <;> simp at h⟩
    (fun l a w i h hi => wpOp_mono (fun _ _ h' => ⟨h', h.2.step hi⟩) (hstep l a w i h.1 h.2 hi))
    (fun l a w h hr => hdone l a w h.1 hr)
theorem not_yet {md : Region.Mode} {ops : Array Oper} {listed : Array Bool} {i : Nat} (h : i ∈ Region.ready md ops listed) : ¬ listed.getD i false = true := by
  have h1 := ready_false h
  rw [Array.getElem?_toList] at h1
  rw [Array.getD_eq_getD_getElem?, h1]
  simp
theorem start_no {n i : Nat} (h : (Array.replicate n false).getD i false = true) : False := by
  rw [Array.getD_eq_getD_getElem?, Array.getElem?_replicate] at h
  split at h <;> simp at h
theorem getD_same {l : Array Bool} {i : Nat} (h : i < l.size) : (l.setIfInBounds i true).getD i false = true := by
  simp [Array.getD_eq_getD_getElem?, h]

section
variable {P : Program} {Q : Exit → Act → World → Prop} {o : Oper} {a : Act} {w : World} {K : Act → World → Prop}
theorem wp_fcall_v {c : Call} (f : FuncId) (args : Array Value) (ho : o.op = .call c) (hc : c.callee = .value (.func f)) (ha : c.args.toList.map a.eval = args.toList) (hr : (callFunc f args).run P w = .ok (.enter f args) w) (h : Calls P f args w fun e w' => ∃ v, e = .returned v ∧ K (a.put o.dst v) w') : Oper.wp P o a w K Q := by
  have h2 : c.args.map a.eval = args := by
    apply Array.toList_inj.1
    rw [Array.toList_map]
    exact ha
  refine wp_fcall f args ?_ h
  unfold execOp
  simp only [ho, resolve, hc, Act.eval, Deferred.ofValue, h2, Sem.run_bind, Sem.run_pure, Result.andThen_ok, invoke, Array.append_empty, Array.empty_append]
  exact hr
end


section
variable {P : Program} {Q : Exit → Act → World → Prop} {o : Oper} {a : Act} {w : World} {K : Act → World → Prop}
/-- A slice literal of one-cell elements. -/
theorem wp_build1 (t e : TypeId) (len : Nat) (parts : Array (Nat × Operand)) (vs : List Value) (ho : o.op = .buildSlice t len parts)
    (hu : P.underlying t = some (.slice e)) (hsz : (P.info? e).map (·.size) = some 1) (hz : ((P.info? e).bind (·.zero)).isSome = true)
    (hlen : len = vs.length) (hpos : 0 < len) (hsmall : len ≤ 2 ^ 24) (hone : ∀ v ∈ vs, v.cells = #[v])
    (hp : (parts.toList.map fun (i, x) => (i, a.eval x)) = (vs.zipIdx 0).map fun x => (x.2, x.1))
    (h : K (a.put o.dst (.slice (some ⟨w.heap.size, 0, none⟩) len len)) (w.alloc (.cells vs.toArray e))) : Oper.wp P o a w K Q := by
  cases hie : P.info? e with
  | none => simp [hie] at hsz
  | some ie =>
    simp only [hie, Option.map_some, Option.some.injEq, Option.bind_some] at hsz hz
    obtain ⟨z, hzz⟩ := Option.isSome_iff_exists.1 hz
    refine wp_buildSlice t e len parts ho _ ie z hu hie hzz (by rw [hsz]; omega) (by rw [hsz]; omega) ?_ h
    rw [Array.toList_map, hp, hsz]
    exact Great.fill_flat _ _ hone (by simp [hlen])
/-- A whole array behind a pointer, as a slice. -/
theorem wp_slice_all (t e : TypeId) (n : Nat) (x : Operand) (b f : Nat) (ho : o.op = .slice t x none none none) (hx : a.eval x = .pointer (some ⟨b, f, none⟩))
    (hu : P.underlying t = some (.array n e)) (hs : (P.info? e).map (·.size) = some 1) (h : K (a.put o.dst (.slice (some ⟨b, f, none⟩) n n)) w) : Oper.wp P o a w K Q := by
  cases hq : P.info? e with
  | none => simp [hq] at hs
  | some i =>
    have h1 : i.size = 1 := by simpa [hq] using hs
    unfold Oper.wp execOp
    simp only [ho, hx]
    simp [Instr.sliceAt, Instr.sureAddr, run_underlying hu, Instr.sliceBounds, sizeOf, typeInfo, hq, Addr.add_mid]
    exact h
end

end Go.Proofs.YtfdgdmehgbmnkaaDoor
