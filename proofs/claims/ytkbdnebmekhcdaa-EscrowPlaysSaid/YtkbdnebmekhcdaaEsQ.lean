/-
  EscrowHeld: laws of the walk; a cut that is told by what it wipes.
-/
import Derived.Test.YtkbdnebmekhcdaaEsO
import Derived.Test.YtkbdnebmekhcdaaTFp
import Derived.Deep.Cut

namespace Go.Proofs.Ytkbdnebmekhcdaa
open Go Go.RowKit Go.Maps
open Wd

def hm (s : St) (t : Nat) : Nat := (fnd s.T (t : Int)).2.1
def hcells (f : Nat → Nat) : List Value := (List.range 64).flatMap fun t => vQ (dgs (f t) 4)
theorem mk64 (w : World) : (Instr.makeSlice 42 (.int .i64 64) (.int .i64 64)).run Try.prog w = .ok (.slice (some ⟨w.heap.size, 0, none⟩) 64 64) (w.alloc (.cells (hcells (fun _ => 0)).toArray 33)) := by kernel_rfl
theorem fm_len (g : Nat → List Value) (h : ∀ t, (g t).length = 4) : ∀ n, ((List.range n).flatMap g).length = 4 * n
  | 0 => rfl
  | n + 1 => by
    rw [List.range_succ, List.flatMap_append, List.length_append, fm_len g h n]
    simp [h]
    omega
theorem fm_get (g : Nat → List Value) (h : ∀ t, (g t).length = 4) : ∀ n j, j < 4 * n → ((List.range n).flatMap g)[j]? = (g (j / 4))[j % 4]?
  | 0, j, hj => by omega
  | n + 1, j, hj => by
    rw [List.range_succ, List.flatMap_append]
    by_cases hn : j < 4 * n
    · rw [List.getElem?_append_left (by rw [fm_len g h]; exact hn)]
      exact fm_get g h n j hn
    · rw [List.getElem?_append_right (by rw [fm_len g h]; omega), fm_len g h]
      simp only [List.flatMap_cons, List.flatMap_nil, List.append_nil]
      rw [show j / 4 = n by omega, show j % 4 = j - 4 * n by omega]
theorem d4 (f : Nat → Nat) : ∀ t, (vQ (dgs (f t) 4)).length = 4 := fun t => by rw [vQ_length, dgs_length]
theorem hcells_len (f : Nat → Nat) : (hcells f).length = 256 := fm_len _ (d4 f) 64
theorem hcells_get (f : Nat → Nat) (j : Nat) (hj : j < 256) : (hcells f)[j]? = (vQ (dgs (f (j / 4)) 4))[j % 4]? := fm_get _ (d4 f) 64 j hj
theorem hcells_at {w : World} {H : Nat} {f : Nat → Nat} {ty : TypeId} (h : Row w H (hcells f) ty) {t : Nat} (ht : t < 64) : w.rangeAt H (t * 4) (vQ (dgs (f t) 4)) := h.range (t * 4) _ (fun j v hv => by
  have hj : j < 4 := by have := (List.getElem?_eq_some_iff.1 hv).1; rwa [d4 f] at this
  rw [hcells_get f _ (by omega), show (t * 4 + j) / 4 = t by omega, show (t * 4 + j) % 4 = j by omega]
  exact hv)
/-- A function, with another value at t. -/
def upn (f : Nat → Nat) (t v : Nat) : Nat → Nat := fun y => if y = t then v else f y
theorem hcells_set (f : Nat → Nat) {t : Nat} (ht : t < 64) (v : Nat) : (hcells f).take (t * 4) ++ vQ (dgs v 4) ++ (hcells f).drop (t * 4 + (vQ (dgs v 4)).length) = hcells (upn f t v) := by
  have l4 : (vQ (dgs v 4)).length = 4 := by rw [vQ_length, dgs_length]
  have lt : ((hcells f).take (t * 4)).length = t * 4 := by rw [List.length_take, hcells_len]; omega
  rw [l4]
  refine List.ext_getElem? fun j => ?_
  by_cases hj : j < 256
  · rw [hcells_get (upn f t v) j hj]
    unfold upn
    by_cases h1 : j < t * 4
    · rw [List.append_assoc, List.getElem?_append_left (by rw [lt]; exact h1), List.getElem?_take_of_lt h1, hcells_get f j hj, if_neg (by omega)]
    · by_cases h2 : j < t * 4 + 4
      · rw [List.append_assoc, List.getElem?_append_right (by rw [lt]; omega), lt, List.getElem?_append_left (by rw [l4]; omega), if_pos (by omega), show j % 4 = j - t * 4 by omega]
      · rw [List.getElem?_append_right (by rw [List.length_append, lt, l4]; omega), List.length_append, lt, l4, List.getElem?_drop, show t * 4 + 4 + (j - (t * 4 + 4)) = j by omega, hcells_get f j hj, if_neg (by omega)]
  · rw [List.getElem?_eq_none (by simp only [List.length_append, List.length_drop, lt, l4, hcells_len]; omega), List.getElem?_eq_none (by rw [hcells_len]; omega)]
theorem upn_same (f g : Nat → Nat) (h : ∀ t, t < 64 → f t = g t) : hcells f = hcells g := by
  unfold hcells
  have : ∀ l : List Nat, (∀ t ∈ l, t < 64) → l.flatMap (fun t => vQ (dgs (f t) 4)) = l.flatMap (fun t => vQ (dgs (g t) 4)) := fun l hl => by
    induction l with
    | nil => rfl
    | cons a r ih =>
      simp only [List.flatMap_cons]
      rw [h a (hl a List.mem_cons_self), ih fun t ht => hl t (List.mem_cons_of_mem _ ht)]
  exact this _ fun t ht => List.mem_range.1 ht

/-! ### what a step does to what is held, to what is locked -/
theorem hm_eq (s : St) (t : Nat) (ht : t < 64) : hm s t = ((s.T (t : Int)).map (·.2)).getD 0 := by
  unfold hm fnd
  rw [if_neg (by omega)]
  cases s.T (t : Int) <;> rfl
theorem hm_upd (s : St) (x : Int) (q : Bool × Nat) (U : Int → BitVec 64) (L t : Nat) (ht : t < 64) : hm ⟨upd s.T x (some q), U, L⟩ t = if (t : Int) = x then q.2 else hm s t := by
  rw [hm_eq _ _ ht]
  by_cases h : (t : Int) = x
  · rw [if_pos h, h]
    show ((upd s.T x (some q) x).map (·.2)).getD 0 = q.2
    rw [upd_at]; rfl
  · rw [if_neg h, hm_eq _ _ ht]
    show ((upd s.T x (some q) (t : Int)).map (·.2)).getD 0 = _
    rw [upd_ne _ _ h]
theorem hm_fnd {s : St} {x : Int} {s1 : Bool} {h1 : Nat} {E : Int} (h0 : 0 ≤ x) (hf : fnd s.T x = (s1, h1, E)) : hm s x.toNat = h1 := by
  unfold hm
  rw [show ((x.toNat : Nat) : Int) = x by omega, hf]
/-- What stays where the token's amount is laid as it was. -/
theorem hm_keep {s : St} {x : Int} {s1 b : Bool} {h1 : Nat} {E : Int} (h0 : 0 ≤ x) (h6 : x < 64) (hf : fnd s.T x = (s1, h1, E)) (U : Int → BitVec 64) (L t : Nat) (ht : t < 64) : hm ⟨upd s.T x (some (b, h1)), U, L⟩ t = hm s t := by
  rw [hm_upd _ _ _ _ _ _ ht]
  by_cases h : (t : Int) = x
  · rw [if_pos h]
    have := hm_fnd h0 hf
    rw [show x.toNat = t by omega] at this
    exact this.symm
  · rw [if_neg h]
theorem hm_put {s : St} {x : Int} (h0 : 0 ≤ x) (b : Bool) (v : Nat) (U : Int → BitVec 64) (L t : Nat) (ht : t < 64) : hm ⟨upd s.T x (some (b, v)), U, L⟩ t = upn (hm s) x.toNat v t := by
  rw [hm_upd _ _ _ _ _ _ ht]
  unfold upn
  by_cases h : (t : Int) = x
  · rw [if_pos h, if_pos (by omega)]
  · rw [if_neg h, if_neg (by omega)]
/-- What a step does to what is held and locked. -/
inductive Hd (s s' : St) (k : Int) (r : Stv) (E : Int) : Prop
  | no (h : E ≠ 0) (e : s' = s)
  | dep (h : E = 0) (hk : k = 3) (h0 : 0 ≤ r.tk) (h6 : r.tk < 64) (he : addE (hm s r.tk.toNat) r.m = 0) (hs : ∀ t, t < 64 → hm s' t = upn (hm s) r.tk.toNat (addR (hm s r.tk.toNat) r.m) t) (hl : s'.L = s.L)
  | pay (h : E = 0) (hk : k = 4) (h0 : 0 ≤ r.tk) (h6 : r.tk < 64) (he : subE (hm s r.tk.toNat) r.m = 0) (hs : ∀ t, t < 64 → hm s' t = upn (hm s) r.tk.toNat (subR (hm s r.tk.toNat) r.m) t) (hl : s'.L = s.L)
  | lock (h : E = 0) (hk : k = 5) (he : addE s.L r.m = 0) (hs : ∀ t, t < 64 → hm s' t = hm s t) (hl : s'.L = addR s.L r.m)
  | free (h : E = 0) (hk : k = 6) (he : subE s.L r.m = 0) (hs : ∀ t, t < 64 → hm s' t = hm s t) (hl : s'.L = subR s.L r.m)
  | other (h : E = 0) (h3 : k ≠ 3) (h4 : k ≠ 4) (h5 : k ≠ 5) (h6 : k ≠ 6) (hs : ∀ t, t < 64 → hm s' t = hm s t) (hl : s'.L = s.L)
theorem Hd.nope {s : St} {k : Int} {r : Stv} (E : Int) (h : E ≠ 0) : Hd s s k r E := .no h rfl
theorem hd_list {s : St} {k : Int} {r : Stv} (hk : k ≠ 3 ∧ k ≠ 4 ∧ k ≠ 5 ∧ k ≠ 6) : Hd s (sList s r.tk).1 k r (sList s r.tk).2 := by
  obtain ⟨s1, h1, E, hf⟩ : ∃ s1 h1 E, fnd s.T r.tk = (s1, h1, E) := ⟨_, _, _, rfl⟩
  unfold sList
  rw [hf]
  rcases fnd_cases hf with ⟨rfl, _⟩ | ⟨rfl, _, rfl, h0, h6, _⟩ | ⟨rfl, _⟩
  · exact Hd.nope 142 (by decide)
  · exact .other rfl hk.1 hk.2.1 hk.2.2.1 hk.2.2.2 (fun t ht => hm_keep h0 h6 hf _ _ t ht) rfl
  · exact Hd.nope 140 (by decide)
theorem hd_stop {s : St} {k : Int} {r : Stv} (b : Bool) (hk : k ≠ 3 ∧ k ≠ 4 ∧ k ≠ 5 ∧ k ≠ 6) : Hd s (sStop s r.tk b).1 k r (sStop s r.tk b).2 := by
  obtain ⟨s1, h1, E, hf⟩ : ∃ s1 h1 E, fnd s.T r.tk = (s1, h1, E) := ⟨_, _, _, rfl⟩
  unfold sStop
  rw [hf]
  rcases fnd_cases hf with ⟨rfl, h0, h6, _⟩ | ⟨rfl, _⟩ | ⟨rfl, _⟩
  · by_cases h : s1 = b
    · simp only [ne_eq, not_true_eq_false, if_false, h, if_true]
      exact Hd.nope 143 (by decide)
    · simp only [ne_eq, not_true_eq_false, if_false, h]
      exact .other rfl hk.1 hk.2.1 hk.2.2.1 hk.2.2.2 (fun t ht => hm_keep h0 h6 hf _ _ t ht) rfl
  · exact Hd.nope 141 (by decide)
  · exact Hd.nope 140 (by decide)
theorem hd_dep {s : St} {r : Stv} : Hd s (sDep s r.tk r.m).1 3 r (sDep s r.tk r.m).2 := by
  obtain ⟨s1, h1, E, hf⟩ : ∃ s1 h1 E, fnd s.T r.tk = (s1, h1, E) := ⟨_, _, _, rfl⟩
  unfold sDep
  rw [hf]
  rcases fnd_cases hf with ⟨rfl, h0, h6, _⟩ | ⟨rfl, _⟩ | ⟨rfl, _⟩
  · have hh := hm_fnd h0 hf
    cases s1
    · by_cases hm0 : r.m = 0
      · simp only [ne_eq, not_true_eq_false, if_false, Bool.false_eq_true, hm0, if_true]
        exact Hd.nope 144 (by decide)
      · rcases addE_cases h1 r.m with h | h
        · simp only [ne_eq, not_true_eq_false, if_false, Bool.false_eq_true, hm0, h]
          exact .dep rfl rfl h0 h6 (by rw [hh]; exact h) (fun t ht => by rw [hh]; exact hm_put h0 _ _ _ _ t ht) rfl
        · simp only [ne_eq, not_true_eq_false, if_false, Bool.false_eq_true, hm0, h]
          exact Hd.nope 145 (by decide)
    · exact Hd.nope 143 (by decide)
  · exact Hd.nope 141 (by decide)
  · exact Hd.nope 140 (by decide)
theorem hd_pay {s : St} {r : Stv} : Hd s (sPay s r.ix r.tk r.m).1 4 r (sPay s r.ix r.tk r.m).2 := by
  obtain ⟨s1, h1, E, hf⟩ : ∃ s1 h1 E, fnd s.T r.tk = (s1, h1, E) := ⟨_, _, _, rfl⟩
  unfold sPay
  rw [hf]
  by_cases hi : r.ix < 0 ∨ 1099511627776 ≤ r.ix
  · rw [if_pos hi]
    exact Hd.nope 148 (by decide)
  · rw [if_neg hi]
    rcases fnd_cases hf with ⟨rfl, h0, h6, _⟩ | ⟨rfl, _⟩ | ⟨rfl, _⟩
    · have hh := hm_fnd h0 hf
      by_cases hp : paid s.U r.ix = true
      · simp only [ne_eq, not_true_eq_false, if_false, hp, if_true]
        exact Hd.nope 147 (by decide)
      · rcases subE_cases h1 r.m with h | h
        · simp only [ne_eq, not_true_eq_false, if_false, hp, h]
          exact .pay rfl rfl h0 h6 (by rw [hh]; exact h) (fun t ht => by rw [hh]; exact hm_put h0 _ _ _ _ t ht) rfl
        · simp only [ne_eq, not_true_eq_false, if_false, hp, h]
          exact Hd.nope 146 (by decide)
    · exact Hd.nope 141 (by decide)
    · exact Hd.nope 140 (by decide)
theorem hd_act (s : St) (k : Int) (r : Stv) : Hd s (act s k r).1 k r (act s k r).2 := by
  unfold act
  by_cases h0 : k = 0
  · subst h0; exact hd_list (by decide)
  rw [if_neg h0]
  by_cases h1 : k = 1
  · subst h1; exact hd_stop true (by decide)
  rw [if_neg h1]
  by_cases h2 : k = 2
  · subst h2; exact hd_stop false (by decide)
  rw [if_neg h2]
  by_cases h3 : k = 3
  · subst h3; exact hd_dep
  rw [if_neg h3]
  by_cases h4 : k = 4
  · subst h4; exact hd_pay
  rw [if_neg h4]
  by_cases h5 : k = 5
  · subst h5
    show Hd s (sLock s r.m).1 5 r (sLock s r.m).2
    unfold sLock
    rcases addE_cases s.L r.m with h | h
    · rw [h]; exact .lock rfl rfl h (fun _ _ => rfl) rfl
    · rw [h]; exact Hd.nope 145 (by decide)
  rw [if_neg h5]
  by_cases h6 : k = 6
  · subst h6
    show Hd s (sFree s r.m).1 6 r (sFree s r.m).2
    unfold sFree
    rcases subE_cases s.L r.m with h | h
    · rw [h]; exact .free rfl rfl h (fun _ _ => rfl) rfl
    · rw [h]; exact Hd.nope 149 (by decide)
  rw [if_neg h6]
  exact .other rfl h3 h4 h5 h6 (fun _ _ => rfl) rfl
end Go.Proofs.Ytkbdnebmekhcdaa

namespace Go.Proofs.Ytkbdnebmekhcdaa
open Go Go.RowKit Go.Maps
open Wd

/-- What may be written is struck. -/
def wipeL : List Value → List Bool → List Value
  | v :: r, b :: bs => (bif b then undef else v) :: wipeL r bs
  | l, [] => l
  | [], _ => []
/-- What may be written is whatever f tells. -/
def overL : List Value → List Bool → Nat → (Nat → Value) → List Value
  | v :: r, b :: bs, k, f => (bif b then f k else v) :: overL r bs (k + 1) f
  | l, [], _, _ => l
  | [], _, _, _ => []
theorem over_eq : ∀ (bs : List Bool) (l l' : List Value) (k0 : Nat) (f : Nat → Value), l'.length = l.length → (∀ k, f (k0 + k) = l'.getD k undef) → wipeL l' bs = wipeL l bs → l' = overL l bs k0 f
  | [], [], [], _, _, _, _, _ => rfl
  | [], [], _ :: _, _, _, hl, _, _ => by simp at hl
  | [], _ :: _, [], _, _, hl, _, _ => by simp at hl
  | [], _ :: _, _ :: _, _, _, _, _, h => h
  | b :: bs, [], l', _, _, hl, _, _ => by
    cases l' with
    | nil => rfl
    | cons _ _ => simp at hl
  | b :: bs, v :: r, [], _, _, hl, _, _ => by simp at hl
  | b :: bs, v :: r, v' :: r', k0, f, hl, hf, h => by
    simp only [wipeL, List.cons.injEq] at h
    have ih := over_eq bs r r' (k0 + 1) f (by simpa using hl) (fun k => by rw [show k0 + 1 + k = k0 + (k + 1) by omega, hf (k + 1)]; rfl) h.2
    have h0 : f k0 = v' := hf 0
    simp only [overL, List.cons.injEq]
    refine ⟨?_, ih⟩
    cases b
    · simpa using h.1
    · simpa using h0.symm
theorem wp_cutW (bs : List Bool) {P : Program} {s : Code} {K : Act → World → Prop} {Q' : Exit → Act → World → Prop} {l : List Value} {d : List Deferred} {w : World} (Pw : World → Prop)
    (rest : ∀ (f : Nat → Value) (w' : World), Pw w' → K ⟨(overL l bs 0 f).toArray, d⟩ w')
    (first : ∀ K' : Act → World → Prop, (∀ (l' : List Value) (w' : World), wipeL l' bs = wipeL l bs → l'.length = l.length → Pw w' → K' ⟨l'.toArray, d⟩ w') → s.wp P (Exit.then K' Q') ⟨l.toArray, d⟩ w) : s.wp P (Exit.then K Q') ⟨l.toArray, d⟩ w := by
  refine wp_mono (first (fun a' w' => ∃ l' : List Value, a' = ⟨l'.toArray, d⟩ ∧ wipeL l' bs = wipeL l bs ∧ l'.length = l.length ∧ Pw w') (fun l' w' h1 h2 h3 => ⟨l', rfl, h1, h2, h3⟩)) ?_
  intro e a' w' hq
  cases e with
  | normal =>
    obtain ⟨l', rfl, h1, h2, h3⟩ := hq
    rw [over_eq bs l l' 0 (fun k => l'.getD k undef) h2 (fun k => by rw [Nat.zero_add]) h1]
    exact rest _ w' h3
  | exit id => exact hq
  | goto l => exact hq
  | ret => exact hq
  | panic ch => exact hq
  | outgrown => exact hq

section
variable {P : Program} {Q : Exit → Act → World → Prop} {o : Oper} {a : Act} {w : World} {K : Act → World → Prop}
theorem wp_ixs (T e : TypeId) {x y : Operand} (ho : o.op = .indexAddr T x y) (b f n c t s : Nat) (hx : a.eval x = .slice (some ⟨b, f, none⟩) n c) (hy : a.eval y = .int .i64 (t : Int)) (ht : t < n)
    (hu : P.underlying T = some (.slice e)) (hs : (P.info? e).map (·.size) = some s) (h : K (a.put o.dst (.pointer (some ⟨b, f + t * s, none⟩))) w) : Oper.wp P o a w K Q := by
  refine wp_pure (v := .pointer (some ⟨b, f + t * s, none⟩)) ?_ h
  have hr : (Instr.indexAt T (.slice (some ⟨b, f, none⟩) n c) (.int .i64 (t : Int))).run P w = .ok (.pointer (some ⟨b, f + t * s, none⟩)) w := by
    cases hi : P.info? e with
    | none => rw [hi] at hs; cases hs
    | some ie =>
      rw [hi] at hs
      have h4 : ie.size = s := by simpa using hs
      simp [Instr.indexAt, run_underlying hu, asIntOf, ht, sizeOf, typeInfo, hi, h4, Addr.add_mid]
  unfold execOp
  simp only [ho, hx, hy, Sem.run_bind, hr, Result.andThen_ok]
  rfl
theorem wp_load_1 {ty : TypeId} {x : Operand} (b f : Nat) (v : Value) (ho : o.op = .load ty x) (hx : a.eval x = .pointer (some ⟨b, f, none⟩)) (hr : (loadVar ty ⟨b, f, none⟩).run P w = .ok v w) (h : K (a.put o.dst v) w) : Oper.wp P o a w K Q := by
  unfold Oper.wp execOp
  simp only [ho, hx, Instr.loadAt, Instr.sureAddr, Sem.run_bind, Sem.run_pure, Result.andThen_ok, hr, Oper.upon_value]
  exact h
end
section
variable {P : Program} {ops : Array Oper} {rest : List Oper} {op : Oper} {a : Act} {w : World} {Q : Exit → Act → World → Prop}
theorem wpList_ixs (T e : TypeId) (x y : Operand) (ho : op.op = .indexAddr T x y) (b f n c t s : Nat) (hx : a.eval x = .slice (some ⟨b, f, none⟩) n c) (hy : a.eval y = .int .i64 (t : Int)) (ht : t < n)
    (hu : P.underlying T = some (.slice e)) (hs : (P.info? e).map (·.size) = some s) (hw : Region.wanted op (yielded ops a.tmps) = true) (h : wpList P ops Q rest (a.put op.dst (.pointer (some ⟨b, f + t * s, none⟩))) w) : wpList P ops Q (op :: rest) a w :=
  BigFrame.wpList_want hw fun _ hK => wp_ixs T e ho b f n c t s hx hy ht hu hs (hK _ _ h)
end
theorem run_load_in (w : World) (b f : Nat) (v : Value) (h : w.cell? ⟨b, f, none⟩ = some v) : (loadVar 3 ⟨b, f, none⟩).run Try.prog w = .ok v w := by
  simp [loadVar, isAgg, run_underlying Try.underlying3, h]
section
variable {Q : Exit → Act → World → Prop} {o : Oper} {a : Act} {w : World} {K : Act → World → Prop}
theorem wp_sf1 {x : Operand} (b f : Nat) (ho : o.op = .fieldAddr 35 x 1) (hx : a.eval x = .pointer (some ⟨b, f, none⟩)) (h : K (a.put o.dst (.pointer (some ⟨b, f + 1, none⟩))) w) : Oper.wp Try.prog o a w K Q := by
  obtain ⟨dst, op, ty, pos, after, guard⟩ := o
  simp only at ho
  subst ho
  unfold Oper.wp execOp
  simp only [hx]
  go_simp
  exact h
theorem wp_sf2 {x : Operand} (b f : Nat) (ho : o.op = .fieldAddr 35 x 2) (hx : a.eval x = .pointer (some ⟨b, f, none⟩)) (h : K (a.put o.dst (.pointer (some ⟨b, f + 2, none⟩))) w) : Oper.wp Try.prog o a w K Q := by
  obtain ⟨dst, op, ty, pos, after, guard⟩ := o
  simp only at ho
  subst ho
  unfold Oper.wp execOp
  simp only [hx]
  go_simp
  exact h
theorem wp_sf4 {x : Operand} (b f : Nat) (ho : o.op = .fieldAddr 35 x 4) (hx : a.eval x = .pointer (some ⟨b, f, none⟩)) (h : K (a.put o.dst (.pointer (some ⟨b, f + 4, none⟩))) w) : Oper.wp Try.prog o a w K Q := by
  obtain ⟨dst, op, ty, pos, after, guard⟩ := o
  simp only at ho
  subst ho
  unfold Oper.wp execOp
  simp only [hx]
  go_simp
  exact h
theorem wp_neq_c (x y : Operand) (yt : TypeId) (ho : o.op = .binOp .neq 33 x y yt) {c : List Value} {m : Nat} (Hc : Wc c m) (hx : a.eval x = .agg c.toArray) (hy : a.eval y = .agg c.toArray)
    (h : K (a.put o.dst (.bool false)) w) : Oper.wp Try.prog o a w K Q := by
  have hr := run_neq_w w (dgs m 4) (dgs m 4) (dgs_length _ _) (dgs_length _ _)
  rw [Hc] at hx hy
  unfold Oper.wp execOp
  simp only [ho, hx, hy, Sem.run_bind, run_eqGuard_agg w .neq _ x y _ _ guard_wide, Result.andThen_ok, hr, Sem.run_pure, Oper.upon_value]
  simpa using h
end
theorem und_Ws : Try.prog.underlying 42 = some (.slice 33) := by kernel_rfl
theorem und_Ss : Try.prog.underlying 22 = some (.slice 35) := by kernel_rfl
theorem info_S : (Try.prog.info? 35).map (·.size) = some 8 := by kernel_rfl
theorem wpList_mk64 {ops : Array Oper} {rest : List Oper} {op : Oper} {a : Act} {w : World} {Q : Exit → Act → World → Prop} (hgd : op.guard = none) (ho : op.op = .makeSlice 42 (.const (.int .i64 64)) (.const (.int .i64 64)))
    (h : ∀ X, Row X w.heap.size (hcells fun _ => 0) 33 → Below w.heap.size w X → wpList Try.prog ops Q rest (a.put op.dst (.slice (some ⟨w.heap.size, 0, none⟩) 64 64)) X) : wpList Try.prog ops Q (op :: rest) a w :=
  wpList_plain hgd fun _ hK => by
    unfold Oper.wp execOp
    simp only [ho, Act.eval, Sem.run_bind, mk64, Result.andThen_ok, Sem.run_pure, Oper.upon_value]
    exact hK _ _ (h _ (Row.new' rfl rfl) ((Below.refl _ _).alloc (Nat.le_refl _) _))
theorem changing_l {w0 w : World} {p c : Nat} {s s' : St} {E : Int} (h : Vl w0 w p c s) (hc : c + 1 < maxLen) (r : Stv) (hr : r.Ok) {k : Int} (hk : pk r.kd 11 = k) (hs : act s k r = (s', E)) :
    Calls Try.prog 12 #[.pointer (some ⟨p, 0, none⟩), .agg r.cells.toArray] w fun e w' => e = .returned (.tuple #[.bool (decide (k < 7)), .int .i64 E]) ∧ Vl w0 w' p (c + 2) s' ∧ Kq p w w' := by
  obtain ⟨m1, m2, hV, hl⟩ := h
  have h9 := changing_any hV hc r hr
  rw [hk, hs] at h9
  exact h9.mono fun e w' hC => ⟨hC.1, (Vl.call hV hl (r := (s', E)) (e := .returned (.int .i64 E)) ⟨rfl, hC.2⟩).2⟩

end Go.Proofs.Ytkbdnebmekhcdaa
