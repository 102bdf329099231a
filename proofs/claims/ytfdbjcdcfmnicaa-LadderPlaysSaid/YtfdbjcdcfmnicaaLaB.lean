/-
  the ladder: a list that is owned and may be cut at its front.
-/
import Derived.Test.YtfdbjcdcfmnicaaLaA
import Derived.Laws.AppendOwnNone
namespace Go.Proofs.Ytfdbjcdcfmnicaa
open Go Go.RowKit
open Sha

/-- A list that is owned, wherever in its block it begins. -/
def Lo (w : World) (e : TypeId) (s : Nat) (v : Value) (n : Nat) (xs : List Value) : Prop :=
  xs.length = n * s ∧ ((v = .slice none 0 0 ∧ n = 0) ∨ ∃ g o cap cs, v = .slice (some ⟨g, o, none⟩) n cap ∧ Row w g cs e ∧ n ≤ cap ∧ cap ≤ maxLen ∧ o + cap * s ≤ cs.length ∧ (cs.drop o).take (n * s) = xs)
section
variable {w w' : World} {v : Value} {e : TypeId} {s n : Nat} {xs : List Value}
theorem Lo.of (h : Lw w e s v n xs) : Lo w e s v n xs := by
  obtain ⟨h1, h2⟩ := h
  refine ⟨h1, ?_⟩
  rcases h2 with h2 | ⟨g, cap, cur, hv, _, hh, hc, hm, hs, ht⟩
  · exact .inl h2
  · exact .inr ⟨g, 0, cap, cur.toList, hv, by unfold Row; rw [hh], hc, hm, by rw [Array.length_toList, hs, Nat.zero_add]; exact Nat.le_refl _, by rw [List.drop_zero]; exact ht⟩
theorem Lo.len (h : Lo w e s v n xs) : xs.length = n * s := h.1
theorem Lo.nil (w : World) (e : TypeId) (s : Nat) : Lo w e s (.slice none 0 0) 0 [] := ⟨by simp, .inl ⟨rfl, rfl⟩⟩
theorem Lo.lt (h : Lo w e s v n xs) : ∀ g, v.ownBlock = some g → g < w.heap.size := fun g eg => by
  obtain ⟨_, h2⟩ := h
  rcases h2 with ⟨h2, _⟩ | ⟨g', o, cap, cs, hv, hr, _⟩
  · rw [h2] at eg; cases eg
  · rw [hv] at eg
    obtain rfl : g' = g := by simpa [Value.ownBlock] using eg
    exact hr.lt
theorem Lo.block (h : Lo w e s v n xs) (k : ∀ g, v.ownBlock = some g → w'.heap[g]? = w.heap[g]?) : Lo w' e s v n xs := by
  obtain ⟨h1, h2⟩ := h
  refine ⟨h1, ?_⟩
  rcases h2 with h2 | ⟨g, o, cap, cs, hv, hr, rest⟩
  · exact .inl h2
  · exact .inr ⟨g, o, cap, cs, hv, (k g (by rw [hv]; rfl)).trans hr, rest⟩
theorem Lo.be (h : Lo w e s v n xs) (k : Below w.heap.size w w') : Lo w' e s v n xs := Lo.block h fun g e => k.block g (Lo.lt h g e)
theorem Lo.gro {R : Nat → Prop} (h : Lo w e s v n xs) (k : Gro R w w') (hR : ∀ g, v.ownBlock = some g → ¬ R g) : Lo w' e s v n xs := Lo.block h fun g e => k.block g (Lo.lt h g e) (hR g e)
theorem Lo.ne {b : Nat} {cs : List Value} {t : TypeId} (h : Lo w e s v n xs) (r : Row w b cs t) (ht : t ≠ e) : ∀ g, v.ownBlock = some g → g ≠ b := fun g eg q => by
  subst q
  obtain ⟨_, h2⟩ := h
  rcases h2 with ⟨h2, _⟩ | ⟨g', o, cap, cs', hv, hr, _⟩
  · rw [h2] at eg; cases eg
  · rw [hv] at eg
    obtain rfl : g' = g := by simpa [Value.ownBlock] using eg
    have := (show w.heap[g']? = _ from hr).symm.trans r
    simp only [Option.some.injEq, Obj.cells.injEq] at this
    exact ht this.2.1.symm
theorem Lo.form (h : Lo w e s v n xs) : ∃ A cap, v = .slice A n cap ∧ n ≤ cap ∧ (A = none → n = 0 ∧ cap = 0) ∧ ∀ ad, A = some ad → ∃ g o, ad = ⟨g, o, none⟩ ∧ w.rangeAt g o xs := by
  obtain ⟨h1, h2⟩ := h
  rcases h2 with ⟨h2, h3⟩ | ⟨g, o, cap, cs, hv, hr, hc, hm, hl, ht⟩
  · exact ⟨none, 0, by rw [h2, h3], by rw [h3]; exact Nat.le_refl _, fun _ => ⟨h3, rfl⟩, fun _ q => by cases q⟩
  · refine ⟨_, cap, hv, hc, (fun q => by cases q), fun ad q => ⟨g, o, (Option.some.inj q).symm, ?_⟩⟩
    refine hr.range o xs fun j u hj => ?_
    rw [← ht] at hj
    have hj2 : j < n * s := by have := (List.getElem?_eq_some_iff.1 hj).1; rw [List.length_take] at this; omega
    rw [List.getElem?_take_of_lt hj2, List.getElem?_drop] at hj
    exact hj
/-- The list, opened, where it is not empty. -/
theorem Lo.open (h : Lo w e s v n xs) (hn : 0 < n) : ∃ g o cap cs, v = .slice (some ⟨g, o, none⟩) n cap ∧ Row w g cs e ∧ n ≤ cap ∧ cap ≤ maxLen ∧ o + cap * s ≤ cs.length ∧ (cs.drop o).take (n * s) = xs := by
  rcases h.2 with ⟨_, h3⟩ | h2
  · omega
  · exact h2
/-- Cut at its end. -/
theorem Lo.to (h : Lo w e s v n xs) {m : Nat} (hm : m ≤ n) {A : Option Addr} {cap : Nat} (hv : v = .slice A n cap) : Lo w e s (.slice A m cap) m (xs.take (m * s)) := by
  have hl := h.1
  have hms : m * s ≤ n * s := Nat.mul_le_mul_right s hm
  refine ⟨by rw [List.length_take]; omega, ?_⟩
  rcases h.2 with ⟨h2, h3⟩ | ⟨g, o, cap', cs, hv', hr, hc, hx, hl', ht⟩
  · rw [hv] at h2; cases h2; exact .inl ⟨by rw [show m = 0 by omega], by omega⟩
  · rw [hv] at hv'
    obtain ⟨rfl, rfl⟩ : A = some ⟨g, o, none⟩ ∧ cap = cap' := by simpa using hv'
    refine .inr ⟨g, o, cap, cs, rfl, hr, by omega, hx, hl', ?_⟩
    rw [← ht, List.take_take, Nat.min_eq_left hms]
/-- Cut at its front. -/
theorem Lo.from (h : Lo w e s v n xs) {m : Nat} (hm : m ≤ n) {g o cap : Nat} (hv : v = .slice (some ⟨g, o, none⟩) n cap) (o' : Nat) (ho : o' = o ∧ cap = m ∨ o' = o + m * s ∧ cap ≠ m) : Lo w e s (.slice (some ⟨g, o', none⟩) (n - m) (cap - m)) (n - m) (xs.drop (m * s)) := by
  have hl := h.1
  refine ⟨by rw [List.length_drop, hl, Nat.sub_mul], ?_⟩
  rcases h.2 with ⟨h2, h3⟩ | ⟨g', of', cap', cs, hv', hr, hc, hx, hl', ht⟩
  · rw [hv] at h2; cases h2
  · rw [hv] at hv'
    obtain ⟨⟨rfl, rfl⟩, rfl⟩ : (g = g' ∧ o = of') ∧ cap = cap' := by simpa using hv'
    refine .inr ⟨g, o', cap - m, cs, rfl, hr, by omega, by omega, ?_, ?_⟩
    · rcases ho with ⟨rfl, rfl⟩ | ⟨rfl, _⟩
      · rw [Nat.sub_self, Nat.zero_mul, Nat.add_zero]; omega
      · have : (cap - m) * s + m * s = cap * s := by rw [← Nat.add_mul]; congr 1; omega
        omega
    · rcases ho with ⟨rfl, rfl⟩ | ⟨rfl, _⟩
      · obtain rfl : n = cap := by omega
        rw [Nat.sub_self, Nat.zero_mul, List.take_zero, List.drop_eq_nil_of_le (by omega)]
      · have e1 : (n - m) * s + m * s = n * s := by rw [← Nat.add_mul]; congr 1; omega
        rw [← ht, List.drop_take, List.drop_drop]
        congr 1
        omega
end
/-- The same block, or a new one. -/
def Nv (w : World) (v v' : Value) : Prop := v'.ownBlock = v.ownBlock ∨ ∀ g, v'.ownBlock = some g → w.heap.size ≤ g
/-- append onto such a list. -/
theorem run_appLo {P : Program} (w : World) (t ty e : TypeId) (sz bt : Nat) (hu : P.underlying t = some (.slice e)) (hi : ∃ ie z, P.info? e = some ie ∧ ie.zero = some z ∧ ie.size = sz ∧ ie.bytes = bt ∧ z.cells.size = sz) (h0 : 0 < sz) (v : Value) (n : Nat) (xs : List Value) (h : Lo w e sz v n xs)
    (ad : Addr) (m c : Nat) (news : List Value) (hl : news.length = m * sz) (hnews : ∀ j u, news[j]? = some u → w.cell? (ad.add j) = some u) (h1 : ∀ u ∈ news, u.oneCell' = true) (h63 : n + m ≤ maxLen) (hbytes : (n + m) * bt ≤ 140737488355328) :
    ∃ v' w', (Builtin.append_ #[t, t] ty #[v, .slice (some ad) m c]).run P w = .ok v' w' ∧ Lo w' e sz v' (n + m) (xs ++ news) ∧ w.grownBy w' v.ownBlock ∧ Nv w v v' := by
  obtain ⟨ie, z, i1, i2, i3, i5, i4⟩ := hi
  rcases h.2 with ⟨h2, h3⟩ | ⟨g, o, cap, cs, hv, hr, hc, hm, hlc, ht⟩
  · subst h3
    have hxs : xs = [] := List.length_eq_zero_iff.1 (by rw [h.1, Nat.zero_mul])
    subst hxs h2
    obtain ⟨v', w', q1, q2, q3, _, q5⟩ := run_append_own_at (P := P) w 0 t ty e ie z sz bt hu i1 i2 i3 i5 i4 h0 (.slice none 0 0) 0 [] (Lw.nil w e sz) ad m c news hl hnews h1 h63 hbytes (Nat.zero_le _)
    exact ⟨v', w', q1, Lo.of q2, q3, q5.imp id (fun q g eg => by rw [q] at eg; cases eg; exact Nat.le_refl _)⟩
  · subst hv
    have hrange : w.rangeAt g o xs := by
      obtain ⟨A, cap', e1, _, _, q⟩ := h.form
      obtain ⟨rfl, rfl⟩ : some (⟨g, o, none⟩ : Addr) = A ∧ cap = cap' := by simpa using e1
      obtain ⟨g', o', e2, q2⟩ := q _ rfl
      obtain ⟨rfl, rfl⟩ : g = g' ∧ o = o' := by simpa using e2
      exact q2
    by_cases hroom : n + m ≤ cap
    · subst i3
      have hns : n * ie.size + news.length ≤ cap * ie.size := by rw [hl, ← Nat.add_mul]; exact Nat.mul_le_mul_right _ hroom
      have th := hr.there (o + n * ie.size) news.length (by omega)
      have hrun := run_append_room_cells (P := P) w t ty e ie hu i1 g o n cap ad m c news hl hnews h1 hroom (fun j hj => (th j hj).1) (fun j hj => (th j hj).2)
      have hgs := gro_setsL w g (o + n * ie.size) news
      have hl2 : n * ie.size ≤ cap * ie.size := by omega
      refine ⟨_, _, hrun, ⟨by rw [List.length_append, h.1, hl, Nat.add_mul], .inr ⟨g, o, cap, _, rfl, Row.setCells (o + n * ie.size) news hr (by omega), hroom, hm, ?_, ?_⟩⟩, ⟨hgs.os, hgs.tape, hgs.output, hgs.size, fun k hk hne => hgs.block k hk (fun q => hne (by rw [q]; rfl))⟩, .inl rfl⟩
      · simp only [List.length_append, List.length_take, List.length_drop]; omega
      · have e1 : (cs.take (o + n * ie.size) ++ news ++ cs.drop (o + n * ie.size + news.length)).drop o = xs ++ (news ++ cs.drop (o + n * ie.size + news.length)) := by
          rw [List.append_assoc, List.drop_append_of_le_length (by rw [List.length_take]; omega), List.drop_take, show o + n * ie.size - o = n * ie.size by omega, ht]
        rw [e1, ← List.append_assoc, List.take_append_of_le_length (by rw [List.length_append, h.1, hl, Nat.add_mul]; exact Nat.le_refl _), List.take_of_length_le (by rw [List.length_append, h.1, hl, Nat.add_mul]; exact Nat.le_refl _)]
    · obtain ⟨v', w', q1, q2, q3⟩ := run_append_arg_grows (P := P) w t ty e ie z sz bt hu i1 i2 i3 i5 i4 h0 ⟨g, o, none⟩ n cap xs h.1 (fun j u hj => by rw [Addr.add_mid]; exact hrange j u hj) ad m c news hl hnews (by omega) h63 hbytes
      refine ⟨v', w', q1, ?_, ⟨q3.os, q3.tape, q3.output, q3.size, fun k hk _ => q3.block k hk (fun q => by cases q)⟩, ?_⟩
      · exact Lo.of ⟨q2.1, q2.2.imp id (fun ⟨g, cap, cur, a1, a2, a3⟩ => ⟨g, cap, cur, a1, Nat.zero_le _, a3⟩)⟩
      · refine .inr fun g' eg => ?_
        rcases q2.2 with ⟨a1, a2⟩ | ⟨g2, cap', cur, a1, a2, a3, _⟩
        · rw [a1] at eg; cases eg
        · rw [a1] at eg
          obtain rfl : g2 = g' := by simpa [Value.ownBlock] using eg
          exact a2
section
variable {Q : Exit → Act → World → Prop} {o : Oper} {a : Act} {w : World} {K : Act → World → Prop}
theorem wp_appLo {P : Program} (t e : TypeId) (sz bt : Nat) (hu : P.underlying t = some (.slice e)) (hi : ∃ ie z, P.info? e = some ie ∧ ie.zero = some z ∧ ie.size = sz ∧ ie.bytes = bt ∧ z.cells.size = sz) (h0 : 0 < sz) (hb0 : bt ≤ 4096) (s x : Operand) (ho : o.op = .call { callee := .builtin .append, args := #[s, x], argTypes := #[t, t] }) (v : Value) (n : Nat) (l news : List Value) (hs : a.eval s = v) (hown : Lo w e sz v n l)
    (g2 : Nat) (hm : news.length = sz) (hx : a.eval x = .slice (some ⟨g2, 0, none⟩) 1 1) (hX : w.rangeAt g2 0 news) (h1 : ∀ v ∈ news, v.oneCell' = true) (hk : n ≤ 1000000)
    (h : ∀ v' w', Lo w' e sz v' (n + 1) (l ++ news) → w.grownBy w' v.ownBlock → Nv w v v' → K (a.put o.dst v') w') : Oper.wp P o a w K Q := by
  obtain ⟨v', w', hr, q2, q3, q5⟩ := run_appLo (P := P) w t o.type e sz bt hu hi h0 v n l hown ⟨g2, 0, none⟩ 1 1 news (by rw [hm, Nat.one_mul]) (fun j u hj => by rw [Addr.add_mid]; exact hX j u hj) h1 (by unfold maxLen; omega) (by
    have : bt * (n + 1) ≤ 4096 * 1000001 := Nat.mul_le_mul hb0 (by omega)
    rw [Nat.mul_comm] at this
    omega)
  unfold Oper.wp execOp
  simp only [ho, resolve, invoke, builtin, Sem.run_bind, Sem.run_pure, Result.andThen_ok, List.map_toArray, List.map_cons, List.map_nil, hs, hx, hr]
  exact h v' w' q2 q3 q5
end
theorem info_PAll : (Try.prog.info? tP).map (fun i => (i.size, i.bytes)) = some (90, 136) := by kernel_rfl
theorem info_PZ : ((Try.prog.info? tP).bind (·.zero)).map (·.cells.size) = some 90 := by kernel_rfl
theorem info_PO : ∃ ie z, Try.prog.info? tP = some ie ∧ ie.zero = some z ∧ ie.size = 90 ∧ ie.bytes = 136 ∧ z.cells.size = 90 := by
  have i1 := info_PAll
  have i2 := info_PZ
  cases hi : Try.prog.info? tP with
  | none => rw [hi] at i1; cases i1
  | some ie =>
    rw [hi] at i1 i2
    simp only [Option.map_some, Option.some.injEq, Prod.mk.injEq, Option.bind_some] at i1 i2
    cases hz : ie.zero with
    | none => rw [hz] at i2; cases i2
    | some z => rw [hz] at i2; exact ⟨ie, z, rfl, hz, i1.1, i1.2, by simpa using i2⟩
/-- A list of pending ones, copied. -/
theorem run_copied (w : World) (ty : TypeId) (A : Option Addr) (n cap : Nat) (xs : List Value) (hl : xs.length = n * 90) (hA : A = none → n = 0 ∧ cap = 0) (hS : ∀ ad, A = some ad → ∃ g o, ad = ⟨g, o, none⟩ ∧ w.rangeAt g o xs) (h1 : ∀ u ∈ xs, u.oneCell' = true) (hn : n ≤ 1000000) :
    ∃ v' w', (Builtin.append_ #[tPs, tPs] ty #[.slice none 0 0, .slice A n cap]).run Try.prog w = .ok v' w' ∧ Lw w' tP 90 v' n xs ∧ Fresh w.heap.size v' ∧ Below w.heap.size w w' := by
  obtain ⟨ie, z, i1, i2, i3, i5, i4⟩ := info_PO
  cases A with
  | none =>
    obtain ⟨rfl, rfl⟩ := hA rfl
    have hxs : xs = [] := List.length_eq_zero_iff.1 (by rw [hl, Nat.zero_mul])
    subst hxs
    have hr := run_append_owned_none (P := Try.prog) (w := w) 0 tPs ty tP ie 90 Try.underlying42 i1 (.slice none 0 0) 0 [] (Lw.nil w tP 90)
    exact ⟨_, w, hr, Lw.nil w tP 90, (fun g e => by cases e), Below.refl _ _⟩
  | some ad =>
    obtain ⟨g, o, rfl, hr⟩ := hS ad rfl
    obtain ⟨v', w', q1, q2, q3, _, q5⟩ := run_append_own_at (P := Try.prog) w 0 tPs ty tP ie z 90 136 Try.underlying42 i1 i2 i3 i5 i4 (by decide) (.slice none 0 0) 0 [] (Lw.nil w tP 90) ⟨g, o, none⟩ n cap xs hl (fun j u hj => by rw [Addr.add_mid]; exact hr j u hj) h1 (by unfold maxLen; omega) (by omega) (Nat.zero_le _)
    rw [Nat.zero_add, List.nil_append] at q2
    refine ⟨v', w', q1, q2, fun g eg => ?_, ⟨q3.os, q3.tape, q3.output, q3.size, fun k hk => q3.block k hk (fun q => by cases q)⟩⟩
    rcases q5 with q | q
    · rw [q] at eg; cases eg
    · rw [q] at eg; cases eg; exact Nat.le_refl _
/-- Where a list that is cut lies. -/
def cutL (A : Option Addr) (cap i s : Nat) : Option Addr := if cap = i then A else A.map (·.add (i * s))
section
variable {ops : Array Oper} {rest : List Oper} {op : Oper} {a : Act} {w : World} {Q : Exit → Act → World → Prop}
theorem wpList_cutF (hw : Region.wanted op (yielded ops a.tmps) = true) (t e : TypeId) (x y : Operand) (A : Option Addr) (n cap i s : Nat) (ho : op.op = .slice t x (some y) none none) (hx : a.eval x = .slice A n cap) (hy : a.eval y = .int .i64 (i : Int)) (hi : i ≤ n)
    (hu : Try.prog.underlying t = some (.slice e)) (hs : (Try.prog.info? e).map (·.size) = some s) (h : wpList Try.prog ops Q rest (a.put op.dst (.slice (cutL A cap i s) (n - i) (cap - i))) w) : wpList Try.prog ops Q (op :: rest) a w :=
  BigFrame.wpList_want hw fun _ hK => by
    cases hq : Try.prog.info? e with
    | none => simp [hq] at hs
    | some ie =>
      have h1 : ie.size = s := by simpa [hq] using hs
      have hr : (Instr.sliceAt t (.slice A n cap) (some (.int .i64 (i : Int))) none none).run Try.prog w = .ok (.slice (cutL A cap i s) (n - i) (cap - i)) w := by
        simp [Instr.sliceAt, Instr.slice, run_underlying hu, Instr.sliceBounds, Instr.sliceBound, asIntOf, sizeOf, typeInfo, hq, h1, hi, cutL]
      unfold Oper.wp execOp
      simp only [ho, hx, hy, Option.map_some, Option.map_none, Sem.run_bind, hr, Result.andThen_ok, Sem.run_pure, Oper.upon_value]
      exact hK _ _ h
theorem wpList_cutT (hw : Region.wanted op (yielded ops a.tmps) = true) (t e : TypeId) (x y : Operand) (A : Option Addr) (n cap i s : Nat) (ho : op.op = .slice t x none (some y) none) (hx : a.eval x = .slice A n cap) (hy : a.eval y = .int .i64 (i : Int)) (hi : i ≤ n) (hn : n ≤ cap)
    (hu : Try.prog.underlying t = some (.slice e)) (hs : (Try.prog.info? e).map (·.size) = some s) (h : wpList Try.prog ops Q rest (a.put op.dst (.slice A i cap)) w) : wpList Try.prog ops Q (op :: rest) a w :=
  BigFrame.wpList_want hw fun _ hK => by
    cases hq : Try.prog.info? e with
    | none => simp [hq] at hs
    | some ie =>
      have hr : (Instr.sliceAt t (.slice A n cap) none (some (.int .i64 (i : Int))) none).run Try.prog w = .ok (.slice A i cap) w := by
        have e2 : i ≤ cap := by omega
        cases A with
        | none => simp [Instr.sliceAt, Instr.slice, run_underlying hu, Instr.sliceBounds, Instr.sliceBound, asIntOf, sizeOf, typeInfo, hq, e2]
        | some ad => obtain ⟨b, f, sp⟩ := ad; simp [Instr.sliceAt, Instr.slice, run_underlying hu, Instr.sliceBounds, Instr.sliceBound, asIntOf, sizeOf, typeInfo, hq, e2, Addr.add]
      unfold Oper.wp execOp
      simp only [ho, hx, hy, Option.map_some, Option.map_none, Sem.run_bind, hr, Result.andThen_ok, Sem.run_pure, Oper.upon_value]
      exact hK _ _ h
end

end Go.Proofs.Ytfdbjcdcfmnicaa
