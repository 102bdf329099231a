/-
  LadderPlays: lists of pending ones that are written full.
-/
import Derived.Test.YtfdbjcdcfmnicaaLpE
namespace Go.Proofs.Ytfdbjcdcfmnicaa
open Go Go.RowKit
open Sha

theorem row_one {w : World} {g : Nat} {a b : List Value} {s t : TypeId} (h : Row w g a s) (k : Row w g b t) : a = b := by
  have := (show w.heap[g]? = _ from h).symm.trans k
  simp only [Option.some.injEq, Obj.cells.injEq] at this
  simpa using this.1
/-- Rows of a type keep their length. -/
def Kl (e : TypeId) (w w' : World) : Prop := ∀ g cs, Row w g cs e → ∃ cs', Row w' g cs' e ∧ cs'.length = cs.length
theorem Kl.refl (e : TypeId) (w : World) : Kl e w w := fun _ cs r => ⟨cs, r, rfl⟩
theorem Kl.trans {e : TypeId} {a b c : World} (h : Kl e a b) (k : Kl e b c) : Kl e a c := fun g cs r => by
  obtain ⟨c1, r1, e1⟩ := h g cs r
  obtain ⟨c2, r2, e2⟩ := k g c1 r1
  exact ⟨c2, r2, e2.trans e1⟩
theorem Kl.below {e : TypeId} {a b : World} (k : Below a.heap.size a b) : Kl e a b := fun _ cs r => ⟨cs, Row.below r k r.lt, rfl⟩
theorem Kl.st {e : TypeId} {a b : World} {g : Nat} {cs cs' : List Value} {t : TypeId} (k : Gro (· = g) a b) (r : Row a g cs t) (r' : Row b g cs' t) (hl : cs'.length = cs.length) : Kl e a b := fun g0 c0 r0 => by
  by_cases hg : g0 = g
  · subst hg
    obtain rfl : c0 = cs := row_one r0 r
    have ht : t = e := by
      have := (show a.heap[g0]? = _ from r).symm.trans r0
      simp only [Option.some.injEq, Obj.cells.injEq] at this
      exact this.2.1
    subst ht
    exact ⟨cs', r', hl⟩
  · exact ⟨c0, k.row r0 hg, rfl⟩
theorem Lo.kl {w w' : World} {e : TypeId} {s n : Nat} {v : Value} {xs : List Value} (h : Lo w e s v n xs) (k : Kl e w w') : ∃ xs', Lo w' e s v n xs' := by
  rcases h.2 with ⟨h2, h3⟩ | ⟨g, o, cap, cs, hv, hr, hc, hm, hl, ht⟩
  · exact ⟨[], by rw [h3, Nat.zero_mul]; rfl, .inl ⟨h2, h3⟩⟩
  · obtain ⟨cs', r', e'⟩ := k g cs hr
    have : n * s ≤ cap * s := Nat.mul_le_mul_right s hc
    exact ⟨(cs'.drop o).take (n * s), by rw [List.length_take, List.length_drop]; omega, .inr ⟨g, o, cap, cs', hv, r', hc, hm, by omega, rfl⟩⟩
theorem run_appLo2 {P : Program} (w : World) (t ty e : TypeId) (sz bt : Nat) (hu : P.underlying t = some (.slice e)) (hi : ∃ ie z, P.info? e = some ie ∧ ie.zero = some z ∧ ie.size = sz ∧ ie.bytes = bt ∧ z.cells.size = sz) (h0 : 0 < sz) (v : Value) (n : Nat) (xs : List Value) (h : Lo w e sz v n xs)
    (ad : Addr) (m c : Nat) (news : List Value) (hl : news.length = m * sz) (hnews : ∀ j u, news[j]? = some u → w.cell? (ad.add j) = some u) (h1 : ∀ u ∈ news, u.oneCell' = true) (h63 : n + m ≤ maxLen) (hbytes : (n + m) * bt ≤ 140737488355328) :
    ∃ v' w', (Builtin.append_ #[t, t] ty #[v, .slice (some ad) m c]).run P w = .ok v' w' ∧ Lo w' e sz v' (n + m) (xs ++ news) ∧ w.grownBy w' v.ownBlock ∧ Nv w v v' ∧ Kl e w w' := by
  obtain ⟨ie, z, i1, i2, i3, i5, i4⟩ := hi
  rcases h.2 with ⟨h2, h3⟩ | ⟨g, o, cap, cs, hv, hr, hc, hm, hlc, ht⟩
  · subst h3
    have hxs : xs = [] := List.length_eq_zero_iff.1 (by rw [h.1, Nat.zero_mul])
    subst hxs h2
    obtain ⟨v', w', q1, q2, q3, _, q5⟩ := run_append_own_at (P := P) w 0 t ty e ie z sz bt hu i1 i2 i3 i5 i4 h0 (.slice none 0 0) 0 [] (Lw.nil w e sz) ad m c news hl hnews h1 h63 hbytes (Nat.zero_le _)
    exact ⟨v', w', q1, Lo.of q2, q3, q5.imp id (fun q g eg => by rw [q] at eg; cases eg; exact Nat.le_refl _), fun g cs r => ⟨cs, (q3.block g r.lt (fun q => by cases q)).trans r, rfl⟩⟩
  · subst hv
    have hrange : w.rangeAt g o xs := by
      obtain ⟨A, cap', e1, _, _, q⟩ := h.form
      obtain ⟨rfl, rfl⟩ : some (⟨g, o, none⟩ : Addr) = A ∧ cap = cap' := by simpa using e1
      obtain ⟨g', o', e2, q2⟩ := q _ rfl
      obtain ⟨rfl, rfl⟩ : g = g' ∧ o = o' := by simpa using e2
      exact q2
    by_cases hroom : n + m ≤ cap
    · subst i3
      have hns : n * ie.size + news.length ≤ cap * ie.size := by rw [hl, ← Nat.add_mul]; exact Nat.mul_le_mul_right _ hroom
      have th := hr.there (o + n * ie.size) news.length (by omega)
      have hrun := run_append_room_cells (P := P) w t ty e ie hu i1 g o n cap ad m c news hl hnews h1 hroom (fun j hj => (th j hj).1) (fun j hj => (th j hj).2)
      have hgs := gro_setsL w g (o + n * ie.size) news
      have hl2 : n * ie.size ≤ cap * ie.size := by omega
      refine ⟨_, _, hrun, ⟨by rw [List.length_append, h.1, hl, Nat.add_mul], .inr ⟨g, o, cap, _, rfl, Row.setCells (o + n * ie.size) news hr (by omega), hroom, hm, ?_, ?_⟩⟩, ⟨hgs.os, hgs.tape, hgs.output, hgs.size, fun k hk hne => hgs.block k hk (fun q => hne (by rw [q]; rfl))⟩, .inl rfl, fun g0 cs0 r0 => ?_⟩
      · simp only [List.length_append, List.length_take, List.length_drop]; omega
      · have e1 : (cs.take (o + n * ie.size) ++ news ++ cs.drop (o + n * ie.size + news.length)).drop o = xs ++ (news ++ cs.drop (o + n * ie.size + news.length)) := by
          rw [List.append_assoc, List.drop_append_of_le_length (by rw [List.length_take]; omega), List.drop_take, show o + n * ie.size - o = n * ie.size by omega, ht]
        rw [e1, ← List.append_assoc, List.take_append_of_le_length (by rw [List.length_append, h.1, hl, Nat.add_mul]; exact Nat.le_refl _), List.take_of_length_le (by rw [List.length_append, h.1, hl, Nat.add_mul]; exact Nat.le_refl _)]
      · by_cases hg : g0 = g
        · subst hg
          obtain rfl : cs0 = cs := row_one r0 hr
          exact ⟨_, Row.setCells (o + n * ie.size) news hr (by omega), by simp only [List.length_append, List.length_take, List.length_drop]; omega⟩
        · exact ⟨cs0, (hgs.block g0 r0.lt hg).trans r0, rfl⟩
    · obtain ⟨v', w', q1, q2, q3⟩ := run_append_arg_grows (P := P) w t ty e ie z sz bt hu i1 i2 i3 i5 i4 h0 ⟨g, o, none⟩ n cap xs h.1 (fun j u hj => by rw [Addr.add_mid]; exact hrange j u hj) ad m c news hl hnews (by omega) h63 hbytes
      refine ⟨v', w', q1, ?_, ⟨q3.os, q3.tape, q3.output, q3.size, fun k hk _ => q3.block k hk (fun q => by cases q)⟩, ?_, fun g0 cs0 r0 => ⟨cs0, (q3.block g0 r0.lt (fun q => by cases q)).trans r0, rfl⟩⟩
      · exact Lo.of ⟨q2.1, q2.2.imp id (fun ⟨g, cap, cur, a1, a2, a3⟩ => ⟨g, cap, cur, a1, Nat.zero_le _, a3⟩)⟩
      · refine .inr fun g' eg => ?_
        rcases q2.2 with ⟨a1, a2⟩ | ⟨g2, cap', cur, a1, a2, a3, _⟩
        · rw [a1] at eg; cases eg
        · rw [a1] at eg
          obtain rfl : g2 = g' := by simpa [Value.ownBlock] using eg
          exact a2

theorem splice (cs y : List Value) (o N k m : Nat) (hy : y.length = m) (hk : k + m ≤ N) (hl : o + N ≤ cs.length) : ((cs.take (o + k) ++ y ++ cs.drop (o + k + y.length)).drop o).take N = ((cs.drop o).take N).take k ++ y ++ ((cs.drop o).take N).drop (k + m) := by
  subst hy
  have e1 : (cs.take (o + k)).drop o = (cs.drop o).take k := by rw [List.drop_take, show o + k - o = k by omega]
  have l1 : ((cs.drop o).take k ++ y).length = k + y.length := by rw [List.length_append, List.length_take, List.length_drop]; omega
  rw [List.append_assoc, List.drop_append_of_le_length (by rw [List.length_take]; omega), e1, ← List.append_assoc, List.take_append, l1, List.take_of_length_le (by omega), List.take_take, Nat.min_eq_left (by omega), List.drop_take, List.drop_drop, show o + (k + y.length) = o + k + y.length by omega]
theorem pcs_putP {l : List Pn} (h : ∀ p ∈ l, p.Wf) {k : Nat} (hk : k < l.length) (x : Pn) : pcs (l.set k x) = (pcs l).take (k * 90) ++ x.cells ++ (pcs l).drop (k * 90 + 90) := by
  rw [pcs_take h, show k * 90 + 90 = (k + 1) * 90 by omega, pcs_drop h, List.append_assoc, ← pcs_cons, ← pcs_app, List.set_eq_take_append_cons_drop, if_pos hk]
/-- Two lists of pending ones, each its own, apart from one another. -/
structure O3 (w0 w : World) (R : Nat → Prop) (va vb : Value) (xa xb : List Pn) : Prop where
  a : Lo w tP 90 va xa.length (pcs xa)
  b : Lo w tP 90 vb xb.length (pcs xb)
  wa : ∀ p ∈ xa, p.Wf
  wb : ∀ p ∈ xb, p.Wf
  ap : ∀ g, va.ownBlock = some g → vb.ownBlock ≠ some g
  g : Gro R w0 w
  ra : ∀ g, va.ownBlock = some g → R g ∨ w0.heap.size ≤ g
  rb : ∀ g, vb.ownBlock = some g → R g ∨ w0.heap.size ≤ g
  kl : Kl tP w0 w
section
variable {w0 w X : World} {R : Nat → Prop} {va vb : Value} {xa xb : List Pn}
theorem O3.symm (h : O3 w0 w R va vb xa xb) : O3 w0 w R vb va xb xa := ⟨h.b, h.a, h.wb, h.wa, fun g e e2 => h.ap g e2 e, h.g, h.rb, h.ra, h.kl⟩
theorem O3.be (h : O3 w0 w R va vb xa xb) (k : Below w.heap.size w X) : O3 w0 X R va vb xa xb := ⟨h.a.be k, h.b.be k, h.wa, h.wb, h.ap, h.g.below k, h.ra, h.rb, h.kl.trans (Kl.below k)⟩
theorem O3.open {A : Option Addr} {n cap : Nat} (h : O3 w0 w R (.slice A n cap) vb xa xb) (h0 : 0 < n) (hn : xa.length = n) : ∃ g o cur, A = some ⟨g, o, none⟩ ∧ Row w g cur tP ∧ o + n * 90 ≤ cur.length ∧
    ∀ (X : World) (k : Nat) (x : Pn), k < n → x.Wf → Row X g (cur.take (o + k * 90) ++ x.cells ++ cur.drop (o + k * 90 + x.cells.length)) tP → Gro (· = g) w X → O3 w0 X R (.slice A n cap) vb (xa.set k x) xb := by
  obtain ⟨g, o, cap', cs, hv, r, hc, hm, hl, ht⟩ := h.a.open (by omega)
  rw [hn] at hv hc ht
  obtain ⟨rfl, rfl⟩ : A = some (⟨g, o, none⟩ : Addr) ∧ cap = cap' := by simpa using hv
  have hc9 : n * 90 ≤ cap * 90 := Nat.mul_le_mul_right 90 hc
  refine ⟨g, o, cs, rfl, r, by omega, fun X k x hk hx rX gX => ?_⟩
  have hk9 : k * 90 + 90 ≤ n * 90 := by have : (k + 1) * 90 ≤ n * 90 := Nat.mul_le_mul_right 90 hk; omega
  have hlen : (cs.take (o + k * 90) ++ x.cells ++ cs.drop (o + k * 90 + x.cells.length)).length = cs.length := by
    rw [List.length_append, List.length_append, List.length_take, List.length_drop, Pn.len hx]; omega
  refine ⟨?_, h.b.gro gX (fun q e e2 => by subst e2; exact h.ap q rfl e), fun p hp => ?_, h.wb, h.ap, h.g.then gX (fun q e => by subst e; exact h.ra q rfl), h.ra, h.rb, h.kl.trans (Kl.st gX r rX hlen)⟩
  · rw [List.length_set, hn]
    refine ⟨by rw [pcs_putP h.wa (by omega)]; simp only [List.length_append, List.length_take, List.length_drop, h.a.1, hn, Pn.len hx]; omega, .inr ⟨g, o, cap, _, rfl, rX, hc, hm, by rw [hlen]; exact hl, ?_⟩⟩
    rw [splice cs x.cells o (n * 90) (k * 90) 90 (Pn.len hx) hk9 (by omega), ht, pcs_putP h.wa (by omega)]
  · rcases List.mem_or_eq_of_mem_set hp with q | q
    · exact h.wa p q
    · rw [q]; exact hx
theorem O3.grow {v' : Value} {x : Pn} (h : O3 w0 w R va vb xa xb) (hx : x.Wf) (q1 : Lo X tP 90 v' (xa.length + 1) (pcs xa ++ x.cells)) (q2 : w.grownBy X va.ownBlock) (q3 : Nv w va v') (q4 : Kl tP w X) : O3 w0 X R v' vb (xa ++ [x]) xb := by
  refine ⟨?_, h.b.block (fun g e => q2.block g (h.b.lt g e) (fun e2 => h.ap g e2.symm e)), fun p hp => ?_, h.wb, fun g e e2 => ?_, h.g.grown q2 h.ra, fun g e => ?_, h.rb, h.kl.trans q4⟩
  · rw [List.length_append, pcs_app, pcs_cons, show pcs [] = [] from rfl, List.append_nil]; exact q1
  · rcases List.mem_append.1 hp with q | q
    · exact h.wa p q
    · rw [List.mem_singleton.1 q]; exact hx
  · rcases q3 with q | q
    · exact h.ap g (q ▸ e) e2
    · have := h.b.lt g e2
      have := q g e
      omega
  · rcases q3 with q | q
    · exact h.ra g (q ▸ e)
    · exact .inr (Nat.le_trans h.g.size (q g e))
end
theorem rep_setP (n t : Nat) (x : Pn) (l : List Pn) (hl : l.length = n) (ht : t < n) : (List.replicate t x ++ l.drop t).set t x = List.replicate (t + 1) x ++ l.drop (t + 1) := by
  rw [List.set_append_right _ _ (by rw [List.length_replicate]; exact Nat.le_refl _), List.length_replicate, Nat.sub_self, List.drop_eq_getElem_cons (by omega), List.set_cons_zero, List.replicate_succ', List.append_assoc]
  rfl
theorem rep_len (n t : Nat) (x : Pn) (l : List Pn) (hl : l.length = n) (ht : t ≤ n) : (List.replicate t x ++ l.drop t).length = n := by
  rw [List.length_append, List.length_replicate, List.length_drop]; omega
/-- A mark. -/
def mk (m : Int) : Pn := ⟨m, zC, zA, 0, 0, 0⟩
theorem mk_wf (m : Int) : (mk m).Wf := ⟨zC_wf, zP_wf.a⟩
theorem built_mk (m : Int) : Try.prog.built tP [(0, .int .i64 m)] = some (mk m).cells.toArray := by kernel_rfl
section
variable {ops : Array Oper} {rest : List Oper} {op : Oper} {a : Act} {w : World} {Q : Exit → Act → World → Prop}
theorem wpList_appLo2 (hgd : op.guard = none) (s x : Operand) (ho : op.op = .call { callee := .builtin .append, args := #[s, x], argTypes := #[tPs, tPs] }) (v : Value) (n : Nat) (l news : List Value) (hs : a.eval s = v) (hown : Lo w tP 90 v n l)
    (g2 : Nat) (hm : news.length = 90) (hx : a.eval x = .slice (some ⟨g2, 0, none⟩) 1 1) (hX : w.rangeAt g2 0 news) (h1 : ∀ v ∈ news, v.oneCell' = true) (hk : n ≤ 1000000)
    (h : ∀ v' w', Lo w' tP 90 v' (n + 1) (l ++ news) → w.grownBy w' v.ownBlock → Nv w v v' → Kl tP w w' → wpList Try.prog ops Q rest (a.put op.dst v') w') : wpList Try.prog ops Q (op :: rest) a w :=
  wpList_plain hgd fun _ hK => by
    obtain ⟨v', w', hr, q2, q3, q5, q6⟩ := run_appLo2 (P := Try.prog) w tPs op.type tP 90 136 Try.underlying42 info_PO (by decide) v n l hown ⟨g2, 0, none⟩ 1 1 news (by rw [hm, Nat.one_mul]) (fun j u hj => by rw [Addr.add_mid]; exact hX j u hj) h1 (by unfold maxLen; omega) (by omega)
    unfold Oper.wp execOp
    simp only [ho, resolve, invoke, builtin, Sem.run_bind, Sem.run_pure, Result.andThen_ok, List.map_toArray, List.map_cons, List.map_nil, hs, hx, hr]
    exact hK _ _ (h v' w' q2 q3 q5 q6)
end

end Go.Proofs.Ytfdbjcdcfmnicaa
