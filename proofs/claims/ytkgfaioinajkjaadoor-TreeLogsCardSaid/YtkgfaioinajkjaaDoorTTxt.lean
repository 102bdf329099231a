/-
  The document's Texts.
-/
import Derived.Test.YtkgfaioinajkjaaDoorTTx

namespace Go.Proofs.YtkgfaioinajkjaaDoor
open Go Go.RowKit
open Sha

/-- Behind an append another list of the call's own, of another type, is as it was. -/
theorem own_grown {w w' : World} {N N' e e' size size' n n' : Nat} {v vp : Value} {xs xs' : List Value} (h : w.ownsRow N e size v n xs) (hp : w.ownsRow N' e' size' vp n' xs') (hne : e ≠ e') (hg : w.grownBy w' vp.ownBlock) : w'.ownsRow N e size v n xs := by
  obtain ⟨h1, h2⟩ := h
  refine ⟨h1, ?_⟩
  rcases h2 with h2 | ⟨g, cap, cur, hv, hN, hh, r⟩
  · exact .inl h2
  · refine .inr ⟨g, cap, cur, hv, hN, (hg.block g (Array.getElem?_eq_some_iff.1 hh).1 ?_).trans hh, r⟩
    rcases hp.2 with ⟨h3, _⟩ | ⟨g', cap', cur', hv', _, hh', _⟩
    · rw [h3]; simp [Value.ownBlock]
    · rw [hv']
      simp only [Value.ownBlock, ne_eq, Option.some.injEq]
      intro hgg
      subst hgg
      rw [hh] at hh'
      simp only [Option.some.injEq, Obj.cells.injEq] at hh'
      exact hne hh'.2.1

/-- vp is the list of the texts ts. -/
structure Txs (w : World) (N : Nat) (vp : Value) (ts : List (List (BitVec 8))) (vs : List Value) : Prop where
  own : w.ownsRow N 31 1 vp ts.length vs
  each : ∀ i, i < ts.length → w.ownsRow N 5 1 (vs.getD i undef) (ts.getD i []).length (vB (ts.getD i []))
theorem Txs.len {w : World} {N : Nat} {vp : Value} {ts : List (List (BitVec 8))} {vs : List Value} (h : Txs w N vp ts vs) : vs.length = ts.length := by have := h.own.1; omega
theorem Txs.below {w w' : World} {N : Nat} {vp : Value} {ts : List (List (BitVec 8))} {vs : List Value} (h : Txs w N vp ts vs) (k : Below w.heap.size w w') : Txs w' N vp ts vs :=
  ⟨ownsRow_below h.own k (Nat.le_refl _), fun i hi => ownsRow_below (h.each i hi) k (Nat.le_refl _)⟩
theorem Txs.less {w : World} {M N : Nat} {vp : Value} {ts : List (List (BitVec 8))} {vs : List Value} (h : Txs w N vp ts vs) (hM : M ≤ N) : Txs w M vp ts vs :=
  ⟨own_less h.own hM, fun i hi => own_less (h.each i hi) hM⟩
/-- The list's head, and its cells. -/
theorem Txs.form {w : World} {N : Nat} {vp : Value} {ts : List (List (BitVec 8))} {vs : List Value} (h : Txs w N vp ts vs) (hn : 0 < ts.length) : ∃ g cap, vp = .slice (some ⟨g, 0, none⟩) ts.length cap ∧ N ≤ g ∧ ts.length ≤ cap ∧ w.rangeAt g 0 vs := by
  rcases h.own.2 with ⟨_, h0⟩ | ⟨g, cap, cur, hv, hN, hh, hc, hm, hs, ht⟩
  · omega
  · have hr : Row w g cur.toList 31 := by unfold Row; rw [hh]
    refine ⟨g, cap, hv, hN, hc, fun j u hj => hr.all j u ?_⟩
    rw [← ht] at hj
    have hjl : j < ts.length * 1 := by have := (List.getElem?_eq_some_iff.1 hj).1; rw [List.length_take] at this; omega
    rwa [List.getElem?_take_of_lt hjl] at hj
theorem Txs.cell {w : World} {N g : Nat} {vp : Value} {ts : List (List (BitVec 8))} {vs : List Value} (h : Txs w N vp ts vs) (hr : w.rangeAt g 0 vs) (i : Nat) (hi : i < ts.length) : w.cell? ⟨g, i, none⟩ = some (vs.getD i undef) := by
  have hl := h.len
  have := hr i (vs.getD i undef) (by simp [List.getD_eq_getElem?_getD, List.getElem?_eq_getElem (show i < vs.length by omega)])
  rwa [Nat.zero_add] at this
theorem Txs.at {w : World} {N : Nat} {vp : Value} {ts : List (List (BitVec 8))} {vs : List Value} (h : Txs w N vp ts vs) (i : Nat) (hi : i < ts.length) : SlAt w (vs.getD i undef) (ts.getD i []) := (owns_slAt (h.each i hi)).1
theorem Txs.ls {w : World} {N : Nat} {vp : Value} {ts : List (List (BitVec 8))} {vs : List Value} (h : Txs w N vp ts vs) {g : Nat} (hr : w.rangeAt g 0 vs) : LsAt w g 0 ts := ⟨vs, h.len, hr, fun i hi => h.at i hi⟩
/-- Texts of two lists behind one another. -/
theorem Txs.join {w w' : World} {N : Nat} {vp vq v' : Value} {ts us : List (List (BitVec 8))} {vs xs : List Value} (h : Txs w N vp ts vs) (k : Txs w N vq us xs) (ho : w'.ownsRow N 31 1 v' (ts.length + us.length) (vs ++ xs)) (hg : w.grownBy w' vp.ownBlock) : Txs w' N v' (ts ++ us) (vs ++ xs) := by
  have hl := h.len
  refine ⟨by rw [List.length_append]; exact ho, fun i hi => ?_⟩
  rw [List.length_append] at hi
  by_cases hlt : i < ts.length
  · have e1 : (vs ++ xs).getD i undef = vs.getD i undef := by simp [List.getD_eq_getElem?_getD, List.getElem?_append_left (show i < vs.length by omega)]
    have e2 : (ts ++ us).getD i [] = ts.getD i [] := by simp [List.getD_eq_getElem?_getD, List.getElem?_append_left hlt]
    rw [e1, e2]; exact own_grown (h.each i hlt) h.own (by decide) hg
  · have e1 : (vs ++ xs).getD i undef = xs.getD (i - ts.length) undef := by simp [List.getD_eq_getElem?_getD, List.getElem?_append_right (show vs.length ≤ i by omega), hl]
    have e2 : (ts ++ us).getD i [] = us.getD (i - ts.length) [] := by simp [List.getD_eq_getElem?_getD, List.getElem?_append_right (show ts.length ≤ i by omega)]
    rw [e1, e2]; exact own_grown (k.each (i - ts.length) (by omega)) h.own (by decide) hg
theorem Txs.one {w : World} {N g : Nat} {v : Value} {d : List (BitVec 8)} (hN : N ≤ g) (hr : Row w g [v] 31) (ho : w.ownsRow N 5 1 v d.length (vB d)) : Txs w N (.slice (some ⟨g, 0, none⟩) 1 1) [d] [v] :=
  ⟨⟨rfl, .inr ⟨g, 1, #[v], rfl, hN, hr, Nat.le_refl _, by decide, rfl, rfl⟩⟩, fun i hi => by
    rcases (show i = 0 by simp at hi; omega) with rfl
    exact ho⟩
theorem info_all_slb : (Tryd.prog.info? 31).map (fun i => (i.zero, i.size, i.bytes)) = some (some (.slice none 0 0), 1, 24) := by kernel_rfl

section
variable {ops : Array Oper} {rest : List Oper} {op : Oper} {a : Act} {Q : Exit → Act → World → Prop}
/-- append of one list of texts onto another. -/
theorem wpList_join (hgd : op.guard = none) (s x : Operand) (ho : op.op = .call { callee := .builtin .append, args := #[s, x], argTypes := #[54, 54] }) (W0 Wa : World) (M N : Nat) (vp vq : Value) (ts us : List (List (BitVec 8))) (vs xs : List Value)
    (hM : Txs W0 N vp ts vs) (hn : Txs W0 N vq us xs) (h0 : 0 < us.length) (hs : a.eval s = vp) (hx : a.eval x = vq) (hk : ts.length + us.length ≤ 4000000000000) (hN : N ≤ W0.heap.size) (hMN : M ≤ N) (hb : Below M Wa W0)
    (h : ∀ v' w', Txs w' N v' (ts ++ us) (vs ++ xs) → Below M Wa w' → W0.grownBy w' vp.ownBlock → wpList Tryd.prog ops Q rest (a.put op.dst v') w') :
    wpList Tryd.prog ops Q (op :: rest) a W0 := by
  obtain ⟨i, hi0, hz, hsz, hby⟩ := info_parts info_all_slb
  obtain ⟨g, cap, hq, hgN, hcap, hcell⟩ := hn.form h0
  have hblk : ∀ k, vp.ownBlock = some k → N ≤ k := own_block hM.own
  have hl := hn.len
  refine wpList_append_own _ hgd s x 54 ho N 31 i (.slice none 0 0) 1 24 Tryd.underlying54 hi0 hz hsz hby rfl (by decide) vp ts.length vs hs hM.own ⟨g, 0, none⟩ us.length cap xs (by rw [hx, hq]) (by omega) ?_ ?_ (by unfold maxLen; omega) (by omega) hN ?_
  · intro j u hj; rw [Addr.add_mid]; exact hcell j u hj
  · intro u hu
    obtain ⟨j, hj, e⟩ := List.getElem_of_mem hu
    have hj2 := (hn.each j (by omega)).2
    rw [List.getD_eq_getElem?_getD, List.getElem?_eq_getElem hj, Option.getD_some, e] at hj2
    rcases hj2 with ⟨h2, _⟩ | ⟨g2, c2, cur2, hv2, _⟩
    · rw [h2]; rfl
    · rw [hv2]; rfl
  · intro v' w' h2 h3 _
    exact h v' w' (hM.join hn h2 h3) (hb.grown h3 (Nat.le_trans hMN hN) (fun k hk => Nat.le_trans hMN (hblk k hk))) h3
end

end Go.Proofs.YtkgfaioinajkjaaDoor

namespace Go.Proofs.YtkgfaioinajkjaaDoor
open Go Go.RowKit
open Sha

theorem own_form {w : World} {N e size n : Nat} {v : Value} {xs : List Value} (h : w.ownsRow N e size v n xs) : ∃ A cap, v = .slice A n cap := by
  rcases h.2 with ⟨h2, h0⟩ | ⟨g, cap, cur, hv, _⟩
  · exact ⟨none, 0, by rw [h2, h0]⟩
  · exact ⟨_, cap, hv⟩
theorem own_at {w : World} {N e n : Nat} {A : Option Addr} {cap : Nat} {xs : List Value} (h : w.ownsRow N e 1 (.slice A n cap) n xs) (hn : 0 < n) : ∃ g, A = some ⟨g, 0, none⟩ ∧ N ≤ g ∧ w.rangeAt g 0 xs := by
  rcases h.2 with ⟨_, h0⟩ | ⟨g, cap', cur, hv, hg, hh, hc, hm, hs, ht⟩
  · omega
  · simp only [Value.slice.injEq] at hv
    have hr : Row w g cur.toList e := by unfold Row; rw [hh]
    refine ⟨g, hv.1, hg, fun j u hj => hr.all j u ?_⟩
    rw [← ht] at hj
    have hjl : j < n * 1 := by have := (List.getElem?_eq_some_iff.1 hj).1; rw [List.length_take] at this; omega
    rwa [List.getElem?_take_of_lt hjl] at hj
theorem cell_be {w w' : World} {p : Addr} {v : Value} (h : w.cell? p = some v) (k : Below w.heap.size w w') : w'.cell? p = some v := (k.cell (World.block_lt_of_cell? w _ h)).trans h
theorem vT_get (l : List Bool) (i : Nat) (h : i < l.length) : (vT l)[i]? = some (.bool (l.getD i false)) := by simp [vT, h]
/-- Bytes that were made here. -/
def SP.by8 (M n : Nat) (l : List Value) : SP := ⟨fun W v => W.ownsRow M 5 1 v n l, fun _ _ _ hB h => ownsRow_below h hB (Nat.le_refl _)⟩
theorem pat_range {w : World} {A : Option Addr} {cap : Nat} {ds : List (List (BitVec 8))} (h : PAt w (.slice A ds.length cap) ds) (t : Nat) (ht : t < ds.length) : ∃ b o, A = some ⟨b, o, none⟩ ∧ w.rangeAt b (o + t * 32) (vB (ds.getD t [])) := by
  obtain ⟨h1, A', cap', e, hc, h2⟩ := h
  simp only [Value.slice.injEq] at e
  obtain ⟨rfl, _, rfl⟩ := e
  rcases h2 with h2 | ⟨b, o, rfl, hr⟩
  · rw [h2] at ht; simp at ht
  · refine ⟨b, o, rfl, ?_⟩
    have e1 : ds = ds.take t ++ (ds.getD t [] :: ds.drop (t + 1)) := by
      rw [show ds.getD t [] = ds[t] by simp [List.getD_eq_getElem?_getD, ht], ← List.drop_eq_getElem_cons ht, List.take_append_drop]
    rw [e1, List.flatMap_append, List.flatMap_cons] at hr
    exact ran_left (ran_right hr (by rw [flat_length _ (fun d hd => h1 d (List.mem_of_mem_take hd)), List.length_take, Nat.min_eq_left (by omega)]))
theorem pat_each {w : World} {v : Value} {ds : List (List (BitVec 8))} (h : PAt w v ds) (t : Nat) (ht : t < ds.length) : Dl (ds.getD t []) := by
  rw [List.getD_eq_getElem?_getD, List.getElem?_eq_getElem ht]; exact h.1 _ (List.getElem_mem _)

end Go.Proofs.YtkgfaioinajkjaaDoor
