/-
  Bytes in memory: lists of bytes that are owned, written over, grown; what stays.
-/
import Derived.Test.YtclbiophgnkggaaGreatDoorProg
import Derived.Test.YtclbiophgnkggaaGreatDoorMem
import Derived.Maps.AppendAt
import Derived.Laws.OwnMore
import Derived.Lib.Hide
namespace Go.Proofs.YtclbiophgnkggaaGreatDoor
open Go Go.RowKit
open Sha

theorem info_u8all : (Tryz.prog.info? 5).map (fun i => (i.size, i.bytes)) = some (1, 1) := by kernel_rfl
theorem info_u8zero : ((Tryz.prog.info? 5).bind (·.zero)).map (·.cells.size) = some 1 := by kernel_rfl
theorem info_u8 : (Tryz.prog.info? 5).map (·.size) = some 1 := by kernel_rfl
theorem info_u8open : ∃ ie z, Tryz.prog.info? 5 = some ie ∧ ie.zero = some z ∧ ie.size = 1 ∧ ie.bytes = 1 ∧ z.cells.size = 1 := by
  have i1 := info_u8all
  have i2 := info_u8zero
  cases hi : Tryz.prog.info? 5 with
  | none => rw [hi] at i1; cases i1
  | some ie =>
    rw [hi] at i1 i2
    cases hz : ie.zero with
    | none => simp [hz] at i2
    | some z =>
      have i3 : ie.size = 1 ∧ ie.bytes = 1 := by simpa using i1
      exact ⟨ie, z, rfl, hz, i3.1, i3.2, by simpa [hz] using i2⟩

/-- v is a slice of the bytes d. -/
def SlAt (w : World) (v : Value) (d : List (BitVec 8)) : Prop :=
  (d = [] ∧ ∃ A cap, v = .slice A 0 cap) ∨ ∃ ab ao cap, v = .slice (some ⟨ab, ao, none⟩) d.length cap ∧ d.length ≤ cap ∧ w.rangeAt ab ao (vB d)
theorem range_block {w w' : World} {c o : Nat} {cs : List Value} (h : w.rangeAt c o cs) (k : w'.heap[c]? = w.heap[c]?) : w'.rangeAt c o cs := fun j v hv => (World.cell?_of_block (a := ⟨c, o + j, none⟩) k).trans (h j v hv)
theorem range_be {w w' : World} {c o : Nat} {cs : List Value} (h : w.rangeAt c o cs) (k : Below w.heap.size w w') : w'.rangeAt c o cs := fun j v hv =>
  (k.cell (p := ⟨c, o + j, none⟩) (World.block_lt_of_cell? w _ (h j v hv))).trans (h j v hv)
theorem SlAt.be {w w' : World} {v : Value} {d : List (BitVec 8)} (h : SlAt w v d) (k : Below w.heap.size w w') : SlAt w' v d := by
  rcases h with h | ⟨ab, ao, cap, h1, h2, h3⟩
  · exact .inl h
  · exact .inr ⟨ab, ao, cap, h1, h2, range_be h3 k⟩
theorem cell_be {w w' : World} {p : Addr} {v : Value} (h : w.cell? p = some v) (k : Below w.heap.size w w') : w'.cell? p = some v := (k.cell (World.block_lt_of_cell? w _ h)).trans h

/-- All but some blocks stay. -/
structure Gro (R : Nat → Prop) (w w' : World) : Prop where
  os : w'.os = w.os
  tape : w'.tape = w.tape
  output : w'.output = w.output
  size : w.heap.size ≤ w'.heap.size
  block : ∀ k, k < w.heap.size → ¬ R k → w'.heap[k]? = w.heap[k]?
section
variable {R : Nat → Prop} {a b c : World}
theorem Gro.refl (R : Nat → Prop) (w : World) : Gro R w w := ⟨rfl, rfl, rfl, Nat.le_refl _, fun _ _ _ => rfl⟩
theorem Gro.trans (h : Gro R a b) (k : Gro R b c) : Gro R a c :=
  ⟨k.os.trans h.os, k.tape.trans h.tape, k.output.trans h.output, Nat.le_trans h.size k.size, fun i hi hn => (k.block i (Nat.lt_of_lt_of_le hi h.size) hn).trans (h.block i hi hn)⟩
theorem Gro.below (h : Gro R a b) (k : Below b.heap.size b c) : Gro R a c :=
  ⟨k.os.trans h.os, k.tape.trans h.tape, k.output.trans h.output, Nat.le_trans h.size k.size, fun i hi hn => (k.block i (Nat.lt_of_lt_of_le hi h.size)).trans (h.block i hi hn)⟩
theorem Gro.of_below (k : Below a.heap.size a c) : Gro R a c := (Gro.refl R a).below k
theorem Gro.mono {S : Nat → Prop} (h : Gro R a b) (k : ∀ g, R g → S g) : Gro S a b := ⟨h.os, h.tape, h.output, h.size, fun g hg hn => h.block g hg (fun q => hn (k g q))⟩
/-- A step behind, that changes blocks that may change, or new ones. -/
theorem Gro.then {S : Nat → Prop} (h : Gro R a b) (k : Gro S b c) (hS : ∀ g, S g → R g ∨ a.heap.size ≤ g) : Gro R a c :=
  ⟨k.os.trans h.os, k.tape.trans h.tape, k.output.trans h.output, Nat.le_trans h.size k.size, fun i hi hn => (k.block i (Nat.lt_of_lt_of_le hi h.size) (fun q => by
    rcases hS i q with q | q
    · exact hn q
    · omega)).trans (h.block i hi hn)⟩
theorem Gro.grown {row : Option Nat} (h : Gro R a b) (k : b.grownBy c row) (hr : ∀ g, row = some g → R g ∨ a.heap.size ≤ g) : Gro R a c :=
  ⟨k.os.trans h.os, k.tape.trans h.tape, k.output.trans h.output, Nat.le_trans h.size k.size, fun i hi hn => (k.block i (Nat.lt_of_lt_of_le hi h.size) (fun e => by
    rcases hr i e.symm with q | q
    · exact hn q
    · omega)).trans (h.block i hi hn)⟩
theorem Gro.set (h : Gro R a b) (g o : Nat) (v : Value) (hr : R g) : Gro R a (b.setCell ⟨g, o, none⟩ v) := by
  have k := (Below.refl 0 b).setCell (p := ⟨g, o, none⟩) (Nat.zero_le _) v
  exact ⟨k.os.trans h.os, k.tape.trans h.tape, k.output.trans h.output, Nat.le_trans h.size k.size, fun i hi hn => (Below.heap_setCell b ⟨g, o, none⟩ v i (fun e => hn (e ▸ hr))).trans (h.block i hi hn)⟩
theorem Gro.to_below {N : Nat} (h : Gro R a b) (hN : N ≤ a.heap.size) (hR : ∀ k, R k → N ≤ k) : Below N a b :=
  ⟨h.os, h.tape, h.output, h.size, fun k hk => h.block k (Nat.lt_of_lt_of_le hk hN) (fun q => by have := hR k q; omega)⟩
theorem Gro.row {g : Nat} {cs : List Value} {t : TypeId} (h : Gro R a b) (r : Row a g cs t) (hn : ¬ R g) : Row b g cs t := (h.block g r.lt hn).trans r
end

abbrev Bw (w : World) (v : Value) (d : List (BitVec 8)) : Prop := w.ownsRow 0 5 1 v d.length (vB d)
/-- A list that was made here. -/
def Fresh (N : Nat) (v : Value) : Prop := ∀ g, v.ownBlock = some g → N ≤ g
theorem Fresh.more {N M : Nat} {v : Value} (h : Fresh M v) (k : N ≤ M) : Fresh N v := fun g e => Nat.le_trans k (h g e)
section
variable {w w' : World} {v : Value} {d : List (BitVec 8)}
theorem Bw.lt (h : Bw w v d) : ∀ g, v.ownBlock = some g → g < w.heap.size := fun g e => (World.ownsRow.lt h g e).2
theorem Bw.block (h : Bw w v d) (k : ∀ g, v.ownBlock = some g → w'.heap[g]? = w.heap[g]?) : Bw w' v d := by
  obtain ⟨h1, h2⟩ := h
  refine ⟨h1, ?_⟩
  rcases h2 with h2 | ⟨g, cap, cur, hv, hg, hh, r⟩
  · exact .inl h2
  · exact .inr ⟨g, cap, cur, hv, hg, (k g (by rw [hv]; rfl)).trans hh, r⟩
theorem Bw.be (h : Bw w v d) (k : Below w.heap.size w w') : Bw w' v d := Bw.block h fun g e => k.block g (Bw.lt h g e)
theorem Bw.gro {R : Nat → Prop} (h : Bw w v d) (k : Gro R w w') (hR : ∀ g, v.ownBlock = some g → ¬ R g) : Bw w' v d := Bw.block h fun g e => k.block g (Bw.lt h g e) (hR g e)
theorem Bw.set_other (h : Bw w v d) {g o : Nat} {u : Value} (hR : ∀ k, v.ownBlock = some k → k ≠ g) : Bw (w.setCell ⟨g, o, none⟩ u) v d := Bw.block h fun k e => Below.heap_setCell w ⟨g, o, none⟩ u k (hR k e)
theorem Bw.form (h : Bw w v d) : ∃ A cap, v = .slice A d.length cap ∧ d.length ≤ cap ∧ (A = none → cap = 0) := by
  rcases h.2 with ⟨h1, h2⟩ | ⟨g, cap, cur, hv, _, _, hc, _⟩
  · exact ⟨none, 0, by rw [h1, h2], by omega, fun _ => rfl⟩
  · exact ⟨_, cap, hv, hc, fun e => by cases e⟩
theorem Bw.nil (w : World) : Bw w (.slice none 0 0) [] := ⟨rfl, .inl ⟨rfl, rfl⟩⟩
theorem Bw.sl (h : Bw w v d) : SlAt w v d := by
  have h1 := h.1
  rcases h.2 with ⟨h2, h0⟩ | ⟨g, cap, cur, hv, hg, hh, hc, hm, hs, ht⟩
  · exact .inl ⟨List.length_eq_zero_iff.1 h0, none, 0, h2⟩
  · refine .inr ⟨g, 0, cap, hv, hc, ?_⟩
    have hr : Row w g cur.toList 5 := by unfold Row; rw [hh]
    intro j u hj
    refine hr.all j u ?_
    rw [← ht] at hj
    have hjl : j < d.length * 1 := by have := (List.getElem?_eq_some_iff.1 hj).1; rw [List.length_take] at this; omega
    rwa [List.getElem?_take_of_lt hjl] at hj
/-- A row of another type lies elsewhere. -/
theorem Bw.ne {b : Nat} {cs : List Value} {t : TypeId} (h : Bw w v d) (r : Row w b cs t) (ht : t ≠ 5) : ∀ g, v.ownBlock = some g → g ≠ b := fun g e q => by
  subst q
  rcases h.2 with ⟨h1, _⟩ | ⟨g', cap, cur, hv, _, hh, _⟩
  · rw [h1] at e; simp [Value.ownBlock] at e
  · rw [hv] at e
    simp only [Value.ownBlock, Option.some.injEq] at e
    subst e
    have := r.symm.trans hh
    simp only [Option.some.injEq, Obj.cells.injEq] at this
    exact ht this.2.1
theorem row_bw {g : Nat} (h : Row w g (vB d) 5) (hn : d.length ≤ 140737488355328) : Bw w (.slice (some ⟨g, 0, none⟩) d.length d.length) d := by
  refine ⟨by rw [vB_length, Nat.mul_one], .inr ⟨g, d.length, (vB d).toArray, rfl, Nat.zero_le _, h, Nat.le_refl _, by unfold maxLen; omega, by simp [vB_length], ?_⟩⟩
  simp only [Nat.mul_one]
  exact List.take_of_length_le (by rw [vB_length]; exact Nat.le_refl _)
end

section
variable {Q : Exit → Act → World → Prop} {o : Oper} {a : Act} {w : World} {K : Act → World → Prop}
/-- append of bytes onto bytes that are owned. -/
theorem wp_app (s x : Operand) (ho : o.op = .call { callee := .builtin .append, args := #[s, x], argTypes := #[22, 22] }) (v : Value) (l news : List (BitVec 8)) (hs : a.eval s = v) (hown : Bw w v l)
    (A : Option Addr) (m cap : Nat) (hm : news.length = m) (hx : a.eval x = .slice A m cap) (hX : SlAt w (.slice A m cap) news) (hnil : A = none → cap = 0) (hk : l.length + m ≤ 140737488355328)
    (h : ∀ v' w', Bw w' v' (l ++ news) → w.grownBy w' v.ownBlock → (v'.ownBlock = v.ownBlock ∨ v'.ownBlock = some w.heap.size) → K (a.put o.dst v') w') : Oper.wp Tryz.prog o a w K Q := by
  subst hm
  obtain ⟨ie, z, h1, h2, h3, h5, h4⟩ := info_u8open
  have go : ∀ (ad : Addr), A = some ad → (∀ j u, (vB news)[j]? = some u → w.cell? (ad.add j) = some u) → Oper.wp Tryz.prog o a w K Q := by
    intro ad hA hc
    subst hA
    obtain ⟨v', w', hr, q2, q3, _, q5⟩ := run_append_own_at (P := Tryz.prog) w 0 22 o.type 5 ie z 1 1 Tryz.underlying22 h1 h2 h3 h5 h4 (by decide) v l.length (vB l) hown ad news.length cap (vB news) (by rw [vB_length, Nat.mul_one]) hc (vB_one news) (by unfold maxLen; omega) (by omega) (Nat.zero_le _)
    unfold Oper.wp execOp
    simp only [ho, resolve, invoke, builtin, Sem.run_bind, Sem.run_pure, Result.andThen_ok, List.map_toArray, List.map_cons, List.map_nil, hs, hx, hr]
    refine h v' w' ?_ q3 q5
    unfold Bw
    rw [List.length_append, show vB (l ++ news) = vB l ++ vB news by simp [vB]]; exact q2
  rcases hX with ⟨h0, A', c', hv⟩ | ⟨ab, ao, c', hv, hc, hr⟩
  · cases A with
    | none =>
      obtain rfl := hnil rfl
      subst h0
      have hr := run_append_owned_none (P := Tryz.prog) (w := w) 0 22 o.type 5 ie 1 Tryz.underlying22 h1 v l.length (vB l) hown
      unfold Oper.wp execOp
      have hx' : a.eval x = .slice none 0 0 := hx
      simp only [ho, resolve, invoke, builtin, Sem.run_bind, Sem.run_pure, Result.andThen_ok, List.map_toArray, List.map_cons, List.map_nil, hs, hx', hr]
      exact h v w (by rw [List.append_nil]; exact hown) ⟨rfl, rfl, rfl, Nat.le_refl _, fun _ _ _ => rfl⟩ (.inl rfl)
    | some ad => exact go ad rfl (fun j u hj => by subst h0; simp [vB] at hj)
  · simp only [Value.slice.injEq] at hv
    obtain ⟨hA, _, _⟩ := hv
    exact go ⟨ab, ao, none⟩ hA (fun j u hj => by rw [Addr.add_mid]; exact hr j u hj)
end
section
variable {ops : Array Oper} {rest : List Oper} {o : Oper} {a : Act} {w : World} {Q : Exit → Act → World → Prop}
theorem wpList_app (hgd : o.guard = none) (s x : Operand) (ho : o.op = .call { callee := .builtin .append, args := #[s, x], argTypes := #[22, 22] }) (v : Value) (l news : List (BitVec 8)) (hs : a.eval s = v) (hown : Bw w v l)
    (A : Option Addr) (m cap : Nat) (hm : news.length = m) (hx : a.eval x = .slice A m cap) (hX : SlAt w (.slice A m cap) news) (hnil : A = none → cap = 0) (hk : l.length + m ≤ 140737488355328)
    (h : ∀ v' w', Bw w' v' (l ++ news) → w.grownBy w' v.ownBlock → (v'.ownBlock = v.ownBlock ∨ v'.ownBlock = some w.heap.size) → wpList Tryz.prog ops Q rest (a.put o.dst v') w') : wpList Tryz.prog ops Q (o :: rest) a w :=
  wpList_plain hgd fun _ hK => wp_app s x ho v l news hs hown A m cap hm hx hX hnil hk (fun v' w' q1 q2 q3 => hK _ _ (h v' w' q1 q2 q3))
end

end Go.Proofs.YtclbiophgnkggaaGreatDoor
