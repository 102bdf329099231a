/-
  lists that are owned, of any type.
-/
import Derived.Test.YtknabkoddickaaaGreatDoorXMem
import Derived.Test.YtknabkoddickaaaGreatDoorTFp
namespace Go.Proofs.YtknabkoddickaaaGreatDoor
open Go Go.RowKit
open Sha

/-- Lists that are owned, of any type. -/
abbrev Lw (w : World) (e : TypeId) (s : Nat) (v : Value) (n : Nat) (xs : List Value) : Prop := w.ownsRow 0 e s v n xs
section
variable {w w' : World} {v : Value} {e : TypeId} {s n : Nat} {xs : List Value}
theorem Lw.lt (h : Lw w e s v n xs) : ∀ g, v.ownBlock = some g → g < w.heap.size := fun g e => (World.ownsRow.lt h g e).2
theorem Lw.block (h : Lw w e s v n xs) (k : ∀ g, v.ownBlock = some g → w'.heap[g]? = w.heap[g]?) : Lw w' e s v n xs := by
  obtain ⟨h1, h2⟩ := h
  refine ⟨h1, ?_⟩
  rcases h2 with h2 | ⟨g, cap, cur, hv, hg, hh, r⟩
  · exact .inl h2
  · exact .inr ⟨g, cap, cur, hv, hg, (k g (by rw [hv]; rfl)).trans hh, r⟩
theorem Lw.be (h : Lw w e s v n xs) (k : Below w.heap.size w w') : Lw w' e s v n xs := Lw.block h fun g e => k.block g (Lw.lt h g e)
theorem Lw.gro {R : Nat → Prop} (h : Lw w e s v n xs) (k : Gro R w w') (hR : ∀ g, v.ownBlock = some g → ¬ R g) : Lw w' e s v n xs := Lw.block h fun g e => k.block g (Lw.lt h g e) (hR g e)
theorem Lw.ne {b : Nat} {cs : List Value} {t : TypeId} (h : Lw w e s v n xs) (r : Row w b cs t) (ht : t ≠ e) : ∀ g, v.ownBlock = some g → g ≠ b := fun g e q => by
  subst q
  obtain ⟨_, h2⟩ := h
  rcases h2 with ⟨h2, _⟩ | ⟨g', cap, cur, hv, hg, hh, _⟩
  · rw [h2] at e; cases e
  · rw [hv] at e
    obtain rfl : g' = g := by simpa [Value.ownBlock] using e
    have := hh.symm.trans r
    simp only [Option.some.injEq, Obj.cells.injEq] at this
    exact ht this.2.1.symm
theorem Lw.nil (w : World) (e : TypeId) (s : Nat) : Lw w e s (.slice none 0 0) 0 [] := ⟨by simp, .inl ⟨rfl, rfl⟩⟩
theorem Lw.form (h : Lw w e s v n xs) : ∃ A cap, v = .slice A n cap ∧ n ≤ cap ∧ (A = none → cap = 0) := by
  obtain ⟨_, h2⟩ := h
  rcases h2 with ⟨h2, h3⟩ | ⟨g, cap, cur, hv, hg, hh, hc, _⟩
  · exact ⟨none, 0, by rw [h2, h3], by rw [h3]; exact Nat.le_refl _, fun _ => rfl⟩
  · exact ⟨_, cap, hv, hc, fun q => by cases q⟩
theorem Lw.len (h : Lw w e s v n xs) : xs.length = n * s := h.1
theorem Lw.open (h : Lw w e s v n xs) (hn : 0 < n) : ∃ g cap, v = .slice (some ⟨g, 0, none⟩) n cap ∧ n ≤ cap := by
  obtain ⟨_, h2⟩ := h
  rcases h2 with ⟨h2, h3⟩ | ⟨g, cap, cur, hv, hg, hh, hc, _⟩
  · omega
  · exact ⟨g, cap, hv, hc⟩
theorem Lw.range {g cap : Nat} (h : Lw w e s (.slice (some ⟨g, 0, none⟩) n cap) n xs) : w.rangeAt g 0 xs := fun j u hj => by
  have hlt : j < n * s := by have := (List.getElem?_eq_some_iff.1 hj).1; rwa [Lw.len h] at this
  rw [Nat.zero_add]
  exact (World.ownsRow.cellAt h j hlt).trans hj
end
section
variable {Q : Exit → Act → World → Prop} {o : Oper} {a : Act} {w : World} {K : Act → World → Prop}
/-- append of one element onto a list that is owned. -/
theorem wp_appL (t e : TypeId) (sz bt : Nat) (hu : Tryz.prog.underlying t = some (.slice e)) (hi : ∃ ie z, Tryz.prog.info? e = some ie ∧ ie.zero = some z ∧ ie.size = sz ∧ ie.bytes = bt ∧ z.cells.size = sz) (h0 : 0 < sz) (hb0 : bt ≤ 4096) (s x : Operand) (ho : o.op = .call { callee := .builtin .append, args := #[s, x], argTypes := #[t, t] }) (v : Value) (n : Nat) (l news : List Value) (hs : a.eval s = v) (hown : Lw w e sz v n l)
    (g2 : Nat) (hm : news.length = sz) (hx : a.eval x = .slice (some ⟨g2, 0, none⟩) 1 1) (hX : w.rangeAt g2 0 news) (h1 : ∀ v ∈ news, v.oneCell' = true) (hk : n ≤ 1000000)
    (h : ∀ v' w', Lw w' e sz v' (n + 1) (l ++ news) → w.grownBy w' v.ownBlock → (v'.ownBlock = v.ownBlock ∨ v'.ownBlock = some w.heap.size) → K (a.put o.dst v') w') : Oper.wp Tryz.prog o a w K Q := by
  obtain ⟨ie, z, i1, i2, i3, i5, i4⟩ := hi
  obtain ⟨v', w', hr, q2, q3, _, q5⟩ := run_append_own_at (P := Tryz.prog) w 0 t o.type e ie z sz bt hu i1 i2 i3 i5 i4 h0 v n l hown ⟨g2, 0, none⟩ 1 1 news (by rw [hm, Nat.one_mul]) (fun j u hj => by rw [Addr.add_mid]; exact hX j u hj) h1 (by unfold maxLen; omega) (by
    have : bt * (n + 1) ≤ 4096 * 1000001 := Nat.mul_le_mul hb0 (by omega)
    rw [Nat.mul_comm] at this
    omega) (Nat.zero_le _)
  unfold Oper.wp execOp
  simp only [ho, resolve, invoke, builtin, Sem.run_bind, Sem.run_pure, Result.andThen_ok, List.map_toArray, List.map_cons, List.map_nil, hs, hx, hr]
  exact h v' w' q2 q3 q5
end

section
variable {ops : Array Oper} {rest : List Oper} {op : Oper} {a : Act} {w : World} {Q : Exit → Act → World → Prop}
theorem wpList_appL (t e : TypeId) (sz bt : Nat) (hu : Tryz.prog.underlying t = some (.slice e)) (hi : ∃ ie z, Tryz.prog.info? e = some ie ∧ ie.zero = some z ∧ ie.size = sz ∧ ie.bytes = bt ∧ z.cells.size = sz) (h0 : 0 < sz) (hb0 : bt ≤ 4096) (hgd : op.guard = none) (s x : Operand) (ho : op.op = .call { callee := .builtin .append, args := #[s, x], argTypes := #[t, t] }) (v : Value) (n : Nat) (l news : List Value) (hs : a.eval s = v) (hown : Lw w e sz v n l)
    (g2 : Nat) (hm : news.length = sz) (hx : a.eval x = .slice (some ⟨g2, 0, none⟩) 1 1) (hX : w.rangeAt g2 0 news) (h1 : ∀ v ∈ news, v.oneCell' = true) (hk : n ≤ 1000000)
    (h : ∀ v' w', Lw w' e sz v' (n + 1) (l ++ news) → w.grownBy w' v.ownBlock → (v'.ownBlock = v.ownBlock ∨ v'.ownBlock = some w.heap.size) → wpList Tryz.prog ops Q rest (a.put op.dst v') w') : wpList Tryz.prog ops Q (op :: rest) a w :=
  wpList_plain hgd fun _ hK => wp_appL t e sz bt hu hi h0 hb0 s x ho v n l news hs hown g2 hm hx hX h1 hk (fun v' w' q1 q2 q3 => hK _ _ (h v' w' q1 q2 q3))
theorem fill_cell (v : Value) (hv : v.cells = #[v]) (cells : Array Value) (hn : cells.size = 1) : Instr.fill (fun i => some (i * 1, 1)) cells [(0, v)] = some #[v] := by
  obtain ⟨r, hr, hsz, hk⟩ := Great.fill_dense (s := 1) (by decide) [v] 0 cells (fun u hu => by obtain rfl := List.mem_singleton.1 hu; rw [hv]; rfl) (by simp; omega)
  have hr' : Instr.fill (fun i => some (i * 1, 1)) cells [(0, v)] = some r := hr
  rw [hr']
  congr 1
  apply Array.ext_getElem?
  intro j
  rw [hk j]
  by_cases hlt : j < 1
  · obtain rfl : j = 0 := by omega
    rw [if_pos (by simp)]
    show (([v][0]?).getD default).cells[0]? = _
    rw [show (([v][0]?).getD default) = v from rfl, hv]
  · rw [if_neg (by simp; omega), Array.getElem?_eq_none (by omega), Array.getElem?_eq_none (by simp; omega)]
/-- A list of one value that has one cell. -/
theorem wpList_buildOne (t e : TypeId) (hu : Tryz.prog.underlying t = some (.slice e)) (hi : ∃ ie z, Tryz.prog.info? e = some ie ∧ ie.zero = some z ∧ ie.size = 1 ∧ z.cells.size = 1) (hgd : op.guard = none) (x : Operand) (ho : op.op = .buildSlice t 1 #[(0, x)]) (v : Value) (hv : v.cells = #[v]) (hx : a.eval x = v)
    (h : ∀ X, Row X w.heap.size [v] e → Below w.heap.size w X → X.heap.size = w.heap.size + 1 → wpList Tryz.prog ops Q rest (a.put op.dst (.slice (some ⟨w.heap.size, 0, none⟩) 1 1)) X) : wpList Tryz.prog ops Q (op :: rest) a w := by
  obtain ⟨ie, z, h1, h2, h3, h4⟩ := hi
  refine wpList_buildSlice hgd t e 1 _ ho #[v] ie z hu h1 h2 (by rw [h3]; omega) (by rw [h3]; omega) ?_ (h _ (Row.new' rfl rfl) ((Below.refl _ _).alloc (Nat.le_refl _) _) (by simp))
  rw [show (Array.map (fun (p : Nat × Operand) => match p with | (i, x) => (i, a.eval x)) #[(0, x)]).toList = [(0, a.eval x)] by simp, hx, h3]
  exact fill_cell _ hv _ (by simp)
end
theorem row_gb {w w' : World} {b : Nat} {cs : List Value} {t : TypeId} {r : Option Nat} (h : Row w b cs t) (k : w.grownBy w' r) (hn : some b ≠ r) : Row w' b cs t := (k.block b h.lt hn).trans h
theorem below_gb {w X Y : World} {r : Option Nat} (h : Below w.heap.size w X) (k : X.grownBy Y r) (hr : ∀ g, r = some g → w.heap.size ≤ g) : Below w.heap.size w Y :=
  ((Gro.of_below h : Gro (fun g => w.heap.size ≤ g) w X).grown k (fun g e => .inl (hr g e))).to_below (Nat.le_refl _) (fun _ h => h)
theorem some_ne {b : Nat} {r : Option Nat} (h : ∀ g, r = some g → g ≠ b) : some b ≠ r := fun e => h b e.symm rfl

end Go.Proofs.YtknabkoddickaaaGreatDoor
