/-
  EscrowOnce: laws of the walk.
-/
import Derived.Test.YtefjonidpmpjbaaEoA
import Derived.Test.YtefjonidpmpjbaaEsQ
import Derived.Test.YtefjonidpmpjbaaTRl
import Derived.BigQuiet
namespace Go.Proofs.Ytefjonidpmpjbaa
open Go Go.RowKit Go.Maps
open Wd

theorem und_PVs : Try.prog.underlying tPVs = some (.slice tPV) := by kernel_rfl
theorem und_LI : Try.prog.underlying tLI = some (.slice tIn) := by kernel_rfl
theorem und_LLI : Try.prog.underlying tLLI = some (.slice tLI) := by kernel_rfl
theorem sz_PV : (Try.prog.info? tPV).map (·.size) = some 1 := by kernel_rfl
theorem sz_LI : (Try.prog.info? tLI).map (·.size) = some 1 := by kernel_rfl
theorem sz_In : (Try.prog.info? tIn).map (·.size) = some 1 := by kernel_rfl
theorem all_PV : (Try.prog.info? tPV).map (fun i => (i.size, i.bytes, i.zero.map (·.cells.size))) = some (1, 8, some 1) := by kernel_rfl
theorem all_LI : (Try.prog.info? tLI).map (fun i => (i.size, i.bytes, i.zero.map (·.cells.size))) = some (1, 24, some 1) := by kernel_rfl
theorem all_In : (Try.prog.info? tIn).map (fun i => (i.size, i.bytes, i.zero.map (·.cells.size))) = some (1, 8, some 1) := by kernel_rfl
theorem info_of {t : TypeId} {b : Nat} (h : (Try.prog.info? t).map (fun i => (i.size, i.bytes, i.zero.map (·.cells.size))) = some (1, b, some 1)) : ∃ ie z, Try.prog.info? t = some ie ∧ ie.zero = some z ∧ ie.size = 1 ∧ ie.bytes = b ∧ z.cells.size = 1 := by
  cases hi : Try.prog.info? t with
  | none => rw [hi] at h; cases h
  | some ie =>
    rw [hi] at h
    simp only [Option.map_some, Option.some.injEq, Prod.mk.injEq] at h
    obtain ⟨h1, h2, h3⟩ := h
    cases hz : ie.zero with
    | none => rw [hz] at h3; cases h3
    | some z => rw [hz] at h3; exact ⟨ie, z, rfl, hz, h1, h2, by simpa using h3⟩
theorem info_of4 {t : TypeId} {b : Nat} (h : (Try.prog.info? t).map (fun i => (i.size, i.bytes, i.zero.map (·.cells.size))) = some (1, b, some 1)) : ∃ ie z, Try.prog.info? t = some ie ∧ ie.zero = some z ∧ ie.size = 1 ∧ z.cells.size = 1 := by
  obtain ⟨ie, z, h1, h2, h3, _, h5⟩ := info_of h
  exact ⟨ie, z, h1, h2, h3, h5⟩
theorem ld_PV (w : World) (b f : Nat) (v : Value) (h : w.cell? ⟨b, f, none⟩ = some v) : (loadVar tPV ⟨b, f, none⟩).run Try.prog w = .ok v w := by
  simp [loadVar, isAgg, run_underlying Try.underlying24, h]
theorem ld_LI (w : World) (b f : Nat) (v : Value) (h : w.cell? ⟨b, f, none⟩ = some v) : (loadVar tLI ⟨b, f, none⟩).run Try.prog w = .ok v w := by
  simp [loadVar, isAgg, run_underlying Try.underlying48, h]
section
variable {Q : Exit → Act → World → Prop} {o : Oper} {a : Act} {w : World} {K : Act → World → Prop}
/-- append of any list of values of one cell each onto a list that is owned. -/
theorem wp_appN (t e : TypeId) (bt : Nat) (hu : Try.prog.underlying t = some (.slice e)) (hi : ∃ ie z, Try.prog.info? e = some ie ∧ ie.zero = some z ∧ ie.size = 1 ∧ ie.bytes = bt ∧ z.cells.size = 1) (s x : Operand) (ho : o.op = .call { callee := .builtin .append, args := #[s, x], argTypes := #[t, t] }) (v : Value) (n : Nat) (l news : List Value) (hs : a.eval s = v) (hown : Lw w e 1 v n l)
    (A : Option Addr) (m cap : Nat) (hm : news.length = m) (hx : a.eval x = .slice A m cap) (hA : A = none → m = 0 ∧ cap = 0) (hX : ∀ ad, A = some ad → ∀ j u, news[j]? = some u → w.cell? (ad.add j) = some u) (h1 : ∀ v ∈ news, v.oneCell' = true) (hk : (n + m) * bt ≤ 140737488355328) (hk2 : n + m ≤ 140737488355328)
    (h : ∀ v' w', Lw w' e 1 v' (n + m) (l ++ news) → w.grownBy w' v.ownBlock → (v'.ownBlock = v.ownBlock ∨ v'.ownBlock = some w.heap.size) → K (a.put o.dst v') w') : Oper.wp Try.prog o a w K Q := by
  obtain ⟨ie, z, i1, i2, i3, i5, i4⟩ := hi
  cases A with
  | none =>
    obtain ⟨hm0, rfl⟩ := hA rfl
    subst hm
    have hn : news = [] := List.length_eq_zero_iff.1 hm0
    subst hn
    have hr := run_append_owned_none (P := Try.prog) (w := w) 0 t o.type e ie 1 hu i1 v n l hown
    unfold Oper.wp execOp
    have hx' : a.eval x = .slice none 0 0 := hx
    simp only [ho, resolve, invoke, builtin, Sem.run_bind, Sem.run_pure, Result.andThen_ok, List.map_toArray, List.map_cons, List.map_nil, hs, hx', hr]
    exact h v w (by rw [List.append_nil]; exact hown) ⟨rfl, rfl, rfl, Nat.le_refl _, fun _ _ _ => rfl⟩ (.inl rfl)
  | some ad =>
    obtain ⟨v', w', hr, q2, q3, _, q5⟩ := run_append_own_at (P := Try.prog) w 0 t o.type e ie z 1 bt hu i1 i2 i3 i5 i4 (by decide) v n l hown ad m cap news (by rw [hm, Nat.mul_one]) (hX ad rfl) h1 (by unfold maxLen; omega) hk (Nat.zero_le _)
    unfold Oper.wp execOp
    simp only [ho, resolve, invoke, builtin, Sem.run_bind, Sem.run_pure, Result.andThen_ok, List.map_toArray, List.map_cons, List.map_nil, hs, hx, hr]
    exact h v' w' q2 q3 q5
end
section
variable {ops : Array Oper} {rest : List Oper} {op : Oper} {a : Act} {w : World} {Q : Exit → Act → World → Prop}
theorem wpList_appN (t e : TypeId) (bt : Nat) (hu : Try.prog.underlying t = some (.slice e)) (hi : ∃ ie z, Try.prog.info? e = some ie ∧ ie.zero = some z ∧ ie.size = 1 ∧ ie.bytes = bt ∧ z.cells.size = 1) (hgd : op.guard = none) (s x : Operand) (ho : op.op = .call { callee := .builtin .append, args := #[s, x], argTypes := #[t, t] }) (v : Value) (n : Nat) (l news : List Value) (hs : a.eval s = v) (hown : Lw w e 1 v n l)
    (A : Option Addr) (m cap : Nat) (hm : news.length = m) (hx : a.eval x = .slice A m cap) (hA : A = none → m = 0 ∧ cap = 0) (hX : ∀ ad, A = some ad → ∀ j u, news[j]? = some u → w.cell? (ad.add j) = some u) (h1 : ∀ v ∈ news, v.oneCell' = true) (hk : (n + m) * bt ≤ 140737488355328) (hk2 : n + m ≤ 140737488355328)
    (h : ∀ v' w', Lw w' e 1 v' (n + m) (l ++ news) → w.grownBy w' v.ownBlock → (v'.ownBlock = v.ownBlock ∨ v'.ownBlock = some w.heap.size) → wpList Try.prog ops Q rest (a.put op.dst v') w') : wpList Try.prog ops Q (op :: rest) a w :=
  wpList_plain hgd fun _ hK => wp_appN t e bt hu hi s x ho v n l news hs hown A m cap hm hx hA hX h1 hk hk2 (fun v' w' q1 q2 q3 => hK _ _ (h v' w' q1 q2 q3))
theorem wpList_build0I (hgd : op.guard = none) (ho : op.op = .buildSlice tLI 0 #[]) (h : ∀ X, Row X w.heap.size [] tIn → Below w.heap.size w X → wpList Try.prog ops Q rest (a.put op.dst (.slice (some ⟨w.heap.size, 0, none⟩) 0 0)) X) : wpList Try.prog ops Q (op :: rest) a w :=
  wpList_plain hgd fun _ hK => by
    unfold Oper.wp execOp
    simp only [ho]
    go_simp
    exact hK _ _ (h _ (Row.new' rfl rfl) ((Below.refl _ _).alloc (Nat.le_refl _) _))
end
theorem lw_empty {w : World} {g : Nat} (r : Row w g [] tIn) : Lw w tIn 1 (.slice (some ⟨g, 0, none⟩) 0 0) 0 [] :=
  ⟨rfl, .inr ⟨g, 0, #[], rfl, Nat.zero_le _, r, Nat.le_refl _, by unfold maxLen; omega, rfl, rfl⟩⟩
theorem lw_addr {w : World} {e : TypeId} {A : Option Addr} {n cap : Nat} {xs : List Value} (h : Lw w e 1 (.slice A n cap) n xs) : (A = none → n = 0 ∧ cap = 0) ∧ ∀ ad, A = some ad → ∀ j u, xs[j]? = some u → w.cell? (ad.add j) = some u := by
  have hl := h.1
  rcases h.2 with ⟨h2, h3⟩ | ⟨g, cap', cur, hv, _, hh, hc, _, hs, ht⟩
  · simp only [Value.slice.injEq] at h2
    obtain ⟨rfl, _, rfl⟩ := h2
    exact ⟨fun _ => ⟨h3, rfl⟩, fun ad e => by cases e⟩
  · simp only [Value.slice.injEq] at hv
    obtain ⟨rfl, _, rfl⟩ := hv
    refine ⟨(fun e => by cases e), fun ad e j u hj => ?_⟩
    cases e
    have hjl : j < n * 1 := by have := (List.getElem?_eq_some_iff.1 hj).1; rwa [hl] at this
    rw [Addr.add_mid, Nat.zero_add]
    exact (World.ownsRow.cellAt h j hjl).trans hj
theorem ints_one (l : List Int) : ∀ v ∈ l.map intV, v.oneCell' = true := fun v hv => by
  obtain ⟨x, _, rfl⟩ := List.mem_map.1 hv
  rfl

end Go.Proofs.Ytefjonidpmpjbaa
