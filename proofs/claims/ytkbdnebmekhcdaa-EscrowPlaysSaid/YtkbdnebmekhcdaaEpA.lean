/-
  EscrowPlays: the document's vault, its acts its own; do.
-/
import Derived.Test.YtkbdnebmekhcdaaEsX
import Derived.Test.YtkbdnebmekhcdaaEoB
import Derived.Test.YtkbdnebmekhcdaaLaA
namespace Go.Proofs.Ytkbdnebmekhcdaa
open Go Go.RowKit Go.Maps
open Wd

abbrev tAc : TypeId := 91
abbrev tAcs : TypeId := 73
abbrev tRV : TypeId := 75
def acs (l : List Acv) : List Value := (l.map Acv.cells).flatten
theorem acs_app (l m : List Acv) : acs (l ++ m) = acs l ++ acs m := by unfold acs; rw [List.map_append, List.flatten_append]
theorem acs_one (a : Acv) : acs [a] = a.cells := by unfold acs; simp
theorem acs_at : ∀ (l : List Acv) (i : Nat) (r : Acv), l[i]? = some r → ∀ (j : Nat) (u : Value), r.cells[j]? = some u → (acs l)[i * 7 + j]? = some u
  | [], _, _, h, _, _, _ => by simp at h
  | a :: l, 0, r, h, j, u, hj => by
    obtain rfl : a = r := by simpa using h
    unfold acs
    rw [List.map_cons, List.flatten_cons, Nat.zero_mul, Nat.zero_add, List.getElem?_append_left ((List.getElem?_eq_some_iff.1 hj).1)]
    exact hj
  | a :: l, i + 1, r, h, j, u, hj => by
    have ih := acs_at l i r (by simpa using h) j u hj
    unfold acs at ih ⊢
    rw [List.map_cons, List.flatten_cons, List.getElem?_append_right (by rw [Acv.len]; omega), Acv.len, show (i + 1) * 7 + j - 7 = i * 7 + j by omega]
    exact ih
theorem acv_one (a : Acv) : ∀ v ∈ a.cells, v.oneCell' = true := by
  intro v hv
  simp only [Acv.cells, List.mem_cons] at hv
  rcases hv with rfl | rfl | rfl | h
  · rfl
  · rfl
  · rfl
  · exact vQ_one _ v h
theorem all_Ac : ∃ ie z, Try.prog.info? tAc = some ie ∧ ie.zero = some z ∧ ie.size = 7 ∧ ie.bytes = 56 ∧ z.cells.size = 7 := by
  have h : (Try.prog.info? tAc).map (fun i => (i.size, i.bytes, i.zero.map (·.cells.size))) = some (7, 56, some 7) := by kernel_rfl
  cases hi : Try.prog.info? tAc with
  | none => rw [hi] at h; cases h
  | some ie =>
    rw [hi] at h
    simp only [Option.map_some, Option.some.injEq, Prod.mk.injEq] at h
    obtain ⟨h1, h2, h3⟩ := h
    cases hz : ie.zero with
    | none => rw [hz] at h3; cases h3
    | some z => rw [hz] at h3; exact ⟨ie, z, rfl, hz, h1, h2, by simpa using h3⟩
theorem sz_Acs : (Try.prog.info? tAcs).map (·.size) = some 1 := by kernel_rfl
/-- The document's vault lies at q, its acts are its own. -/
structure Ro (w : World) (q : Nat) (v : Value) (l : List Acv) : Prop where
  row : Row w q [v] tRV
  own : Lw w tAc 7 v l.length (acs l)
  m : ∀ r ∈ l, r.m < 2 ^ 256
  nb : l.length < 4398046511104
/-- What may change when it does. -/
def Rq (q : Nat) (v : Value) (g : Nat) : Prop := g = q ∨ v.ownBlock = some g
section
variable {w X : World} {q : Nat} {v : Value} {l : List Acv}
theorem Ro.be (h : Ro w q v l) (k : Below w.heap.size w X) : Ro X q v l := ⟨Row.below h.row k h.row.lt, Lw.be h.own k, h.m, h.nb⟩
theorem Ro.below (h : Ro w q v l) (k : Below w.heap.size w X) : Ro X q v l := h.be k
theorem Ro.gro {R : Nat → Prop} (h : Ro w q v l) (k : Gro R w X) (hR : ∀ g, Rq q v g → ¬ R g) : Ro X q v l := ⟨k.row h.row (hR q (.inl rfl)), Lw.gro h.own k (fun g e => hR g (.inr e)), h.m, h.nb⟩
theorem Ro.rv (h : Ro w q v l) : ∃ A cap, v = .slice A l.length cap ∧ Rv w q A l.length cap l := by
  obtain ⟨A, cap, e, _, _⟩ := Lw.form h.own
  subst e
  refine ⟨A, cap, rfl, h.row, rfl, by have := h.nb; omega, fun i r hi => ⟨h.m r (List.mem_of_getElem? hi), ?_⟩⟩
  have hil := (List.getElem?_eq_some_iff.1 hi).1
  obtain ⟨g, cap', e, _⟩ := Lw.open h.own (by omega)
  simp only [Value.slice.injEq] at e
  obtain ⟨rfl, _, rfl⟩ := e
  refine ⟨g, 0, rfl, fun j u hj => ?_⟩
  have := Lw.range h.own (i * 7 + j) u (acs_at l i r hi j u hj)
  rwa [← Nat.add_assoc] at this
end
def SP.nAc (R : List Value) : SP := ⟨fun W v => ∃ M, v = .slice (some ⟨M, 0, none⟩) 1 1 ∧ Row W M R tAc, fun _ _ _ hB h => by obtain ⟨M, e, r⟩ := h; exact ⟨M, e, Row.below r hB r.lt⟩⟩
theorem fillP_one (s : Nat) (hs : 0 < s) (c cells : Array Value) (hc : c.size = s) (hn : cells.size = s) : Instr.fill (fun i => some (i * s, s)) cells [(0, .agg c)] = some c := by
  obtain ⟨r, hr, hsz, hk⟩ := Great.fill_dense (s := s) hs [.agg c] 0 cells (fun v hv => by obtain rfl := List.mem_singleton.1 hv; exact hc) (by simp; omega)
  have hr' : Instr.fill (fun i => some (i * s, s)) cells [(0, .agg c)] = some r := hr
  rw [hr']
  congr 1
  apply Array.ext_getElem?
  intro k
  rw [hk k]
  by_cases hlt : k < s
  · rw [if_pos (by simp; omega), Nat.div_eq_of_lt hlt, Nat.mod_eq_of_lt hlt]
    rfl
  · rw [if_neg (by simp; omega), Array.getElem?_eq_none (by omega), Array.getElem?_eq_none (by omega)]
section
variable {Q : Exit → Act → World → Prop} {o : Oper} {a : Act} {w : World} {K : Act → World → Prop}
theorem wpP_app7 (s x : Operand) (ho : o.op = .call { callee := .builtin .append, args := #[s, x], argTypes := #[tAcs, tAcs] }) (v : Value) (n : Nat) (l news : List Value) (hs : a.eval s = v) (hown : Lw w tAc 7 v n l)
    (g2 : Nat) (hm : news.length = 7) (hx : a.eval x = .slice (some ⟨g2, 0, none⟩) 1 1) (hX : w.rangeAt g2 0 news) (h1 : ∀ v ∈ news, v.oneCell' = true) (hk : n + 1 ≤ 2199023255552)
    (h : ∀ v' w', Lw w' tAc 7 v' (n + 1) (l ++ news) → w.grownBy w' v.ownBlock → (v'.ownBlock = v.ownBlock ∨ v'.ownBlock = some w.heap.size) → K (a.put o.dst v') w') : Oper.wp Try.prog o a w K Q := by
  obtain ⟨ie, z, i1, i2, i3, i5, i4⟩ := all_Ac
  obtain ⟨v', w', hr, q2, q3, _, q5⟩ := run_append_own_at (P := Try.prog) w 0 tAcs o.type tAc ie z 7 56 und_As i1 i2 i3 i5 i4 (by decide) v n l hown ⟨g2, 0, none⟩ 1 1 news (by rw [hm]) (fun j u hj => by rw [Addr.add_mid]; exact hX j u hj) h1 (by unfold maxLen; omega) (by omega) (Nat.zero_le _)
  unfold Oper.wp execOp
  simp only [ho, resolve, invoke, builtin, Sem.run_bind, Sem.run_pure, Result.andThen_ok, List.map_toArray, List.map_cons, List.map_nil, hs, hx, hr]
  exact h v' w' q2 q3 q5
theorem wpP_bAc (x : Operand) (ho : o.op = .buildSlice tAcs 1 #[(0, x)]) (L : List Value) (hL : L.length = 7) (hx : a.eval x = .agg L.toArray)
    (h : ∀ X, Row X w.heap.size L tAc → Below w.heap.size w X → K (a.put o.dst (.slice (some ⟨w.heap.size, 0, none⟩) 1 1)) X) : Oper.wp Try.prog o a w K Q := by
  obtain ⟨ie, z, h1, h2, h3, _, h4⟩ := all_Ac
  refine wp_buildSlice tAcs tAc 1 _ ho L.toArray ie z und_As h1 h2 (by rw [h3]; omega) (by rw [h3]; omega) ?_ (h _ (Row.new' rfl rfl) ((Below.refl _ _).alloc (Nat.le_refl _) _))
  rw [show (Array.map (fun (p : Nat × Operand) => match p with | (i, x) => (i, a.eval x)) #[(0, x)]).toList = [(0, a.eval x)] by simp, hx, h3]
  exact fillP_one 7 (by decide) _ _ (by simp [hL]) (by simp)
theorem wpP_nil {x : Operand} (ho : o.op = .nilCheck x) (B : Nat) (hx : a.eval x = .pointer (some ⟨B, 0, none⟩)) (h : K (a.put o.dst (.pointer (some ⟨B, 0, none⟩))) w) : Oper.wp Try.prog o a w K Q := by
  unfold Oper.wp execOp
  simp only [ho, hx]
  go_simp
  exact h
theorem wpP_f0 {x : Operand} (ho : o.op = .fieldAddr tRV x 0) (B : Nat) (hx : a.eval x = .pointer (some ⟨B, 0, none⟩)) (h : K (a.put o.dst (.pointer (some ⟨B, 0, none⟩))) w) : Oper.wp Try.prog o a w K Q := by
  unfold Oper.wp execOp
  simp only [ho, hx]
  go_simp
  exact h
theorem wpP_ld {ty : TypeId} {x : Operand} (b f : Nat) (v : Value) (ho : o.op = .load ty x) (hx : a.eval x = .pointer (some ⟨b, f, none⟩)) (hr : (loadVar ty ⟨b, f, none⟩).run Try.prog w = .ok v w) (h : K (a.put o.dst v) w) : Oper.wp Try.prog o a w K Q := by
  unfold Oper.wp execOp
  simp only [ho, hx, Instr.loadAt, Instr.sureAddr, Sem.run_bind, Sem.run_pure, Result.andThen_ok, hr, Oper.upon_value]
  exact h
theorem wpP_set1 (ty : TypeId) (x y : Operand) (ho : o.op = .store ty x y)
    (b i : Nat) (v : Value) (cs : List Value) (t : TypeId) (hx : a.eval x = .pointer (some ⟨b, i, none⟩)) (hy : a.eval y = v) (hcs : v.cells = #[v]) (r : Row w b cs t) (hl : i < cs.length) (hi : (Try.prog.info? ty).map (·.size) = some 1) (h1 : v.oneCell' = true)
    (h : ∀ X, Row X b (cs.set i v) t → Gro (· = b) w X → K (a.put o.dst undef) X) : Oper.wp Try.prog o a w K Q := by
  have ht := r.there i 1 (by omega)
  have hr : (storeVar ty ⟨b, i, none⟩ v).run Try.prog w = .ok () (w.setCell ⟨b, i, none⟩ v) := by
    have := run_storeCells_cells (P := Try.prog) b i [v] 0 w (fun j hj => by simpa using (ht j (by simpa using hj)).1) (fun j hj => by simpa using (ht j (by simpa using hj)).2) (fun u hu => by simp at hu; rw [hu]; exact h1)
    cases hq : Try.prog.info? ty with
    | none => simp [hq] at hi
    | some ie =>
      have hs : ie.size = 1 := by simpa [hq] using hi
      simp only [Nat.add_zero, World.setCells] at this
      simp [storeVar, sizeOf, typeInfo, hq, hcs, hs, this]
  unfold Oper.wp execOp
  simp only [ho, hx, hy, Instr.storeAt, Instr.sureAddr, Sem.run_bind, Sem.run_pure, Result.andThen_ok, hr]
  exact h _ (r.set i v) ((Gro.refl _ _).set b i v rfl)
end
theorem ldP_As (w : World) (b f : Nat) (v : Value) (h : w.cell? ⟨b, f, none⟩ = some v) : (loadVar tAcs ⟨b, f, none⟩).run Try.prog w = .ok v w := by
  simp [loadVar, isAgg, run_underlying Try.underlying73, h]
/-- The document's vault has turned, and nothing else. -/
def Rt (w w' : World) (q : Nat) (v : Value) (l : List Acv) : Prop := ∃ v', Ro w' q v' l ∧ Gro (Rq q v) w w' ∧ (∀ g, v'.ownBlock = some g → v.ownBlock = some g ∨ w.heap.size ≤ g)
theorem Rt.same {w X : World} {q : Nat} {v : Value} {l : List Acv} (h : Ro w q v l) (k : Below w.heap.size w X) : Rt w X q v l := ⟨v, h.be k, Gro.of_below k, fun _ e => .inl e⟩
theorem Rt.of {w X Y : World} {q : Nat} {v : Value} {l : List Acv} (k : Below w.heap.size w X) (h : Rt X Y q v l) : Rt w Y q v l := by
  obtain ⟨v', h1, h2, h3⟩ := h
  exact ⟨v', h1, (Gro.of_below k).trans h2, fun g e => (h3 g e).imp id (fun q => Nat.le_trans k.size q)⟩
set_option maxRecDepth 100000 in
set_option maxHeartbeats 4000000 in
theorem do_any {w : World} {q : Nat} {v : Value} {l : List Acv} (h : Ro w q v l) (a : Acv) (hm : a.m < 2 ^ 256) (hn : l.length < 2199023255551) (R8 : List Value) (hR : R8 = a.cells) : Calls Try.prog 56 #[.pointer (some ⟨q, 0, none⟩), .agg R8.toArray] w fun e w' => e = .returned (.int .i64 0) ∧ Rt w w' q v (l ++ [a]) := by
  obtain ⟨A, cap, e, _⟩ := h.rv
  obtain ⟨n, hn0⟩ : ∃ n, n = l.length := ⟨_, rfl⟩
  rw [← hn0] at e hn
  subst e
  have HRO : Hid (Ro w q (.slice A n cap) l) := h
  have HL8 : Hid (R8.length = 7) := by show _ = _; rw [hR]; exact Acv.len a
  have HIA : Hid ((Try.prog.info? tAc).map (·.size) = some R8.length) := by show _ = _; rw [HL8.out]; exact info_Ac
  have HO8 : Hid (∀ v ∈ R8, v.oneCell' = true) := by rw [hR]; exact acv_one a
  have HNB : Hid (n + 1 ≤ 2199023255552) := by show _ ≤ _; omega
  have HNL : Hid (n = l.length) := hn0
  have HOW : Hid (∀ W, Ro W q (.slice A n cap) l → Lw W tAc 7 (.slice A n cap) n (acs l)) := fun W hh => by rw [hn0]; rw [hn0] at hh; exact hh.own
  have HR8 : Hid (R8 = a.cells) := hR
  have HAM : Hid (a.m < 2 ^ 256) := hm
  clear h hR hm hn0 hn
  go_enter Try.func56, Try.ntmps56
  go_upto_region 1 with (refine wpList_bxG tAc rfl (.tmp 1) rfl R8 rfl ?_; intro V1 q1 q2 q3; have R1 : Hid (Row V1 w.heap.size R8 tAc) := q1; have B1 : Hid (Below w.heap.size w V1) := q2; clear q1 q2 q3; simp only [Act.put, List.setIfInBounds_toArray, List.set_cons_zero, List.set_cons_succ])
  obtain ⟨bB, hbB⟩ : ∃ b, b = w.heap.size := ⟨_, rfl⟩
  rw [← hbB] at R1 ⊢
  have rB := R1.out
  have hb1 := Below.refl V1.heap.size V1
  have hRo := HRO.out.be B1.out
  have hFr : Gro (Rq q (.slice A n cap)) w V1 := Gro.of_below B1.out
  clear R1 hbB
  refine wp_named fun a0 ha0 => ?_
  have hsz : a0.tmps.size = 15 := by rw [ha0]; rfl
  have zs0 : a0.eval (.tmp 0) = .pointer (some ⟨q, 0, none⟩) := by rw [ha0]; rfl
  have zs3 : a0.eval (.tmp 3) = .pointer (some ⟨bB, 0, none⟩) := by rw [ha0]; rfl
  obtain ⟨D, hD⟩ : ∃ D : List (Tmp × SP), D = [(5, SP.is (.pointer (some ⟨q, 0, none⟩))), (6, SP.is (.pointer (some ⟨q, 0, none⟩))), (7, SP.is (.pointer (some ⟨q, 0, none⟩))), (8, SP.is (.pointer (some ⟨q, 0, none⟩))), (9, SP.is (.slice A n cap)), (10, SP.is (.agg R8.toArray)), (11, SP.any), (12, SP.any), (13, SP.is (.pointer (some ⟨q, 0, none⟩))), (14, SP.is (.pointer (some ⟨q, 0, none⟩))), (1000, SP.any)] := ⟨_, rfl⟩
  refine wp_region_then (by kernel_rfl) 7 (by decide) (by kernel_rfl) (fun listed ac W => Fp D a0 listed ac W ∧ Below V1.heap.size V1 W ∧ Row W bB R8 tAc ∧ Ro W q (.slice A n cap) l ∧ Gro (Rq q (.slice A n cap)) w W ∧ (listed.getD 6 false = true → (SP.nAc R8).P W (ac.eval (.tmp 11)))) (fun listed ac W => ∃ A7 c7, Fp D a0 listed ac W ∧ ac.eval (.tmp 12) = .slice A7 (n + 1) c7 ∧ Row W q [if listed.getD 10 false = true then .slice A7 (n + 1) c7 else .slice A n cap] tRV ∧ Lw W tAc 7 (.slice A7 (n + 1) c7) (n + 1) (acs l ++ R8) ∧ Gro (Rq q (.slice A n cap)) w W ∧ (∀ g, (Value.slice A7 (n + 1) c7).ownBlock = some g → (Value.slice A n cap).ownBlock = some g ∨ w.heap.size ≤ g)) ?_ ?_ ?_ ?_ ?_
  · exact ⟨Fp.start D a0 _ _, Below.drew hb1, Row.drew rB, hRo.below (Below.drew (Below.refl _ _)), hFr.below (Below.drew (Below.refl _ _)), (fun h => (start_no h).elim)⟩
  · clear ha0 hb1 rB hRo hFr
    intro listed ac W k hl hI hdn hk hne hnl
    replace hl : listed.size = 11 := hl
    obtain ⟨hF, hb1, rB, hRo, hFr, ti6⟩ := hI
    have hk1 : k < 11 := List.mem_range.1 (List.mem_filter.1 hk).1
    rcases (show k = 0 ∨ k = 1 ∨ k = 2 ∨ k = 3 ∨ k = 4 ∨ k = 5 ∨ k = 6 ∨ k = 7 ∨ k = 8 ∨ k = 9 ∨ k = 10 by omega) with rfl | rfl | rfl | rfl | rfl | rfl | rfl | rfl | rfl | rfl | rfl
    · have hk3 := hk
      exact wpOp_plain rfl rfl (wp_move_v (ac.eval (.tmp 0)) rfl rfl ⟨(hF.put 0 5 (SP.is (.pointer (some ⟨q, 0, none⟩))) (ac.eval (.tmp 0)) (by rw [hD]; rfl) (((hF.keep 0 (by rw [hD]; rfl)).trans zs0)) (by rw [hD]; rfl) (by rw [hsz]; decide) (by rw [hl]; decide)), hb1, rB, hRo, hFr, (fun h1 => by change (SP.nAc R8).P _ ((ac.put (some 5) _).eval (.tmp 11)); rw [eval_put_other ac _ (by decide)]; exact ti6 (by rwa [getD_set _ _ _ (by decide)] at h1))⟩)
    · have hk3 := hk
      exact wpOp_plain rfl rfl (wp_move_v (ac.eval (.tmp 0)) rfl rfl ⟨(hF.put 1 6 (SP.is (.pointer (some ⟨q, 0, none⟩))) (ac.eval (.tmp 0)) (by rw [hD]; rfl) (((hF.keep 0 (by rw [hD]; rfl)).trans zs0)) (by rw [hD]; rfl) (by rw [hsz]; decide) (by rw [hl]; decide)), hb1, rB, hRo, hFr, (fun h1 => by change (SP.nAc R8).P _ ((ac.put (some 6) _).eval (.tmp 11)); rw [eval_put_other ac _ (by decide)]; exact ti6 (by rwa [getD_set _ _ _ (by decide)] at h1))⟩)
    · have hk3 := hk
      have e0 := (hF.done 1 (6, SP.is (.pointer (some ⟨q, 0, none⟩))) (by rw [hD]; rfl) (ready_dep hk 1 (by kernel_rfl)))
      exact wpOp_plain rfl rfl (wpP_nil rfl q e0 ⟨(hF.put 2 7 (SP.is (.pointer (some ⟨q, 0, none⟩))) (.pointer (some ⟨q, 0, none⟩)) (by rw [hD]; rfl) rfl (by rw [hD]; rfl) (by rw [hsz]; decide) (by rw [hl]; decide)), hb1, rB, hRo, hFr, (fun h1 => by change (SP.nAc R8).P _ ((ac.put (some 7) _).eval (.tmp 11)); rw [eval_put_other ac _ (by decide)]; exact ti6 (by rwa [getD_set _ _ _ (by decide)] at h1))⟩)
    · have hk3 := hk
      have e0 := (hF.done 2 (7, SP.is (.pointer (some ⟨q, 0, none⟩))) (by rw [hD]; rfl) (ready_dep hk 2 (by kernel_rfl)))
      exact wpOp_plain rfl rfl (wpP_f0 rfl q e0 ⟨(hF.put 3 8 (SP.is (.pointer (some ⟨q, 0, none⟩))) (.pointer (some ⟨q, 0, none⟩)) (by rw [hD]; rfl) rfl (by rw [hD]; rfl) (by rw [hsz]; decide) (by rw [hl]; decide)), hb1, rB, hRo, hFr, (fun h1 => by change (SP.nAc R8).P _ ((ac.put (some 8) _).eval (.tmp 11)); rw [eval_put_other ac _ (by decide)]; exact ti6 (by rwa [getD_set _ _ _ (by decide)] at h1))⟩)
    · have hk3 := hk
      have e0 := (hF.done 3 (8, SP.is (.pointer (some ⟨q, 0, none⟩))) (by rw [hD]; rfl) (ready_dep hk 3 (by kernel_rfl)))
      exact wpOp_plain rfl rfl (wpP_ld q 0 (.slice A n cap) rfl e0 (ldP_As W q 0 _ (hRo.row.cell 0 _ rfl)) ⟨(hF.put 4 9 (SP.is (.slice A n cap)) (.slice A n cap) (by rw [hD]; rfl) rfl (by rw [hD]; rfl) (by rw [hsz]; decide) (by rw [hl]; decide)), hb1, rB, hRo, hFr, (fun h1 => by change (SP.nAc R8).P _ ((ac.put (some 9) _).eval (.tmp 11)); rw [eval_put_other ac _ (by decide)]; exact ti6 (by rwa [getD_set _ _ _ (by decide)] at h1))⟩)
    · have hk3 := hk
      have e0 := ((hF.keep 3 (by rw [hD]; rfl)).trans zs3)
      exact wpOp_plain rfl rfl (wp_load_mid tAc (.tmp 3) rfl bB 0 e0 R8 _ rB.all Try.underlying91 rfl HIA.out ⟨(hF.put 5 10 (SP.is (.agg R8.toArray)) (.agg R8.toArray) (by rw [hD]; rfl) rfl (by rw [hD]; rfl) (by rw [hsz]; decide) (by rw [hl]; decide)), hb1, rB, hRo, hFr, (fun h1 => by change (SP.nAc R8).P _ ((ac.put (some 10) _).eval (.tmp 11)); rw [eval_put_other ac _ (by decide)]; exact ti6 (by rwa [getD_set _ _ _ (by decide)] at h1))⟩)
    · have hk3 := hk
      have e0 := (hF.done 5 (10, SP.is (.agg R8.toArray)) (by rw [hD]; rfl) (ready_dep hk 5 (by kernel_rfl)))
      refine wpOp_plain rfl rfl (wpP_bAc (.tmp 10) rfl R8 HL8.out e0 ?_)
      intro W2 q1 hB
      exact ⟨((hF.world hB).put 6 11 (SP.any) (.slice (some ⟨W.heap.size, 0, none⟩) 1 1) (by rw [hD]; rfl) trivial (by rw [hD]; rfl) (by rw [hsz]; decide) (by rw [hl]; decide)), hb1.trans (hB.mono hb1.size), Row.below rB hB (Row.lt rB), hRo.below hB, hFr.below hB, (fun _ => by change (SP.nAc R8).P _ ((ac.put (some 11) _).eval (.tmp 11)); rw [eval_put_same ac _ (by rw [hF.size, hsz]; decide)]; exact ⟨_, rfl, q1⟩)⟩
    · exact absurd rfl hne
    · have hk3 := hk
      have e0 := (hF.done 0 (5, SP.is (.pointer (some ⟨q, 0, none⟩))) (by rw [hD]; rfl) (ready_dep hk 0 (by kernel_rfl)))
      exact wpOp_plain rfl rfl (wpP_nil rfl q e0 ⟨(hF.put 8 13 (SP.is (.pointer (some ⟨q, 0, none⟩))) (.pointer (some ⟨q, 0, none⟩)) (by rw [hD]; rfl) rfl (by rw [hD]; rfl) (by rw [hsz]; decide) (by rw [hl]; decide)), hb1, rB, hRo, hFr, (fun h1 => by change (SP.nAc R8).P _ ((ac.put (some 13) _).eval (.tmp 11)); rw [eval_put_other ac _ (by decide)]; exact ti6 (by rwa [getD_set _ _ _ (by decide)] at h1))⟩)
    · have hk3 := hk
      have e0 := (hF.done 8 (13, SP.is (.pointer (some ⟨q, 0, none⟩))) (by rw [hD]; rfl) (ready_dep hk 8 (by kernel_rfl)))
      exact wpOp_plain rfl rfl (wpP_f0 rfl q e0 ⟨(hF.put 9 14 (SP.is (.pointer (some ⟨q, 0, none⟩))) (.pointer (some ⟨q, 0, none⟩)) (by rw [hD]; rfl) rfl (by rw [hD]; rfl) (by rw [hsz]; decide) (by rw [hl]; decide)), hb1, rB, hRo, hFr, (fun h1 => by change (SP.nAc R8).P _ ((ac.put (some 14) _).eval (.tmp 11)); rw [eval_put_other ac _ (by decide)]; exact ti6 (by rwa [getD_set _ _ _ (by decide)] at h1))⟩)
    · exact absurd (ready_dep hk 7 (by kernel_rfl)) hnl
  · clear ha0 hb1 rB hRo hFr
    intro listed ac W hl hI hdn hk
    replace hl : listed.size = 11 := hl
    obtain ⟨hF, hb1, rB, hRo, hFr, ti6⟩ := hI
    have e9 := (hF.done 4 (9, SP.is (.slice A n cap)) (by rw [hD]; rfl) (ready_dep hk 4 (by kernel_rfl)))
    obtain ⟨M, e11, q1⟩ := (ti6 (ready_dep hk 6 (by kernel_rfl)))
    have hno10 : ¬ listed.getD 10 false = true := fun h => not_yet hk (hdn 10 h 7 (by kernel_rfl))
    refine wpOp_plain rfl rfl (wpP_app7 (.tmp 9) (.tmp 11) rfl (.slice A n cap) n (acs l) R8 e9 (HOW.out W hRo) M HL8.out e11 q1.all HO8.out HNB.out ?_)
    intro v5 W2 p1 p2 p3
    obtain ⟨A7, c7, e7, _, _⟩ := Lw.form p1
    subst e7
    have hT : Fp D a0 listed ac W2 := hF.turn (by rw [hD]; simp only [List.forall_mem_cons, List.not_mem_nil, false_implies, implies_true, and_true]; exact ⟨fun _ h => h, fun _ h => h, fun _ h => h, fun _ h => h, fun _ h => h, fun _ h => h, fun _ h => h, fun _ h => h, fun _ h => h, fun _ h => h, fun _ h => h⟩)
    exact ⟨A7, c7, (hT.put 7 12 SP.any _ (by rw [hD]; rfl) trivial (by rw [hD]; rfl) (by rw [hsz]; decide) (by rw [hl]; decide)), (eval_put_same ac _ (by rw [hF.size, hsz]; decide)), (by rw [getD_set _ _ _ (by decide), if_neg hno10]; exact row_gb hRo.row p2 (some_ne (Lw.ne (HOW.out W hRo) hRo.row (by decide)))), p1, (hFr.grown p2 (fun g eg => .inl (.inr eg))), (fun g eg => by rcases p3 with z | z; exact .inl (z ▸ eg); exact .inr (by rw [z] at eg; simp only [Option.some.injEq] at eg; have := hFr.size; omega))⟩
  · clear ha0 hb1 rB hRo hFr
    intro listed ac W k hl hJ hdn hk hne hyl
    replace hl : listed.size = 11 := hl
    obtain ⟨A7, c7, hF, hJ1, hJ2, hJ3, hJ4, hJ5⟩ := hJ
    have hk1 : k < 11 := List.mem_range.1 (List.mem_filter.1 hk).1
    rcases (show k = 0 ∨ k = 1 ∨ k = 2 ∨ k = 3 ∨ k = 4 ∨ k = 5 ∨ k = 6 ∨ k = 7 ∨ k = 8 ∨ k = 9 ∨ k = 10 by omega) with rfl | rfl | rfl | rfl | rfl | rfl | rfl | rfl | rfl | rfl | rfl
    · have hk3 := hk
      exact wpOp_plain rfl rfl (wp_move_v (ac.eval (.tmp 0)) rfl rfl ⟨A7, c7, (hF.put 0 5 (SP.is (.pointer (some ⟨q, 0, none⟩))) (ac.eval (.tmp 0)) (by rw [hD]; rfl) (((hF.keep 0 (by rw [hD]; rfl)).trans zs0)) (by rw [hD]; rfl) (by rw [hsz]; decide) (by rw [hl]; decide)), (eval_put_other ac _ (by decide)).trans (hJ1), (by rw [getD_set _ _ _ (by decide)]; exact hJ2), hJ3, hJ4, hJ5⟩)
    · exact absurd (hdn 2 (hdn 3 (hdn 4 (hdn 7 hyl 4 (by kernel_rfl)) 3 (by kernel_rfl)) 2 (by kernel_rfl)) 1 (by kernel_rfl)) (not_yet hk)
    · exact absurd (hdn 3 (hdn 4 (hdn 7 hyl 4 (by kernel_rfl)) 3 (by kernel_rfl)) 2 (by kernel_rfl)) (not_yet hk)
    · exact absurd (hdn 4 (hdn 7 hyl 4 (by kernel_rfl)) 3 (by kernel_rfl)) (not_yet hk)
    · exact absurd (hdn 7 hyl 4 (by kernel_rfl)) (not_yet hk)
    · exact absurd (hdn 6 (hdn 7 hyl 6 (by kernel_rfl)) 5 (by kernel_rfl)) (not_yet hk)
    · exact absurd (hdn 7 hyl 6 (by kernel_rfl)) (not_yet hk)
    · exact absurd rfl hne
    · have hk3 := hk
      have e0 := (hF.done 0 (5, SP.is (.pointer (some ⟨q, 0, none⟩))) (by rw [hD]; rfl) (ready_dep hk 0 (by kernel_rfl)))
      exact wpOp_plain rfl rfl (wpP_nil rfl q e0 ⟨A7, c7, (hF.put 8 13 (SP.is (.pointer (some ⟨q, 0, none⟩))) (.pointer (some ⟨q, 0, none⟩)) (by rw [hD]; rfl) rfl (by rw [hD]; rfl) (by rw [hsz]; decide) (by rw [hl]; decide)), (eval_put_other ac _ (by decide)).trans (hJ1), (by rw [getD_set _ _ _ (by decide)]; exact hJ2), hJ3, hJ4, hJ5⟩)
    · have hk3 := hk
      have e0 := (hF.done 8 (13, SP.is (.pointer (some ⟨q, 0, none⟩))) (by rw [hD]; rfl) (ready_dep hk 8 (by kernel_rfl)))
      exact wpOp_plain rfl rfl (wpP_f0 rfl q e0 ⟨A7, c7, (hF.put 9 14 (SP.is (.pointer (some ⟨q, 0, none⟩))) (.pointer (some ⟨q, 0, none⟩)) (by rw [hD]; rfl) rfl (by rw [hD]; rfl) (by rw [hsz]; decide) (by rw [hl]; decide)), (eval_put_other ac _ (by decide)).trans (hJ1), (by rw [getD_set _ _ _ (by decide)]; exact hJ2), hJ3, hJ4, hJ5⟩)
    · have hk3 := hk
      have e14 := (hF.done 9 (14, SP.is (.pointer (some ⟨q, 0, none⟩))) (by rw [hD]; rfl) (ready_dep hk 9 (by kernel_rfl)))
      rw [if_neg (not_yet hk)] at hJ2
      refine wpOp_plain rfl rfl (wpP_set1 tAcs (.tmp 14) (.tmp 12) rfl q 0 (.slice A7 (n + 1) c7) [.slice A n cap] tRV e14 hJ1 rfl hJ2 (Nat.succ_pos _) sz_Acs rfl ?_)
      intro W2 p1 p2
      have hT : Fp D a0 listed ac W2 := hF.turn (by rw [hD]; simp only [List.forall_mem_cons, List.not_mem_nil, false_implies, implies_true, and_true]; exact ⟨fun _ h => h, fun _ h => h, fun _ h => h, fun _ h => h, fun _ h => h, fun _ h => h, fun _ h => h, fun _ h => h, fun _ h => h, fun _ h => h, fun _ h => h⟩)
      exact ⟨A7, c7, (hT.skip 10 1000 (by rw [hD]; rfl) (by rw [hl]; decide)), hJ1, (by rw [if_pos (getD_same (by rw [hl]; decide))]; exact p1), (Lw.gro hJ3 p2 (fun g eg z => Lw.ne hJ3 hJ2 (by decide) g eg z)), (Gro.trans hJ4 (Gro.mono p2 (fun g z => .inl z))), hJ5⟩
  · clear hb1 rB hRo hFr
    intro listed ac W hl hJ hr
    replace hl : listed.size = 11 := hl
    obtain ⟨A7, c7, hF, hJ1, hJ2, hJ3, hJ4, hJ5⟩ := hJ
    have hall := all_listed (by kernel_rfl) hl hr
    rw [if_pos (hall 10 (by decide))] at hJ2
    have h5 : ac.eval (.tmp 5) = .pointer (some ⟨q, 0, none⟩) := hF.done 0 (5, SP.is (.pointer (some ⟨q, 0, none⟩))) (by rw [hD]; rfl) (hall 0 (by decide))
    have h6 : ac.eval (.tmp 6) = .pointer (some ⟨q, 0, none⟩) := hF.done 1 (6, SP.is (.pointer (some ⟨q, 0, none⟩))) (by rw [hD]; rfl) (hall 1 (by decide))
    have h7 : ac.eval (.tmp 7) = .pointer (some ⟨q, 0, none⟩) := hF.done 2 (7, SP.is (.pointer (some ⟨q, 0, none⟩))) (by rw [hD]; rfl) (hall 2 (by decide))
    have h8 : ac.eval (.tmp 8) = .pointer (some ⟨q, 0, none⟩) := hF.done 3 (8, SP.is (.pointer (some ⟨q, 0, none⟩))) (by rw [hD]; rfl) (hall 3 (by decide))
    have h9 : ac.eval (.tmp 9) = .slice A n cap := hF.done 4 (9, SP.is (.slice A n cap)) (by rw [hD]; rfl) (hall 4 (by decide))
    have h10 : ac.eval (.tmp 10) = .agg R8.toArray := hF.done 5 (10, SP.is (.agg R8.toArray)) (by rw [hD]; rfl) (hall 5 (by decide))
    obtain ⟨x11, h11⟩ : ∃ x, ac.eval (.tmp 11) = x := ⟨_, rfl⟩
    have h13 : ac.eval (.tmp 13) = .pointer (some ⟨q, 0, none⟩) := hF.done 8 (13, SP.is (.pointer (some ⟨q, 0, none⟩))) (by rw [hD]; rfl) (hall 8 (by decide))
    have h14 : ac.eval (.tmp 14) = .pointer (some ⟨q, 0, none⟩) := hF.done 9 (14, SP.is (.pointer (some ⟨q, 0, none⟩))) (by rw [hD]; rfl) (hall 9 (by decide))
    have ea := hF.lay [(5, .pointer (some ⟨q, 0, none⟩)), (6, .pointer (some ⟨q, 0, none⟩)), (7, .pointer (some ⟨q, 0, none⟩)), (8, .pointer (some ⟨q, 0, none⟩)), (9, .slice A n cap), (10, .agg R8.toArray), (11, x11), (12, .slice A7 (n + 1) c7), (13, .pointer (some ⟨q, 0, none⟩)), (14, .pointer (some ⟨q, 0, none⟩))] (by rw [hD, hsz]; rfl) (by simp only [List.forall_mem_cons, List.not_mem_nil, false_implies, implies_true, and_true]; exact ⟨h5, h6, h7, h8, h9, h10, h11, hJ1, h13, h14⟩)
    rw [ha0] at ea
    simp only [List.foldl_cons, List.foldl_nil, List.setIfInBounds_toArray, List.set_cons_zero, List.set_cons_succ] at ea
    clear hF hall hr hl hD zs0 zs3 ha0 hsz h5 h6 h7 h8 h9 h10 h11 hJ1 h13 h14
    subst ea
    have HF : Hid (Rt w W q (.slice A n cap) (l ++ [a])) := ⟨_, ⟨hJ2, by rw [List.length_append, acs_app, acs_one, ← HR8.out, List.length_singleton, ← HNL.out]; exact hJ3, fun r hr => by
      rcases List.mem_append.1 hr with z | z
      · exact HRO.out.m r z
      · obtain rfl := List.mem_singleton.1 z
        exact HAM.out, by rw [List.length_append, List.length_singleton, ← HNL.out]; have := HNB.out; omega⟩, hJ4, hJ5⟩
    clear hJ2 hJ3 hJ4 hJ5
    go_wp2_with fail
    go_ret
    exact ⟨rfl, HF.out⟩

end Go.Proofs.Ytkbdnebmekhcdaa
