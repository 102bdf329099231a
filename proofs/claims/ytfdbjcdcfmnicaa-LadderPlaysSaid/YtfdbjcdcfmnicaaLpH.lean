/-
  LadderPlays: the law's keep and still.
-/
import Derived.Test.YtfdbjcdcfmnicaaLpG
namespace Go.Proofs.Ytfdbjcdcfmnicaa
open Go Go.RowKit
open Sha

section
variable {Q : Exit → Act → World → Prop} {o : Oper} {a : Act} {w : World} {K : Act → World → Prop}
theorem wp_appM (t e : TypeId) (bt : Nat) (hu : Try.prog.underlying t = some (.slice e)) (hi : ∃ ie z, Try.prog.info? e = some ie ∧ ie.zero = some z ∧ ie.size = 1 ∧ ie.bytes = bt ∧ z.cells.size = 1) (s x : Operand) (ho : o.op = .call { callee := .builtin .append, args := #[s, x], argTypes := #[t, t] }) (v : Value) (n : Nat) (l news : List Value) (hs : a.eval s = v) (hown : Lw w e 1 v n l)
    (A : Option Addr) (m cap : Nat) (hm : news.length = m) (hx : a.eval x = .slice A m cap) (hA : A = none → m = 0 ∧ cap = 0) (hX : ∀ ad, A = some ad → ∀ j u, news[j]? = some u → w.cell? (ad.add j) = some u) (h1 : ∀ v ∈ news, v.oneCell' = true) (hk : (n + m) * bt ≤ 140737488355328) (hk2 : n + m ≤ 140737488355328)
    (h : ∀ v' w', Lw w' e 1 v' (n + m) (l ++ news) → w.grownBy w' v.ownBlock → (v'.ownBlock = v.ownBlock ∨ v'.ownBlock = some w.heap.size) → K (a.put o.dst v') w') : Oper.wp Try.prog o a w K Q := by
  obtain ⟨ie, z, i1, i2, i3, i5, i4⟩ := hi
  cases A with
  | none =>
    obtain ⟨hm0, rfl⟩ := hA rfl
    subst hm
    have hn : news = [] := List.length_eq_zero_iff.1 hm0
    subst hn
    have hr := run_append_owned_none (P := Try.prog) (w := w) 0 t o.type e ie 1 hu i1 v n l hown
    unfold Oper.wp execOp
    have hx' : a.eval x = .slice none 0 0 := hx
    simp only [ho, resolve, invoke, builtin, Sem.run_bind, Sem.run_pure, Result.andThen_ok, List.map_toArray, List.map_cons, List.map_nil, hs, hx', hr]
    exact h v w (by rw [List.append_nil]; exact hown) ⟨rfl, rfl, rfl, Nat.le_refl _, fun _ _ _ => rfl⟩ (.inl rfl)
  | some ad =>
    obtain ⟨v', w', hr, q2, q3, _, q5⟩ := run_append_own_at (P := Try.prog) w 0 t o.type e ie z 1 bt hu i1 i2 i3 i5 i4 (by decide) v n l hown ad m cap news (by rw [hm, Nat.mul_one]) (hX ad rfl) h1 (by unfold maxLen; omega) hk (Nat.zero_le _)
    unfold Oper.wp execOp
    simp only [ho, resolve, invoke, builtin, Sem.run_bind, Sem.run_pure, Result.andThen_ok, List.map_toArray, List.map_cons, List.map_nil, hs, hx, hr]
    exact h v' w' q2 q3 q5
end
section
variable {ops : Array Oper} {rest : List Oper} {op : Oper} {a : Act} {w : World} {Q : Exit → Act → World → Prop}
theorem wpList_appM (t e : TypeId) (bt : Nat) (hu : Try.prog.underlying t = some (.slice e)) (hi : ∃ ie z, Try.prog.info? e = some ie ∧ ie.zero = some z ∧ ie.size = 1 ∧ ie.bytes = bt ∧ z.cells.size = 1) (hgd : op.guard = none) (s x : Operand) (ho : op.op = .call { callee := .builtin .append, args := #[s, x], argTypes := #[t, t] }) (v : Value) (n : Nat) (l news : List Value) (hs : a.eval s = v) (hown : Lw w e 1 v n l)
    (A : Option Addr) (m cap : Nat) (hm : news.length = m) (hx : a.eval x = .slice A m cap) (hA : A = none → m = 0 ∧ cap = 0) (hX : ∀ ad, A = some ad → ∀ j u, news[j]? = some u → w.cell? (ad.add j) = some u) (h1 : ∀ v ∈ news, v.oneCell' = true) (hk : (n + m) * bt ≤ 140737488355328) (hk2 : n + m ≤ 140737488355328)
    (h : ∀ v' w', Lw w' e 1 v' (n + m) (l ++ news) → w.grownBy w' v.ownBlock → (v'.ownBlock = v.ownBlock ∨ v'.ownBlock = some w.heap.size) → wpList Try.prog ops Q rest (a.put op.dst v') w') : wpList Try.prog ops Q (op :: rest) a w :=
  wpList_plain hgd fun _ hK => wp_appM t e bt hu hi s x ho v n l news hs hown A m cap hm hx hA hX h1 hk hk2 (fun v' w' q1 q2 q3 => hK _ _ (h v' w' q1 q2 q3))
end
abbrev tPss : TypeId := 46
abbrev tPr : TypeId := 48
theorem all_Ps : (Try.prog.info? tPs).map (fun i => (i.size, i.bytes, i.zero.map (·.cells.size))) = some (1, 24, some 1) := by kernel_rfl
theorem info_PsO : ∃ ie z, Try.prog.info? tPs = some ie ∧ ie.zero = some z ∧ ie.size = 1 ∧ ie.bytes = 24 ∧ z.cells.size = 1 := by
  have i1 := all_Ps
  cases hi : Try.prog.info? tPs with
  | none => rw [hi] at i1; cases i1
  | some ie =>
    rw [hi] at i1
    simp only [Option.map_some, Option.some.injEq, Prod.mk.injEq] at i1
    cases hz : ie.zero with
    | none => rw [hz] at i1; cases i1.2.2
    | some z => rw [hz] at i1; exact ⟨ie, z, rfl, hz, i1.1, i1.2.1, by simpa using i1.2.2⟩
theorem info_PsO4 : ∃ ie z, Try.prog.info? tPs = some ie ∧ ie.zero = some z ∧ ie.size = 1 ∧ z.cells.size = 1 := by
  obtain ⟨ie, z, h1, h2, h3, _, h5⟩ := info_PsO
  exact ⟨ie, z, h1, h2, h3, h5⟩
theorem info_Pss : (Try.prog.info? tPss).map (·.size) = some 1 := by kernel_rfl
theorem Lo.put {w : World} {A : Option Addr} {n cap : Nat} {xs : List Value} (h : Lo w tP 90 (.slice A n cap) n xs) (h0 : 0 < n) : ∃ g o cur, A = some ⟨g, o, none⟩ ∧ Row w g cur tP ∧ o + n * 90 ≤ cur.length ∧
    ∀ (X : World) (k : Nat) (y : List Value), k < n → y.length = 90 → Row X g (cur.take (o + k * 90) ++ y ++ cur.drop (o + k * 90 + y.length)) tP → Lo X tP 90 (.slice A n cap) n (xs.take (k * 90) ++ y ++ xs.drop (k * 90 + 90)) := by
  obtain ⟨g, o, cap', cs, hv, r, hc, hm, hl, ht⟩ := h.open h0
  obtain ⟨rfl, rfl⟩ : A = some (⟨g, o, none⟩ : Addr) ∧ cap = cap' := by simpa using hv
  have hc9 : n * 90 ≤ cap * 90 := Nat.mul_le_mul_right 90 hc
  refine ⟨g, o, cs, rfl, r, by omega, fun X k y hk hy rX => ?_⟩
  have hk9 : k * 90 + 90 ≤ n * 90 := by have : (k + 1) * 90 ≤ n * 90 := Nat.mul_le_mul_right 90 hk; omega
  have hlen : (cs.take (o + k * 90) ++ y ++ cs.drop (o + k * 90 + y.length)).length = cs.length := by
    rw [List.length_append, List.length_append, List.length_take, List.length_drop, hy]; omega
  refine ⟨by simp only [List.length_append, List.length_take, List.length_drop, h.1, hy]; omega, .inr ⟨g, o, cap, _, rfl, rX, hc, hm, by rw [hlen]; exact hl, ?_⟩⟩
  rw [splice cs y o (n * 90) (k * 90) 90 hy hk9 (by omega), ht]
theorem rep_pcs (t : Nat) (x : Pn) : pcs (List.replicate (t + 1) x) = pcs (List.replicate t x) ++ x.cells := by
  rw [List.replicate_succ', pcs_app, pcs_cons, show pcs [] = [] from rfl, List.append_nil]
theorem rep_pcs_len (t : Nat) (x : Pn) (hx : x.Wf) : (pcs (List.replicate t x)).length = t * 90 := by
  rw [pcs_len (fun p hp => by rw [List.eq_of_mem_replicate hp]; exact hx), List.length_replicate]
theorem rep_step (t : Nat) (x : Pn) (hx : x.Wf) (xs : List Value) : (pcs (List.replicate t x) ++ xs.drop (t * 90)).take (t * 90) ++ x.cells ++ (pcs (List.replicate t x) ++ xs.drop (t * 90)).drop (t * 90 + 90) = pcs (List.replicate (t + 1) x) ++ xs.drop ((t + 1) * 90) := by
  have hl := rep_pcs_len t x hx
  rw [List.take_append_of_le_length (by omega), List.take_of_length_le (by omega), show t * 90 + 90 = (pcs (List.replicate t x)).length + 90 by omega, List.drop_length_add_append, List.drop_drop, rep_pcs, show t * 90 + 90 = (t + 1) * 90 by omega]
theorem row_ty {w : World} {g : Nat} {a b : List Value} {s t : TypeId} (h : Row w g a s) (k : Row w g b t) : s = t := by
  have := (show w.heap[g]? = _ from h).symm.trans k
  simp only [Option.some.injEq, Obj.cells.injEq] at this
  exact this.2.1
theorem lo_lw {w : World} {e e' : TypeId} {s s' n n' : Nat} {v v' : Value} {xs xs' : List Value} (h : Lo w e s v n xs) (k : Lw w e' s' v' n' xs') (ht : e ≠ e') : ∀ g, v.ownBlock = some g → v'.ownBlock ≠ some g := fun g e1 e2 => by
  obtain ⟨_, h2⟩ := h
  rcases h2 with ⟨h2, _⟩ | ⟨g', o, cap, cs, hv, r, _⟩
  · rw [h2] at e1; cases e1
  · rw [hv] at e1
    obtain rfl : g' = g := by simpa [Value.ownBlock] using e1
    exact Lw.ne k r ht g' e2 rfl
/-- What keep may change. -/
def Rk (q : Nat) (T l : Value) (g : Nat) : Prop := g = q ∨ T.ownBlock = some g ∨ l.ownBlock = some g
set_option maxRecDepth 100000 in
set_option maxHeartbeats 4000000 in
theorem keep_any {w : World} {q : Nat} {cs : List Value} {T : Value} {N : Nat} {vals : List Value} {A : Option Addr} {m c : Nat} {xs : List Value} (hr : Row w q cs tPr) (h213 : cs[213]? = some T) (hT : Lw w tPs 1 T N vals) (hl : Lo w tP 90 (.slice A m c) m xs) (hm : m ≤ 1000) (hN : N ≤ 5000000000000) :
    Calls Try.prog 60 #[.pointer (some ⟨q, 0, none⟩), .slice A m c] w fun e w' => ∃ T', e = .returned (.tuple #[]) ∧ Row w' q (cs.set 213 T') tPr ∧ Lw w' tPs 1 T' (N + 1) (vals ++ [.slice A m c]) ∧ Lo w' tP 90 (.slice A m c) m (pcs (List.replicate m (mk (-((N : Int) + 1))))) ∧ Gro (Rk q T (.slice A m c)) w w' ∧ (T'.ownBlock = T.ownBlock ∨ ∀ g, T'.ownBlock = some g → w.heap.size ≤ g) := by
  obtain ⟨AT, cT, rfl, hcT, _⟩ := Lw.form hT
  obtain ⟨x, hx⟩ : ∃ x, x = mk (-((N : Int) + 1)) := ⟨_, rfl⟩
  have hxw : x.Wf := by rw [hx]; exact mk_wf _
  obtain ⟨M, hM⟩ : ∃ M, M = x.cells := ⟨_, rfl⟩
  have HMX : Hid (M = x.cells ∧ x.Wf) := ⟨hM, hxw⟩
  have HBM : Hid (Try.prog.built tP [(0, .int .i64 (-((N : Int) + 1)))] = some M.toArray) := by show _ = _; rw [hM, hx]; exact built_mk _
  have HIM : Hid ((Try.prog.info? tP).map (·.size) = some M.length) := by show _ = _; rw [hM]; exact Pn.info hxw
  have HOM : Hid (∀ u ∈ M, u.oneCell' = true) := by rw [hM]; exact Pn.one x
  have HL : Hid (M.length = 90) := by show _ = _; rw [hM]; exact Pn.len hxw
  have hN2 : (N : Int) < 5000000000001 := by omega
  have HR : Hid (Row w q cs tPr) := hr
  have HT : Hid (Lw w tPs 1 (.slice AT N cT) N vals) := hT
  have HLO : Hid (Lo w tP 90 (.slice A m c) m xs) := hl
  have c213 : w.cell? ⟨q, 213, none⟩ = some (.slice AT N cT) := hr.cell 213 _ h213
  have H213 : Hid (213 < cs.length) := (List.getElem?_eq_some_iff.1 h213).1
  have HNB : Hid ((N + 1) * 24 ≤ 140737488355328 ∧ N + 1 ≤ 140737488355328) := ⟨by omega, by omega⟩
  rw [← hx]
  clear hr hT hl h213 hx hxw hM hcT
  go_enter Try.func60, Try.ntmps60
  go_upto_region 1 with (first
    | (refine wpList_buildOne tPss tPs Try.underlying46 info_PsO4 rfl (.tmp 10) rfl (.slice A m c) rfl rfl ?_; intro X1 q1 q2 q3; clear q3; have RB : Hid (Row X1 w.heap.size [.slice A m c] tPs) := q1; have B1 : Hid (Below w.heap.size w X1) := q2; clear q1 q2 c213; simp only [Act.put, List.setIfInBounds_toArray, List.set_cons_zero, List.set_cons_succ])
    | (refine wpList_appM tPss tPs 24 Try.underlying46 info_PsO rfl (.tmp 9) (.tmp 11) rfl (.slice AT N cT) N vals [.slice A m c] rfl (Lw.be HT.out B1.out) (some ⟨w.heap.size, 0, none⟩) 1 1 rfl rfl (fun e => by cases e) (fun ad e j u hj => by { cases e; rw [Addr.add_mid]; exact RB.out.all j u hj }) (fun u hu => by { rw [List.mem_singleton.1 hu]; rfl }) HNB.out.1 HNB.out.2 ?_; intro T2 X2 q1 q2 q3; obtain ⟨A2, c2, rfl, _, _⟩ := Lw.form q1; have HT2 : Hid (Lw X2 tPs 1 (.slice A2 (N + 1) c2) (N + 1) (vals ++ [.slice A m c])) := q1; have G2 : Hid (Gro (Rk q (.slice AT N cT) (.slice A m c)) w X2) := (Gro.of_below B1.out).grown q2 (fun g e => .inl (.inr (.inl e))); have NT : Hid ((Value.slice A2 (N + 1) c2).ownBlock = (Value.slice AT N cT).ownBlock ∨ ∀ g, (Value.slice A2 (N + 1) c2).ownBlock = some g → w.heap.size ≤ g) := q3.imp id (fun q g e => by { rw [q] at e; cases e; exact B1.out.size }); have RQ2 : Hid (Row X2 q cs tPr) := (q2.block q (Row.below HR.out B1.out HR.out.lt).lt (fun e => Lw.ne (Lw.be HT.out B1.out) (Row.below HR.out B1.out HR.out.lt) (by decide) q e.symm rfl)).trans (Row.below HR.out B1.out HR.out.lt); have HLO2 : Hid (Lo X2 tP 90 (.slice A m c) m xs) := (HLO.out.be B1.out).block (fun g e => q2.block g ((HLO.out.be B1.out).lt g e) (fun e2 => lo_lw (HLO.out.be B1.out) (Lw.be HT.out B1.out) (by decide) g e e2.symm)); clear q1 q2 q3; simp only [Act.put, List.setIfInBounds_toArray, List.set_cons_zero, List.set_cons_succ])
    | (refine wpList_st1 rfl tPss (.tmp 14) (.tmp 12) rfl q 213 (.slice A2 (N + 1) c2) cs tPr rfl rfl rfl RQ2.out H213.out info_Pss rfl ?_; intro X3 q1 q2; have RQ3 : Hid (Row X3 q (cs.set 213 (.slice A2 (N + 1) c2)) tPr) := q1; have G3 : Hid (Gro (Rk q (.slice AT N cT) (.slice A m c)) w X3) := G2.out.trans (q2.mono (fun g e => .inl e)); have HT3 : Hid (Lw X3 tPs 1 (.slice A2 (N + 1) c2) (N + 1) (vals ++ [.slice A m c])) := Lw.gro HT2.out q2 (fun g e e2 => Lw.ne HT2.out RQ2.out (by decide) g e e2); have HLO3 : Hid (Lo X3 tP 90 (.slice A m c) m xs) := HLO2.out.gro q2 (fun g e e2 => HLO2.out.ne RQ2.out (by decide) g e e2); clear q1 q2; simp only [Act.put]))
  clear HT HLO HR B1 RB HT2 HLO2 RQ2 G2
  go_wp2
  go_loopw [4] (fun i wr => ∃ t : Nat, t ≤ m ∧ i = .int .i64 (t : Int) ∧ Row wr q (cs.set 213 (.slice A2 (N + 1) c2)) tPr ∧ Lw wr tPs 1 (.slice A2 (N + 1) c2) (N + 1) (vals ++ [.slice A m c]) ∧ Lo wr tP 90 (.slice A m c) m (pcs (List.replicate t x) ++ xs.drop (t * 90)) ∧ Gro (Rk q (.slice AT N cT) (.slice A m c)) w wr) (fun i _ => m - (intOf i).toNat)
  case atStart => exact ⟨0, Nat.zero_le _, rfl, RQ3.out, HT3.out, HLO3.out, G3.out⟩
  case round =>
    clear RQ3 HT3 HLO3 G3
    obtain ⟨t, ht, rfl, hrq, hlt3, hlo, hg⟩ := hrel
    by_cases hlt : t < m
    · have c213 : wr.cell? ⟨q, 213, none⟩ = some (.slice A2 (N + 1) c2) := hrq.cell 213 _ (List.getElem?_set_self H213.out)
      obtain ⟨g, o, cur, rfl, r, hc, hput⟩ := hlo.put (by omega)
      have RR : Hid (Row wr g cur tP) := r
      have HC : Hid (o + t * 90 + M.length ≤ cur.length) := by show _ ≤ _; rw [HL.out]; have : (t + 1) * 90 ≤ m * 90 := Nat.mul_le_mul_right 90 hlt; omega
      have HS : Hid (∀ X, Row X g (cur.take (o + t * 90) ++ M ++ cur.drop (o + t * 90 + M.length)) tP → Gro (· = g) wr X → Row X q (cs.set 213 (.slice A2 (N + 1) c2)) tPr ∧ Lw X tPs 1 (.slice A2 (N + 1) c2) (N + 1) (vals ++ [.slice (some ⟨g, o, none⟩) m c]) ∧ Lo X tP 90 (.slice (some ⟨g, o, none⟩) m c) m (pcs (List.replicate (t + 1) x) ++ xs.drop ((t + 1) * 90)) ∧ Gro (Rk q (.slice AT N cT) (.slice (some ⟨g, o, none⟩) m c)) w X) := fun X q1 q2 => by
        refine ⟨q2.row hrq (fun e => ?_), Lw.gro hlt3 q2 (fun g' e e2 => ?_), ?_, hg.trans (q2.mono (fun g' e => .inr (.inr (by rw [e]; rfl))))⟩
        · subst e
          exact absurd (row_ty hrq r) (by decide)
        · subst e2
          exact Lw.ne hlt3 r (by decide) g' e rfl
        · have := hput X t M hlt HL.out q1
          rw [HMX.out.1, rep_step t x HMX.out.2 xs] at this
          exact this
      clear hrq hlt3 hlo hg r hc hput
      go_wp2_with (first
        | (refine wpList_blt rfl tP _ rfl [(0, .int .i64 (-((N : Int) + 1)))] rfl M HBM.out ?_; simp only [Act.put, List.setIfInBounds_toArray, List.set_cons_zero, List.set_cons_succ])
        | (refine wpList_ixL tPs tP (.tmp 21) (.tmp 22) rfl g o m c t 90 rfl rfl hlt Try.underlying42 info_P rfl ?_; simp only [Act.put, List.setIfInBounds_toArray, List.set_cons_zero, List.set_cons_succ])
        | (refine wpList_stM rfl tP (.tmp 30) (.tmp 29) rfl g (o + t * 90) M cur tP rfl rfl RR.out HC.out HIM.out (all_one HOM.out) ?_; intro X q1 q2; have H1 : Hid _ := HS.out X q1 q2; clear q1 q2 c213; simp only [Act.put]))
      exact ⟨⟨t + 1, hlt, by go_num, H1.out⟩, by simp [intOf]; omega⟩
    · obtain rfl : t = m := by omega
      have hlo2 : Lo wr tP 90 (.slice A t c) t (pcs (List.replicate t x)) := by
        rw [List.drop_eq_nil_of_le (by have := hlo.1; rw [List.length_append, rep_pcs_len t x HMX.out.2, List.length_drop] at this; omega), List.append_nil] at hlo
        exact hlo
      have HF : Hid (Row wr q (cs.set 213 (.slice A2 (N + 1) c2)) tPr ∧ Lw wr tPs 1 (.slice A2 (N + 1) c2) (N + 1) (vals ++ [.slice A t c]) ∧ Lo wr tP 90 (.slice A t c) t (pcs (List.replicate t x)) ∧ Gro (Rk q (.slice AT N cT) (.slice A t c)) w wr) := ⟨hrq, hlt3, hlo2, hg⟩
      clear hrq hlt3 hlo hlo2 hg hlt ht
      go_wp2
      go_end0
      exact ⟨_, rfl, HF.out.1, HF.out.2.1, HF.out.2.2.1, HF.out.2.2.2, NT.out⟩
set_option maxRecDepth 100000 in
set_option maxHeartbeats 4000000 in
theorem still_any {w : World} {q : Nat} {cs : List Value} {T : Value} {ts : List (Value × Nat)} (hr : Row w q cs tPr) (h213 : cs[213]? = some T) (hT : Lw w tPs 1 T ts.length (ts.map (·.1))) (hN : ts.length ≤ 5000000000000) (hti : ∀ (j : Nat) (y : Value × Nat), ts[j]? = some y → Lo w tP 90 y.1 y.2 (pcs (List.replicate y.2 (mk (-1 - (j : Int))))) ∧ y.2 ≤ 1000) :
    Calls Try.prog 20 #[.pointer (some ⟨q, 0, none⟩)] w fun e w' => e = .returned (.bool true) ∧ w' = w := by
  obtain ⟨N, hNN⟩ : ∃ N, N = ts.length := ⟨_, rfl⟩
  rw [← hNN] at hT hN
  obtain ⟨AT, cT, rfl, hcT, hA0⟩ := Lw.form hT
  have c213 : w.cell? ⟨q, 213, none⟩ = some (.slice AT N cT) := hr.cell 213 _ h213
  have HTI : Hid (∀ (j : Nat) (y : Value × Nat), ts[j]? = some y → Lo w tP 90 y.1 y.2 (pcs (List.replicate y.2 (mk (-1 - (j : Int))))) ∧ y.2 ≤ 1000) := hti
  have HT : Hid (Lw w tPs 1 (.slice AT N cT) N (ts.map (·.1))) := hT
  have HNN : Hid (N = ts.length) := hNN
  have hN2 : (N : Int) < 5000000000001 := by omega
  clear hr hT hti h213 hcT hA0 hNN
  go_enter Try.func20, Try.ntmps20
  go_wp2
  go_loopw [3] (fun i wr => ∃ j : Nat, j ≤ N ∧ i = .int .i64 (j : Int) ∧ wr = w) (fun i _ => N - (intOf i).toNat)
  case atStart => exact ⟨0, Nat.zero_le _, rfl, rfl⟩
  case round =>
    obtain ⟨j, hj, rfl, hwr⟩ := hrel
    subst hwr
    by_cases hlt : j < N
    · obtain ⟨y, hy⟩ : ∃ y, ts[j]? = some y := ⟨_, List.getElem?_eq_getElem (by rw [← HNN.out]; exact hlt)⟩
      obtain ⟨hlo, hy1⟩ := HTI.out j y hy
      obtain ⟨Ay, cy, hv, _, hAn, hAs⟩ := hlo.form
      obtain ⟨gT, cT', e1, _⟩ := Lw.open HT.out (by omega)
      simp only [Value.slice.injEq] at e1
      obtain ⟨rfl, _, rfl⟩ := e1
      obtain ⟨n, hn⟩ : ∃ n, n = y.2 := ⟨_, rfl⟩
      rw [← hn] at hv hy1 hAn hAs
      have cj : wr.cell? ⟨gT, j, none⟩ = some (.slice Ay n cy) := by
        have := Lw.range HT.out j (.slice Ay n cy) (by rw [List.getElem?_map, hy, ← hv]; rfl)
        rwa [Nat.zero_add] at this
      obtain ⟨z, hz⟩ : ∃ z : Int, z = -1 - (j : Int) := ⟨_, rfl⟩
      obtain ⟨x, hx⟩ : ∃ x, x = mk z := ⟨_, rfl⟩
      have hxw : x.Wf := by rw [hx]; exact mk_wf _
      obtain ⟨M, hM⟩ : ∃ M, M = x.cells := ⟨_, rfl⟩
      have HMX : Hid (M = x.cells ∧ x.Wf) := ⟨hM, hxw⟩
      have HBM : Hid (Try.prog.built tP [(0, .int .i64 (-1 - (j : Int)))] = some x.cells.toArray) := by show _ = _; rw [hx, hz]; exact built_mk _
      have HIM : Hid ((Try.prog.info? tP).map (·.size) = some x.cells.length) := Pn.info hxw
      have HRG : Hid (∀ k, k < n → ∃ g o, Ay = some ⟨g, o, none⟩ ∧ wr.rangeAt g (o + k * 90) x.cells) := fun k hk => by
        cases Ay with
        | none => have := (hAn rfl).1; omega
        | some ad =>
          obtain ⟨g, o, rfl, r⟩ := hAs ad rfl
          refine ⟨g, o, rfl, fun i u hu => ?_⟩
          rw [Nat.add_assoc]
          refine r (k * 90 + i) u (pcs_at (fun p hp => by rw [List.eq_of_mem_replicate hp]; exact mk_wf _) (show (List.replicate n (mk (-1 - (j : Int))))[k]? = some x by rw [List.getElem?_replicate, if_pos hk, hx, hz]) i u hu)
      have hj2 : (j : Int) < 5000000000001 := by omega
      have HJL : Hid (j < N) := hlt
      clear hy hlo hv hAn hAs hn hz hx hxw hM hj
      go_wp2_with (first
        | (refine wpList_ixL tPss tPs (.tmp 18) (.tmp 19) rfl gT 0 N cT j 1 rfl rfl HJL.out Try.underlying46 info_Ps rfl ?_; rw [Nat.zero_add, Nat.mul_one]; simp only [Act.put, List.setIfInBounds_toArray, List.set_cons_zero, List.set_cons_succ]))
      go_loopw [4] (fun i wq => ∃ k : Nat, k ≤ n ∧ i = .int .i64 (k : Int) ∧ wq = wr) (fun i _ => n - (intOf i).toNat)
      case atStart => exact ⟨0, Nat.zero_le _, rfl, rfl⟩
      case round =>
        obtain ⟨k, hk, rfl, hwq⟩ := hrel
        subst hwq
        by_cases hlk : k < n
        · obtain ⟨g, o, rfl, r⟩ := HRG.out k hlk
          have HR : Hid _ := r
          have HLK : Hid (k < n) := hlk
          clear r
          go_wp2_with (first
            | (refine wpList_ixL tPss tPs (.tmp 18) (.tmp 19) rfl gT 0 N cT j 1 rfl rfl HJL.out Try.underlying46 info_Ps rfl ?_; rw [Nat.zero_add, Nat.mul_one]; simp only [Act.put, List.setIfInBounds_toArray, List.set_cons_zero, List.set_cons_succ])
            | (refine wpList_ixL tPss tPs (.tmp 29) (.tmp 30) rfl gT 0 N cT j 1 rfl rfl HJL.out Try.underlying46 info_Ps rfl ?_; rw [Nat.zero_add, Nat.mul_one]; simp only [Act.put, List.setIfInBounds_toArray, List.set_cons_zero, List.set_cons_succ])
            | (refine wpList_ixL tPs tP (.tmp 32) (.tmp 33) rfl g o n cy k 90 rfl rfl HLK.out Try.underlying42 info_P rfl ?_; simp only [Act.put, List.setIfInBounds_toArray, List.set_cons_zero, List.set_cons_succ])
            | (refine wpList_ldS rfl tP (.tmp 34) rfl g (o + k * 90) rfl x.cells _ HR.out Try.underlying66 rfl HIM.out ?_; simp only [Act.put, List.setIfInBounds_toArray, List.set_cons_zero, List.set_cons_succ])
            | (refine wpList_blt rfl tP _ rfl [(0, .int .i64 (-1 - (j : Int)))] rfl x.cells HBM.out ?_; simp only [Act.put, List.setIfInBounds_toArray, List.set_cons_zero, List.set_cons_succ])
            | (refine wpList_neP rfl (.tmp 35) (.tmp 38) _ rfl x x HMX.out.2 HMX.out.2 rfl rfl false (by rw [decide_eq_true rfl]; rfl) ?_; simp only [Act.put, List.setIfInBounds_toArray, List.set_cons_zero, List.set_cons_succ]))
          exact ⟨⟨k + 1, hlk, by go_num, trivial⟩, by simp [intOf]; omega⟩
        · obtain rfl : k = n := by omega
          go_wp2_with (first
            | (refine wpList_ixL tPss tPs (.tmp 18) (.tmp 19) rfl gT 0 N cT j 1 rfl rfl HJL.out Try.underlying46 info_Ps rfl ?_; rw [Nat.zero_add, Nat.mul_one]; simp only [Act.put, List.setIfInBounds_toArray, List.set_cons_zero, List.set_cons_succ]))
          exact ⟨⟨j + 1, HJL.out, by go_num, trivial⟩, by simp [intOf]; omega⟩
    · obtain rfl : j = N := by omega
      go_wp2
      go_ret
      exact ⟨rfl, rfl⟩

end Go.Proofs.Ytfdbjcdcfmnicaa
