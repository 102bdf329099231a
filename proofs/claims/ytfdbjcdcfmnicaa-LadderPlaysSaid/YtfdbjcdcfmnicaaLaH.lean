/-
  the ladder: Drop, Confirm.
-/
import Derived.Test.YtfdbjcdcfmnicaaLaG
namespace Go.Proofs.Ytfdbjcdcfmnicaa
open Go Go.RowKit
open Sha

/-- The ladder has turned within its own memory. -/
def Ts (w w' : World) (p : Nat) (v : Value) (B : Int) (st : La) : Prop := ∃ v', Ld w' p v' B st ∧ Gro (Tb p v) w w' ∧ v'.ownBlock = v.ownBlock
theorem Ts.tn {w w' : World} {p : Nat} {v : Value} {B : Int} {st : La} (h : Ts w w' p v B st) : Tn w w' p v B st := by
  obtain ⟨v', h1, h2, h3⟩ := h
  exact ⟨v', h1, h2, .inl h3⟩
theorem Ts.same {w w' : World} {p : Nat} {v : Value} {B : Int} {st : La} (h : Ld w p v B st) (k : Below w.heap.size w w') : Ts w w' p v B st := ⟨v, h.be k, Gro.of_below k, rfl⟩
def La.drop (st : La) (nr : Int) : La × List Pn × Int := match fiN st.pend nr with
  | none => (st, [], 164)
  | some i => ({ st with pend := st.pend.take i }, st.pend.drop i, 0)
theorem La.take_ok {B : Int} {st : La} (h : st.Ok B) (i : Nat) : La.Ok B { st with pend := st.pend.take i } :=
  ⟨h.w1, h.w2, h.l0, h.l1, h.g0, h.g1, h.cf, h.cm, fun p hp => h.pw p (List.mem_of_mem_take hp), fun p hp => h.pm p (List.mem_of_mem_take hp), fun p hp => h.pd p (List.mem_of_mem_take hp), by show (st.pend.take i).length ≤ 32; rw [List.length_take]; have := h.pl; omega⟩
theorem cutL_some {g o cap i s : Nat} (h : i < cap) : cutL (some ⟨g, o, none⟩) cap i s = some ⟨g, o + i * s, none⟩ := by
  unfold cutL
  rw [if_neg (by omega), Option.map_some, Addr.add_mid]
theorem cutL_any (g o cap i s : Nat) : ∃ o2, cutL (some ⟨g, o, none⟩) cap i s = some ⟨g, o2, none⟩ ∧ (o2 = o ∧ cap = i ∨ o2 = o + i * s ∧ cap ≠ i) := by
  unfold cutL
  by_cases h : cap = i
  · exact ⟨o, by rw [if_pos h], .inl ⟨rfl, h⟩⟩
  · exact ⟨o + i * s, by rw [if_neg h, Option.map_some, Addr.add_mid], .inr ⟨rfl, h⟩⟩
set_option maxRecDepth 100000 in
set_option maxHeartbeats 4000000 in
theorem drop_any {w : World} {p : Nat} {v : Value} {B : Int} {st : La} (h : Ld w p v B st) (nr : Int) (st' : La) (gone : List Pn) (E : Int) (hr : st.drop nr = (st', gone, E)) : Calls Try.prog 25 #[.pointer (some ⟨p, 0, none⟩), .int .i64 nr] w fun e w' => ∃ A' m c', e = .returned (.tuple #[.slice A' m c', .int .i64 E]) ∧ gone.length = m ∧ Lw w' tP 90 (.slice A' m c') m (pcs gone) ∧ Fresh w.heap.size (.slice A' m c') ∧ Ts w w' p v B st' := by
  have HLD : Hid (Ld w p v B st) := h
  unfold La.drop at hr
  cases hf : fiN st.pend nr with
  | none =>
    rw [hf] at hr
    obtain ⟨k1, k2⟩ := Prod.mk.inj hr
    obtain ⟨k3, k4⟩ := Prod.mk.inj k2
    clear hr k2
    subst k1 k3 k4
    have HPL : Hid (Calls Try.prog 71 #[.pointer (some ⟨p, 0, none⟩), .int .i64 nr] w fun e w' => e = .returned (.tuple #[.int .i64 0, .int .i64 164]) ∧ Below w.heap.size w w') := place_none h nr hf
    clear hf h
    go_enter Try.func25, Try.ntmps25
    go_wp2_with ((go_at_call 71; refine Calls.mono HPL.out ?_; rintro e X2 ⟨rfl, q⟩; have B2 : Hid (Below w.heap.size w X2) := q; clear q))
    go_ret2
    exact ⟨none, 0, 0, rfl, rfl, Lw.nil _ _ _, (fun g e => by cases e), Ts.same HLD.out B2.out⟩
  | some i =>
    rw [hf] at hr
    obtain ⟨hs', k2⟩ := Prod.mk.inj hr
    obtain ⟨hgone, k4⟩ := Prod.mk.inj k2
    clear hr k2
    subst k4
    have HS' : Hid (({ st with pend := st.pend.take i } : La) = st') := hs'
    have HPL : Hid (Calls Try.prog 71 #[.pointer (some ⟨p, 0, none⟩), .int .i64 nr] w fun e w' => e = .returned (.tuple #[.int .i64 (i : Int), .int .i64 0]) ∧ Below w.heap.size w w') := place_some h nr i hf
    obtain ⟨hil, x, hx, _⟩ := fiN_lt hf
    obtain ⟨g, o, cap, cs, hv, hrow, hc, hmx, hcl, htk⟩ := h.own.open (by omega)
    obtain ⟨n, hn⟩ : ∃ n, n = st.pend.length := ⟨_, rfl⟩
    rw [← hn] at hv hil hc
    have HJ : Hid (i ≤ n) := by show _ ≤ _; omega
    have HJ2 : Hid (n ≤ cap) := hc
    have HCUT : Hid (cutL (some ⟨g, o, none⟩) cap i 90 = some ⟨g, o + i * 90, none⟩) := cutL_some (by omega)
    have HV : Hid (v = .slice (some ⟨g, o, none⟩) n cap) := hv
    obtain ⟨m, hm⟩ : ∃ m, m = n - i := ⟨_, rfl⟩
    have HM : Hid (n - i = m) := hm.symm
    have HGL : Hid (gone.length = m) := by show _ = _; rw [← hgone, List.length_drop, hm, hn]
    have HLO := Lo.from h.own (m := i) (by omega) (g := g) (o := o) (cap := cap) (by rw [← hn]; exact hv) (o + i * 90) (.inr ⟨rfl, by omega⟩)
    rw [pcs_drop h.ok.pw, ← hn, ← hm, hgone] at HLO
    have HLO2 : Hid (Lo w tP 90 (.slice (some ⟨g, o + i * 90, none⟩) m (cap - i)) m (pcs gone)) := HLO
    have HTO := Lo.to h.own (m := i) (by omega) (A := some ⟨g, o, none⟩) (cap := cap) (by rw [← hn]; exact hv)
    rw [pcs_take h.ok.pw] at HTO
    have HTO2 : Hid (Lo w tP 90 (.slice (some ⟨g, o, none⟩) i cap) i (pcs (st.pend.take i))) := HTO
    have HWG : Hid (∀ q ∈ gone, q.Wf) := fun q hq => h.ok.pw q (List.mem_of_mem_drop (by rw [← hgone] at hq; exact hq))
    have HTL : Hid ((st.pend.take i).length = i) := by show _ = _; rw [List.length_take]; omega
    have HMB : Hid (m ≤ 1000000) := by show _ ≤ _; have := h.ok.pl; omega
    have HCP : Hid (∀ X, Below w.heap.size w X → Calls Try.prog 68 #[.slice (some ⟨g, o + i * 90, none⟩) m (cap - i)] X fun r w' => ∃ A' c', r = .returned (.slice A' m c') ∧ Lw w' tP 90 (.slice A' m c') m (pcs gone) ∧ Fresh X.heap.size (.slice A' m c') ∧ Below X.heap.size X w') := fun X kx => copied_any X _ m _ gone HGL.out HWG.out (fun q => by cases q) (fun ad e => by
      obtain ⟨A, cap', e1, _, _, q⟩ := (HLO2.out.be kx).form
      obtain ⟨rfl, _⟩ : some (⟨g, o + i * 90, none⟩ : Addr) = A ∧ cap - i = cap' := by simpa using e1
      exact q ad e) HMB.out
    clear hf h hx hil hn hgone hs' hm HLO HTO hrow hmx hcl htk hc hv HLO2
    go_enter Try.func25, Try.ntmps25
    go_wp2_with (first
      | (go_at_call 71; refine Calls.mono HPL.out ?_; rintro e X2 ⟨rfl, q⟩; have B2 : Hid (Below w.heap.size w X2) := q; have c69 : X2.cell? ⟨p, 69, none⟩ = some (.slice (some ⟨g, o, none⟩) n cap) := by { rw [← HV.out]; exact (HLD.out.be q).c69 }; clear q)
      | (refine wpList_cutF rfl tPs tP (.tmp 21) (.tmp 22) (some ⟨g, o, none⟩) n cap i 90 rfl rfl rfl HJ.out Try.underlying42 info_P ?_; rw [HCUT.out, HM.out]; simp only [Act.put, List.setIfInBounds_toArray, List.set_cons_zero, List.set_cons_succ])
      | (go_at_call 68; refine Calls.mono (HCP.out _ B2.out) ?_; rintro e X3 ⟨A', c', rfl, q1, q2, q3⟩; have H1 : Hid (Lw X3 tP 90 (.slice A' m c') m (pcs gone)) := q1; have H2 : Hid (Fresh w.heap.size (.slice A' m c')) := q2.more B2.out.size; have B3 : Hid (Below w.heap.size w X3) := B2.out.trans (q3.mono B2.out.size); clear q1 q2 q3 c69; have c69 : X3.cell? ⟨p, 69, none⟩ = some (.slice (some ⟨g, o, none⟩) n cap) := by { rw [← HV.out]; exact (HLD.out.be B3.out).c69 })
      | (refine wpList_cutT rfl tPs tP (.tmp 29) (.tmp 30) (some ⟨g, o, none⟩) n cap i 90 rfl rfl rfl HJ.out HJ2.out Try.underlying42 info_P ?_; simp only [Act.put, List.setIfInBounds_toArray, List.set_cons_zero, List.set_cons_succ])
      | (refine wpList_st1 rfl tPs (.tmp 33) (.tmp 31) rfl p 69 (.slice (some ⟨g, o, none⟩) i cap) (st.cells v) tL rfl rfl rfl (HLD.out.be B3.out).row (by rw [La.len HLD.out.ok]; decide) info_Ps rfl ?_; intro X4 q1 q2; have R4 : Hid (Row X4 p ((st.cells v).set 69 (.slice (some ⟨g, o, none⟩) i cap)) tL) := q1; have G4 : Hid (Gro (· = p) X3 X4) := q2; clear q1 q2))
    go_ret2
    refine ⟨A', m, c', rfl, HGL.out, Lw.gro H1.out G4.out (fun g' e q => ?_), H2.out, .slice (some ⟨g, o, none⟩) i cap, ⟨?_, ?_, ?_⟩, ?_, by rw [HV.out]; rfl⟩
    · rw [q] at e
      have := H2.out p e
      have := HLD.out.row.lt
      omega
    · have := R4.out
      rw [La.set_v HLD.out.ok] at this
      rw [← HS'.out]; exact this
    · rw [← HS'.out]
      show Lo X4 tP 90 _ (st.pend.take i).length (pcs (st.pend.take i))
      rw [HTL.out]
      exact (HTO2.out.be B3.out).gro G4.out (fun g' e q => by
        have e2 : v.ownBlock = some g' := by rw [HV.out]; exact e
        exact HLD.out.own.ne HLD.out.row (by decide) g' e2 q)
    · rw [← HS'.out]; exact La.take_ok HLD.out.ok i
    · exact (Gro.of_below B3.out : Gro (Tb p v) w X3).trans (G4.out.mono (fun g' e => .inl e))
def La.confirm (st : La) (now : Int) : La × Pn × Int := if (tmB now && decide (st.last ≤ now)) = false then (st, zP, 168) else match st.pend with
  | [] => (st, zP, 164)
  | x :: rest => if 0 < x.du then (st, zP, 166) else if now < x.dl then (st, zP, 165) else ({ st with last := now, conf := x.c, pend := rest }, x, 0)
theorem La.confirm_ok {B : Int} {st : La} (h : st.Ok B) {now : Int} (h0 : 0 ≤ now) (h1 : now ≤ 4611686018427387904) {x : Pn} {rest : List Pn} (hp : st.pend = x :: rest) : La.Ok B { st with last := now, conf := x.c, pend := rest } := by
  have hx : x ∈ st.pend := by rw [hp]; exact List.mem_cons_self ..
  have hr : ∀ q ∈ rest, q ∈ st.pend := fun q hq => by rw [hp]; exact List.mem_cons_of_mem _ hq
  exact ⟨h.w1, h.w2, h0, h1, h.g0, h.g1, (h.pw x hx).c, h.pm x hx, fun p hp => h.pw p (hr p hp), fun p hp => h.pm p (hr p hp), fun p hp => h.pd p (hr p hp), by have := h.pl; rw [hp, List.length_cons] at this; show rest.length ≤ 32; omega⟩
theorem La.set_conf {B : Int} {st : La} (h : st.Ok B) (v : Value) (c : Cm) (hc : c.Wf) : (st.cells v).take 3 ++ c.cells ++ (st.cells v).drop (3 + c.cells.length) = La.cells { st with conf := c } v := by
  rw [Cm.len hc]
  unfold La.cells
  simp only [List.take_succ_cons, List.take_zero, List.cons_append, List.nil_append]
  congr 4
  show List.drop 69 (_ :: _ :: _ :: (st.conf.cells ++ [v])) = [v]
  rw [List.drop_succ_cons, List.drop_succ_cons, List.drop_succ_cons, List.drop_append_of_le_length (by rw [Cm.len h.cf]; decide), List.drop_of_length_le (by rw [Cm.len h.cf]; decide), List.nil_append]
set_option maxRecDepth 100000 in
set_option maxHeartbeats 4000000 in
theorem confirm_any {w : World} {p : Nat} {v : Value} {B : Int} {st : La} (h : Ld w p v B st) (now : Int) (st' : La) (y : Pn) (E : Int) (hr : st.confirm now = (st', y, E)) : Calls Try.prog 24 #[.pointer (some ⟨p, 0, none⟩), .int .i64 now] w fun e w' => e = .returned (.tuple #[.agg y.cells.toArray, .int .i64 E]) ∧ Ts w w' p v B st' := by
  have HLD : Hid (Ld w p v B st) := h
  obtain ⟨T, hT⟩ : ∃ T, T = (tmB now && decide (st.last ≤ now)) := ⟨_, rfl⟩
  have HGO : Hid (∀ X, Below w.heap.size w X → Calls Try.prog 69 #[.pointer (some ⟨p, 0, none⟩), .int .i64 now] X fun e w' => e = .returned (.bool T) ∧ w' = X) := fun X k => by rw [hT]; exact goesOn_any now X p st.last (h.be k).c1
  obtain ⟨Z, hZ⟩ : ∃ Z, Z = zP.cells := ⟨_, rfl⟩
  have HB0 : Hid (Try.prog.built tP [] = some Z.toArray) := by show _ = _; rw [hZ]; exact built_p0
  have HI : Hid ((Try.prog.info? tP).map (·.size) = some Z.length) := by show _ = _; rw [hZ]; exact Pn.info zP_wf
  have HO : Hid (Z.toArray.all (·.oneCell') = true) := by show _ = _; rw [hZ]; exact all_one (Pn.one zP)
  have HZ : Hid (Z = zP.cells) := hZ
  obtain ⟨A, cap, hv, hnc, _, _⟩ := h.form
  unfold La.confirm at hr
  rw [← hT] at hr
  cases T with
  | false =>
    rw [if_pos rfl] at hr
    obtain ⟨k1, k2⟩ := Prod.mk.inj hr
    obtain ⟨k3, k4⟩ := Prod.mk.inj k2
    clear hr k2
    subst k1 k3 k4
    have HC69 : Hid (∀ X, Below w.heap.size w X → X.cell? ⟨p, 69, none⟩ = some (.slice A st.pend.length cap)) := fun X kx => by rw [← hv]; exact (h.be kx).c69
    rw [← hZ]
    clear hT h hZ hv hnc
    go_enter Try.func24, Try.ntmps24
    go_wp2_with (first
      | (refine wpList_alP rfl rfl ?_; intro X1 q1 q2 q3; clear q3; rw [← HZ.out] at q1; have R1 : Hid (Row X1 w.heap.size Z tP) := q1; have B1 : Hid (Below w.heap.size w X1) := q2; have c69 := HC69.out X1 q2; clear q1 q2; simp only [Act.put, List.setIfInBounds_toArray, List.set_cons_zero, List.set_cons_succ])
      | (go_at_call 69; refine Calls.mono (HGO.out _ B1.out) ?_; rintro e X ⟨rfl, hq⟩; obtain rfl := hq.symm; clear hq)
      | (refine wpList_blt rfl tP _ rfl [] rfl Z HB0.out ?_; simp only [Act.put, List.setIfInBounds_toArray, List.set_cons_zero, List.set_cons_succ])
      | (refine wpList_stL rfl tP (.tmp 4) (.tmp 16) rfl w.heap.size Z Z tP rfl rfl R1.out rfl HI.out HO.out ?_; intro X9 q1 q2; have R9 : Hid (Row X9 w.heap.size Z tP) := q1; have B9 : Hid (Below w.heap.size w X9) := gro_newL B1.out (Nat.le_refl _) q2; clear q1 q2))
    exact bodyPost_ret (results_rSt Try.results24 _ _ w.heap.size tP Z (.int .i64 168) rfl rfl R9.out Try.underlying66 HI.out) rfl ⟨rfl, Ts.same HLD.out B9.out⟩
  | true =>
  rw [if_neg (by decide)] at hr
  cases hp : st.pend with
  | nil =>
    rw [hp] at hr hv
    obtain ⟨k1, k2⟩ := Prod.mk.inj hr
    obtain ⟨k3, k4⟩ := Prod.mk.inj k2
    clear hr k2
    subst k1 k3 k4
    have HC69 : Hid (∀ X, Below w.heap.size w X → X.cell? ⟨p, 69, none⟩ = some (.slice A 0 cap)) := fun X kx => by have := (h.be kx).c69; rw [hv] at this; exact this
    rw [← hZ]
    clear hT h hZ hv hnc hp
    go_enter Try.func24, Try.ntmps24
    go_wp2_with (first
      | (refine wpList_alP rfl rfl ?_; intro X1 q1 q2 q3; clear q3; rw [← HZ.out] at q1; have R1 : Hid (Row X1 w.heap.size Z tP) := q1; have B1 : Hid (Below w.heap.size w X1) := q2; have c69 := HC69.out X1 q2; clear q1 q2; simp only [Act.put, List.setIfInBounds_toArray, List.set_cons_zero, List.set_cons_succ])
      | (go_at_call 69; refine Calls.mono (HGO.out _ B1.out) ?_; rintro e X ⟨rfl, hq⟩; obtain rfl := hq.symm; clear hq)
      | (refine wpList_blt rfl tP _ rfl [] rfl Z HB0.out ?_; simp only [Act.put, List.setIfInBounds_toArray, List.set_cons_zero, List.set_cons_succ])
      | (refine wpList_stL rfl tP (.tmp 4) (.tmp 24) rfl w.heap.size Z Z tP rfl rfl R1.out rfl HI.out HO.out ?_; intro X9 q1 q2; have R9 : Hid (Row X9 w.heap.size Z tP) := q1; have B9 : Hid (Below w.heap.size w X9) := gro_newL B1.out (Nat.le_refl _) q2; clear q1 q2))
    exact bodyPost_ret (results_rSt Try.results24 _ _ w.heap.size tP Z (.int .i64 164) rfl rfl R9.out Try.underlying66 HI.out) rfl ⟨rfl, Ts.same HLD.out B9.out⟩
  | cons x rest =>
    rw [hp] at hr
    have hx0 : st.pend[0]? = some x := by rw [hp]; rfl
    have hxm : x ∈ st.pend := List.mem_of_getElem? hx0
    obtain ⟨g, o, cap', hv', hrg, hgp⟩ := h.at hx0
    obtain ⟨rfl, rfl⟩ : some (⟨g, o, none⟩ : Addr) = A ∧ cap' = cap := by rw [hv] at hv'; simp at hv'; exact ⟨hv'.1.symm, hv'.2.symm⟩
    obtain ⟨n, hn⟩ : ∃ n, n = st.pend.length := ⟨_, rfl⟩
    rw [← hn] at hv hnc
    have hnr : n = rest.length + 1 := by rw [hn, hp]; rfl
    have HJ : Hid (0 < n) := by show _ < _; omega
    have HC69 : Hid (∀ X, Below w.heap.size w X → X.cell? ⟨p, 69, none⟩ = some (.slice (some ⟨g, o, none⟩) n cap')) := fun X kx => by rw [← hv]; exact (h.be kx).c69
    have HR : Hid (∀ X, Below w.heap.size w X → X.rangeAt g (o + 0 * 90) x.cells) := fun X kx => range_be hrg kx
    have HXW : Hid x.Wf := h.ok.pw x hxm
    have HIX : Hid ((Try.prog.info? tP).map (·.size) = some x.cells.length) := Pn.info HXW.out
    have HLN : Hid (x.cells.length = zP.cells.length) := (Pn.len HXW.out).trans (Pn.len zP_wf).symm
    have hn0 : ¬ ((n : Int) = 0) := by omega
    obtain ⟨nI, hnI⟩ : ∃ nI : Int, nI = (n : Int) := ⟨_, rfl⟩
    by_cases h1 : 0 < x.du
    · simp only [h1, if_true] at hr
      obtain ⟨k1, k2⟩ := Prod.mk.inj hr
      obtain ⟨k3, k4⟩ := Prod.mk.inj k2
      clear hr k2
      subst k1 k3 k4
      rw [← hZ]
      clear hT h hZ hv hnc hp hv' hx0 hxm hrg hn hnr hnI
      go_enter Try.func24, Try.ntmps24
      go_wp2_with (first
        | (refine wpList_alP rfl rfl ?_; intro X2 q1 q2 q3; clear q3; have R2 : Hid (Row X2 X1.heap.size zP.cells tP) := q1; have B2 : Hid (Below w.heap.size w X2) := B1.out.trans (q2.mono B1.out.size); have R12 : Hid (Row X2 w.heap.size Z tP) := Row.below R1.out q2 R1.out.lt; clear q1 q2; simp only [Act.put, List.setIfInBounds_toArray, List.set_cons_zero, List.set_cons_succ])
        | (refine wpList_alP rfl rfl ?_; intro X1 q1 q2 q3; clear q3; rw [← HZ.out] at q1; have R1 : Hid (Row X1 w.heap.size Z tP) := q1; have B1 : Hid (Below w.heap.size w X1) := q2; have c69 := HC69.out X1 q2; clear q1 q2; simp only [Act.put, List.setIfInBounds_toArray, List.set_cons_zero, List.set_cons_succ])
        | (go_at_call 69; refine Calls.mono (HGO.out _ B1.out) ?_; rintro e X ⟨rfl, hq⟩; obtain rfl := hq.symm; clear hq)
        | (refine wpList_ixL tPs tP (.tmp 28) (.const (.int .i64 0)) rfl g o n cap 0 90 rfl rfl HJ.out Try.underlying42 info_P rfl ?_; simp only [Act.put, List.setIfInBounds_toArray, List.set_cons_zero, List.set_cons_succ])
        | (refine wpList_ldS rfl tP (.tmp 29) rfl g (o + 0 * 90) rfl x.cells _ (HR.out _ B1.out) Try.underlying66 rfl HIX.out ?_; simp only [Act.put, List.setIfInBounds_toArray, List.set_cons_zero, List.set_cons_succ])
        | (refine wpList_stL rfl tP (.tmp 6) (.tmp 30) rfl X1.heap.size x.cells zP.cells tP rfl rfl R2.out HLN.out HIX.out (all_one (Pn.one x)) ?_; intro X3 q1 q2; have R3 : Hid (Row X3 X1.heap.size x.cells tP) := q1; have B3 : Hid (Below w.heap.size w X3) := gro_newL B2.out B1.out.size q2; have R13 : Hid (Row X3 w.heap.size Z tP) := q2.row R12.out (fun e => by have := R1.out.lt; omega); have c89 := q1.cell 89 _ (Pn.at_du HXW.out); have c88 := q1.cell 88 _ (Pn.at_dl HXW.out); clear c69; have c69 := HC69.out X3 B3.out; clear q1 q2)
        | (refine wpList_blt rfl tP _ rfl [] rfl Z HB0.out ?_; simp only [Act.put, List.setIfInBounds_toArray, List.set_cons_zero, List.set_cons_succ])
        | (refine wpList_stL rfl tP (.tmp 4) (.tmp 35) rfl w.heap.size Z Z tP rfl rfl R13.out rfl HI.out HO.out ?_; intro X9 q1 q2; have R9 : Hid (Row X9 w.heap.size Z tP) := q1; have B9 : Hid (Below w.heap.size w X9) := gro_newL B3.out (Nat.le_refl _) q2; clear q1 q2))
      exact bodyPost_ret (results_rSt Try.results24 _ _ w.heap.size tP Z (.int .i64 166) rfl rfl R9.out Try.underlying66 HI.out) rfl ⟨rfl, Ts.same HLD.out B9.out⟩
    · by_cases h2 : now < x.dl
      · simp only [h1, h2, if_true, if_false] at hr
        obtain ⟨k1, k2⟩ := Prod.mk.inj hr
        obtain ⟨k3, k4⟩ := Prod.mk.inj k2
        clear hr k2
        subst k1 k3 k4
        rw [← hZ]
        clear hT h hZ hv hnc hp hv' hx0 hxm hrg hn hnr hnI
        go_enter Try.func24, Try.ntmps24
        go_wp2_with (first
          | (refine wpList_alP rfl rfl ?_; intro X2 q1 q2 q3; clear q3; have R2 : Hid (Row X2 X1.heap.size zP.cells tP) := q1; have B2 : Hid (Below w.heap.size w X2) := B1.out.trans (q2.mono B1.out.size); have R12 : Hid (Row X2 w.heap.size Z tP) := Row.below R1.out q2 R1.out.lt; clear q1 q2; simp only [Act.put, List.setIfInBounds_toArray, List.set_cons_zero, List.set_cons_succ])
          | (refine wpList_alP rfl rfl ?_; intro X1 q1 q2 q3; clear q3; rw [← HZ.out] at q1; have R1 : Hid (Row X1 w.heap.size Z tP) := q1; have B1 : Hid (Below w.heap.size w X1) := q2; have c69 := HC69.out X1 q2; clear q1 q2; simp only [Act.put, List.setIfInBounds_toArray, List.set_cons_zero, List.set_cons_succ])
          | (go_at_call 69; refine Calls.mono (HGO.out _ B1.out) ?_; rintro e X ⟨rfl, hq⟩; obtain rfl := hq.symm; clear hq)
          | (refine wpList_ixL tPs tP (.tmp 28) (.const (.int .i64 0)) rfl g o n cap 0 90 rfl rfl HJ.out Try.underlying42 info_P rfl ?_; simp only [Act.put, List.setIfInBounds_toArray, List.set_cons_zero, List.set_cons_succ])
          | (refine wpList_ldS rfl tP (.tmp 29) rfl g (o + 0 * 90) rfl x.cells _ (HR.out _ B1.out) Try.underlying66 rfl HIX.out ?_; simp only [Act.put, List.setIfInBounds_toArray, List.set_cons_zero, List.set_cons_succ])
          | (refine wpList_stL rfl tP (.tmp 6) (.tmp 30) rfl X1.heap.size x.cells zP.cells tP rfl rfl R2.out HLN.out HIX.out (all_one (Pn.one x)) ?_; intro X3 q1 q2; have R3 : Hid (Row X3 X1.heap.size x.cells tP) := q1; have B3 : Hid (Below w.heap.size w X3) := gro_newL B2.out B1.out.size q2; have R13 : Hid (Row X3 w.heap.size Z tP) := q2.row R12.out (fun e => by have := R1.out.lt; omega); have c89 := q1.cell 89 _ (Pn.at_du HXW.out); have c88 := q1.cell 88 _ (Pn.at_dl HXW.out); clear c69; have c69 := HC69.out X3 B3.out; clear q1 q2)
          | (refine wpList_blt rfl tP _ rfl [] rfl Z HB0.out ?_; simp only [Act.put, List.setIfInBounds_toArray, List.set_cons_zero, List.set_cons_succ])
          | (refine wpList_stL rfl tP (.tmp 4) (.tmp 41) rfl w.heap.size Z Z tP rfl rfl R13.out rfl HI.out HO.out ?_; intro X9 q1 q2; have R9 : Hid (Row X9 w.heap.size Z tP) := q1; have B9 : Hid (Below w.heap.size w X9) := gro_newL B3.out (Nat.le_refl _) q2; clear q1 q2))
        exact bodyPost_ret (results_rSt Try.results24 _ _ w.heap.size tP Z (.int .i64 165) rfl rfl R9.out Try.underlying66 HI.out) rfl ⟨rfl, Ts.same HLD.out B9.out⟩
      · simp only [h1, h2, if_false] at hr
        obtain ⟨hs', k2⟩ := Prod.mk.inj hr
        obtain ⟨k3, k4⟩ := Prod.mk.inj k2
        clear hr k2
        subst k3 k4
        have htm : 0 ≤ now ∧ now ≤ 4611686018427387904 := by
          have := hT.symm
          unfold tmB at this
          simp only [Bool.and_eq_true, decide_eq_true_eq] at this
          exact this.1
        have HS' : Hid (({ st with last := now, conf := x.c, pend := rest } : La) = st') := hs'
        have HO1 : Hid (La.Ok B { st with last := now }) := ⟨h.ok.w1, h.ok.w2, htm.1, htm.2, h.ok.g0, h.ok.g1, h.ok.cf, h.ok.cm, h.ok.pw, h.ok.pm, h.ok.pd, h.ok.pl⟩
        have HO2 : Hid (La.Ok B { st with last := now, conf := x.c }) := ⟨h.ok.w1, h.ok.w2, htm.1, htm.2, h.ok.g0, h.ok.g1, HXW.out.c, h.ok.pm x hxm, h.ok.pw, h.ok.pm, h.ok.pd, h.ok.pl⟩
        have HO3 : Hid (La.Ok B { st with last := now, conf := x.c, pend := rest }) := La.confirm_ok h.ok htm.1 htm.2 hp
        have HIC : Hid ((Try.prog.info? tC).map (·.size) = some x.c.cells.length) := Cm.info HXW.out.c
        have HLZ : Hid (x.cells.length = Z.length) := by show _ = _; rw [hZ]; exact HLN.out
        have HV : Hid (v = .slice (some ⟨g, o, none⟩) n cap') := hv
        obtain ⟨o2, hcut, ho2⟩ := cutL_any g o cap' 1 90
        have HCUT : Hid (cutL (some ⟨g, o, none⟩) cap' 1 90 = some ⟨g, o2, none⟩) := hcut
        obtain ⟨m, hm⟩ : ∃ m, m = n - 1 := ⟨_, rfl⟩
        have HM : Hid (n - 1 = m) := hm.symm
        have HLO := Lo.from h.own (m := 1) (by omega) (g := g) (o := o) (cap := cap') (by rw [← hn]; exact hv) o2 ho2
        rw [pcs_drop h.ok.pw, ← hn, ← hm] at HLO
        have HLO2 : Hid (Lo w tP 90 (.slice (some ⟨g, o2, none⟩) m (cap' - 1)) rest.length (pcs rest)) := by
          show Lo _ _ _ _ _ _
          rw [hp] at HLO
          rw [show rest.length = m by omega]
          exact HLO
        have HGP : Hid (g ≠ p) := hgp
        clear hT h hZ hv hnc hp hv' hx0 hxm hrg hn hnr hnI hs' htm hcut hm HLO hgp ho2
        go_enter Try.func24, Try.ntmps24
        go_wp2_with (first
          | (refine wpList_alP rfl rfl ?_; intro X2 q1 q2 q3; clear q3; have R2 : Hid (Row X2 X1.heap.size zP.cells tP) := q1; have B2 : Hid (Below w.heap.size w X2) := B1.out.trans (q2.mono B1.out.size); have R12 : Hid (Row X2 w.heap.size Z tP) := Row.below R1.out q2 R1.out.lt; clear q1 q2; simp only [Act.put, List.setIfInBounds_toArray, List.set_cons_zero, List.set_cons_succ])
          | (refine wpList_alP rfl rfl ?_; intro X1 q1 q2 q3; clear q3; rw [← HZ.out] at q1; have R1 : Hid (Row X1 w.heap.size Z tP) := q1; have B1 : Hid (Below w.heap.size w X1) := q2; have c69 := HC69.out X1 q2; clear q1 q2; simp only [Act.put, List.setIfInBounds_toArray, List.set_cons_zero, List.set_cons_succ])
          | (go_at_call 69; refine Calls.mono (HGO.out _ B1.out) ?_; rintro e X ⟨rfl, hq⟩; obtain rfl := hq.symm; clear hq)
          | (refine wpList_ixL tPs tP (.tmp 28) (.const (.int .i64 0)) rfl g o n cap 0 90 rfl rfl HJ.out Try.underlying42 info_P rfl ?_; simp only [Act.put, List.setIfInBounds_toArray, List.set_cons_zero, List.set_cons_succ])
          | (refine wpList_ldS rfl tP (.tmp 29) rfl g (o + 0 * 90) rfl x.cells _ (HR.out _ B1.out) Try.underlying66 rfl HIX.out ?_; simp only [Act.put, List.setIfInBounds_toArray, List.set_cons_zero, List.set_cons_succ])
          | (refine wpList_stL rfl tP (.tmp 6) (.tmp 30) rfl X1.heap.size x.cells zP.cells tP rfl rfl R2.out HLN.out HIX.out (all_one (Pn.one x)) ?_; intro X3 q1 q2; have R3 : Hid (Row X3 X1.heap.size x.cells tP) := q1; have B3 : Hid (Below w.heap.size w X3) := gro_newL B2.out B1.out.size q2; have R13 : Hid (Row X3 w.heap.size Z tP) := q2.row R12.out (fun e => by have := R1.out.lt; omega); have c89 := q1.cell 89 _ (Pn.at_du HXW.out); have c88 := q1.cell 88 _ (Pn.at_dl HXW.out); clear c69; have c69 := HC69.out X3 B3.out; clear q1 q2)
          | (refine wpList_st1 rfl 3 (.tmp 45) (.tmp 43) rfl p 1 (.int .i64 now) (st.cells v) tL rfl rfl rfl (HLD.out.be B3.out).row (by rw [La.len HLD.out.ok]; decide) info_int rfl ?_; intro X4 q1 q2; have R4 : Hid (Row X4 p (La.cells { st with last := now } v) tL) := q1; have G4 : Hid (Gro (· = p) X3 X4) := q2; have R34 : Hid (Row X4 X1.heap.size x.cells tP) := q2.row R3.out (fun e => by have := HLD.out.row.lt; have := B1.out.size; omega); have R14 : Hid (Row X4 w.heap.size Z tP) := q2.row R13.out (fun e => by have := HLD.out.row.lt; omega); clear q1 q2 c69 c88 c89)
          | (refine wpList_ldS rfl tC (.tmp 47) rfl X1.heap.size 1 rfl x.c.cells _ (R34.out.range 1 _ (fun j u hj => Pn.at_c x j u hj)) Try.underlying25 rfl HIC.out ?_; simp only [Act.put, List.setIfInBounds_toArray, List.set_cons_zero, List.set_cons_succ])
          | (refine wpList_stM rfl tC (.tmp 50) (.tmp 48) rfl p 3 x.c.cells (La.cells { st with last := now } v) tL rfl rfl R4.out (by rw [Cm.len HXW.out.c, La.len HO1.out]; decide) HIC.out (all_one (Cm.one x.c)) ?_; intro X5 q1 q2; rw [La.set_conf HO1.out v x.c HXW.out.c] at q1; have R5 : Hid (Row X5 p (La.cells { st with last := now, conf := x.c } v) tL) := q1; have G5 : Hid (Gro (· = p) X3 X5) := G4.out.trans q2; have R35 : Hid (Row X5 X1.heap.size x.cells tP) := q2.row R34.out (fun e => by have := HLD.out.row.lt; have := B1.out.size; omega); have R15 : Hid (Row X5 w.heap.size Z tP) := q2.row R14.out (fun e => by have := HLD.out.row.lt; omega); have c69 : X5.cell? ⟨p, 69, none⟩ = some (.slice (some ⟨g, o, none⟩) n cap') := by { have := q1.cell 69 _ (La.at_v HO2.out v); rw [HV.out] at this; exact this }; clear q1 q2)
          | (refine wpList_cutF rfl tPs tP (.tmp 55) (.const (.int .i64 1)) (some ⟨g, o, none⟩) n cap' 1 90 rfl rfl rfl HJ.out Try.underlying42 info_P ?_; rw [HCUT.out, HM.out]; simp only [Act.put, List.setIfInBounds_toArray, List.set_cons_zero, List.set_cons_succ])
          | (refine wpList_st1 rfl tPs (.tmp 58) (.tmp 56) rfl p 69 (.slice (some ⟨g, o2, none⟩) m (cap' - 1)) (La.cells { st with last := now, conf := x.c } v) tL rfl rfl rfl R5.out (by rw [La.len HO2.out]; decide) info_Ps rfl ?_; intro X6 q1 q2; rw [La.set_v HO2.out] at q1; have R6 : Hid (Row X6 p (La.cells { st with last := now, conf := x.c } (.slice (some ⟨g, o2, none⟩) m (cap' - 1))) tL) := q1; have G6 : Hid (Gro (· = p) X3 X6) := G5.out.trans q2; have R36 : Hid (Row X6 X1.heap.size x.cells tP) := q2.row R35.out (fun e => by have := HLD.out.row.lt; have := B1.out.size; omega); have R16 : Hid (Row X6 w.heap.size Z tP) := q2.row R15.out (fun e => by have := HLD.out.row.lt; omega); clear q1 q2 c69)
          | (refine wpList_ldS rfl tP (.tmp 6) rfl X1.heap.size 0 rfl x.cells _ R36.out.all Try.underlying66 rfl HIX.out ?_; simp only [Act.put, List.setIfInBounds_toArray, List.set_cons_zero, List.set_cons_succ])
          | (refine wpList_stL rfl tP (.tmp 4) (.tmp 59) rfl w.heap.size x.cells Z tP rfl rfl R16.out HLZ.out HIX.out (all_one (Pn.one x)) ?_; intro X7 q1 q2; have R7 : Hid (Row X7 w.heap.size x.cells tP) := q1; have G7 : Hid (Gro (· = w.heap.size) X6 X7) := q2; clear q1 q2))
        refine bodyPost_ret (results_rSt Try.results24 _ _ w.heap.size tP x.cells (.int .i64 0) rfl rfl R7.out Try.underlying66 HIX.out) rfl ⟨rfl, .slice (some ⟨g, o2, none⟩) m (cap' - 1), ⟨?_, ?_, ?_⟩, ?_, by rw [HV.out]; rfl⟩
        · rw [← HS'.out]
          exact G7.out.row R6.out (fun e => by have := HLD.out.row.lt; omega)
        · rw [← HS'.out]
          have hgl : g < w.heap.size := HLD.out.own.lt g (by rw [HV.out]; rfl)
          refine ((HLO2.out.be B3.out).gro G6.out (fun g' e q => ?_)).gro G7.out (fun g' e q => ?_)
          · obtain rfl : g = g' := by simpa [Value.ownBlock] using e
            exact HGP.out q
          · obtain rfl : g = g' := by simpa [Value.ownBlock] using e
            omega
        · rw [← HS'.out]; exact HO3.out
        · refine ⟨G7.out.os.trans (G6.out.os.trans B3.out.os), G7.out.tape.trans (G6.out.tape.trans B3.out.tape), G7.out.output.trans (G6.out.output.trans B3.out.output), Nat.le_trans B3.out.size (Nat.le_trans G6.out.size G7.out.size), fun k hk hn => ?_⟩
          have h1 := B3.out.size
          have h2 := G6.out.size
          rw [G7.out.block k (by omega) (by omega), G6.out.block k (by omega) (fun e => hn (.inl e)), B3.out.block k hk]

end Go.Proofs.Ytfdbjcdcfmnicaa
