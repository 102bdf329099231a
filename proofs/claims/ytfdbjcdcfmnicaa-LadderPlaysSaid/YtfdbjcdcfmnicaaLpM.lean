/-
  LadderPlays: what turn at Drop wants.
-/
import Derived.Test.YtfdbjcdcfmnicaaLpJ
namespace Go.Proofs.Ytfdbjcdcfmnicaa
open Go Go.RowKit
open Sha

set_option maxRecDepth 100000 in
set_option maxHeartbeats 4000000 in
theorem rdrop_lo {w : World} {v : Value} {B : Int} {st : La} (h : Rf w v B st) (nr : Int) (L : List Value) (hL : L = st.dc v) (st' : La) (gone : List Pn) (E : Int) (hr : st.drop nr = (st', gone, E)) : Calls Try.prog 58 #[.agg L.toArray, .int .i64 nr] w fun e w' => ∃ v' A' m c', e = .returned (.tuple #[.agg (st'.dc v').toArray, .slice A' m c', .int .i64 E]) ∧ Rf w' v' B st' ∧ Nv w v v' ∧ (gone.length = m ∧ Lo w' tP 90 (.slice A' m c') m (pcs gone)) ∧ Below w.heap.size w w' := by
  obtain ⟨I, hI⟩ : ∃ I, I = fiI st.pend nr := ⟨_, rfl⟩
  have HPL : Hid (∀ X, Below w.heap.size w X → Calls Try.prog 90 #[.agg L.toArray, .int .i64 nr] X fun e w' => e = .returned (.int .i64 I) ∧ Below X.heap.size X w') := fun X k => by rw [hI]; exact rplace_any (h.be k) nr L hL
  have HI : Hid ((Try.prog.info? tRL).map (·.size) = some L.length) := by show _ = _; rw [hL]; exact La.dinfo h.ok.cf v
  have HRF : Hid (Rf w v B st) := h
  have HLL : Hid (L = st.dc v) := hL
  obtain ⟨A0, cap0, hv0, hc0, hp0⟩ := h.form
  unfold La.drop at hr
  unfold fiI at hI
  cases hf : fiN st.pend nr with
  | none =>
    rw [hf] at hr hI
    obtain ⟨k1, k2⟩ := Prod.mk.inj hr
    obtain ⟨k3, k4⟩ := Prod.mk.inj k2
    clear hr k2
    subst k1 k3 k4
    have hI2 : I = -1 := hI
    subst hI2
    have HLN : Hid (L.length = zRL.length) := by show _ = _; rw [hL, La.dlen h.ok.cf, zRL_len]
    have HIZ : Hid ((Try.prog.info? tRL).map (·.size) = some L.length) := HI.out
    have HO : Hid (L.toArray.all (·.oneCell') = true) := by show _ = _; rw [hL, hv0]; exact all_one (La.done _ _ _ _)
    clear h hf hI hL hv0 hc0 hp0
    go_enter Try.func58, Try.ntmps58
    go_wp2_with (first
      | (refine wpList_bxG tRL rfl (.tmp 0) rfl L rfl ?_; intro X1 q1 q2 q3; clear q3; have R1 : Hid (Row X1 w.heap.size L tRL) := q1; have BX1 : Hid (Below w.heap.size w X1) := q2; clear q1 q2; simp only [Act.put, List.setIfInBounds_toArray, List.set_cons_zero, List.set_cons_succ])
      | (refine wpList_alRL rfl rfl ?_; intro X2 q1 q2 q3; clear q3; have RX2 : Hid (Row X2 X1.heap.size zRL tRL) := q1; have BX2 : Hid (Below w.heap.size w X2) := BX1.out.trans (q2.mono BX1.out.size); have R12 : Hid (Row X2 w.heap.size L tRL) := Row.below R1.out q2 R1.out.lt; clear q1 q2; simp only [Act.put, List.setIfInBounds_toArray, List.set_cons_zero, List.set_cons_succ])
      | (refine wpList_ldS rfl tRL (.tmp 2) rfl w.heap.size 0 rfl L _ R12.out.all Try.underlying44 rfl HI.out ?_; simp only [Act.put, List.setIfInBounds_toArray, List.set_cons_zero, List.set_cons_succ])
      | (go_at_call 90; refine Calls.mono (HPL.out _ BX2.out) ?_; rintro e X3 ⟨rfl, q⟩; have B3 : Hid (Below w.heap.size w X3) := BX2.out.trans (q.mono BX2.out.size); have R13 : Hid (Row X3 w.heap.size L tRL) := Row.below R12.out q R12.out.lt; have R23 : Hid (Row X3 X1.heap.size zRL tRL) := Row.below RX2.out q RX2.out.lt; clear q R12)
      | (refine wpList_ldS rfl tRL (.tmp 2) rfl w.heap.size 0 rfl L _ R13.out.all Try.underlying44 rfl HI.out ?_; simp only [Act.put, List.setIfInBounds_toArray, List.set_cons_zero, List.set_cons_succ])
      | (refine wpList_stL rfl tRL (.tmp 4) (.tmp 14) rfl X1.heap.size L zRL tRL rfl rfl R23.out HLN.out HIZ.out HO.out ?_; intro X4 q1 q2; have R4 : Hid (Row X4 X1.heap.size L tRL) := q1; have B4 : Hid (Below w.heap.size w X4) := gro_newL B3.out BX1.out.size q2; clear q1 q2))
    exact bodyPost_ret (results_rStt Try.results58 _ _ X1.heap.size tRL L (.slice none 0 0) (.int .i64 164) rfl rfl rfl R4.out Try.underlying44 HI.out) rfl ⟨v, none, 0, 0, by rw [HLL.out], HRF.out.be B4.out, .inl rfl, ⟨rfl, Lo.nil _ _ _⟩, B4.out⟩
  | some i =>
    rw [hf] at hr hI
    obtain ⟨hil, x, hx, _⟩ := fiN_lt hf
    obtain ⟨hs', k2⟩ := Prod.mk.inj hr
    obtain ⟨hgone, k4⟩ := Prod.mk.inj k2
    clear hr k2
    subst k4
    have hI2 : I = (i : Int) := hI
    subst hI2
    obtain ⟨g, o, cap, hv, hcap, hrg⟩ := h.at hx
    obtain ⟨n, hn⟩ : ∃ n, n = st.pend.length := ⟨_, rfl⟩
    rw [← hn] at hv hil hcap
    have hn32 : n ≤ 32 := by rw [hn]; exact h.ok.pl
    have HJ : Hid (i ≤ n) := by show _ ≤ _; omega
    have HJ2 : Hid (n ≤ cap) := hcap
    have HCUT : Hid (cutL (some ⟨g, o, none⟩) cap i 90 = some ⟨g, o + i * 90, none⟩) := cutL_some (by omega)
    have HC : Hid (∀ X, Row X w.heap.size L tRL → X.cell? ⟨w.heap.size, 66, none⟩ = some (.slice (some ⟨g, o, none⟩) n cap)) := fun X r => by rw [hL] at r; have := (h.row r).1; rwa [hv] at this
    obtain ⟨m, hm⟩ : ∃ m, m = n - i := ⟨_, rfl⟩
    have HM : Hid (n - i = m) := hm.symm
    have HGL : Hid (gone.length = m) := by show _ = _; rw [← hgone, List.length_drop, hm, hn]
    have HWG : Hid (∀ q ∈ gone, q.Wf) := fun q hq => h.ok.pw q (List.mem_of_mem_drop (by rw [← hgone] at hq; exact hq))
    have HWT : Hid (∀ q ∈ st.pend.take i, q.Wf) := fun q hq => h.ok.pw q (List.mem_of_mem_take hq)
    have HTL : Hid ((st.pend.take i).length = i) := by show _ = _; rw [List.length_take]; omega
    have HMB : Hid (m ≤ 1000000) := by show _ ≤ _; omega
    have HIB : Hid (i ≤ 1000000) := by show _ ≤ _; omega
    have hlo1 := Lo.from h.own (m := i) (by omega) (g := g) (o := o) (cap := cap) (by rw [← hn]; exact hv) (o + i * 90) (.inr ⟨rfl, by omega⟩)
    rw [pcs_drop h.ok.pw, ← hn, ← hm, hgone] at hlo1
    have hto1 := Lo.to h.own (m := i) (by omega) (A := some ⟨g, o, none⟩) (cap := cap) (by rw [← hn]; exact hv)
    rw [pcs_take h.ok.pw] at hto1
    have HCP1 : Hid (∀ X, Below w.heap.size w X → Calls Try.prog 89 #[.slice (some ⟨g, o + i * 90, none⟩) m (cap - i)] X fun e w' => ∃ g, e = .returned (.slice (some ⟨g, 0, none⟩) m m) ∧ X.heap.size ≤ g ∧ Row w' g (pcs gone) tP ∧ Below X.heap.size X w') := fun X kx => rcopied_any X _ m _ gone (Pr.ofLo (hlo1.be kx) HGL.out HWG.out) HMB.out
    have HCP2 : Hid (∀ X, Below w.heap.size w X → Calls Try.prog 89 #[.slice (some ⟨g, o, none⟩) i cap] X fun e w' => ∃ g, e = .returned (.slice (some ⟨g, 0, none⟩) i i) ∧ X.heap.size ≤ g ∧ Row w' g (pcs (st.pend.take i)) tP ∧ Below X.heap.size X w') := fun X kx => rcopied_any X _ i _ (st.pend.take i) (Pr.ofLo (hto1.be kx) HTL.out HWT.out) HIB.out
    have HLE : Hid (66 < L.length) := by show _ < _; rw [hL, La.dlen h.ok.cf]; decide
    have HST : Hid (∀ g6, L.set 66 (.slice (some ⟨g6, 0, none⟩) i i) = st'.dc (.slice (some ⟨g6, 0, none⟩) i i)) := fun g6 => by rw [hL, La.dset66 h.ok.cf, ← hs']; rfl
    have HOK : Hid (st'.Ok B ∧ st'.pend = st.pend.take i) := by rw [← hs']; exact ⟨La.take_ok h.ok i, rfl⟩
    have hlt : ¬ ((i : Int) < 0) := by omega
    clear h hf hI hL hx hv hrg hil hn hm hs' hgone hv0 hc0 hp0 hlo1 hto1 hcap hn32
    go_enter Try.func58, Try.ntmps58
    go_wp2_with (first
      | (refine wpList_bxG tRL rfl (.tmp 0) rfl L rfl ?_; intro X1 q1 q2 q3; clear q3; have R1 : Hid (Row X1 w.heap.size L tRL) := q1; have BX1 : Hid (Below w.heap.size w X1) := q2; clear q1 q2; simp only [Act.put, List.setIfInBounds_toArray, List.set_cons_zero, List.set_cons_succ])
      | (refine wpList_alRL rfl rfl ?_; intro X2 q1 q2 q3; clear q3; have RX2 : Hid (Row X2 X1.heap.size zRL tRL) := q1; have BX2 : Hid (Below w.heap.size w X2) := BX1.out.trans (q2.mono BX1.out.size); have R12 : Hid (Row X2 w.heap.size L tRL) := Row.below R1.out q2 R1.out.lt; clear q1 q2; simp only [Act.put, List.setIfInBounds_toArray, List.set_cons_zero, List.set_cons_succ])
      | (refine wpList_ldS rfl tRL (.tmp 2) rfl w.heap.size 0 rfl L _ R12.out.all Try.underlying44 rfl HI.out ?_; simp only [Act.put, List.setIfInBounds_toArray, List.set_cons_zero, List.set_cons_succ])
      | (go_at_call 90; refine Calls.mono (HPL.out _ BX2.out) ?_; rintro e X3 ⟨rfl, q⟩; have B3 : Hid (Below w.heap.size w X3) := BX2.out.trans (q.mono BX2.out.size); have R13 : Hid (Row X3 w.heap.size L tRL) := Row.below R12.out q R12.out.lt; have R23 : Hid (Row X3 X1.heap.size zRL tRL) := Row.below RX2.out q RX2.out.lt; have c66 := HC.out X3 R13.out; clear q R12)
      | (refine wpList_cutF rfl tPs tP (.tmp 16) (.tmp 17) (some ⟨g, o, none⟩) n cap i 90 rfl rfl rfl HJ.out Try.underlying42 info_P ?_; rw [HCUT.out, HM.out]; simp only [Act.put, List.setIfInBounds_toArray, List.set_cons_zero, List.set_cons_succ])
      | (go_at_call 89; refine Calls.mono (HCP1.out _ B3.out) ?_; rintro e X5 ⟨gX5, rfl, q0, q1, q2⟩; have GX5 : Hid (w.heap.size ≤ gX5) := Nat.le_trans B3.out.size q0; have NX5 : Hid (X3.heap.size ≤ gX5) := q0; have CX5 : Hid (Row X5 gX5 (pcs gone) tP) := q1; have BX5 : Hid (Below w.heap.size w X5) := B3.out.trans (q2.mono B3.out.size); have R15 : Hid (Row X5 w.heap.size L tRL) := Row.below R13.out q2 R13.out.lt; have R25 : Hid (Row X5 X1.heap.size zRL tRL) := Row.below R23.out q2 R23.out.lt; clear c66; have c66 := HC.out X5 R15.out; clear HCP1; clear q0 q1 q2)
      | (refine wpList_cutT rfl tPs tP (.tmp 21) (.tmp 22) (some ⟨g, o, none⟩) n cap i 90 rfl rfl rfl HJ.out HJ2.out Try.underlying42 info_P ?_; simp only [Act.put, List.setIfInBounds_toArray, List.set_cons_zero, List.set_cons_succ])
      | (go_at_call 89; refine Calls.mono (HCP2.out _ BX5.out) ?_; rintro e X6 ⟨gX6, rfl, q0, q1, q2⟩; have GX6 : Hid (w.heap.size ≤ gX6) := Nat.le_trans BX5.out.size q0; have NX6 : Hid (X5.heap.size ≤ gX6) := q0; have CX6 : Hid (Row X6 gX6 (pcs (st.pend.take i)) tP) := q1; have BX6 : Hid (Below w.heap.size w X6) := BX5.out.trans (q2.mono BX5.out.size); have R16 : Hid (Row X6 w.heap.size L tRL) := Row.below R15.out q2 R15.out.lt; have R26 : Hid (Row X6 X1.heap.size zRL tRL) := Row.below R25.out q2 R25.out.lt; have C56 : Hid (Row X6 gX5 (pcs gone) tP) := Row.below CX5.out q2 CX5.out.lt; clear c66; clear q0 q1 q2)
      | (refine wpList_st1 rfl tPs (.tmp 25) (.tmp 24) rfl w.heap.size 66 (.slice (some ⟨gX6, 0, none⟩) i i) L tRL rfl rfl rfl R16.out HLE.out info_Ps rfl ?_; intro X7 q1 q2; have R17 : Hid (Row X7 w.heap.size (L.set 66 (.slice (some ⟨gX6, 0, none⟩) i i)) tRL) := q1; have B7 : Hid (Below w.heap.size w X7) := gro_newL BX6.out (Nat.le_refl _) q2; have R27 : Hid (Row X7 X1.heap.size zRL tRL) := q2.row R26.out (fun e => by have := R1.out.lt; omega); have C57 : Hid (Row X7 gX5 (pcs gone) tP) := q2.row C56.out (fun e => by have := R1.out.lt; have := R13.out.lt; have := NX5.out; omega); have C67 : Hid (Row X7 gX6 (pcs (st.pend.take i)) tP) := q2.row CX6.out (fun e => by have := R15.out.lt; have := NX6.out; omega); have HLN : Hid ((L.set 66 (.slice (some ⟨gX6, 0, none⟩) i i)).length = zRL.length) := by { show _ = _; rw [HST.out, La.dlen HOK.out.1.cf, zRL_len] }; have HIZ : Hid ((Try.prog.info? tRL).map (·.size) = some (L.set 66 (.slice (some ⟨gX6, 0, none⟩) i i)).length) := by { show _ = _; rw [HST.out]; exact La.dinfo HOK.out.1.cf _ }; have HO : Hid ((L.set 66 (.slice (some ⟨gX6, 0, none⟩) i i)).toArray.all (·.oneCell') = true) := by { show _ = _; rw [HST.out]; exact all_one (La.done _ _ _ _) }; clear q1 q2)
      | (refine wpList_ldS rfl tRL (.tmp 2) rfl w.heap.size 0 rfl (L.set 66 (.slice (some ⟨gX6, 0, none⟩) i i)) _ R17.out.all Try.underlying44 rfl HIZ.out ?_; simp only [Act.put, List.setIfInBounds_toArray, List.set_cons_zero, List.set_cons_succ])
      | (refine wpList_stL rfl tRL (.tmp 4) (.tmp 26) rfl X1.heap.size (L.set 66 (.slice (some ⟨gX6, 0, none⟩) i i)) zRL tRL rfl rfl R27.out HLN.out HIZ.out HO.out ?_; intro X8 q1 q2; have R4 : Hid (Row X8 X1.heap.size (L.set 66 (.slice (some ⟨gX6, 0, none⟩) i i)) tRL) := q1; have B4 : Hid (Below w.heap.size w X8) := gro_newL B7.out BX1.out.size q2; have C58 : Hid (Row X8 gX5 (pcs gone) tP) := q2.row C57.out (fun e => by { have := RX2.out.lt; have := R23.out.lt; have := NX5.out; omega }); have C68 : Hid (Row X8 gX6 (pcs (st.pend.take i)) tP) := q2.row C67.out (fun e => by { have := R25.out.lt; have := NX6.out; omega }); clear q1 q2))
    exact bodyPost_ret (results_rStt Try.results58 _ _ X1.heap.size tRL (L.set 66 (.slice (some ⟨gX6, 0, none⟩) i i)) (.slice (some ⟨gX5, 0, none⟩) m m) (.int .i64 0) rfl rfl rfl R4.out Try.underlying44 HIZ.out) rfl ⟨.slice (some ⟨gX6, 0, none⟩) i i, some ⟨gX5, 0, none⟩, m, m, by rw [HST.out], ⟨by rw [HOK.out.2, HTL.out]; exact lo_row C68.out HTL.out HIB.out HWT.out, HOK.out.1⟩, .inr (fun g e => by cases e; exact GX6.out), ⟨HGL.out, lo_row C58.out HGL.out HMB.out HWG.out⟩, B4.out⟩

section
variable {w0 w X : World} {q : Nat} {B C : Int} {Ls : List (Nat × Value × La)} {Es : List (Value × La)} {T : Value} {ts : List (Value × Nat)}
/-- One of the ladders has turned within its own memory. -/
theorem Pl.turnS (h : Pl w0 w q B Ls Es T ts) {k : Nat} {p : Nat} {v : Value} {st st' : La} (hk : Ls[k]? = some (p, v, st)) (hBC : B ≤ C) (t : Ts w X p v C st') : ∃ v', v'.ownBlock = v.ownBlock ∧ Pl w0 X q C (Ls.set k (p, v', st')) Es T ts := by
  obtain ⟨v', hP⟩ := h.turn hk hBC t.tn
  obtain ⟨v2, hL, _, hO⟩ := t
  have hk3 : k < Ls.length := (List.getElem?_eq_some_iff.1 hk).1
  have c1 := (hP.lad (k := k) (l := (p, v', st')) (by rw [List.getElem?_set_self hk3])).c69
  have c2 := hL.c69
  have e : v' = v2 := Option.some.inj (c1.symm.trans c2)
  exact ⟨v', by rw [e]; exact hO, hP⟩
/-- A list was kept. -/
theorem Pl.keep (h : Pl w0 w q B Ls Es T ts) {A : Option Addr} {m c : Nat} {T' : Value} (hm : m ≤ 1000) (h1 : Row X q ((prc (Ls.map (·.1)) (Es.map fun e => e.2.dc e.1) T).set 213 T') tPr) (h2 : Lw X tPs 1 T' (ts.length + 1) (ts.map (·.1) ++ [.slice A m c])) (h3 : Lo X tP 90 (.slice A m c) m (pcs (List.replicate m (Go.Proofs.Ytfdbjcdcfmnicaa.mk (-((ts.length : Int) + 1)))))) (h4 : Gro (Rk q T (.slice A m c)) w X) (h5 : T'.ownBlock = T.ownBlock ∨ ∀ g, T'.ownBlock = some g → w.heap.size ≤ g)
    (n1 : ∀ g, (Value.slice A m c).ownBlock = some g → w0.heap.size ≤ g) (n2 : ∀ g, (Value.slice A m c).ownBlock = some g → ∀ l ∈ Ls, ¬ Tb l.1 l.2.1 g) (n3 : ∀ g, (Value.slice A m c).ownBlock = some g → ∀ e ∈ Es, e.1.ownBlock ≠ some g) (n4 : ∀ g, (Value.slice A m c).ownBlock = some g → ∀ y ∈ ts, y.1.ownBlock ≠ some g) : Pl w0 X q B Ls Es T' (ts ++ [(.slice A m c, m)]) := by
  rw [prc_setT (by rw [List.length_map]; exact h.l3) (by rw [List.length_map]; exact h.e3) h.d70] at h1
  have nq : ∀ {v : Value} {n : Nat} {xs : List Value}, Lo w tP 90 v n xs → (∀ g, (Value.slice A m c).ownBlock = some g → v.ownBlock ≠ some g) → ∀ g, v.ownBlock = some g → ¬ Rk q T (.slice A m c) g := fun hl hn g e z => by
    rcases z with z | z | z
    · exact hl.ne h.row (by decide) g e z
    · exact lo_lw hl h.tl (by decide) g e z
    · exact hn g z e
  have nl : ∀ l ∈ Ls, ∀ g, Tb l.1 l.2.1 g → ¬ Rk q T (.slice A m c) g := fun l hl g e z => by
    rcases z with z | z | z
    · subst z; exact tb_ty h hl h.row (by decide) (by decide) e
    · rcases e with e | e
      · subst e; exact Lw.ne h.tl (h.ladm hl).row (by decide) _ z rfl
      · exact lo_lw (h.ladm hl).own h.tl (by decide) g e z
    · exact n2 g z l hl e
  refine ⟨⟨h.be.trans (h4.to_below h.be.size (fun g z => ?_)), (fun _ q => by cases q), fun l hl => ?_, h.hp.new, (fun _ q => by cases q), h.hp.ll⟩, h.l3, h.e3, h1, h.qn, fun e he => ⟨(h.rf e he).own.gro h4 (nq (h.rf e he).own (fun g z => n3 g z e he)), (h.rf e he).ok⟩, h.ra, by rw [List.length_append, List.map_append]; exact h2, fun g e => ?_, fun j y hy => ?_, fun y hy g e => ?_⟩
  · rcases z with z | z | z
    · rw [z]; exact h.qn
    · exact h.tn g z
    · exact n1 g z
  · obtain ⟨x, hx, rfl⟩ := List.mem_map.1 hl
    exact (h.ladm hx).gro h4 (nl x hx)
  · rcases h5 with z | z
    · exact h.tn g (by rw [← z]; exact e)
    · exact Nat.le_trans h.be.size (z g e)
  · by_cases hj : j < ts.length
    · rw [List.getElem?_append_left hj] at hy
      exact ⟨(h.ti j y hy).1.gro h4 (nq (h.ti j y hy).1 (fun g z => n4 g z y (List.mem_of_getElem? hy))), (h.ti j y hy).2⟩
    · rw [List.getElem?_append_right (by omega)] at hy
      have hj0 : j - ts.length = 0 := by have := (List.getElem?_eq_some_iff.1 hy).1; simpa using this
      rw [hj0] at hy
      cases hy
      obtain rfl : j = ts.length := by omega
      refine ⟨?_, hm⟩
      rw [show -1 - (ts.length : Int) = -((ts.length : Int) + 1) by omega]
      exact h3
  · rcases List.mem_append.1 hy with z | z
    · exact h.ta y z g e
    · rw [List.mem_singleton.1 z] at e
      exact n2 g e
end
theorem tn_row {w0 w X : World} {q : Nat} {B C : Int} {Ls : List (Nat × Value × La)} {Es : List (Value × La)} {T : Value} {ts : List (Value × Nat)} (h : Pl w0 w q B Ls Es T ts) {p : Nat} {v : Value} {st st' : La} (hl : (p, v, st) ∈ Ls) (t : Tn w X p v C st') {g : Nat} {cs : List Value} {ty : TypeId} (r : Row w g cs ty) (h1 : ty ≠ tL) (h2 : ty ≠ tP) : Row X g cs ty := by
  obtain ⟨_, _, hG, _⟩ := t
  exact hG.row r (tb_ty h hl r h1 h2)
theorem wp_allocPn {Q : Exit → Act → World → Prop} {o : Oper} {a : Act} {w : World} {K : Act → World → Prop} (ho : o.op = .alloc tP) (h : K (a.put o.dst (.pointer (some ⟨w.heap.size, 0, none⟩))) (w.alloc (.cells zP.cells.toArray tP))) : Oper.wp Try.prog o a w K Q := by
  obtain ⟨dst, op, ty, pos, after, guard⟩ := o
  simp only at ho
  subst ho
  unfold Oper.wp
  go_simp
  exact h
theorem wp_allocCm {Q : Exit → Act → World → Prop} {o : Oper} {a : Act} {w : World} {K : Act → World → Prop} (ho : o.op = .alloc tC) (h : K (a.put o.dst (.pointer (some ⟨w.heap.size, 0, none⟩))) (w.alloc (.cells zC.cells.toArray tC))) : Oper.wp Try.prog o a w K Q := by
  obtain ⟨dst, op, ty, pos, after, guard⟩ := o
  simp only at ho
  subst ho
  unfold Oper.wp
  go_simp
  exact h
theorem pk_lt (c : Int) (n : Nat) (h : 0 < n) : pk c n < n := by
  unfold pk
  have := Int.emod_lt_of_pos (if c < 0 then -(c + 1) else c) (show (0 : Int) < (n : Int) by omega)
  have := Int.emod_nonneg (if c < 0 then -(c + 1) else c) (show (n : Int) ≠ 0 by omega)
  omega
/-- A list that was answered, with a number or alone. -/
def SP.dt (V m : Nat) (gone : List Pn) (E : Int) : SP := ⟨fun W u => ∃ A c, u = .tuple #[.slice A m c, .int .i64 E] ∧ Lo W tP 90 (.slice A m c) m (pcs gone) ∧ Fresh V (.slice A m c), fun _ _ _ hB h => by obtain ⟨A, c, e, r, f⟩ := h; exact ⟨A, c, e, r.be hB, f⟩⟩
def SP.ds (V m : Nat) (gone : List Pn) : SP := ⟨fun W u => ∃ A c, u = .slice A m c ∧ Lo W tP 90 (.slice A m c) m (pcs gone) ∧ Fresh V (.slice A m c), fun _ _ _ hB h => by obtain ⟨A, c, e, r, f⟩ := h; exact ⟨A, c, e, r.be hB, f⟩⟩
/-- What the document's Drop answers. -/
def SP.rd (V : Nat) (v : Value) (B : Int) (st : La) (m : Nat) (gone : List Pn) (E : Int) : SP := ⟨fun W u => ∃ v' A c, u = .tuple #[.agg (st.dc v').toArray, .slice A m c, .int .i64 E] ∧ (Rf W v' B st ∧ Ap V v v') ∧ Lo W tP 90 (.slice A m c) m (pcs gone), fun _ _ _ hB h => by obtain ⟨v', A, c, e, ⟨r, p⟩, l⟩ := h; exact ⟨v', A, c, e, ⟨r.be hB, p⟩, l.be hB⟩⟩
def SP.rl (m : Nat) (gone : List Pn) : SP := ⟨fun W u => ∃ A c, u = .slice A m c ∧ Lo W tP 90 (.slice A m c) m (pcs gone), fun _ _ _ hB h => by obtain ⟨A, c, e, r⟩ := h; exact ⟨A, c, e, r.be hB⟩⟩
theorem Lo.setO {W : World} {v : Value} {n N : Nat} {xs cs : List Value} {t : TypeId} (h : Lo W tP 90 v n xs) (y : Row W N cs t) (ht : t ≠ tP) (o : Nat) (vs : List Value) : Lo (W.setCells N o vs) tP 90 v n xs := h.gro (gro_setsL W N o vs) (fun g e e2 => h.ne y ht g e e2)

end Go.Proofs.Ytfdbjcdcfmnicaa
