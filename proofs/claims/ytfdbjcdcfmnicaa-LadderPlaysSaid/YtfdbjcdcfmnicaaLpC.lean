/-
  LadderPlays: the document's Release, Hold.
-/
import Derived.Test.YtfdbjcdcfmnicaaLpB
import Derived.BigRegion
namespace Go.Proofs.Ytfdbjcdcfmnicaa
open Go Go.RowKit
open Sha

set_option maxRecDepth 100000 in
set_option maxHeartbeats 4000000 in
theorem rrel_any {w : World} {v : Value} {B : Int} {st : La} (h : Rf w v B st) (hB : B < 4611686018427387904) (nr : Int) (L : List Value) (hL : L = st.dc v) (st' : La) (E : Int) (hr : st.rel nr = (st', E)) (C : Int) (hC : st'.Ok C) (hBC : B ≤ C) : Calls Try.prog 62 #[.agg L.toArray, .int .i64 nr] w fun e w' => ∃ v', e = .returned (.tuple #[.agg (st'.dc v').toArray, .int .i64 E]) ∧ Rf w' v' C st' ∧ Nv w v v' ∧ Below w.heap.size w w' := by
  obtain ⟨I, hI⟩ : ∃ I, I = fiI st.pend nr := ⟨_, rfl⟩
  have HPL : Hid (∀ X, Below w.heap.size w X → Calls Try.prog 90 #[.agg L.toArray, .int .i64 nr] X fun e w' => e = .returned (.int .i64 I) ∧ Below X.heap.size X w') := fun X k => by rw [hI]; exact rplace_any (h.be k) nr L hL
  have HI : Hid ((Try.prog.info? tRL).map (·.size) = some L.length) := by show _ = _; rw [hL]; exact La.dinfo h.ok.cf v
  have HRF : Hid (Rf w v B st) := h
  have HLL : Hid (L = st.dc v) := hL
  have HBC : Hid (B ≤ C) := hBC
  obtain ⟨A0, cap0, hv0, hc0, hp0⟩ := h.form
  have HLN0 : Hid (L.length = zRL.length) := by show _ = _; rw [hL, La.dlen h.ok.cf, zRL_len]
  have HO0 : Hid (L.toArray.all (·.oneCell') = true) := by show _ = _; rw [hL, hv0]; exact all_one (La.done _ _ _ _)
  unfold La.rel at hr
  unfold fiI at hI
  cases hf : fiN st.pend nr with
  | none =>
    rw [hf] at hr hI
    obtain ⟨rfl, rfl⟩ := Prod.mk.inj hr
    have hI2 : I = -1 := hI
    subst hI2
    clear h hf hI hL hv0 hc0 hp0 hr hC hBC
    go_enter Try.func62, Try.ntmps62
    go_wp2_with (first
      | (refine wpList_bxG tRL rfl (.tmp 0) rfl L rfl ?_; intro X1 q1 q2 q3; clear q3; have R1 : Hid (Row X1 w.heap.size L tRL) := q1; have BX1 : Hid (Below w.heap.size w X1) := q2; clear q1 q2; simp only [Act.put, List.setIfInBounds_toArray, List.set_cons_zero, List.set_cons_succ])
      | (refine wpList_alRL rfl rfl ?_; intro X2 q1 q2 q3; clear q3; have RX2 : Hid (Row X2 X1.heap.size zRL tRL) := q1; have BX2 : Hid (Below w.heap.size w X2) := BX1.out.trans (q2.mono BX1.out.size); have R12 : Hid (Row X2 w.heap.size L tRL) := Row.below R1.out q2 R1.out.lt; clear q1 q2; simp only [Act.put, List.setIfInBounds_toArray, List.set_cons_zero, List.set_cons_succ])
      | (refine wpList_ldS rfl tRL (.tmp 2) rfl w.heap.size 0 rfl L _ R12.out.all Try.underlying44 rfl HI.out ?_; simp only [Act.put, List.setIfInBounds_toArray, List.set_cons_zero, List.set_cons_succ])
      | (go_at_call 90; refine Calls.mono (HPL.out _ BX2.out) ?_; rintro e X3 ⟨rfl, q⟩; have B3 : Hid (Below w.heap.size w X3) := BX2.out.trans (q.mono BX2.out.size); have R13 : Hid (Row X3 w.heap.size L tRL) := Row.below R12.out q R12.out.lt; have R23 : Hid (Row X3 X1.heap.size zRL tRL) := Row.below RX2.out q RX2.out.lt; clear q R12)
      | (refine wpList_ldS rfl tRL (.tmp 2) rfl w.heap.size 0 rfl L _ R13.out.all Try.underlying44 rfl HI.out ?_; simp only [Act.put, List.setIfInBounds_toArray, List.set_cons_zero, List.set_cons_succ])
      | (refine wpList_stL rfl tRL (.tmp 4) (.tmp 12) rfl X1.heap.size L zRL tRL rfl rfl R23.out HLN0.out HI.out HO0.out ?_; intro X4 q1 q2; have R4 : Hid (Row X4 X1.heap.size L tRL) := q1; have B4 : Hid (Below w.heap.size w X4) := gro_newL B3.out BX1.out.size q2; clear q1 q2))
    exact bodyPost_ret (results_rSt Try.results62 _ _ X1.heap.size tRL L (.int .i64 164) rfl rfl R4.out Try.underlying44 HI.out) rfl ⟨v, by rw [HLL.out], ⟨HRF.out.own.be B4.out, HRF.out.ok.mono HBC.out⟩, .inl rfl, B4.out⟩
  | some i =>
    rw [hf] at hr hI
    obtain ⟨hil, x, hx, _⟩ := fiN_lt hf
    simp only [hx] at hr
    have hI2 : I = (i : Int) := hI
    subst hI2
    have hxm := List.mem_of_getElem? hx
    obtain ⟨g, o, cap, hv, hcap, hrg⟩ := h.at hx
    obtain ⟨n, hn⟩ : ∃ n, n = st.pend.length := ⟨_, rfl⟩
    rw [← hn] at hv hil hcap
    have hn32 : n ≤ 32 := by rw [hn]; exact h.ok.pl
    have HJ : Hid (i < n) := hil
    have HC : Hid (∀ X, Row X w.heap.size L tRL → X.cell? ⟨w.heap.size, 66, none⟩ = some (.slice (some ⟨g, o, none⟩) n cap)) := fun X r => by rw [hL] at r; have := (h.row r).1; rwa [hv] at this
    obtain ⟨xd, hxd⟩ : ∃ z, z = x.du := ⟨_, rfl⟩
    have HXD : Hid (∀ X, Below w.heap.size w X → X.cell? ⟨g, o + i * 90 + 89, none⟩ = some (.int .i64 xd)) := fun X kx => by rw [hxd]; exact range_be hrg kx 89 _ (Pn.at_du (h.ok.pw x hxm))
    have hlt : ¬ ((i : Int) < 0) := by omega
    rw [← hxd] at hr
    by_cases h3 : xd = 0
    · rw [if_pos h3] at hr
      obtain ⟨rfl, rfl⟩ := Prod.mk.inj hr
      clear h hf hI hL hv0 hc0 hp0 hr hC hBC hx hxm hv hrg hil hn hcap hxd
      go_enter Try.func62, Try.ntmps62
      go_wp2_with (first
        | (refine wpList_bxG tRL rfl (.tmp 0) rfl L rfl ?_; intro X1 q1 q2 q3; clear q3; have R1 : Hid (Row X1 w.heap.size L tRL) := q1; have BX1 : Hid (Below w.heap.size w X1) := q2; clear q1 q2; simp only [Act.put, List.setIfInBounds_toArray, List.set_cons_zero, List.set_cons_succ])
        | (refine wpList_alRL rfl rfl ?_; intro X2 q1 q2 q3; clear q3; have RX2 : Hid (Row X2 X1.heap.size zRL tRL) := q1; have BX2 : Hid (Below w.heap.size w X2) := BX1.out.trans (q2.mono BX1.out.size); have R12 : Hid (Row X2 w.heap.size L tRL) := Row.below R1.out q2 R1.out.lt; clear q1 q2; simp only [Act.put, List.setIfInBounds_toArray, List.set_cons_zero, List.set_cons_succ])
        | (refine wpList_ldS rfl tRL (.tmp 2) rfl w.heap.size 0 rfl L _ R12.out.all Try.underlying44 rfl HI.out ?_; simp only [Act.put, List.setIfInBounds_toArray, List.set_cons_zero, List.set_cons_succ])
        | (go_at_call 90; refine Calls.mono (HPL.out _ BX2.out) ?_; rintro e X3 ⟨rfl, q⟩; have B3 : Hid (Below w.heap.size w X3) := BX2.out.trans (q.mono BX2.out.size); have R13 : Hid (Row X3 w.heap.size L tRL) := Row.below R12.out q R12.out.lt; have R23 : Hid (Row X3 X1.heap.size zRL tRL) := Row.below RX2.out q RX2.out.lt; have c66 := HC.out X3 R13.out; have cx := HXD.out X3 B3.out; clear q R12)
        | (refine wpList_ixL tPs tP (.tmp 14) (.tmp 15) rfl g o n cap i 90 rfl rfl HJ.out Try.underlying42 info_P rfl ?_; simp only [Act.put, List.setIfInBounds_toArray, List.set_cons_zero, List.set_cons_succ])
        | (refine wpList_ldS rfl tRL (.tmp 2) rfl w.heap.size 0 rfl L _ R13.out.all Try.underlying44 rfl HI.out ?_; simp only [Act.put, List.setIfInBounds_toArray, List.set_cons_zero, List.set_cons_succ])
        | (refine wpList_stL rfl tRL (.tmp 4) (.tmp 20) rfl X1.heap.size L zRL tRL rfl rfl R23.out HLN0.out HI.out HO0.out ?_; intro X4 q1 q2; have R4 : Hid (Row X4 X1.heap.size L tRL) := q1; have B4 : Hid (Below w.heap.size w X4) := gro_newL B3.out BX1.out.size q2; clear q1 q2))
      exact bodyPost_ret (results_rSt Try.results62 _ _ X1.heap.size tRL L (.int .i64 166) rfl rfl R4.out Try.underlying44 HI.out) rfl ⟨v, by rw [HLL.out], ⟨HRF.out.own.be B4.out, HRF.out.ok.mono HBC.out⟩, .inl rfl, B4.out⟩
    · rw [if_neg h3] at hr
      obtain ⟨hs', rfl⟩ := Prod.mk.inj hr
      clear hr
      obtain ⟨dd, hdd⟩ : ∃ z, z = x.du := ⟨_, rfl⟩
      obtain ⟨d2, hd2⟩ : ∃ z : Int, z = dd - 1 := ⟨_, rfl⟩
      have hpd := h.ok.pd x hxm
      have HW2 : IntKind.i64.wrap (dd - 1) = d2 := by rw [hd2, IntKind.wrap_i64, hdd]; omega
      have hs2 : st.setDu i x d2 = st' := by rw [hd2, hdd, ← hxd]; exact hs'
      have HP : Hid (∀ X, Below w.heap.size w X → Pr X (some ⟨g, o, none⟩) n st.pend) := fun X kx => Pr.ofLo (c := cap) (by have := h.own.be kx; rw [hv, ← hn] at this; exact this) hn.symm h.ok.pw
      have HCP : Hid (∀ X, Below w.heap.size w X → Calls Try.prog 89 #[.slice (some ⟨g, o, none⟩) n cap] X fun e w' => ∃ g, e = .returned (.slice (some ⟨g, 0, none⟩) n n) ∧ X.heap.size ≤ g ∧ Row w' g (pcs st.pend) tP ∧ Below X.heap.size X w') := fun X kx => rcopied_any X _ n _ st.pend (HP.out X kx) (by omega)
      have HLE : Hid (66 < L.length) := by show _ < _; rw [hL, La.dlen h.ok.cf]; decide
      have HST : Hid (∀ u, L.set 66 u = st'.dc u) := fun u => by rw [hL, La.dset66 h.ok.cf, ← hs2]; rfl
      have HPS : Hid ((pcs st.pend).set (i * 90 + 89) (.int .i64 d2) = pcs st'.pend) := by show _ = _; rw [pcs_set h.ok.pw hx, ← hs2]; rfl
      have HPL2 : Hid (st'.pend.length = n) := by show _ = _; rw [← hs2]; show (st.pend.set i _).length = n; rw [List.length_set, hn]
      have HNB : Hid (n ≤ 1000000) := by show _ ≤ _; omega
      have HOK : Hid (st'.Ok C) := hC
      have HDU : Hid ((pcs st.pend)[i * 90 + 89]? = some (.int .i64 dd)) := by rw [hdd]; exact pcs_at h.ok.pw hx 89 _ (Pn.at_du (h.ok.pw x hxm))
      clear h hf hI hL hv0 hc0 hp0 hC hBC hx hxm hv hrg hil hn hcap hxd hs' hs2 hdd hd2 hpd HP hn32
      go_enter Try.func62, Try.ntmps62
      go_upto_region 7 with (first
        | (refine wpList_bxG tRL rfl (.tmp 0) rfl L rfl ?_; intro X1 q1 q2 q3; clear q3; have R1 : Hid (Row X1 w.heap.size L tRL) := q1; have BX1 : Hid (Below w.heap.size w X1) := q2; clear q1 q2; simp only [Act.put, List.setIfInBounds_toArray, List.set_cons_zero, List.set_cons_succ])
        | (refine wpList_alRL rfl rfl ?_; intro X2 q1 q2 q3; clear q3; have RX2 : Hid (Row X2 X1.heap.size zRL tRL) := q1; have BX2 : Hid (Below w.heap.size w X2) := BX1.out.trans (q2.mono BX1.out.size); have R12 : Hid (Row X2 w.heap.size L tRL) := Row.below R1.out q2 R1.out.lt; clear q1 q2; simp only [Act.put, List.setIfInBounds_toArray, List.set_cons_zero, List.set_cons_succ])
        | (refine wpList_ldS rfl tRL (.tmp 2) rfl w.heap.size 0 rfl L _ R12.out.all Try.underlying44 rfl HI.out ?_; simp only [Act.put, List.setIfInBounds_toArray, List.set_cons_zero, List.set_cons_succ])
        | (go_at_call 90; refine Calls.mono (HPL.out _ BX2.out) ?_; rintro e X3 ⟨rfl, q⟩; have B3 : Hid (Below w.heap.size w X3) := BX2.out.trans (q.mono BX2.out.size); have R13 : Hid (Row X3 w.heap.size L tRL) := Row.below R12.out q R12.out.lt; have R23 : Hid (Row X3 X1.heap.size zRL tRL) := Row.below RX2.out q RX2.out.lt; have c66 := HC.out X3 R13.out; have cx := HXD.out X3 B3.out; clear q R12)
        | (refine wpList_ixL tPs tP (.tmp 14) (.tmp 15) rfl g o n cap i 90 rfl rfl HJ.out Try.underlying42 info_P rfl ?_; simp only [Act.put, List.setIfInBounds_toArray, List.set_cons_zero, List.set_cons_succ])
        | (go_at_call 89; refine Calls.mono (HCP.out _ B3.out) ?_; rintro e X5 ⟨g5, rfl, q0, q1, q2⟩; have G5 : Hid (w.heap.size ≤ g5) := Nat.le_trans B3.out.size q0; have N5 : Hid (X3.heap.size ≤ g5) := q0; have C5 : Hid (Row X5 g5 (pcs st.pend) tP) := q1; have B5 : Hid (Below w.heap.size w X5) := B3.out.trans (q2.mono B3.out.size); have R15 : Hid (Row X5 w.heap.size L tRL) := Row.below R13.out q2 R13.out.lt; have R25 : Hid (Row X5 X1.heap.size zRL tRL) := Row.below R23.out q2 R23.out.lt; clear c66 cx q0 q1 q2)
        | (refine wpList_st1 rfl tPs (.tmp 24) (.tmp 23) rfl w.heap.size 66 (.slice (some ⟨g5, 0, none⟩) n n) L tRL rfl rfl rfl R15.out HLE.out info_Ps rfl ?_; intro X7 q1 q2; have R17 : Hid (Row X7 w.heap.size (L.set 66 (.slice (some ⟨g5, 0, none⟩) n n)) tRL) := q1; have B7 : Hid (Below w.heap.size w X7) := gro_newL B5.out (Nat.le_refl _) q2; have R27 : Hid (Row X7 X1.heap.size zRL tRL) := q2.row R25.out (fun e => by have := R1.out.lt; omega); have C7 : Hid (Row X7 g5 (pcs st.pend) tP) := q2.row C5.out (fun e => by have := R13.out.lt; have := N5.out; omega); clear q1 q2; simp only [Act.put]))
      obtain ⟨L7, hL7⟩ : ∃ M, M = L.set 66 (.slice (some ⟨g5, 0, none⟩) n n) := ⟨_, rfl⟩
      rw [← hL7] at R17
      have H7 : Hid (L7 = st'.dc (.slice (some ⟨g5, 0, none⟩) n n)) := by show _ = _; rw [hL7]; exact HST.out _
      have HLN : Hid (L7.length = zRL.length) := by show _ = _; rw [H7.out, La.dlen HOK.out.cf, zRL_len]
      have HIZ : Hid ((Try.prog.info? tRL).map (·.size) = some L7.length) := by show _ = _; rw [H7.out]; exact La.dinfo HOK.out.cf _
      have HO : Hid (L7.toArray.all (·.oneCell') = true) := by show _ = _; rw [H7.out]; exact all_one (La.done _ _ _ _)
      have c66 : X7.cell? ⟨w.heap.size, 66, none⟩ = some (.slice (some ⟨g5, 0, none⟩) n n) := R17.out.cell 66 _ (by rw [H7.out]; exact La.d66 HOK.out.cf _)
      have cdu : X7.cell? ⟨g5, i * 90 + 89, none⟩ = some (.int .i64 dd) := C7.out.cell _ _ HDU.out
      have hfz : X7.frozen? ⟨g5, i * 90 + 89, none⟩ = false := (C7.out.there (i * 90 + 89) 1 (by have := (List.getElem?_eq_some_iff.1 HDU.out).1; omega) 0 (by decide)).2
      have hin : (i : Int) < (n : Int) := by have := HJ.out; omega
      have hin2 : i < n := HJ.out
      clear hL7 HCP HPL
      go_region
      obtain ⟨Y, hY⟩ : ∃ Y, Y = (X7.setCell { block := g5, off := i * 90 + 89 } (.int .i64 d2)).drew := ⟨_, rfl⟩
      rw [← hY]
      have G8 : Hid (Gro (· = g5) X7 Y) := by
        rw [hY]
        have q := (Gro.refl (· = g5) X7).set g5 (i * 90 + 89) (.int .i64 d2) rfl
        exact ⟨q.os, q.tape, q.output, q.size, q.block⟩
      have C8 : Hid (Row Y g5 (pcs st'.pend) tP) := by
        show Row _ _ _ _
        rw [hY, ← HPS.out]
        exact Row.drew (C7.out.set (i * 90 + 89) (.int .i64 d2))
      have R18 : Hid (Row Y w.heap.size L7 tRL) := G8.out.row R17.out (fun e => by have := R13.out.lt; have := N5.out; omega)
      have R28 : Hid (Row Y X1.heap.size zRL tRL) := G8.out.row R27.out (fun e => by have := R23.out.lt; have := N5.out; omega)
      have B8 : Hid (Below w.heap.size w Y) := gro_newL B7.out G5.out G8.out
      clear hY c66 cdu hfz hin hin2 HW2
      go_wp2_with (first
        | (refine wpList_ldS rfl tRL (.tmp 2) rfl w.heap.size 0 rfl L7 _ R18.out.all Try.underlying44 rfl HIZ.out ?_; simp only [Act.put, List.setIfInBounds_toArray, List.set_cons_zero, List.set_cons_succ])
        | (refine wpList_stL rfl tRL (.tmp 4) (.tmp 37) rfl X1.heap.size L7 zRL tRL rfl rfl R28.out HLN.out HIZ.out HO.out ?_; intro X9 q1 q2; have R9 : Hid (Row X9 X1.heap.size L7 tRL) := q1; have B9 : Hid (Below w.heap.size w X9) := gro_newL B8.out BX1.out.size q2; have C9 : Hid (Row X9 g5 (pcs st'.pend) tP) := q2.row C8.out (fun e => by { have := R23.out.lt; have := N5.out; omega }); clear q1 q2))
      exact bodyPost_ret (results_rSt Try.results62 _ _ X1.heap.size tRL L7 (.int .i64 0) rfl rfl R9.out Try.underlying44 HIZ.out) rfl ⟨.slice (some ⟨g5, 0, none⟩) n n, by rw [H7.out], ⟨by rw [HPL2.out]; exact lo_row C9.out HPL2.out HNB.out HOK.out.pw, HOK.out⟩, .inr (fun g e => by cases e; exact G5.out), B9.out⟩
set_option maxRecDepth 100000 in
set_option maxHeartbeats 4000000 in
theorem rhold_any {w : World} {v : Value} {B : Int} {st : La} (h : Rf w v B st) (hB : B < 4611686018427387904) (nr now : Int) (L : List Value) (hL : L = st.dc v) (st' : La) (E : Int) (hr : st.hold nr now = (st', E)) (C : Int) (hC : st'.Ok C) (hBC : B ≤ C) : Calls Try.prog 61 #[.agg L.toArray, .int .i64 nr, .int .i64 now] w fun e w' => ∃ v', e = .returned (.tuple #[.agg (st'.dc v').toArray, .int .i64 E]) ∧ Rf w' v' C st' ∧ Nv w v v' ∧ Below w.heap.size w w' := by
  obtain ⟨I, hI⟩ : ∃ I, I = fiI st.pend nr := ⟨_, rfl⟩
  have HPL : Hid (∀ X, Below w.heap.size w X → Calls Try.prog 90 #[.agg L.toArray, .int .i64 nr] X fun e w' => e = .returned (.int .i64 I) ∧ Below X.heap.size X w') := fun X k => by rw [hI]; exact rplace_any (h.be k) nr L hL
  have HI : Hid ((Try.prog.info? tRL).map (·.size) = some L.length) := by show _ = _; rw [hL]; exact La.dinfo h.ok.cf v
  have HRF : Hid (Rf w v B st) := h
  have HLL : Hid (L = st.dc v) := hL
  have HBC : Hid (B ≤ C) := hBC
  obtain ⟨A0, cap0, hv0, hc0, hp0⟩ := h.form
  have HLN0 : Hid (L.length = zRL.length) := by show _ = _; rw [hL, La.dlen h.ok.cf, zRL_len]
  have HO0 : Hid (L.toArray.all (·.oneCell') = true) := by show _ = _; rw [hL, hv0]; exact all_one (La.done _ _ _ _)
  unfold La.hold at hr
  unfold fiI at hI
  by_cases h1 : now < 0
  · rw [if_pos (by rw [tmB, decide_eq_false (by omega), Bool.false_and])] at hr
    obtain ⟨rfl, rfl⟩ := Prod.mk.inj hr
    clear h hI hL hv0 hc0 hp0 hr hC hBC
    go_enter Try.func61, Try.ntmps61
    go_wp2_with (first
      | (refine wpList_bxG tRL rfl (.tmp 0) rfl L rfl ?_; intro X1 q1 q2 q3; clear q3; have R1 : Hid (Row X1 w.heap.size L tRL) := q1; have BX1 : Hid (Below w.heap.size w X1) := q2; clear q1 q2; simp only [Act.put, List.setIfInBounds_toArray, List.set_cons_zero, List.set_cons_succ])
      | (refine wpList_alRL rfl rfl ?_; intro X2 q1 q2 q3; clear q3; have RX2 : Hid (Row X2 X1.heap.size zRL tRL) := q1; have BX2 : Hid (Below w.heap.size w X2) := BX1.out.trans (q2.mono BX1.out.size); have R12 : Hid (Row X2 w.heap.size L tRL) := Row.below R1.out q2 R1.out.lt; clear q1 q2; simp only [Act.put, List.setIfInBounds_toArray, List.set_cons_zero, List.set_cons_succ])
      | (refine wpList_ldS rfl tRL (.tmp 3) rfl w.heap.size 0 rfl L _ R12.out.all Try.underlying44 rfl HI.out ?_; simp only [Act.put, List.setIfInBounds_toArray, List.set_cons_zero, List.set_cons_succ])
      | (refine wpList_stL rfl tRL (.tmp 6) (.tmp 15) rfl X1.heap.size L zRL tRL rfl rfl RX2.out HLN0.out HI.out HO0.out ?_; intro X4 q1 q2; have R4 : Hid (Row X4 X1.heap.size L tRL) := q1; have B4 : Hid (Below w.heap.size w X4) := gro_newL BX2.out BX1.out.size q2; clear q1 q2))
    exact bodyPost_ret (results_rSt Try.results61 _ _ X1.heap.size tRL L (.int .i64 168) rfl rfl R4.out Try.underlying44 HI.out) rfl ⟨v, by rw [HLL.out], ⟨HRF.out.own.be B4.out, HRF.out.ok.mono HBC.out⟩, .inl rfl, B4.out⟩
  by_cases h2 : 4611686018427387904 < now
  · rw [if_pos (by rw [tmB, decide_eq_false (show ¬ now ≤ 4611686018427387904 by omega), Bool.and_false])] at hr
    obtain ⟨rfl, rfl⟩ := Prod.mk.inj hr
    clear h hI hL hv0 hc0 hp0 hr hC hBC
    go_enter Try.func61, Try.ntmps61
    go_wp2_with (first
      | (refine wpList_bxG tRL rfl (.tmp 0) rfl L rfl ?_; intro X1 q1 q2 q3; clear q3; have R1 : Hid (Row X1 w.heap.size L tRL) := q1; have BX1 : Hid (Below w.heap.size w X1) := q2; clear q1 q2; simp only [Act.put, List.setIfInBounds_toArray, List.set_cons_zero, List.set_cons_succ])
      | (refine wpList_alRL rfl rfl ?_; intro X2 q1 q2 q3; clear q3; have RX2 : Hid (Row X2 X1.heap.size zRL tRL) := q1; have BX2 : Hid (Below w.heap.size w X2) := BX1.out.trans (q2.mono BX1.out.size); have R12 : Hid (Row X2 w.heap.size L tRL) := Row.below R1.out q2 R1.out.lt; clear q1 q2; simp only [Act.put, List.setIfInBounds_toArray, List.set_cons_zero, List.set_cons_succ])
      | (refine wpList_ldS rfl tRL (.tmp 3) rfl w.heap.size 0 rfl L _ R12.out.all Try.underlying44 rfl HI.out ?_; simp only [Act.put, List.setIfInBounds_toArray, List.set_cons_zero, List.set_cons_succ])
      | (refine wpList_stL rfl tRL (.tmp 6) (.tmp 15) rfl X1.heap.size L zRL tRL rfl rfl RX2.out HLN0.out HI.out HO0.out ?_; intro X4 q1 q2; have R4 : Hid (Row X4 X1.heap.size L tRL) := q1; have B4 : Hid (Below w.heap.size w X4) := gro_newL BX2.out BX1.out.size q2; clear q1 q2))
    exact bodyPost_ret (results_rSt Try.results61 _ _ X1.heap.size tRL L (.int .i64 168) rfl rfl R4.out Try.underlying44 HI.out) rfl ⟨v, by rw [HLL.out], ⟨HRF.out.own.be B4.out, HRF.out.ok.mono HBC.out⟩, .inl rfl, B4.out⟩
  rw [if_neg (by rw [tmB, decide_eq_true (by omega), decide_eq_true (show now ≤ 4611686018427387904 by omega)]; decide)] at hr
  cases hf : fiN st.pend nr with
  | none =>
    rw [hf] at hr hI
    obtain ⟨rfl, rfl⟩ := Prod.mk.inj hr
    have hI2 : I = -1 := hI
    subst hI2
    clear h hf hI hL hv0 hc0 hp0 hr hC hBC
    go_enter Try.func61, Try.ntmps61
    go_wp2_with (first
      | (refine wpList_bxG tRL rfl (.tmp 0) rfl L rfl ?_; intro X1 q1 q2 q3; clear q3; have R1 : Hid (Row X1 w.heap.size L tRL) := q1; have BX1 : Hid (Below w.heap.size w X1) := q2; clear q1 q2; simp only [Act.put, List.setIfInBounds_toArray, List.set_cons_zero, List.set_cons_succ])
      | (refine wpList_alRL rfl rfl ?_; intro X2 q1 q2 q3; clear q3; have RX2 : Hid (Row X2 X1.heap.size zRL tRL) := q1; have BX2 : Hid (Below w.heap.size w X2) := BX1.out.trans (q2.mono BX1.out.size); have R12 : Hid (Row X2 w.heap.size L tRL) := Row.below R1.out q2 R1.out.lt; clear q1 q2; simp only [Act.put, List.setIfInBounds_toArray, List.set_cons_zero, List.set_cons_succ])
      | (refine wpList_ldS rfl tRL (.tmp 3) rfl w.heap.size 0 rfl L _ R12.out.all Try.underlying44 rfl HI.out ?_; simp only [Act.put, List.setIfInBounds_toArray, List.set_cons_zero, List.set_cons_succ])
      | (go_at_call 90; refine Calls.mono (HPL.out _ BX2.out) ?_; rintro e X3 ⟨rfl, q⟩; have B3 : Hid (Below w.heap.size w X3) := BX2.out.trans (q.mono BX2.out.size); have R13 : Hid (Row X3 w.heap.size L tRL) := Row.below R12.out q R12.out.lt; have R23 : Hid (Row X3 X1.heap.size zRL tRL) := Row.below RX2.out q RX2.out.lt; clear q R12)
      | (refine wpList_ldS rfl tRL (.tmp 3) rfl w.heap.size 0 rfl L _ R13.out.all Try.underlying44 rfl HI.out ?_; simp only [Act.put, List.setIfInBounds_toArray, List.set_cons_zero, List.set_cons_succ])
      | (refine wpList_stL rfl tRL (.tmp 6) (.tmp 21) rfl X1.heap.size L zRL tRL rfl rfl R23.out HLN0.out HI.out HO0.out ?_; intro X4 q1 q2; have R4 : Hid (Row X4 X1.heap.size L tRL) := q1; have B4 : Hid (Below w.heap.size w X4) := gro_newL B3.out BX1.out.size q2; clear q1 q2))
    exact bodyPost_ret (results_rSt Try.results61 _ _ X1.heap.size tRL L (.int .i64 164) rfl rfl R4.out Try.underlying44 HI.out) rfl ⟨v, by rw [HLL.out], ⟨HRF.out.own.be B4.out, HRF.out.ok.mono HBC.out⟩, .inl rfl, B4.out⟩
  | some i =>
    rw [hf] at hr hI
    obtain ⟨hil, x, hx, _⟩ := fiN_lt hf
    simp only [hx] at hr
    have hI2 : I = (i : Int) := hI
    subst hI2
    have hxm := List.mem_of_getElem? hx
    obtain ⟨g, o, cap, hv, hcap, hrg⟩ := h.at hx
    obtain ⟨n, hn⟩ : ∃ n, n = st.pend.length := ⟨_, rfl⟩
    rw [← hn] at hv hil hcap
    have hn32 : n ≤ 32 := by rw [hn]; exact h.ok.pl
    have HJ : Hid (i < n) := hil
    have HC : Hid (∀ X, Row X w.heap.size L tRL → X.cell? ⟨w.heap.size, 66, none⟩ = some (.slice (some ⟨g, o, none⟩) n cap)) := fun X r => by rw [hL] at r; have := (h.row r).1; rwa [hv] at this
    obtain ⟨xd, hxd⟩ : ∃ z, z = x.dl := ⟨_, rfl⟩
    have HXD : Hid (∀ X, Below w.heap.size w X → X.cell? ⟨g, o + i * 90 + 88, none⟩ = some (.int .i64 xd)) := fun X kx => by rw [hxd]; exact range_be hrg kx 88 _ (Pn.at_dl (h.ok.pw x hxm))
    have hlt : ¬ ((i : Int) < 0) := by omega
    rw [← hxd] at hr
    by_cases h3 : xd ≤ now
    · rw [if_pos h3] at hr
      obtain ⟨rfl, rfl⟩ := Prod.mk.inj hr
      clear h hf hI hL hv0 hc0 hp0 hr hC hBC hx hxm hv hrg hil hn hcap hxd
      go_enter Try.func61, Try.ntmps61
      go_wp2_with (first
        | (refine wpList_bxG tRL rfl (.tmp 0) rfl L rfl ?_; intro X1 q1 q2 q3; clear q3; have R1 : Hid (Row X1 w.heap.size L tRL) := q1; have BX1 : Hid (Below w.heap.size w X1) := q2; clear q1 q2; simp only [Act.put, List.setIfInBounds_toArray, List.set_cons_zero, List.set_cons_succ])
        | (refine wpList_alRL rfl rfl ?_; intro X2 q1 q2 q3; clear q3; have RX2 : Hid (Row X2 X1.heap.size zRL tRL) := q1; have BX2 : Hid (Below w.heap.size w X2) := BX1.out.trans (q2.mono BX1.out.size); have R12 : Hid (Row X2 w.heap.size L tRL) := Row.below R1.out q2 R1.out.lt; clear q1 q2; simp only [Act.put, List.setIfInBounds_toArray, List.set_cons_zero, List.set_cons_succ])
        | (refine wpList_ldS rfl tRL (.tmp 3) rfl w.heap.size 0 rfl L _ R12.out.all Try.underlying44 rfl HI.out ?_; simp only [Act.put, List.setIfInBounds_toArray, List.set_cons_zero, List.set_cons_succ])
        | (go_at_call 90; refine Calls.mono (HPL.out _ BX2.out) ?_; rintro e X3 ⟨rfl, q⟩; have B3 : Hid (Below w.heap.size w X3) := BX2.out.trans (q.mono BX2.out.size); have R13 : Hid (Row X3 w.heap.size L tRL) := Row.below R12.out q R12.out.lt; have R23 : Hid (Row X3 X1.heap.size zRL tRL) := Row.below RX2.out q RX2.out.lt; have c66 := HC.out X3 R13.out; have cx := HXD.out X3 B3.out; clear q R12)
        | (refine wpList_ixL tPs tP (.tmp 24) (.tmp 25) rfl g o n cap i 90 rfl rfl HJ.out Try.underlying42 info_P rfl ?_; simp only [Act.put, List.setIfInBounds_toArray, List.set_cons_zero, List.set_cons_succ])
        | (refine wpList_ldS rfl tRL (.tmp 3) rfl w.heap.size 0 rfl L _ R13.out.all Try.underlying44 rfl HI.out ?_; simp only [Act.put, List.setIfInBounds_toArray, List.set_cons_zero, List.set_cons_succ])
        | (refine wpList_stL rfl tRL (.tmp 6) (.tmp 30) rfl X1.heap.size L zRL tRL rfl rfl R23.out HLN0.out HI.out HO0.out ?_; intro X4 q1 q2; have R4 : Hid (Row X4 X1.heap.size L tRL) := q1; have B4 : Hid (Below w.heap.size w X4) := gro_newL B3.out BX1.out.size q2; clear q1 q2))
      exact bodyPost_ret (results_rSt Try.results61 _ _ X1.heap.size tRL L (.int .i64 167) rfl rfl R4.out Try.underlying44 HI.out) rfl ⟨v, by rw [HLL.out], ⟨HRF.out.own.be B4.out, HRF.out.ok.mono HBC.out⟩, .inl rfl, B4.out⟩
    · rw [if_neg h3] at hr
      obtain ⟨hs', rfl⟩ := Prod.mk.inj hr
      clear hr
      obtain ⟨dd, hdd⟩ : ∃ z, z = x.du := ⟨_, rfl⟩
      obtain ⟨d2, hd2⟩ : ∃ z : Int, z = dd + 1 := ⟨_, rfl⟩
      have hpd := h.ok.pd x hxm
      have HW2 : IntKind.i64.wrap (dd + 1) = d2 := by rw [hd2, IntKind.wrap_i64, hdd]; omega
      have hs2 : st.setDu i x d2 = st' := by rw [hd2, hdd]; exact hs'
      have HP : Hid (∀ X, Below w.heap.size w X → Pr X (some ⟨g, o, none⟩) n st.pend) := fun X kx => Pr.ofLo (c := cap) (by have := h.own.be kx; rw [hv, ← hn] at this; exact this) hn.symm h.ok.pw
      have HCP : Hid (∀ X, Below w.heap.size w X → Calls Try.prog 89 #[.slice (some ⟨g, o, none⟩) n cap] X fun e w' => ∃ g, e = .returned (.slice (some ⟨g, 0, none⟩) n n) ∧ X.heap.size ≤ g ∧ Row w' g (pcs st.pend) tP ∧ Below X.heap.size X w') := fun X kx => rcopied_any X _ n _ st.pend (HP.out X kx) (by omega)
      have HLE : Hid (66 < L.length) := by show _ < _; rw [hL, La.dlen h.ok.cf]; decide
      have HST : Hid (∀ u, L.set 66 u = st'.dc u) := fun u => by rw [hL, La.dset66 h.ok.cf, ← hs2]; rfl
      have HPS : Hid ((pcs st.pend).set (i * 90 + 89) (.int .i64 d2) = pcs st'.pend) := by show _ = _; rw [pcs_set h.ok.pw hx, ← hs2]; rfl
      have HPL2 : Hid (st'.pend.length = n) := by show _ = _; rw [← hs2]; show (st.pend.set i _).length = n; rw [List.length_set, hn]
      have HNB : Hid (n ≤ 1000000) := by show _ ≤ _; omega
      have HOK : Hid (st'.Ok C) := hC
      have HDU : Hid ((pcs st.pend)[i * 90 + 89]? = some (.int .i64 dd)) := by rw [hdd]; exact pcs_at h.ok.pw hx 89 _ (Pn.at_du (h.ok.pw x hxm))
      clear h hf hI hL hv0 hc0 hp0 hC hBC hx hxm hv hrg hil hn hcap hxd hs' hs2 hdd hd2 hpd HP hn32
      go_enter Try.func61, Try.ntmps61
      go_upto_region 9 with (first
        | (refine wpList_bxG tRL rfl (.tmp 0) rfl L rfl ?_; intro X1 q1 q2 q3; clear q3; have R1 : Hid (Row X1 w.heap.size L tRL) := q1; have BX1 : Hid (Below w.heap.size w X1) := q2; clear q1 q2; simp only [Act.put, List.setIfInBounds_toArray, List.set_cons_zero, List.set_cons_succ])
        | (refine wpList_alRL rfl rfl ?_; intro X2 q1 q2 q3; clear q3; have RX2 : Hid (Row X2 X1.heap.size zRL tRL) := q1; have BX2 : Hid (Below w.heap.size w X2) := BX1.out.trans (q2.mono BX1.out.size); have R12 : Hid (Row X2 w.heap.size L tRL) := Row.below R1.out q2 R1.out.lt; clear q1 q2; simp only [Act.put, List.setIfInBounds_toArray, List.set_cons_zero, List.set_cons_succ])
        | (refine wpList_ldS rfl tRL (.tmp 3) rfl w.heap.size 0 rfl L _ R12.out.all Try.underlying44 rfl HI.out ?_; simp only [Act.put, List.setIfInBounds_toArray, List.set_cons_zero, List.set_cons_succ])
        | (go_at_call 90; refine Calls.mono (HPL.out _ BX2.out) ?_; rintro e X3 ⟨rfl, q⟩; have B3 : Hid (Below w.heap.size w X3) := BX2.out.trans (q.mono BX2.out.size); have R13 : Hid (Row X3 w.heap.size L tRL) := Row.below R12.out q R12.out.lt; have R23 : Hid (Row X3 X1.heap.size zRL tRL) := Row.below RX2.out q RX2.out.lt; have c66 := HC.out X3 R13.out; have cx := HXD.out X3 B3.out; clear q R12)
        | (refine wpList_ixL tPs tP (.tmp 24) (.tmp 25) rfl g o n cap i 90 rfl rfl HJ.out Try.underlying42 info_P rfl ?_; simp only [Act.put, List.setIfInBounds_toArray, List.set_cons_zero, List.set_cons_succ])
        | (go_at_call 89; refine Calls.mono (HCP.out _ B3.out) ?_; rintro e X5 ⟨g5, rfl, q0, q1, q2⟩; have G5 : Hid (w.heap.size ≤ g5) := Nat.le_trans B3.out.size q0; have N5 : Hid (X3.heap.size ≤ g5) := q0; have C5 : Hid (Row X5 g5 (pcs st.pend) tP) := q1; have B5 : Hid (Below w.heap.size w X5) := B3.out.trans (q2.mono B3.out.size); have R15 : Hid (Row X5 w.heap.size L tRL) := Row.below R13.out q2 R13.out.lt; have R25 : Hid (Row X5 X1.heap.size zRL tRL) := Row.below R23.out q2 R23.out.lt; clear c66 cx q0 q1 q2)
        | (refine wpList_st1 rfl tPs (.tmp 34) (.tmp 33) rfl w.heap.size 66 (.slice (some ⟨g5, 0, none⟩) n n) L tRL rfl rfl rfl R15.out HLE.out info_Ps rfl ?_; intro X7 q1 q2; have R17 : Hid (Row X7 w.heap.size (L.set 66 (.slice (some ⟨g5, 0, none⟩) n n)) tRL) := q1; have B7 : Hid (Below w.heap.size w X7) := gro_newL B5.out (Nat.le_refl _) q2; have R27 : Hid (Row X7 X1.heap.size zRL tRL) := q2.row R25.out (fun e => by have := R1.out.lt; omega); have C7 : Hid (Row X7 g5 (pcs st.pend) tP) := q2.row C5.out (fun e => by have := R13.out.lt; have := N5.out; omega); clear q1 q2; simp only [Act.put]))
      obtain ⟨L7, hL7⟩ : ∃ M, M = L.set 66 (.slice (some ⟨g5, 0, none⟩) n n) := ⟨_, rfl⟩
      rw [← hL7] at R17
      have H7 : Hid (L7 = st'.dc (.slice (some ⟨g5, 0, none⟩) n n)) := by show _ = _; rw [hL7]; exact HST.out _
      have HLN : Hid (L7.length = zRL.length) := by show _ = _; rw [H7.out, La.dlen HOK.out.cf, zRL_len]
      have HIZ : Hid ((Try.prog.info? tRL).map (·.size) = some L7.length) := by show _ = _; rw [H7.out]; exact La.dinfo HOK.out.cf _
      have HO : Hid (L7.toArray.all (·.oneCell') = true) := by show _ = _; rw [H7.out]; exact all_one (La.done _ _ _ _)
      have c66 : X7.cell? ⟨w.heap.size, 66, none⟩ = some (.slice (some ⟨g5, 0, none⟩) n n) := R17.out.cell 66 _ (by rw [H7.out]; exact La.d66 HOK.out.cf _)
      have cdu : X7.cell? ⟨g5, i * 90 + 89, none⟩ = some (.int .i64 dd) := C7.out.cell _ _ HDU.out
      have hfz : X7.frozen? ⟨g5, i * 90 + 89, none⟩ = false := (C7.out.there (i * 90 + 89) 1 (by have := (List.getElem?_eq_some_iff.1 HDU.out).1; omega) 0 (by decide)).2
      have hin : (i : Int) < (n : Int) := by have := HJ.out; omega
      have hin2 : i < n := HJ.out
      clear hL7 HCP HPL
      go_region
      obtain ⟨Y, hY⟩ : ∃ Y, Y = (X7.setCell { block := g5, off := i * 90 + 89 } (.int .i64 d2)).drew := ⟨_, rfl⟩
      rw [← hY]
      have G8 : Hid (Gro (· = g5) X7 Y) := by
        rw [hY]
        have q := (Gro.refl (· = g5) X7).set g5 (i * 90 + 89) (.int .i64 d2) rfl
        exact ⟨q.os, q.tape, q.output, q.size, q.block⟩
      have C8 : Hid (Row Y g5 (pcs st'.pend) tP) := by
        show Row _ _ _ _
        rw [hY, ← HPS.out]
        exact Row.drew (C7.out.set (i * 90 + 89) (.int .i64 d2))
      have R18 : Hid (Row Y w.heap.size L7 tRL) := G8.out.row R17.out (fun e => by have := R13.out.lt; have := N5.out; omega)
      have R28 : Hid (Row Y X1.heap.size zRL tRL) := G8.out.row R27.out (fun e => by have := R23.out.lt; have := N5.out; omega)
      have B8 : Hid (Below w.heap.size w Y) := gro_newL B7.out G5.out G8.out
      clear hY c66 cdu hfz hin hin2 HW2
      go_wp2_with (first
        | (refine wpList_ldS rfl tRL (.tmp 3) rfl w.heap.size 0 rfl L7 _ R18.out.all Try.underlying44 rfl HIZ.out ?_; simp only [Act.put, List.setIfInBounds_toArray, List.set_cons_zero, List.set_cons_succ])
        | (refine wpList_stL rfl tRL (.tmp 6) (.tmp 47) rfl X1.heap.size L7 zRL tRL rfl rfl R28.out HLN.out HIZ.out HO.out ?_; intro X9 q1 q2; have R9 : Hid (Row X9 X1.heap.size L7 tRL) := q1; have B9 : Hid (Below w.heap.size w X9) := gro_newL B8.out BX1.out.size q2; have C9 : Hid (Row X9 g5 (pcs st'.pend) tP) := q2.row C8.out (fun e => by { have := R23.out.lt; have := N5.out; omega }); clear q1 q2))
      exact bodyPost_ret (results_rSt Try.results61 _ _ X1.heap.size tRL L7 (.int .i64 0) rfl rfl R9.out Try.underlying44 HIZ.out) rfl ⟨.slice (some ⟨g5, 0, none⟩) n n, by rw [H7.out], ⟨by rw [HPL2.out]; exact lo_row C9.out HPL2.out HNB.out HOK.out.pw, HOK.out⟩, .inr (fun g e => by cases e; exact G5.out), B9.out⟩

end Go.Proofs.Ytfdbjcdcfmnicaa
