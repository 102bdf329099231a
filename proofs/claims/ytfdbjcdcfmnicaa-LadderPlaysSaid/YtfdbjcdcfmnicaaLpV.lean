/-
  LadderPlays: look at Pending.
-/
import Derived.Test.YtfdbjcdcfmnicaaLpQ
namespace Go.Proofs.Ytfdbjcdcfmnicaa
open Go Go.RowKit
open Sha

set_option maxRecDepth 100000 in
set_option maxHeartbeats 16000000 in
theorem look_pend {w0 w : World} {q : Nat} {B : Int} {Ls : List (Nat × Value × La)} {Es : List (Value × La)} {T : Value} {ts : List (Value × Nat)} (h : Pl w0 w q B Ls Es T ts) (hts : ts.length + 1 ≤ 5000000000000) {k p : Nat} {v e : Value} {st : La} (hk : Ls[k]? = some (p, v, st)) (he : Es[k]? = some (e, st)) (s : Sp16) (hs : s.Ok) (hkd : s.kd = 8) (S : List Value) (hS : S = s.cells) :
    Calls Try.prog 18 #[.pointer (some ⟨q, 0, none⟩), .int .i64 (k : Int), .agg S.toArray] w fun r w' => r = .returned (.bool true) ∧ ∃ T' y z, Pl w0 w' q B Ls Es T' (ts ++ [y] ++ [z]) := by
  obtain ⟨m, hm⟩ : ∃ m, m = st.pend.length := ⟨_, rfl⟩
  have HTS : Hid (ts.length + 1 ≤ 5000000000000) := hts
  have HM : Hid (st.pend.length = m ∧ m ≤ 32) := ⟨hm.symm, by rw [hm]; exact (h.lad hk).ok.pl⟩
  have HGW : Hid (∀ x ∈ st.pend, x.Wf) := (h.lad hk).ok.pw
  obtain ⟨Ae, ce, he0, _, _⟩ := (h.rf _ (List.mem_of_getElem? he)).form
  replace he0 : e = .slice Ae m ce := by rw [hm]; exact he0
  have HPN : Hid (∀ W, Pl w0 W q B Ls Es T ts → Calls Try.prog 22 #[.pointer (some ⟨p, 0, none⟩)] W fun r w' => ∃ A' c', r = .returned (.slice A' m c') ∧ Lw w' tP 90 (.slice A' m c') m (pcs st.pend) ∧ Fresh W.heap.size (.slice A' m c') ∧ Below W.heap.size W w') := fun W hP => pending_any (hP.lad hk) m hm
  have HCE : Hid (∀ W, Pl w0 W q B Ls Es T ts → W.cell? ⟨q, 3 + k * 70 + 66, none⟩ = some (.slice Ae m ce)) := fun W hP => hP.row.cell _ _ (prc_d (by rw [List.length_map]; exact hP.l3) hP.d70 (by rw [List.getElem?_map, he]; rfl) 66 _ (by rw [← he0]; exact La.d66 (h.lad hk).ok.cf _))
  have HPE : Hid (∀ W, Pl w0 W q B Ls Es T ts → Pr W Ae m st.pend) := fun W hP => by
    have this : Lo W tP 90 e st.pend.length (pcs st.pend) := (hP.rf _ (List.mem_of_getElem? he)).own
    rw [he0, ← hm] at this
    exact Pr.ofLo this hm.symm (h.lad hk).ok.pw
  have hk3 : k < 3 := by have := (List.getElem?_eq_some_iff.1 hk).1; rw [h.l3] at this; exact this
  have HK3 : Hid (k < 3) := hk3
  have HPL : Hid (Pl w0 w q B Ls Es T ts) := h
  have HLK : Hid (Ls[k]? = some (p, v, st)) := hk
  have HEK : Hid (Es[k]? = some (e, st)) := he
  have HNR : Hid (S[91]? = some (.int .i64 s.nr)) := by rw [hS]; exact Sp16.at_nr hs
  have HKD : Hid (S[0]? = some (.int .i64 8)) := by rw [hS, ← hkd]; exact Sp16.at_kd s
  have HCP0 : Hid (∀ W, Pl w0 W q B Ls Es T ts → W.cell? ⟨q, k, none⟩ = some (.pointer (some ⟨p, 0, none⟩))) := fun W hP => hP.row.cell k _ (prc_p (by rw [List.getElem?_map, hk]; rfl))
  obtain ⟨L, hL⟩ : ∃ L, L = st.dc e := ⟨_, rfl⟩
  have HIL : Hid ((Try.prog.info? tRL).map (·.size) = some L.length) := by show _ = _; rw [hL]; exact La.dinfo (h.rf _ (List.mem_of_getElem? he)).ok.cf _
  have HRD0 : Hid (∀ W, Pl w0 W q B Ls Es T ts → W.rangeAt q (3 + k * 70) L) := fun W hP => hP.row.range (3 + k * 70) _ (fun j u hj => prc_d (by rw [List.length_map]; exact hP.l3) hP.d70 (by rw [List.getElem?_map, he]; rfl) j u (by rw [hL] at hj; exact hj))
  clear hm hts he0
  clear h hk he hs hkd hS hk3 hL
  go_enter Try.func18, Try.ntmps18
  go_upto_region 11 with (refine wpList_bxG tSt rfl (.tmp 2) rfl S rfl ?_; intro X1 q1 q2 q3; clear q3; have ck : X1.cell? ⟨w.heap.size, 0, none⟩ = some (.int .i64 8) := q1.cell 0 _ HKD.out; have RS : Hid (Row X1 w.heap.size S tSt) := q1; have HP1 : Hid (Pl w0 X1 q B Ls Es T ts) := HPL.out.below q2; clear q1 q2; simp only [Act.put, List.setIfInBounds_toArray, List.set_cons_zero, List.set_cons_succ])
  obtain ⟨bS, hbS⟩ : ∃ b, b = w.heap.size := ⟨_, rfl⟩
  rw [← hbS] at RS ⊢
  clear hbS ck HPL
  clear RS
  go_upto_region 12 with (first
        | (refine wpList_plain rfl (fun _ hK => wp_ixO tL3 tLp rfl q 3 k 1 0 k rfl rfl HK3.out und_L3 info_Lp (by omega) (hK _ _ ?_)); simp only [Act.put, List.setIfInBounds_toArray, List.set_cons_zero, List.set_cons_succ])
        | (refine wpList_plain rfl (fun _ hK => wp_ld1 q k (.pointer (some ⟨p, 0, none⟩)) rfl rfl (ld_Lp _ q k _ (HCP0.out _ HP1.out)) (hK _ _ ?_)); simp only [Act.put, List.setIfInBounds_toArray, List.set_cons_zero, List.set_cons_succ])
        | (go_at_call 22; refine Calls.mono (HPN.out _ HP1.out) ?_; rintro r X2 ⟨Ax, cx, rfl, q1, q2, q3⟩; have HP2 : Hid (Pl w0 X2 q B Ls Es T ts) := HP1.out.below q3; have Lx2 : Hid (Lo X2 tP 90 (.slice Ax m cx) m (pcs st.pend)) := Lo.of q1; have Fx2 : Hid (Fresh X1.heap.size (.slice Ax m cx)) := q2; have HPN2 : Hid True := trivial; have HX12 : Hid (X1.heap.size ≤ X2.heap.size) := q3.size; clear q1 q2 q3))
  clear HPN2
  go_upto_region 13 with (first
        | (refine wpList_plain rfl (fun _ hK => wp_ixO tL3 tLp rfl q 3 k 1 0 k rfl rfl HK3.out und_L3 info_Lp (by omega) (hK _ _ ?_)); simp only [Act.put, List.setIfInBounds_toArray, List.set_cons_zero, List.set_cons_succ])
        | (refine wpList_plain rfl (fun _ hK => wp_ld1 q k (.pointer (some ⟨p, 0, none⟩)) rfl rfl (ld_Lp _ q k _ (HCP0.out _ HP2.out)) (hK _ _ ?_)); simp only [Act.put, List.setIfInBounds_toArray, List.set_cons_zero, List.set_cons_succ])
        | (go_at_call 22; refine Calls.mono (HPN.out _ HP2.out) ?_; rintro r X3 ⟨Ay, cy, rfl, q1, q2, q3⟩; have HP3 : Hid (Pl w0 X3 q B Ls Es T ts) := HP2.out.below q3; have Ly3 : Hid (Lo X3 tP 90 (.slice Ay m cy) m (pcs st.pend)) := Lo.of q1; have Fy3 : Hid (Fresh X2.heap.size (.slice Ay m cy)) := q2; have Lx3 : Hid (Lo X3 tP 90 (.slice Ax m cx) m (pcs st.pend)) := Lx2.out.be q3; clear q1 q2 q3))
  clear HCP0 HPN
  go_upto_region 14 with (first
        | (refine wpList_plain rfl (fun _ hK => wp_ixO tR3 tRL rfl q 3 k 70 3 (3 + k * 70) rfl rfl HK3.out und_R3 info_RL rfl (hK _ _ ?_)); simp only [Act.put, List.setIfInBounds_toArray, List.set_cons_zero, List.set_cons_succ])
        | (refine wpList_plain rfl (fun _ hK => wp_fRL1 rfl q (3 + k * 70) rfl (hK _ _ ?_)); simp only [Act.put, List.setIfInBounds_toArray, List.set_cons_zero, List.set_cons_succ])
        | (refine wpList_plain rfl (fun _ hK => wp_ld1 q (3 + k * 70 + 66) (.slice Ae m ce) rfl rfl (ld_Ps _ q (3 + k * 70 + 66) _ (HCE.out _ HP3.out)) (hK _ _ ?_)); simp only [Act.put, List.setIfInBounds_toArray, List.set_cons_zero, List.set_cons_succ])
        | (go_at_call 26; refine Calls.mono (same_any X3 Ax Ae m m cx ce st.pend st.pend (Pr.ofLo Lx3.out HM.out.1 HGW.out) (HPE.out _ HP3.out) (by have := HM.out.2; omega) true (decide_eq_true rfl).symm) ?_; rintro r X4 ⟨rfl, q2⟩; have HP4 : Hid (Pl w0 X4 q B Ls Es T ts) := HP3.out.below q2; have Lx4 : Hid (Lo X4 tP 90 (.slice Ax m cx) m (pcs st.pend)) := Lx3.out.be q2; have Ly4 : Hid (Lo X4 tP 90 (.slice Ay m cy) m (pcs st.pend)) := Ly3.out.be q2; clear q2))
  go_upto_region 15 with (first
        | (refine wpList_plain rfl (fun _ hK => wp_ixO tR3 tRL rfl q 3 k 70 3 (3 + k * 70) rfl rfl HK3.out und_R3 info_RL rfl (hK _ _ ?_)); simp only [Act.put, List.setIfInBounds_toArray, List.set_cons_zero, List.set_cons_succ])
        | (refine wpList_plain rfl (fun _ hK => wp_fRL1 rfl q (3 + k * 70) rfl (hK _ _ ?_)); simp only [Act.put, List.setIfInBounds_toArray, List.set_cons_zero, List.set_cons_succ])
        | (refine wpList_plain rfl (fun _ hK => wp_ld1 q (3 + k * 70 + 66) (.slice Ae m ce) rfl rfl (ld_Ps _ q (3 + k * 70 + 66) _ (HCE.out _ HP4.out)) (hK _ _ ?_)); simp only [Act.put, List.setIfInBounds_toArray, List.set_cons_zero, List.set_cons_succ])
        | (go_at_call 26; refine Calls.mono (same_any X4 Ay Ae m m cy ce st.pend st.pend (Pr.ofLo Ly4.out HM.out.1 HGW.out) (HPE.out _ HP4.out) (by have := HM.out.2; omega) true (decide_eq_true rfl).symm) ?_; rintro r X5 ⟨rfl, q2⟩; have HP5 : Hid (Pl w0 X5 q B Ls Es T ts) := HP4.out.below q2; have Lx5 : Hid (Lo X5 tP 90 (.slice Ax m cx) m (pcs st.pend)) := Lx4.out.be q2; have Ly5 : Hid (Lo X5 tP 90 (.slice Ay m cy) m (pcs st.pend)) := Ly4.out.be q2; clear q2))
  have NX : Hid (∀ g, (Value.slice Ax m cx).ownBlock = some g → (X1.heap.size ≤ g ∧ g < X2.heap.size)) := fun g z => ⟨Fx2.out g z, Lx2.out.lt g z⟩
  have NY : Hid (∀ g, (Value.slice Ay m cy).ownBlock = some g → X2.heap.size ≤ g) := fun g z => Fy3.out g z
  have hx12 : X1.heap.size ≤ X2.heap.size := HX12.out
  have HNA : Hid (∀ g, X1.heap.size ≤ g → w0.heap.size ≤ g ∧ q ≠ g ∧ (∀ l ∈ Ls, ¬ Tb l.1 l.2.1 g) ∧ (∀ e ∈ Es, e.1.ownBlock ≠ some g) ∧ (∀ y ∈ ts, y.1.ownBlock ≠ some g) ∧ T.ownBlock ≠ some g) := fun g z => by
    have h1 := HP1.out
    refine ⟨Nat.le_trans h1.be.size z, fun e => ?_, fun l hl e => ?_, fun x hx e => ?_, fun y hy e => ?_, fun e => ?_⟩
    · have := h1.row.lt; omega
    · have := (h1.ladm hl).lt g e; omega
    · have := (h1.rf x hx).own.lt g e; omega
    · obtain ⟨j, hj, rfl⟩ := List.getElem_of_mem hy
      have := (h1.ti j _ (List.getElem?_eq_getElem hj)).1.lt g e
      omega
    · have := Lw.lt h1.tl g e; omega
  clear HP1 HP2 HP3 HP4 Lx2 Lx3 Lx4 Ly3 Ly4 Fx2 Fy3 HX12 HCE HPE
  have HOW : Hid (Calls Try.prog 59 #[.slice Ax m cx, .slice Ay m cy] X5 fun r w' => r = .returned (.bool true) ∧ Gro (fun g => (Value.slice Ax m cx).ownBlock = some g ∨ (Value.slice Ay m cy).ownBlock = some g) X5 w' ∧ Kl tP X5 w') := owned_any m m (by have := HM.out.2; omega) (by have := HM.out.2; omega) Ax Ay cx cy st.pend st.pend HM.out.1 HM.out.1 X5 (fun g => (Value.slice Ax m cx).ownBlock = some g ∨ (Value.slice Ay m cy).ownBlock = some g) ⟨by rw [HM.out.1]; exact Lx5.out, by rw [HM.out.1]; exact Ly5.out, HGW.out, HGW.out, (fun g z z2 => by have := (NX.out g z).2; have := NY.out g z2; omega), Gro.refl _ _, (fun g z => .inl (.inl z)), (fun g z => .inl (.inr z)), Kl.refl _ _⟩
  go_upto_region 16 with (go_at_call 59; refine Calls.mono HOW.out ?_; rintro r X6 ⟨rfl, q2, q3⟩; have NXY : Hid (∀ g, ((Value.slice Ax m cx).ownBlock = some g ∨ (Value.slice Ay m cy).ownBlock = some g) → X1.heap.size ≤ g) := (fun g z => by { rcases z with z | z; exact (NX.out g z).1; have := NY.out g z; omega }); have HP6 : Hid (Pl w0 X6 q B Ls Es T ts) := HP5.out.gro q2 (fun z => (HNA.out q (NXY.out q z)).2.1 rfl) (fun g e1 z => (HNA.out g (NXY.out g z)).2.2.2.2.2 e1) (fun x hx g e1 z => (HNA.out g (NXY.out g z)).2.2.2.1 x hx e1) (fun y hy g e1 z => (HNA.out g (NXY.out g z)).2.2.2.2.1 y hy e1) (fun l hl g e1 z => (HNA.out g (NXY.out g z)).2.2.1 l hl e1) (fun g z => (HNA.out g (NXY.out g z)).1); have Lx6 : Hid (∃ xs, Lo X6 tP 90 (.slice Ax m cx) m xs) := Lx5.out.kl q3; have Ly6 : Hid (∃ xs, Lo X6 tP 90 (.slice Ay m cy) m xs) := Ly5.out.kl q3; clear q2 q3)
  obtain ⟨xs, hxs⟩ := Lx6.out
  have HKP : Hid (Calls Try.prog 60 #[.pointer (some ⟨q, 0, none⟩), .slice Ax m cx] X6 _) := keep_any HP6.out.row (prc_T (by rw [List.length_map]; exact HP6.out.l3) (by rw [List.length_map]; exact HP6.out.e3) HP6.out.d70) HP6.out.tl hxs (by have := HM.out.2; omega) (by have := HTS.out; omega)
  clear hxs HP5 Lx5 Ly5 HOW
  go_upto_region 17 with (go_at_call 60; refine Calls.mono HKP.out ?_; rintro r X7 ⟨T2, rfl, q1, q2, q3, q4, q5⟩; have HP7 : Hid (Pl w0 X7 q B Ls Es T2 (ts ++ [(.slice Ax m cx, m)])) := HP6.out.keep (by have := HM.out.2; omega) q1 q2 q3 q4 q5 (fun g z => (HNA.out g (NX.out g z).1).1) (fun g z => (HNA.out g (NX.out g z).1).2.2.1) (fun g z => (HNA.out g (NX.out g z).1).2.2.2.1) (fun g z => (HNA.out g (NX.out g z).1).2.2.2.2.1); have Ly7 : Hid (∃ ys, Lo X7 tP 90 (.slice Ay m cy) m ys) := (by { obtain ⟨ys, hys⟩ := Ly6.out; exact ⟨ys, hys.gro q4 (fun g e1 z => by { rcases z with z | z | z; exact (HNA.out g (NXY.out g (.inr e1))).2.1 z.symm; exact (HNA.out g (NXY.out g (.inr e1))).2.2.2.2.2 z; have := (NX.out g z).2; have := NY.out g e1; omega })⟩ }); clear q1 q2 q3 q4 q5)
  obtain ⟨ys, hys⟩ := Ly7.out
  have HKQ : Hid (Calls Try.prog 60 #[.pointer (some ⟨q, 0, none⟩), .slice Ay m cy] X7 _) := keep_any HP7.out.row (prc_T (by rw [List.length_map]; exact HP7.out.l3) (by rw [List.length_map]; exact HP7.out.e3) HP7.out.d70) HP7.out.tl hys (by have := HM.out.2; omega) (by rw [List.length_append]; exact HTS.out)
  clear hys HKP HP6 Lx6 Ly6
  go_upto_region 18 with (go_at_call 60; refine Calls.mono HKQ.out ?_; rintro r X8 ⟨T3, rfl, q1, q2, q3, q4, q5⟩; have HP8 : Hid (Pl w0 X8 q B Ls Es T3 (ts ++ [(.slice Ax m cx, m)] ++ [(.slice Ay m cy, m)])) := HP7.out.keep (by have := HM.out.2; omega) q1 q2 q3 q4 q5 (fun g z => (HNA.out g (NXY.out g (.inr z))).1) (fun g z => (HNA.out g (NXY.out g (.inr z))).2.2.1) (fun g z => (HNA.out g (NXY.out g (.inr z))).2.2.2.1) (fun g z y hy => by { rcases List.mem_append.1 hy with hy | hy; exact (HNA.out g (NXY.out g (.inr z))).2.2.2.2.1 y hy; rw [List.mem_singleton.1 hy]; intro z2; have := (NX.out g z2).2; have := NY.out g z; omega }); clear q1 q2 q3 q4 q5)
  clear HKQ Ly7 HP7
  go_wp2_with fail
  go_ret
  exact ⟨by simp, T3, (.slice Ax m cx, m), (.slice Ay m cy, m), HP8.out⟩

end Go.Proofs.Ytfdbjcdcfmnicaa
