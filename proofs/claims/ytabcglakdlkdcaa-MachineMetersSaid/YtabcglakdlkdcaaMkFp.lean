import Derived.Test.YtabcglakdlkdcaaMkFt
/-
  the law MachineMeters.
-/
namespace Go.Proofs.Ytabcglakdlkdcaa
open Go Go.RowKit
open Sha
open Wd

set_option maxRecDepth 100000 in
set_option maxHeartbeats 16000000 in
theorem meters_walk (pd : List (BitVec 8)) (m : Nat) (hpd : pd.length = m) (c : Ca) (hc : c.Wf) (ags : List Nat) (rs : List (Nat × Int)) (hag : ∀ a ∈ ags, a < 2 ^ 256) (hrs : ∀ p ∈ rs, p.1 < 2 ^ 256) (Ak Aa Ar : Option Addr) (ck ca cr0 : Nat) (PL : List Value) (hPL : PL = .slice Ak m ck :: (c.cs (.slice Aa ags.length ca) ++ [.slice Ar rs.length cr0])) (more : Int) (w : World)
    (hk : Sin w 1 Ak m ck (vB pd)) (hkm : m ≤ maxLen ∧ m * 1 ≤ 140737488355328) (ha : Sin w 4 Aa ags.length ca (fw ags)) (ham : ags.length ≤ maxLen ∧ ags.length * 32 ≤ 140737488355328) (hr : Sin w 5 Ar rs.length cr0 (frs rs)) (hrm : rs.length ≤ maxLen ∧ rs.length * 40 ≤ 140737488355328) :
    Calls Try.prog 3 #[.agg PL.toArray, .int .i64 more] w fun e w' => e = .returned (.bool true) ∧ Below w.heap.size w w' := by
  obtain ⟨RV, RE, Q, hmr⟩ : ∃ RV RE Q, mrun pd c ags rs = ((RV, RE), Q) := ⟨_, _, _, rfl⟩
  have hQl := mrun_len pd c ags rs
  have hQa := mrun_ask1 pd c ags rs
  rw [hmr] at hQl hQa
  have HQA : Hid (∀ q ∈ Q, Ask1 q) := hQa.1
  obtain ⟨m0, g0, h0⟩ := hQa.2
  have HRF : Hid (RV = wq m0 ++ [.int .i64 g0]) := h0
  have HRV : Hid (RV.length = 5 ∧ RV.toArray.all (·.oneCell') = true) := by
    rw [HRF.out]
    exact ⟨by rw [List.length_append, wq_len]; rfl, by
      rw [← Array.all_toList, List.all_append]
      have := wq_one m0
      rw [← Array.all_toList] at this
      rw [this]
      rfl⟩
  have HRVI : Hid ((Try.prog.info? 35).map (·.size) = some RV.length) := by show _ = _; rw [HRV.out.1]; exact info_Ran
  obtain ⟨n7, hn7⟩ : ∃ n, n = Q.length := ⟨_, rfl⟩
  obtain ⟨G, hG⟩ : ∃ G, G = c.gas := ⟨_, rfl⟩
  obtain ⟨P, hP⟩ : ∃ P : Int → List Value, ∀ g, P g = plc (.slice Ak m ck) (.slice Aa ags.length ca) (.slice Ar rs.length cr0) (c.gs g) := ⟨_, fun _ => rfl⟩
  have HPL : Hid (∀ g, (P g).length = 50) := fun g => by rw [hP]; exact plc_len (Ca.gs_wf hc g) _ _ _
  have HPI : Hid (∀ g, (Try.prog.info? 33).map (·.size) = some (P g).length) := fun g => by rw [HPL.out]; kernel_rfl
  have HPS : Hid (∀ g g', (P g).set 48 (.int .i64 g') = P g') := fun g g' => by rw [hP, hP, plc_set (Ca.gs_wf hc g)]; rfl
  have HP1 : Hid (∀ g, (P g).toArray.all (·.oneCell') = true) := fun g => by rw [hP]; exact plc_one _ _ _ rfl rfl rfl
  have HPG : Hid (∀ g, (P g)[48]? = some (.int .i64 g)) := fun g => by rw [hP, plc_gas (Ca.gs_wf hc g)]; rfl
  have HP0 : Hid (∀ g, (P g)[0]? = some (.slice Ak m ck)) := fun g => by rw [hP]; rfl
  obtain rfl : PL = P G := by rw [hPL, hP, hG]; rfl
  have HCA : Hid (∀ (g : Int) (R1 : List Value) (R2 : Int) (Q1 : List (List Value)), mrun pd (c.gs g) ags rs = ((R1, R2), Q1) → ∀ W, Below w.heap.size w W → Calls Try.prog 6 #[.agg (P g).toArray, .slice none 0 0] W fun e w' => ∃ A7 c7, e = .returned (.tuple #[.agg R1.toArray, .int .i64 R2, .slice A7 Q1.length c7]) ∧ Lw w' tAk 30 (.slice A7 Q1.length c7) Q1.length Q1.flatten ∧ Below W.heap.size W w') := fun g R1 R2 Q1 hm W kk =>
    lrun_all nextOK_nil pd m hpd (c.gs g) (Ca.gs_wf hc g) ags rs hag hrs Ak Aa Ar none ck ca cr0 0 0 (P g) (hP g) R1 R2 Q1 hm W (hk.be kk) hkm (ha.be kk) ham (hr.be kk) hrm (.inl ⟨rfl, none, 0, rfl⟩)
  have HC0 : Hid (∀ W, Below w.heap.size w W → Calls Try.prog 6 #[.agg (P G).toArray, .slice none 0 0] W fun e w' => ∃ A7 c7, e = .returned (.tuple #[.agg RV.toArray, .int .i64 RE, .slice A7 n7 c7]) ∧ Lw w' tAk 30 (.slice A7 n7 c7) n7 Q.flatten ∧ Below W.heap.size W w') := by
    rw [hn7]
    exact HCA.out G RV RE Q (by rw [hG]; exact hmr)
  have HMR : Hid (mrun pd c ags rs = ((RV, RE), Q) ∧ c.Wf ∧ (∀ a ∈ ags, a < 2 ^ 256) ∧ (∀ p ∈ rs, p.1 < 2 ^ 256) ∧ G = c.gas ∧ pd.length = m ∧ Sin w 1 Ak m ck (vB pd)) := ⟨hmr, hc, hag, hrs, hG, hpd, hk⟩
  have HN7 : Hid (n7 = Q.length) := hn7
  rw [← hn7] at hQl
  clear hk hkm ha ham hr hrm hag hrs hpd hPL hQa hmr hc h0 hn7 hP hG
  go_enter Try.func3, Try.ntmps3
  go_upto_region 1 with (refine wpList_boxG 33 rfl (.tmp 0) rfl (P G) rfl ?_; intro X1 q1 q2 q3; have R1 : Hid (Row X1 w.heap.size (P G) 33) := q1; have B1 : Hid (Below w.heap.size w X1) := q2; clear q1 q2 q3; simp only [Act.put, List.setIfInBounds_toArray, List.set_cons_zero, List.set_cons_succ])
  obtain ⟨b2, hb2⟩ : ∃ b, b = w.heap.size := ⟨_, rfl⟩
  rw [← hb2] at R1
  rw [← hb2]
  clear hb2
  go_upto_region 2 with (first
    | (refine wpList_load_w rfl 33 (.tmp 2) rfl b2 0 rfl (P G) _ R1.out.all Try.underlying33 rfl (HPI.out _) ?_; simp only [Act.put, List.setIfInBounds_toArray, List.set_cons_zero, List.set_cons_succ])
    | (go_at_call 6; refine Calls.mono (HC0.out X1 B1.out) ?_; rintro e X2 ⟨A7, c7, rfl, q1, q2⟩; have LA2 : Hid (Lw X2 tAk 30 (.slice A7 n7 c7) n7 Q.flatten) := q1; have B2 : Hid (Below w.heap.size w X2) := B1.out.trans (q2.mono B1.out.size); have RP2 : Hid (Row X2 b2 (P G) 33) := Row.below R1.out q2 R1.out.lt; clear q1 q2)
    | (refine wpList_allocR rfl rfl ?_; intro X3 q1 q2 q3; have R1a : Hid (Row X3 X2.heap.size zR 35) := q1; have K1 : Hid (Below X2.heap.size X2 X3) := q2; clear q1 q2 q3; simp only [Act.put, List.setIfInBounds_toArray, List.set_cons_zero, List.set_cons_succ])
    | (refine wpList_storeL rfl 35 (.tmp 5) (.tmp 15) rfl X2.heap.size RV zR 35 rfl rfl R1a.out HRV.out.1 HRVI.out HRV.out.2 ?_; intro X4 q1 q2; have E1 : Hid (X4 = _) := q1; have R5 : Hid (Row X4 X2.heap.size RV 35) := q2; clear q1 q2; simp only [Act.put]))
  have k4 : Below X2.heap.size X2 X4 := by rw [E1.out]; exact below_setCells K1.out (Nat.le_refl _) _
  have LA4 : Hid (Lw X4 tAk 30 (.slice A7 n7 c7) n7 Q.flatten) := Lw.be LA2.out k4
  have B4 : Hid (Below w.heap.size w X4) := B2.out.trans (k4.mono B2.out.size)
  have RP4 : Hid (Row X4 b2 (P G) 33) := Row.below RP2.out k4 RP2.out.lt
  obtain ⟨b5, hb5⟩ : ∃ b, b = X2.heap.size := ⟨_, rfl⟩
  rw [← hb5] at R5
  rw [← hb5]
  clear hb5 k4 E1 R1a K1 LA2 B2 RP2 R1 B1 HC0
  by_cases hRE : RE = 0
  case neg =>
    have ne0 : (RE == 0) = false := by simp [hRE]
    go_wp2_with (go_at_call 7; refine Calls.mono (alive_any X4) ?_; rintro e V3 ⟨rfl, q⟩; have BV3 : Hid (Below w.heap.size w V3) := (B4.out).trans (q.mono (B4.out).size); clear q)
    go_ret
    exact ⟨rfl, BV3.out⟩
  subst hRE
  obtain ⟨v0, u, ls, hRV, hu1, huG, hG4, hck, hgas⟩ := mrun_gas pd c HMR.out.2.1 ags rs HMR.out.2.2.1 HMR.out.2.2.2.1 RV Q HMR.out.1
  rw [← HMR.out.2.2.2.2.1] at huG hG4
  have HRV4 : Hid (RV[4]? = some (.int .i64 (u : Int))) := by show _ = _; rw [hRV, List.getElem?_append_right (by rw [wq_len]; exact Nat.le_refl _), wq_len]; rfl
  have hpo := chk_ok hck
  have hpg := chk_pg hck
  have hl := HMR.out.2.2.2.2.2.1
  rw [hl] at hpo hpg
  obtain ⟨gk, ok, hAk, hrk⟩ := HMR.out.2.2.2.2.2.2.some_of hpo.2.2.2.2.2.1
  subst hAk
  have HLK : Hid (∀ W, Below w.heap.size w W → Calls Try.prog 8 #[.slice (some ⟨gk, ok, none⟩) m ck] W fun e w' => e = .returned (.bool (ls.any (·.c == 23))) ∧ w' = W) := fun W k => looks_any gk ok m ck pd hl hpo.2.2.2.2.2.2 ls hpg W (range_be hrk k)
  have HGAS : Hid ((∀ y ∈ ls, y.c ≠ 23) → (∀ t : Nat, u + t ≤ 10000 → mrun pd (c.gs ((u + t : Nat) : Int)) ags rs = ((RV, 0), Q)) ∧ ∃ Q', mrun pd (c.gs ((u : Int) - 1)) ags rs = ((zR, if u = 1 then 101 else 102), Q')) := hgas
  have c5 : X4.cell? ⟨b5, 4, none⟩ = some (.int .i64 (u : Int)) := R5.out.cell 4 _ HRV4.out
  have c48 : X4.cell? ⟨b2, 48, none⟩ = some (.int .i64 G) := RP4.out.cell 48 _ (HPG.out G)
  have c20 : X4.cell? ⟨b2, 0, none⟩ = some (.slice (some ⟨gk, ok, none⟩) m ck) := RP4.out.cell 0 _ (HP0.out G)
  have i1 : ¬ ((u : Int) < 1) := by omega
  have i2 : ¬ (G < (u : Int)) := by omega
  clear hRV hpo hpg hl hrk hck hgas
  obtain ⟨B, hB⟩ : ∃ B, B = ls.any (·.c == 23) := ⟨_, rfl⟩
  have HB : Hid (B = ls.any (·.c == 23)) := hB
  rw [← hB] at HLK
  clear hB
  cases B with
  | true =>
    go_wp2_with (first
      | (go_at_call 8; refine Calls.mono (HLK.out X4 B4.out) ?_; rintro e X5 ⟨rfl, rfl⟩)
      | (go_at_call 7; refine Calls.mono (alive_any X5) ?_; rintro e V3 ⟨rfl, q⟩; have BV3 : Hid (Below w.heap.size w V3) := (B4.out).trans (q.mono (B4.out).size); clear q))
    go_ret
    exact ⟨rfl, BV3.out⟩
  | false =>
    have hN : ∀ y ∈ ls, y.c ≠ 23 := fun y hy => by
      have := HB.out.symm
      rw [List.any_eq_false] at this
      simpa using this y hy
    have HG1 : Hid (∀ t : Nat, u + t ≤ 10000 → mrun pd (c.gs ((u + t : Nat) : Int)) ags rs = ((RV, 0), Q)) := (HGAS.out hN).1
    obtain ⟨QZ, hQZ⟩ := (HGAS.out hN).2
    have HCZ : Hid (∀ W, Below w.heap.size w W → Calls Try.prog 6 #[.agg (P ((u : Int) - 1)).toArray, .slice none 0 0] W fun e w' => ∃ A6 n6 c6, e = .returned (.tuple #[.agg zR.toArray, .int .i64 (if u = 1 then 101 else 102), .slice A6 n6 c6]) ∧ Below W.heap.size W w') := fun W k => by
      refine Calls.mono (HCA.out _ _ _ _ hQZ W k) ?_
      rintro e w' ⟨A6, c6, rfl, _, q⟩
      exact ⟨A6, _, c6, rfl, q⟩
    have HCT : Hid (∀ (t : Nat), u + t ≤ 10000 → ∀ g : Int, g = (u : Int) + (t : Int) → ∀ W, Below w.heap.size w W → Calls Try.prog 6 #[.agg (P g).toArray, .slice none 0 0] W fun e w' => ∃ A7 c7, e = .returned (.tuple #[.agg RV.toArray, .int .i64 0, .slice A7 n7 c7]) ∧ Lw w' tAk 30 (.slice A7 n7 c7) n7 Q.flatten ∧ Below W.heap.size W w') := fun t ht g hg W k => by
      rw [HN7.out, show g = ((u + t : Nat) : Int) by omega]
      exact HCA.out _ RV 0 Q (HG1.out t ht) W k
    clear hN hQZ HG1 HGAS HB HMR HCA
    go_upto_region 9 with (first
      | (go_at_call 8; refine Calls.mono (HLK.out X4 B4.out) ?_; rintro e X4 ⟨rfl, rfl⟩)
      | (refine wpList_load_w rfl 33 (.tmp 2) rfl b2 0 rfl (P G) _ RP4.out.all Try.underlying33 rfl (HPI.out _) ?_; simp only [Act.put, List.setIfInBounds_toArray, List.set_cons_zero, List.set_cons_succ])
      | (refine wpList_allocPl rfl rfl ?_; intro X5 q1 q2; have R8a : Hid (Row X5 X4.heap.size zPl 33) := q1; have K5 : Hid (Below X4.heap.size X4 X5) := q2; clear q1 q2; simp only [Act.put, List.setIfInBounds_toArray, List.set_cons_zero, List.set_cons_succ])
      | (refine wpList_storeL rfl 33 (.tmp 8) (.tmp 36) rfl X4.heap.size (P G) zPl 33 rfl rfl R8a.out (by rw [HPL.out]; rfl) (HPI.out _) (HP1.out _) ?_; intro X6 q1 q2; have E6 : Hid (X6 = _) := q1; have R8 : Hid (Row X6 X4.heap.size (P G) 33) := q2; clear q1 q2; simp only [Act.put]))
    have k6 : Below X4.heap.size X4 X6 := by rw [E6.out]; exact below_setCells K5.out (Nat.le_refl _) _
    have LA6 : Hid (Lw X6 tAk 30 (.slice A7 n7 c7) n7 Q.flatten) := Lw.be LA4.out k6
    have B6 : Hid (Below w.heap.size w X6) := B4.out.trans (k6.mono B4.out.size)
    have R56 : Hid (Row X6 b5 RV 35) := Row.below R5.out k6 R5.out.lt
    obtain ⟨b8, hb8⟩ : ∃ b, b = X4.heap.size := ⟨_, rfl⟩
    rw [← hb8] at R8
    rw [← hb8]
    have i8 : Hid (w.heap.size ≤ b8) := by rw [hb8]; exact B4.out.size
    clear hb8 k6 E6 K5 R8a LA4 B4 R5 RP4 c5 c48 c20 HLK
    have c5 : X6.cell? ⟨b5, 4, none⟩ = some (.int .i64 (u : Int)) := R56.out.cell 4 _ HRV4.out
    go_upto_region 10 with (refine wpList_set1 rfl 3 (.tmp 40) (.tmp 38) rfl b8 48 (.int .i64 (u : Int)) (P G) 33 rfl rfl rfl R8.out (by rw [HPL.out]; decide) info_int1 rfl ?_; intro X7 q1 q2 q3; have R87 : Hid (Row X7 b8 (P (u : Int)) 33) := (by rw [← HPS.out G]; exact q1); have G7 : Hid (Gro (· = b8) X6 X7) := q2; clear q1 q2 q3; simp only [Act.put])
    have B7 : Hid (Below w.heap.size w X7) := ((Gro.of_below B6.out : Gro (fun g => w.heap.size ≤ g) w X6).trans (G7.out.mono fun g e => by subst e; exact i8.out)).to_below (Nat.le_refl _) (fun _ h => h)
    have R57 : Hid (Row X7 b5 RV 35) := G7.out.row R56.out (fun e => row_ne2 R56.out R8.out (by decide) e)
    have LA7 : Hid (Lw X7 tAk 30 (.slice A7 n7 c7) n7 Q.flatten) := Lw.gro LA6.out G7.out (Lw.ne LA6.out R8.out (by decide))
    clear c5 R56 R8 G7 LA6 B6
    go_upto_region 11 with (first
      | (refine wpList_load_w rfl 33 (.tmp 8) rfl b8 0 rfl (P (u : Int)) _ R87.out.all Try.underlying33 rfl (HPI.out _) ?_; simp only [Act.put, List.setIfInBounds_toArray, List.set_cons_zero, List.set_cons_succ])
      | (go_at_call 6; refine Calls.mono (HCT.out 0 (by omega) (u : Int) (by simp) X7 B7.out) ?_; rintro e X8 ⟨A8, c8, rfl, q1, q2⟩; have LB8 : Hid (Lw X8 tAk 30 (.slice A8 n7 c8) n7 Q.flatten) := q1; have B8 : Hid (Below w.heap.size w X8) := B7.out.trans (q2.mono B7.out.size); have R88 : Hid (Row X8 b8 (P (u : Int)) 33) := Row.below R87.out q2 R87.out.lt; have R58 : Hid (Row X8 b5 RV 35) := Row.below R57.out q2 R57.out.lt; have LA8 : Hid (Lw X8 tAk 30 (.slice A7 n7 c7) n7 Q.flatten) := Lw.be LA7.out q2; clear q1 q2)
      | (refine wpList_allocR rfl rfl ?_; intro X9 q1 q2 q3; have R9a : Hid (Row X9 X8.heap.size zR 35) := q1; have K9 : Hid (Below X8.heap.size X8 X9) := q2; clear q1 q2 q3; simp only [Act.put, List.setIfInBounds_toArray, List.set_cons_zero, List.set_cons_succ])
      | (refine wpList_storeL rfl 35 (.tmp 9) (.tmp 44) rfl X8.heap.size RV zR 35 rfl rfl R9a.out HRV.out.1 HRVI.out HRV.out.2 ?_; intro Z q1 q2; have E9 : Hid (Z = _) := q1; have R9 : Hid (Row Z X8.heap.size RV 35) := q2; clear q1 q2; simp only [Act.put]))
    have kZ : Below X8.heap.size X8 Z := by rw [E9.out]; exact below_setCells K9.out (Nat.le_refl _) _
    obtain ⟨b9, hb9⟩ : ∃ b, b = X8.heap.size := ⟨_, rfl⟩
    rw [← hb9] at R9
    rw [← hb9]
    have HM0 : Hid (Mt w b5 b8 b9 RV (P (u : Int)) (RV) (.slice A7 n7 c7) n7 Q.flatten Z) := ⟨B8.out.trans (kZ.mono B8.out.size), Row.below R58.out kZ R58.out.lt, Row.below R88.out kZ R88.out.lt, R9.out, Lw.be LA8.out kZ, i8.out, by rw [hb9]; exact B8.out.size, by rw [hb9]; exact Nat.ne_of_lt R58.out.lt⟩
    have HS1 : Hid (Calls Try.prog 9 #[.slice A8 n7 c8, .slice A7 n7 c7] Z fun e w' => e = .returned (.bool true) ∧ Below Z.heap.size Z w') := same_asks Q HQA.out n7 HN7.out (by omega) A8 A7 c8 c7 Z (lw_qinN HN7.out (Lw.be LB8.out kZ)) (lw_qinN HN7.out HM0.out.l7)
    clear hb9 kZ E9 R9a K9 R9 B7 B8 R87 R88 R57 R58 LA7 LA8 LB8 i8
    go_upto_region 13 with (first
      | (refine wpList_ldRV rfl (.tmp 9) rfl b9 rfl RV HRV.out.1 HM0.out.r9 ?_; simp only [Act.put, List.setIfInBounds_toArray, List.set_cons_zero, List.set_cons_succ])
      | (refine wpList_ldRV rfl (.tmp 5) rfl b5 rfl RV HRV.out.1 HM0.out.r5 ?_; simp only [Act.put, List.setIfInBounds_toArray, List.set_cons_zero, List.set_cons_succ])
      | (refine wpList_neRnV rfl (.tmp 50) (.tmp 51) _ rfl RV m0 g0 HRF.out rfl rfl ?_; simp only [Act.put, List.setIfInBounds_toArray, List.set_cons_zero, List.set_cons_succ])
      | (go_at_call 9; refine Calls.mono HS1.out ?_; rintro e V ⟨rfl, q⟩; have HM1 : Hid (Mt w b5 b8 b9 RV (P (u : Int)) (RV) (.slice A7 n7 c7) n7 Q.flatten V) := HM0.out.below q; clear q HS1))
    clear HM0
    obtain ⟨g8, hg8⟩ : ∃ g, g = (u : Int) := ⟨_, rfl⟩
    obtain ⟨L9, hL9⟩ : ∃ L, L = RV := ⟨_, rfl⟩
    have c5 : V.cell? ⟨b5, 4, none⟩ = some (.int .i64 (u : Int)) := HM1.out.r5.cell 4 _ HRV4.out
    have HL9 : Hid (L9.length = 5) := by rw [hL9]; exact HRV.out.1
    by_cases h1 : 0 < more
    case neg =>
      have HM : Hid (Mt w b5 b8 b9 RV (P g8) (L9) (.slice A7 n7 c7) n7 Q.flatten V) := by rw [hg8, hL9]; exact HM1.out
      clear HM1 hg8 hL9
      go_upto_region 18 with fail
      clear c5
      have c5 : V.cell? ⟨b5, 4, none⟩ = some (.int .i64 (u : Int)) := HM.out.r5.cell 4 _ HRV4.out
      go_upto_region 19 with (refine wpList_set1 rfl 3 (.tmp 102) (.tmp 100) rfl b8 48 (.int .i64 ((u : Int) - 1)) (P g8) 33 rfl rfl rfl HM.out.r8 (by rw [HPL.out]; decide) info_int1 rfl ?_; intro Y1 q1 q2 q3; have HM1 : Hid (Mt w b5 b8 b9 RV (P ((u : Int) - 1)) (L9) (.slice A7 n7 c7) n7 Q.flatten Y1) := HM.out.put8 (by rw [← HPS.out g8]; exact q1) q2; clear q1 q2 q3; simp only [Act.put])
      clear c5 HM
      go_upto_region 20 with (first
        | (refine wpList_load_w rfl 33 (.tmp 8) rfl b8 0 rfl (P ((u : Int) - 1)) _ HM1.out.r8.all Try.underlying33 rfl (HPI.out _) ?_; simp only [Act.put, List.setIfInBounds_toArray, List.set_cons_zero, List.set_cons_succ])
        | (go_at_call 6; refine Calls.mono (HCZ.out Y1 HM1.out.be) ?_; rintro e Y2 ⟨A6, n6, c6, rfl, q2⟩; have HM2 : Hid (Mt w b5 b8 b9 RV (P ((u : Int) - 1)) (L9) (.slice A7 n7 c7) n7 Q.flatten Y2) := HM1.out.below q2; clear q2)
        | (refine wpList_storeL rfl 35 (.tmp 9) (.tmp 106) rfl b9 zR L9 35 rfl rfl HM2.out.r9 HL9.out.symm info_Ran (by rw [← Array.all_toList]; rfl) ?_; intro Y3 q1 q2; have HM3 : Hid (Mt w b5 b8 b9 RV (P ((u : Int) - 1)) (zR) (.slice A7 n7 c7) n7 Q.flatten Y3) := HM2.out.put9 q2 (by rw [q1]; exact gro_setCells b9 _ 0 Y2 Y2 (Gro.refl _ Y2)); clear q1 q2; simp only [Act.put]))
      clear HM1 HM2
      have c5 : Y3.cell? ⟨b5, 4, none⟩ = some (.int .i64 (u : Int)) := HM3.out.r5.cell 4 _ HRV4.out
      by_cases hu : u = 1
      · have eu : ((u : Int) == 1) = true := by simp; omega
        rw [if_pos hu]
        go_wp2_with (first
          | (refine wpList_ldRV rfl (.tmp 9) rfl b9 rfl zR rfl HM3.out.r9 ?_; simp only [Act.put, List.setIfInBounds_toArray, List.set_cons_zero, List.set_cons_succ])
          | (refine wpList_bldRV rfl rfl ?_; simp only [Act.put, List.setIfInBounds_toArray, List.set_cons_zero, List.set_cons_succ])
          | (refine wpList_eqRnV rfl (.tmp 115) (.tmp 116) _ rfl zR 0 0 zR_form rfl rfl ?_; simp only [Act.put, List.setIfInBounds_toArray, List.set_cons_zero, List.set_cons_succ]))
        go_ret
        exact ⟨rfl, HM3.out.be⟩
      · have eu : ((u : Int) == 1) = false := by simp; omega
        rw [if_neg hu]
        go_wp2_with (first
          | (refine wpList_ldRV rfl (.tmp 9) rfl b9 rfl zR rfl HM3.out.r9 ?_; simp only [Act.put, List.setIfInBounds_toArray, List.set_cons_zero, List.set_cons_succ])
          | (refine wpList_bldRV rfl rfl ?_; simp only [Act.put, List.setIfInBounds_toArray, List.set_cons_zero, List.set_cons_succ])
          | (refine wpList_eqRnV rfl (.tmp 122) (.tmp 123) _ rfl zR 0 0 zR_form rfl rfl ?_; simp only [Act.put, List.setIfInBounds_toArray, List.set_cons_zero, List.set_cons_succ])
          | (go_at_call 7; refine Calls.mono (alive_any Y3) ?_; rintro e V3 ⟨rfl, q⟩; have BV3 : Hid (Below w.heap.size w V3) := (HM3.out.be).trans (q.mono (HM3.out.be).size); clear q))
        go_ret
        exact ⟨rfl, BV3.out⟩
    by_cases h2 : more ≤ 10000
    case neg =>
      have HM : Hid (Mt w b5 b8 b9 RV (P g8) (L9) (.slice A7 n7 c7) n7 Q.flatten V) := by rw [hg8, hL9]; exact HM1.out
      clear HM1 hg8 hL9
      go_upto_region 18 with fail
      clear c5
      have c5 : V.cell? ⟨b5, 4, none⟩ = some (.int .i64 (u : Int)) := HM.out.r5.cell 4 _ HRV4.out
      go_upto_region 19 with (refine wpList_set1 rfl 3 (.tmp 102) (.tmp 100) rfl b8 48 (.int .i64 ((u : Int) - 1)) (P g8) 33 rfl rfl rfl HM.out.r8 (by rw [HPL.out]; decide) info_int1 rfl ?_; intro Y1 q1 q2 q3; have HM1 : Hid (Mt w b5 b8 b9 RV (P ((u : Int) - 1)) (L9) (.slice A7 n7 c7) n7 Q.flatten Y1) := HM.out.put8 (by rw [← HPS.out g8]; exact q1) q2; clear q1 q2 q3; simp only [Act.put])
      clear c5 HM
      go_upto_region 20 with (first
        | (refine wpList_load_w rfl 33 (.tmp 8) rfl b8 0 rfl (P ((u : Int) - 1)) _ HM1.out.r8.all Try.underlying33 rfl (HPI.out _) ?_; simp only [Act.put, List.setIfInBounds_toArray, List.set_cons_zero, List.set_cons_succ])
        | (go_at_call 6; refine Calls.mono (HCZ.out Y1 HM1.out.be) ?_; rintro e Y2 ⟨A6, n6, c6, rfl, q2⟩; have HM2 : Hid (Mt w b5 b8 b9 RV (P ((u : Int) - 1)) (L9) (.slice A7 n7 c7) n7 Q.flatten Y2) := HM1.out.below q2; clear q2)
        | (refine wpList_storeL rfl 35 (.tmp 9) (.tmp 106) rfl b9 zR L9 35 rfl rfl HM2.out.r9 HL9.out.symm info_Ran (by rw [← Array.all_toList]; rfl) ?_; intro Y3 q1 q2; have HM3 : Hid (Mt w b5 b8 b9 RV (P ((u : Int) - 1)) (zR) (.slice A7 n7 c7) n7 Q.flatten Y3) := HM2.out.put9 q2 (by rw [q1]; exact gro_setCells b9 _ 0 Y2 Y2 (Gro.refl _ Y2)); clear q1 q2; simp only [Act.put]))
      clear HM1 HM2
      have c5 : Y3.cell? ⟨b5, 4, none⟩ = some (.int .i64 (u : Int)) := HM3.out.r5.cell 4 _ HRV4.out
      by_cases hu : u = 1
      · have eu : ((u : Int) == 1) = true := by simp; omega
        rw [if_pos hu]
        go_wp2_with (first
          | (refine wpList_ldRV rfl (.tmp 9) rfl b9 rfl zR rfl HM3.out.r9 ?_; simp only [Act.put, List.setIfInBounds_toArray, List.set_cons_zero, List.set_cons_succ])
          | (refine wpList_bldRV rfl rfl ?_; simp only [Act.put, List.setIfInBounds_toArray, List.set_cons_zero, List.set_cons_succ])
          | (refine wpList_eqRnV rfl (.tmp 115) (.tmp 116) _ rfl zR 0 0 zR_form rfl rfl ?_; simp only [Act.put, List.setIfInBounds_toArray, List.set_cons_zero, List.set_cons_succ]))
        go_ret
        exact ⟨rfl, HM3.out.be⟩
      · have eu : ((u : Int) == 1) = false := by simp; omega
        rw [if_neg hu]
        go_wp2_with (first
          | (refine wpList_ldRV rfl (.tmp 9) rfl b9 rfl zR rfl HM3.out.r9 ?_; simp only [Act.put, List.setIfInBounds_toArray, List.set_cons_zero, List.set_cons_succ])
          | (refine wpList_bldRV rfl rfl ?_; simp only [Act.put, List.setIfInBounds_toArray, List.set_cons_zero, List.set_cons_succ])
          | (refine wpList_eqRnV rfl (.tmp 122) (.tmp 123) _ rfl zR 0 0 zR_form rfl rfl ?_; simp only [Act.put, List.setIfInBounds_toArray, List.set_cons_zero, List.set_cons_succ])
          | (go_at_call 7; refine Calls.mono (alive_any Y3) ?_; rintro e V3 ⟨rfl, q⟩; have BV3 : Hid (Below w.heap.size w V3) := (HM3.out.be).trans (q.mono (HM3.out.be).size); clear q))
        go_ret
        exact ⟨rfl, BV3.out⟩
    by_cases h3 : (u : Int) + more ≤ 10000
    case neg =>
      have HM : Hid (Mt w b5 b8 b9 RV (P g8) (L9) (.slice A7 n7 c7) n7 Q.flatten V) := by rw [hg8, hL9]; exact HM1.out
      clear HM1 hg8 hL9
      go_upto_region 18 with fail
      clear c5
      have c5 : V.cell? ⟨b5, 4, none⟩ = some (.int .i64 (u : Int)) := HM.out.r5.cell 4 _ HRV4.out
      go_upto_region 19 with (refine wpList_set1 rfl 3 (.tmp 102) (.tmp 100) rfl b8 48 (.int .i64 ((u : Int) - 1)) (P g8) 33 rfl rfl rfl HM.out.r8 (by rw [HPL.out]; decide) info_int1 rfl ?_; intro Y1 q1 q2 q3; have HM1 : Hid (Mt w b5 b8 b9 RV (P ((u : Int) - 1)) (L9) (.slice A7 n7 c7) n7 Q.flatten Y1) := HM.out.put8 (by rw [← HPS.out g8]; exact q1) q2; clear q1 q2 q3; simp only [Act.put])
      clear c5 HM
      go_upto_region 20 with (first
        | (refine wpList_load_w rfl 33 (.tmp 8) rfl b8 0 rfl (P ((u : Int) - 1)) _ HM1.out.r8.all Try.underlying33 rfl (HPI.out _) ?_; simp only [Act.put, List.setIfInBounds_toArray, List.set_cons_zero, List.set_cons_succ])
        | (go_at_call 6; refine Calls.mono (HCZ.out Y1 HM1.out.be) ?_; rintro e Y2 ⟨A6, n6, c6, rfl, q2⟩; have HM2 : Hid (Mt w b5 b8 b9 RV (P ((u : Int) - 1)) (L9) (.slice A7 n7 c7) n7 Q.flatten Y2) := HM1.out.below q2; clear q2)
        | (refine wpList_storeL rfl 35 (.tmp 9) (.tmp 106) rfl b9 zR L9 35 rfl rfl HM2.out.r9 HL9.out.symm info_Ran (by rw [← Array.all_toList]; rfl) ?_; intro Y3 q1 q2; have HM3 : Hid (Mt w b5 b8 b9 RV (P ((u : Int) - 1)) (zR) (.slice A7 n7 c7) n7 Q.flatten Y3) := HM2.out.put9 q2 (by rw [q1]; exact gro_setCells b9 _ 0 Y2 Y2 (Gro.refl _ Y2)); clear q1 q2; simp only [Act.put]))
      clear HM1 HM2
      have c5 : Y3.cell? ⟨b5, 4, none⟩ = some (.int .i64 (u : Int)) := HM3.out.r5.cell 4 _ HRV4.out
      by_cases hu : u = 1
      · have eu : ((u : Int) == 1) = true := by simp; omega
        rw [if_pos hu]
        go_wp2_with (first
          | (refine wpList_ldRV rfl (.tmp 9) rfl b9 rfl zR rfl HM3.out.r9 ?_; simp only [Act.put, List.setIfInBounds_toArray, List.set_cons_zero, List.set_cons_succ])
          | (refine wpList_bldRV rfl rfl ?_; simp only [Act.put, List.setIfInBounds_toArray, List.set_cons_zero, List.set_cons_succ])
          | (refine wpList_eqRnV rfl (.tmp 115) (.tmp 116) _ rfl zR 0 0 zR_form rfl rfl ?_; simp only [Act.put, List.setIfInBounds_toArray, List.set_cons_zero, List.set_cons_succ]))
        go_ret
        exact ⟨rfl, HM3.out.be⟩
      · have eu : ((u : Int) == 1) = false := by simp; omega
        rw [if_neg hu]
        go_wp2_with (first
          | (refine wpList_ldRV rfl (.tmp 9) rfl b9 rfl zR rfl HM3.out.r9 ?_; simp only [Act.put, List.setIfInBounds_toArray, List.set_cons_zero, List.set_cons_succ])
          | (refine wpList_bldRV rfl rfl ?_; simp only [Act.put, List.setIfInBounds_toArray, List.set_cons_zero, List.set_cons_succ])
          | (refine wpList_eqRnV rfl (.tmp 122) (.tmp 123) _ rfl zR 0 0 zR_form rfl rfl ?_; simp only [Act.put, List.setIfInBounds_toArray, List.set_cons_zero, List.set_cons_succ])
          | (go_at_call 7; refine Calls.mono (alive_any Y3) ?_; rintro e V3 ⟨rfl, q⟩; have BV3 : Hid (Below w.heap.size w V3) := (HM3.out.be).trans (q.mono (HM3.out.be).size); clear q))
        go_ret
        exact ⟨rfl, BV3.out⟩
    clear hL9 HL9 hg8 L9 g8
    go_upto_region 15 with (refine wpList_set1 rfl 3 (.tmp 78) (.tmp 76) rfl b8 48 (.int .i64 ((u : Int) + more)) (P (u : Int)) 33 rfl rfl rfl HM1.out.r8 (by rw [HPL.out]; decide) info_int1 rfl ?_; intro V1 q1 q2 q3; have HM2 : Hid (Mt w b5 b8 b9 RV (P ((u : Int) + more)) (RV) (.slice A7 n7 c7) n7 Q.flatten V1) := HM1.out.put8 (by rw [← HPS.out (u : Int)]; exact q1) q2; clear q1 q2 q3; simp only [Act.put])
    clear HM1 c5
    go_upto_region 16 with (first
      | (refine wpList_load_w rfl 33 (.tmp 8) rfl b8 0 rfl (P ((u : Int) + more)) _ HM2.out.r8.all Try.underlying33 rfl (HPI.out _) ?_; simp only [Act.put, List.setIfInBounds_toArray, List.set_cons_zero, List.set_cons_succ])
      | (go_at_call 6; refine Calls.mono (HCT.out more.toNat (by omega) ((u : Int) + more) (by omega) V1 HM2.out.be) ?_; rintro e V2 ⟨AC, cC, rfl, q1, q2⟩; have LC2 : Hid (Lw V2 tAk 30 (.slice AC n7 cC) n7 Q.flatten) := q1; have HM3 : Hid (Mt w b5 b8 b9 RV (P ((u : Int) + more)) (RV) (.slice A7 n7 c7) n7 Q.flatten V2) := HM2.out.below q2; clear q1 q2)
      | (refine wpList_storeL rfl 35 (.tmp 9) (.tmp 82) rfl b9 RV RV 35 rfl rfl HM3.out.r9 rfl HRVI.out HRV.out.2 ?_; intro V3 q1 q2; have HM4 : Hid (Mt w b5 b8 b9 RV (P ((u : Int) + more)) (RV) (.slice A7 n7 c7) n7 Q.flatten V3) := HM3.out.put9 q2 (by rw [q1]; exact gro_setCells b9 _ 0 V2 V2 (Gro.refl _ V2)); have LC3 : Hid (Lw V3 tAk 30 (.slice AC n7 cC) n7 Q.flatten) := Lw.gro LC2.out (by rw [q1]; exact gro_setCells b9 _ 0 V2 V2 (Gro.refl _ V2)) (Lw.ne LC2.out HM3.out.r9 (by decide)); clear q1 q2; simp only [Act.put]))
    have HS2 : Hid (Calls Try.prog 9 #[.slice AC n7 cC, .slice A7 n7 c7] V3 fun e w' => e = .returned (.bool true) ∧ Below V3.heap.size V3 w') := same_asks Q HQA.out n7 HN7.out (by omega) AC A7 cC c7 V3 (lw_qinN HN7.out LC3.out) (lw_qinN HN7.out HM4.out.l7)
    clear HM2 HM3 LC2 LC3
    go_upto_region 18 with (first
      | (refine wpList_ldRV rfl (.tmp 9) rfl b9 rfl RV HRV.out.1 HM4.out.r9 ?_; simp only [Act.put, List.setIfInBounds_toArray, List.set_cons_zero, List.set_cons_succ])
      | (refine wpList_ldRV rfl (.tmp 5) rfl b5 rfl RV HRV.out.1 HM4.out.r5 ?_; simp only [Act.put, List.setIfInBounds_toArray, List.set_cons_zero, List.set_cons_succ])
      | (refine wpList_neRnV rfl (.tmp 88) (.tmp 89) _ rfl RV m0 g0 HRF.out rfl rfl ?_; simp only [Act.put, List.setIfInBounds_toArray, List.set_cons_zero, List.set_cons_succ])
      | (go_at_call 9; refine Calls.mono HS2.out ?_; rintro e V5 ⟨rfl, q⟩; have HM5 : Hid (Mt w b5 b8 b9 RV (P ((u : Int) + more)) (RV) (.slice A7 n7 c7) n7 Q.flatten V5) := HM4.out.below q; clear q HS2))
    obtain ⟨g8, hg8⟩ : ∃ g, g = (u : Int) + more := ⟨_, rfl⟩
    obtain ⟨L9, hL9⟩ : ∃ L, L = RV := ⟨_, rfl⟩
    have HL9 : Hid (L9.length = 5) := by rw [hL9]; exact HRV.out.1
    have HM : Hid (Mt w b5 b8 b9 RV (P g8) (L9) (.slice A7 n7 c7) n7 Q.flatten V5) := by rw [hg8, hL9]; exact HM5.out
    clear HM5 HM4 hg8 hL9
    have c5 : V5.cell? ⟨b5, 4, none⟩ = some (.int .i64 (u : Int)) := HM.out.r5.cell 4 _ HRV4.out
    go_upto_region 19 with (refine wpList_set1 rfl 3 (.tmp 102) (.tmp 100) rfl b8 48 (.int .i64 ((u : Int) - 1)) (P g8) 33 rfl rfl rfl HM.out.r8 (by rw [HPL.out]; decide) info_int1 rfl ?_; intro Y1 q1 q2 q3; have HM1 : Hid (Mt w b5 b8 b9 RV (P ((u : Int) - 1)) (L9) (.slice A7 n7 c7) n7 Q.flatten Y1) := HM.out.put8 (by rw [← HPS.out g8]; exact q1) q2; clear q1 q2 q3; simp only [Act.put])
    clear c5 HM
    go_upto_region 20 with (first
      | (refine wpList_load_w rfl 33 (.tmp 8) rfl b8 0 rfl (P ((u : Int) - 1)) _ HM1.out.r8.all Try.underlying33 rfl (HPI.out _) ?_; simp only [Act.put, List.setIfInBounds_toArray, List.set_cons_zero, List.set_cons_succ])
      | (go_at_call 6; refine Calls.mono (HCZ.out Y1 HM1.out.be) ?_; rintro e Y2 ⟨A6, n6, c6, rfl, q2⟩; have HM2 : Hid (Mt w b5 b8 b9 RV (P ((u : Int) - 1)) (L9) (.slice A7 n7 c7) n7 Q.flatten Y2) := HM1.out.below q2; clear q2)
      | (refine wpList_storeL rfl 35 (.tmp 9) (.tmp 106) rfl b9 zR L9 35 rfl rfl HM2.out.r9 HL9.out.symm info_Ran (by rw [← Array.all_toList]; rfl) ?_; intro Y3 q1 q2; have HM3 : Hid (Mt w b5 b8 b9 RV (P ((u : Int) - 1)) (zR) (.slice A7 n7 c7) n7 Q.flatten Y3) := HM2.out.put9 q2 (by rw [q1]; exact gro_setCells b9 _ 0 Y2 Y2 (Gro.refl _ Y2)); clear q1 q2; simp only [Act.put]))
    clear HM1 HM2
    have c5 : Y3.cell? ⟨b5, 4, none⟩ = some (.int .i64 (u : Int)) := HM3.out.r5.cell 4 _ HRV4.out
    by_cases hu : u = 1
    · have eu : ((u : Int) == 1) = true := by simp; omega
      rw [if_pos hu]
      go_wp2_with (first
        | (refine wpList_ldRV rfl (.tmp 9) rfl b9 rfl zR rfl HM3.out.r9 ?_; simp only [Act.put, List.setIfInBounds_toArray, List.set_cons_zero, List.set_cons_succ])
        | (refine wpList_bldRV rfl rfl ?_; simp only [Act.put, List.setIfInBounds_toArray, List.set_cons_zero, List.set_cons_succ])
        | (refine wpList_eqRnV rfl (.tmp 115) (.tmp 116) _ rfl zR 0 0 zR_form rfl rfl ?_; simp only [Act.put, List.setIfInBounds_toArray, List.set_cons_zero, List.set_cons_succ]))
      go_ret
      exact ⟨rfl, HM3.out.be⟩
    · have eu : ((u : Int) == 1) = false := by simp; omega
      rw [if_neg hu]
      go_wp2_with (first
        | (refine wpList_ldRV rfl (.tmp 9) rfl b9 rfl zR rfl HM3.out.r9 ?_; simp only [Act.put, List.setIfInBounds_toArray, List.set_cons_zero, List.set_cons_succ])
        | (refine wpList_bldRV rfl rfl ?_; simp only [Act.put, List.setIfInBounds_toArray, List.set_cons_zero, List.set_cons_succ])
        | (refine wpList_eqRnV rfl (.tmp 122) (.tmp 123) _ rfl zR 0 0 zR_form rfl rfl ?_; simp only [Act.put, List.setIfInBounds_toArray, List.set_cons_zero, List.set_cons_succ])
        | (go_at_call 7; refine Calls.mono (alive_any Y3) ?_; rintro e V3 ⟨rfl, q⟩; have BV3 : Hid (Below w.heap.size w V3) := (HM3.out.be).trans (q.mono (HM3.out.be).size); clear q))
      go_ret
      exact ⟨rfl, BV3.out⟩

end Go.Proofs.Ytabcglakdlkdcaa
