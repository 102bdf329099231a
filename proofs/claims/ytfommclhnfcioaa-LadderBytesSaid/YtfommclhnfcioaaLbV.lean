/-
  LadderBytes: the law's walk.
-/
import Derived.Test.YtfommclhnfcioaaLbT
namespace Go.Proofs.Ytfommclhnfcioaa
open Go Go.RowKit
open Sha

set_option maxRecDepth 100000 in
set_option maxHeartbeats 16000000 in
theorem bytes_walk (c : Cm) (hc : c.Wf) (L : List Value) (hL : L = c.cells) (bs : List (BitVec 8)) (B : Option Addr) (n cb : Nat) (hb : bs.length = n) (hl : n ≤ 140737488351232) (hnil : B = none → cb = 0) (w : World) (hv : SlAt w (.slice B n cb) bs) :
    Calls Try.prog 3 #[.agg L.toArray, .slice B n cb] w fun e w' => e = .returned (.bool true) ∧ Below w.heap.size w w' := by
  have HB : Hid (bs.length = n) := hb
  have HV : Hid (SlAt w (.slice B n cb) bs) := hv
  have HTL : Hid (0 + (vB (bs.take (n + 20))).length ≤ (vB (List.replicate (n + 20) 0#8)).length) := by show _ ≤ _; rw [vB_length, vB_length, List.length_take, List.length_replicate]; omega
  have HTL2 : Hid (0 + (vB (bs.take (n + 20))).length ≤ (vB (List.replicate (n + 20) 0#8)).length) := HTL
  have HIC : Hid ((Try.prog.info? tC).map (·.size) = some L.length) := by show _ = _; rw [hL]; exact Cm.info hc
  have HLZ : Hid (L.length = zC.cells.length) := by show _ = _; rw [hL, Cm.len hc, Cm.len zC_wf]
  have HLO : Hid (L.toArray.all (·.oneCell') = true) := by show _ = _; rw [hL]; exact all_one (Cm.one c)
  obtain ⟨DB, FE, N, hN, hN9, hcs, hlb, hdb⟩ := bytes_one c hc L hL
  have HN9 : Hid (N ≤ 1000) := hN9
  have HCS : Hid ((mayB c = true ∧ DB = cmb c ∧ FE = 0) ∨ (DB = [] ∧ FE = 160)) := hcs
  have HLB1 : Hid (∀ X, Calls Try.prog 10 #[.agg L.toArray] X fun e w' => ∃ A cap, e = .returned (.tuple #[.slice A N cap, .int .i64 FE]) ∧ Bw w' (.slice A N cap) DB ∧ Fresh X.heap.size (.slice A N cap) ∧ Below X.heap.size X w') := hlb
  have HLB2 : Hid (∀ X, Calls Try.prog 10 #[.agg L.toArray] X fun e w' => ∃ A cap, e = .returned (.tuple #[.slice A N cap, .int .i64 FE]) ∧ Bw w' (.slice A N cap) DB ∧ Fresh X.heap.size (.slice A N cap) ∧ Below X.heap.size X w') := hlb
  have HDB : Hid (∀ X, Calls Try.prog 11 #[.agg L.toArray] X fun e w' => ∃ A cap, e = .returned (.tuple #[.slice A N cap, .int .i64 FE]) ∧ Bw w' (.slice A N cap) DB ∧ Below X.heap.size X w') := hdb
  have HRA : Hid (mayB c = true → DB = cmb c → ∀ (A : Option Addr) (cap : Nat) (X : World), Bw X (.slice A N cap) DB → Calls Try.prog 12 #[.slice A N cap] X fun e w' => e = .returned (.tuple #[.agg L.toArray, .int .i64 0]) ∧ Below X.heap.size X w') := fun hm hD A cap X h => reads_own c hc hm L hL A N cap (by rw [hN, hD]) X (by rw [← hD]; exact h)
  obtain ⟨V, RE, hcv, hVw, hr1, hr2⟩ := reads_one bs
  obtain ⟨LV, hLV⟩ : ∃ L, L = V.cells := ⟨_, rfl⟩
  have HVW : Hid V.Wf := hVw
  have HLV : Hid (LV = V.cells) := hLV
  have HIV : Hid ((Try.prog.info? tC).map (·.size) = some LV.length) := by show _ = _; rw [hLV]; exact Cm.info hVw
  have HLVL : Hid (LV.length = zC.cells.length) := by show _ = _; rw [hLV, Cm.len hVw, Cm.len zC_wf]
  have HLVO : Hid (LV.toArray.all (·.oneCell') = true) := by show _ = _; rw [hLV]; exact all_one (Cm.one V)
  have HCV : Hid (isCm bs V RE) := hcv
  have HR1 : Hid (∀ (A : Option Addr) (cap : Nat) (X : World), SlAt X (.slice A n cap) bs → (A = none → cap = 0) → Calls Try.prog 12 #[.slice A n cap] X fun e w' => e = .returned (.tuple #[.agg LV.toArray, .int .i64 RE]) ∧ Below X.heap.size X w') := fun A cap X h h0 => by rw [hLV]; exact hr1 A n cap hb h0 X h
  have HR2 : Hid (∀ X, Below w.heap.size w X → Calls Try.prog 13 #[.slice B n cb] X fun e w' => e = .returned (.tuple #[.agg LV.toArray, .int .i64 RE]) ∧ Below X.heap.size X w') := fun X k => by
    rw [hLV]
    rcases SlAt.be hv k with ⟨h0, _⟩ | ⟨ab, ao, cap, e, hc, hr⟩
    · exact hr2 0 B cb 0 n hb (by omega) (by rw [h0] at hb; simp at hb; omega) (.inl ⟨h0, hnil⟩) X (fun h => by rw [h0] at h; simp at h)
    · simp only [Value.slice.injEq] at e
      obtain ⟨rfl, e2, rfl⟩ := e
      exact hr2 ab _ cb ao n hb (by omega) (by omega) (.inr rfl) X (fun _ => hr)
  have HCC : Hid (L = c.cells) := hL
  have HCW : Hid c.Wf := hc
  clear hb hv hL hc hN hN9 hcs hlb hdb hcv hVw hr1 hr2 hLV hnil
  go_enter Try.func3, Try.ntmps3
  go_upto_region 7 with (first
    | (refine wpList_bxG tC rfl (.tmp 0) rfl L rfl ?_; intro X0 q1 q2 q3; have R0 : Hid (Row X0 w.heap.size L tC) := q1; have B0 : Hid (Below w.heap.size w X0) := q2; clear q1 q2 q3; simp only [Act.put, List.setIfInBounds_toArray, List.set_cons_zero, List.set_cons_succ])
    | (go_at_call 9; refine Calls.mono (awake_any _) ?_; rintro e X1 ⟨rfl, q⟩; have R1 : Hid (Row X1 w.heap.size L tC) := Row.below R0.out q R0.out.lt; have B1 : Hid (Below w.heap.size w X1) := B0.out.trans (q.mono B0.out.size); clear q R0 B0)
    | (refine wpList_ldS rfl tC (.tmp 2) rfl w.heap.size 0 rfl L _ R1.out.all Try.underlying25 rfl HIC.out ?_; simp only [Act.put, List.setIfInBounds_toArray, List.set_cons_zero, List.set_cons_succ])
    | (go_at_call 10; refine Calls.mono (HLB1.out _) ?_; rintro e X2 ⟨A1, c1, rfl, q1, q2, q3⟩; have W1 : Hid (Bw X2 (.slice A1 N c1) DB) := q1; have F1 : Hid (Fresh w.heap.size (.slice A1 N c1)) := q2.more B1.out.size; have R2 : Hid (Row X2 w.heap.size L tC) := Row.below R1.out q3 R1.out.lt; have B2 : Hid (Below w.heap.size w X2) := B1.out.trans (q3.mono B1.out.size); clear q1 q2 q3 R1 B1 HLB1)
    | (refine wpList_ldS rfl tC (.tmp 2) rfl w.heap.size 0 rfl L _ R2.out.all Try.underlying25 rfl HIC.out ?_; simp only [Act.put, List.setIfInBounds_toArray, List.set_cons_zero, List.set_cons_succ])
    | (go_at_call 10; refine Calls.mono (HLB2.out _) ?_; rintro e X3 ⟨A2, c2, rfl, q1, q2, q3⟩; have K3 : Hid (Kb w X3 w.heap.size L (.slice A1 N c1) (.slice A2 N c2) DB) := ⟨B2.out.trans (q3.mono B2.out.size), Row.below R2.out q3 R2.out.lt, Bw.be W1.out q3, q1, F1.out, q2.more B2.out.size, fun g e e2 => by { have h1 := Bw.lt W1.out g e; have h2 := q2 g e2; omega }⟩; clear q1 q2 q3 R2 B2 W1 F1 HLB2)
    | (refine wpList_ldS rfl tC (.tmp 2) rfl w.heap.size 0 rfl L _ K3.out.row.all Try.underlying25 rfl HIC.out ?_; simp only [Act.put, List.setIfInBounds_toArray, List.set_cons_zero, List.set_cons_succ])
    | (go_at_call 11; refine Calls.mono (HDB.out _) ?_; rintro e X4 ⟨A3, c3, rfl, q1, q2⟩; have K4 : Hid (Kb w X4 w.heap.size L (.slice A1 N c1) (.slice A2 N c2) DB) := K3.out.keep q2; have S3 : Hid (SlAt X4 (.slice A3 N c3) DB) := Bw.sl q1; have S1 : Hid (SlAt X4 (.slice A1 N c1) DB) := Bw.sl K4.out.a; have S2 : Hid (SlAt X4 (.slice A2 N c2) DB) := Bw.sl K4.out.b; clear q1 q2 K3 HDB)
    | (refine wpList_conv_s rfl (.tmp 42) rfl (.slice A1 N c1) DB rfl S1.out ?_; simp only [Act.put, List.setIfInBounds_toArray, List.set_cons_zero, List.set_cons_succ])
    | (refine wpList_conv_s rfl (.tmp 44) rfl (.slice A3 N c3) DB rfl S3.out ?_; simp only [Act.put, List.setIfInBounds_toArray, List.set_cons_zero, List.set_cons_succ])
    | (refine wpList_conv_s rfl (.tmp 49) rfl (.slice A2 N c2) DB rfl S2.out ?_; simp only [Act.put, List.setIfInBounds_toArray, List.set_cons_zero, List.set_cons_succ])
    | (refine wpList_conv_s rfl (.tmp 51) rfl (.slice A3 N c3) DB rfl S3.out ?_; simp only [Act.put, List.setIfInBounds_toArray, List.set_cons_zero, List.set_cons_succ])
    | (refine wpList_neq_s rfl (.tmp 43) (.tmp 45) _ _ rfl DB DB rfl rfl false (by simp) ?_; simp only [Act.put, List.setIfInBounds_toArray, List.set_cons_zero, List.set_cons_succ])
    | (refine wpList_neq_s rfl (.tmp 50) (.tmp 52) _ _ rfl DB DB rfl rfl false (by simp) ?_; simp only [Act.put, List.setIfInBounds_toArray, List.set_cons_zero, List.set_cons_succ]))
  clear S1 S2 S3
  rcases HCS.out with ⟨f1, f2, f3⟩ | ⟨f2, f3⟩
  · subst f3
    have HRB : Hid (∀ (A : Option Addr) (cap : Nat) (X : World), Bw X (.slice A N cap) DB → Calls Try.prog 12 #[.slice A N cap] X fun e w' => e = .returned (.tuple #[.agg L.toArray, .int .i64 0]) ∧ Below X.heap.size X w') := HRA.out f1 f2
    clear f1 f2 HRA HCS
    go_upto_region 11 with (first
      | (go_at_call 12; refine Calls.mono (HRB.out A1 c1 _ K4.out.a) ?_; rintro e X5 ⟨rfl, q⟩; have K5 : Hid (Kb w X5 w.heap.size L (.slice A1 N c1) (.slice A2 N c2) DB) := K4.out.keep q; clear q K4)
      | (refine wpList_stL rfl tC (.tmp 12) (.tmp 65) rfl X5.heap.size L zC.cells tC rfl rfl R6.out HLZ.out HIC.out HLO.out ?_; intro X7 q1 q2; have q3 : Below X5.heap.size X5 X7 := gro_newL D6.out (Nat.le_refl _) q2; have R7 : Hid (Row X7 X5.heap.size L tC) := q1; have K0 : Hid (Kb w X7 w.heap.size L (.slice A1 N c1) (.slice A2 N c2) DB) := K5.out.keep q3; clear q1 q2 q3 R6 D6 K5)
      | (refine wpList_alC rfl rfl ?_; intro X6 q1 q2 q3; have R6 : Hid (Row X6 X5.heap.size zC.cells tC) := q1; have D6 : Hid (Below X5.heap.size X5 X6) := q2; clear q1 q2 q3; simp only [Act.put, List.setIfInBounds_toArray, List.set_cons_zero, List.set_cons_succ])
      | (refine wpList_ldS rfl tC (.tmp 12) rfl X5.heap.size 0 rfl L _ R7.out.all Try.underlying25 rfl HIC.out ?_; simp only [Act.put, List.setIfInBounds_toArray, List.set_cons_zero, List.set_cons_succ])
      | (refine wpList_ldS rfl tC (.tmp 2) rfl w.heap.size 0 rfl L _ K0.out.row.all Try.underlying25 rfl HIC.out ?_; simp only [Act.put, List.setIfInBounds_toArray, List.set_cons_zero, List.set_cons_succ])
      | (refine wpList_neC rfl (.tmp 67) (.tmp 68) _ rfl c c HCW.out HCW.out (by { rw [← HCC.out]; rfl }) (by { rw [← HCC.out]; rfl }) false (by simp) ?_; simp only [Act.put, List.setIfInBounds_toArray, List.set_cons_zero, List.set_cons_succ]))
    clear R7 HRB
    have BW : Hid (Below w.heap.size w X7) := K0.out.be
    go_wp2_with (first
      | (refine wpList_make1 rfl (.tmp 76) (.tmp 76) rfl (n + 20) _ _ (by omega) (by omega) rfl rfl (by omega) ?_; intro W1 q1 q2 q3; have R1 : Hid (Row W1 X7.heap.size (vB (List.replicate (n + 20) 0#8)) 5) := q1; have BY1 : Hid (Below X7.heap.size X7 W1) := q2; clear q1 q2 q3; simp only [Act.put, List.setIfInBounds_toArray, List.set_cons_zero, List.set_cons_succ])
      | (refine wpList_copyb rfl (.tmp 78) (.tmp 79) rfl X7.heap.size (n + 20) n cb B bs HB.out rfl rfl (SlAt.be HV.out (BW.out.trans (BY1.out.mono BW.out.size))) (R1.out.there 0 _ HTL.out) ?_; obtain ⟨Y2, hY2⟩ : ∃ Y2, Y2 = World.setCells W1 X7.heap.size 0 (vB (bs.take (n + 20))) := ⟨_, rfl⟩; rw [← hY2]; obtain ⟨gi, hgi⟩ : ∃ v, v = goInt (vB (bs.take (n + 20))).length := ⟨_, rfl⟩; rw [← hgi]; clear hgi; have R2 : Hid (Row Y2 X7.heap.size (vB (owb bs 0)) 5) := (by { show Row _ _ _ _; rw [hY2, ← owb_0 bs n HB.out]; exact Row.setCells 0 _ R1.out HTL2.out }); have BY2 : Hid (Below X7.heap.size X7 Y2) := (by { show Below _ _ _; rw [hY2]; exact below_setCells BY1.out (Nat.le_refl _) _ }); clear hY2 R1 BY1; simp only [Act.put, List.setIfInBounds_toArray, List.set_cons_zero, List.set_cons_succ]))
    obtain ⟨G, hG⟩ : ∃ G, G = X7.heap.size := ⟨_, rfl⟩
    obtain ⟨M, hM⟩ : ∃ M, M = n + 20 := ⟨_, rfl⟩
    rw [← hG] at R2 ⊢
    rw [← hM]
    have HM : Hid (M = n + 20) := hM
    have HG : Hid (G = X7.heap.size) := hG
    have HNM : Hid (n ≤ M) := by show _ ≤ _; omega
    have hMl : M ≤ 140737488351252 := by omega
    clear hM hG
    go_loopw [15] (fun i wr => ∃ j : Nat, n ≤ j ∧ j ≤ M ∧ i = .int .i64 (j : Int) ∧ Row wr G (vB (owb bs (j - n))) 5 ∧ Below X7.heap.size X7 wr) (fun i _ => M - (intOf i).toNat)
    case atStart => exact ⟨n, Nat.le_refl _, HNM.out, rfl, by rw [Nat.sub_self]; exact R2.out, BY2.out⟩
    case round =>
      obtain ⟨j, hj1, hj2, rfl, r, hbl⟩ := hrel
      by_cases hlt : j < M
      · have RR : Hid (Row wr G (vB (owb bs (j - n))) 5) := r
        have HL : Hid (j < (vB (owb bs (j - n))).length) := by show _ < _; rw [vB_length, owb_len _ _ (by have := HM.out; omega), HB.out]; have := HM.out; omega
        have HS : Hid ((vB (owb bs (j - n))).set j (.int .u8 201) = vB (owb bs (j + 1 - n))) := by
          have e := owb_set bs (j - n) (by have := HM.out; omega)
          rw [HB.out, show n + (j - n) = j by omega] at e
          show _ = _
          rw [show j + 1 - n = j - n + 1 by omega, ← e, vB_setB]
          rfl
        have HBL : Hid (Below X7.heap.size X7 wr) := hbl
        have hj3 : j ≤ 140737488351252 := by omega
        clear r hbl hj2 R2 BY2
        go_wp2_with (refine wpList_st1 rfl 5 (.tmp 91) (.const (.int .u8 201)) rfl G j (.int .u8 201) (vB (owb bs (j - n))) 5 rfl rfl rfl RR.out HL.out info_u8 rfl ?_; intro X q1 q2; rw [HS.out] at q1; have RX : Hid (Row X G (vB (owb bs (j + 1 - n))) 5) := q1; have BX : Hid (Below X7.heap.size X7 X) := gro_newL HBL.out (Nat.le_of_eq HG.out.symm) q2; clear q1 q2)
        exact ⟨⟨j + 1, by omega, hlt, by go_num, RX.out, BX.out⟩, by simp [intOf]; omega⟩
      · obtain rfl : j = M := by omega
        have RO : Hid (Row wr G (vB (owb bs 20)) 5) := by have := r; rwa [show j - n = 20 by have := HM.out; omega] at this
        have BO : Hid (Below X7.heap.size X7 wr) := hbl
        clear r hbl hlt hj2 R2 BY2
        go_upto_region 19 with (first
          | (refine wpList_cutT rfl 26 5 (.tmp 93) (.tmp 95) (some ⟨G, 0, none⟩) j j n 1 rfl rfl rfl HNM.out (Nat.le_refl _) Try.underlying26 info_u8 ?_; simp only [Act.put, List.setIfInBounds_toArray, List.set_cons_zero, List.set_cons_succ])
          | (go_at_call 12; refine Calls.mono (HR1.out (some ⟨G, 0, none⟩) j wr (.inr ⟨G, 0, j, by rw [HB.out], by { rw [HB.out]; exact HNM.out }, owb_range RO.out⟩) (fun e => by cases e)) ?_; rintro e Z1 ⟨rfl, q⟩; have B1 : Hid (Below X7.heap.size X7 Z1) := BO.out.trans (q.mono BO.out.size); have RO1 : Hid (Row Z1 G (vB (owb bs 20)) 5) := Row.below RO.out q RO.out.lt; clear q)
          | (go_at_call 13; refine Calls.mono (HR2.out Z3 (BW.out.trans (B3.out.mono BW.out.size))) ?_; rintro e Z4 ⟨rfl, q⟩; have B4 : Hid (Below X7.heap.size X7 Z4) := B3.out.trans (q.mono B3.out.size); have RO4 : Hid (Row Z4 G (vB (owb bs 20)) 5) := Row.below RO3.out q RO3.out.lt; have S4 : Hid (Row Z4 Z1.heap.size LV tC) := Row.below S3.out q S3.out.lt; clear q)
          | (refine wpList_stL rfl tC (.tmp 16) (.tmp 98) rfl Z1.heap.size LV zC.cells tC rfl rfl A2.out HLVL.out HIV.out HLVO.out ?_; intro Z3 q1 q2; have q3 : Below Z1.heap.size Z1 Z3 := gro_newL D2.out (Nat.le_refl _) q2; have S3 : Hid (Row Z3 Z1.heap.size LV tC) := q1; have B3 : Hid (Below X7.heap.size X7 Z3) := B1.out.trans (q3.mono B1.out.size); have RO3 : Hid (Row Z3 G (vB (owb bs 20)) 5) := Row.below RO1.out q3 RO1.out.lt; clear q1 q2 q3 A2 D2)
          | (refine wpList_stL rfl tC (.tmp 18) (.tmp 103) rfl Z4.heap.size LV zC.cells tC rfl rfl A5.out HLVL.out HIV.out HLVO.out ?_; intro Z6 q1 q2; have q3 : Below Z4.heap.size Z4 Z6 := gro_newL D5.out (Nat.le_refl _) q2; have S6 : Hid (Row Z6 Z1.heap.size LV tC) := Row.below S4.out q3 S4.out.lt; have T6 : Hid (Row Z6 Z4.heap.size LV tC) := q1; have B6 : Hid (Below X7.heap.size X7 Z6) := B4.out.trans (q3.mono B4.out.size); have RO6 : Hid (Row Z6 G (vB (owb bs 20)) 5) := Row.below RO4.out q3 RO4.out.lt; clear q1 q2 q3 A5 D5)
          | (refine wpList_alC rfl rfl ?_; intro Z2 q1 q2 q3; have A2 : Hid (Row Z2 Z1.heap.size zC.cells tC) := q1; have D2 : Hid (Below Z1.heap.size Z1 Z2) := q2; clear q1 q2 q3; simp only [Act.put, List.setIfInBounds_toArray, List.set_cons_zero, List.set_cons_succ])
          | (refine wpList_alC rfl rfl ?_; intro Z5 q1 q2 q3; have A5 : Hid (Row Z5 Z4.heap.size zC.cells tC) := q1; have D5 : Hid (Below Z4.heap.size Z4 Z5) := q2; clear q1 q2 q3; simp only [Act.put, List.setIfInBounds_toArray, List.set_cons_zero, List.set_cons_succ]))
        obtain ⟨b16, h16⟩ : ∃ b, b = Z1.heap.size := ⟨_, rfl⟩
        obtain ⟨b18, h18⟩ : ∃ b, b = Z4.heap.size := ⟨_, rfl⟩
        rw [← h16] at S6 ⊢
        rw [← h18] at T6 ⊢
        have hb1 := Below.refl Z6.heap.size Z6
        have r16 := S6.out
        have r18 := T6.out
        have HS1 : Hid (∀ W, Below Z6.heap.size Z6 W → SlAt W (.slice (some ⟨G, 0, none⟩) n j) bs) := fun W k => .inr ⟨G, 0, j, by rw [HB.out], by rw [HB.out]; exact HNM.out, owb_range (Row.below RO6.out k RO6.out.lt)⟩
        have HS2 : Hid (∀ W, Below Z6.heap.size Z6 W → SlAt W (.slice B n cb) bs) := fun W k => SlAt.be HV.out ((BW.out.trans (B6.out.mono BW.out.size)).trans (k.mono (BW.out.trans (B6.out.mono BW.out.size)).size))
        clear h16 h18
        refine wp_named fun a0 ha0 => ?_
        have hsz : a0.tmps.size = 155 := by rw [ha0]; rfl
        have zs1 : a0.eval (.tmp 1) = .slice B n cb := by rw [ha0]; rfl
        have zs14 : a0.eval (.tmp 14) = .slice (some ⟨G, 0, none⟩) j j := by rw [ha0]; rfl
        have zs16 : a0.eval (.tmp 16) = .pointer (some ⟨b16, 0, none⟩) := by rw [ha0]; rfl
        have zs17 : a0.eval (.tmp 17) = .int .i64 RE := by rw [ha0]; rfl
        have zs18 : a0.eval (.tmp 18) = .pointer (some ⟨b18, 0, none⟩) := by rw [ha0]; rfl
        have zs19 : a0.eval (.tmp 19) = .int .i64 RE := by rw [ha0]; rfl
        obtain ⟨D, hD⟩ : ∃ D : List (Tmp × SP), D = [(105, SP.is (.agg LV.toArray)), (106, SP.is (.agg LV.toArray)), (107, SP.is (.bool false)), (108, SP.is (.bool false)), (109, SP.is (.int .i64 RE)), (110, SP.is (.int .i64 RE)), (111, SP.is (.bool false)), (112, SP.is (.bool false)), (113, SP.is (.bool false)), (114, SP.is (.slice (some ⟨G, 0, none⟩) j j)), (115, SP.is (.slice B n cb)), (116, SP.is (.int .i64 (n : Int))), (117, SP.is (.slice (some ⟨G, 0, none⟩) n j)), (118, SP.is (.string (str bs))), (119, SP.is (.slice B n cb)), (120, SP.is (.string (str bs))), (121, SP.is (.bool false)), (122, SP.is (.bool false))] := ⟨_, rfl⟩
        refine wp_region_down (by kernel_rfl) (fun listed ac W => listed.size = 18 ∧ Fp D a0 listed ac W ∧ Below Z6.heap.size Z6 W ∧ Row W b16 LV tC ∧ Row W b18 LV tC) ?_ ?_ ?_
        · exact ⟨by simp, Fp.start D a0 _ _, Below.drew hb1, Row.drew r16, Row.drew r18⟩
        · clear ha0 hb1 r16 r18 
          intro listed ac W k hI hdn hk
          obtain ⟨hl, hF, hb1, r16, r18⟩ := hI
          have hk1 : k < 18 := List.mem_range.1 (List.mem_filter.1 hk).1
          have hl2 : ∀ j, (listed.setIfInBounds j true).size = 18 := fun j => by rw [Array.size_setIfInBounds]; exact hl
          rcases (show k = 0 ∨ k = 1 ∨ k = 2 ∨ k = 3 ∨ k = 4 ∨ k = 5 ∨ k = 6 ∨ k = 7 ∨ k = 8 ∨ k = 9 ∨ k = 10 ∨ k = 11 ∨ k = 12 ∨ k = 13 ∨ k = 14 ∨ k = 15 ∨ k = 16 ∨ k = 17 by omega) with rfl | rfl | rfl | rfl | rfl | rfl | rfl | rfl | rfl | rfl | rfl | rfl | rfl | rfl | rfl | rfl | rfl | rfl
          · have hk3 := hk
            exact wpOp_plain rfl rfl (wp_load_mid tC (.tmp 16) rfl b16 0 ((hF.keep 16 (by rw [hD]; rfl)).trans zs16) LV _ r16.all Try.underlying25 rfl HIV.out ⟨hl2 0, (hF.put 0 105 (SP.is (.agg LV.toArray)) (.agg LV.toArray) (by rw [hD]; rfl) rfl (by rw [hD]; rfl) (by rw [hsz]; decide) (by rw [hl]; decide)), hb1, r16, r18⟩)
          · have hk3 := hk
            exact wpOp_plain rfl rfl (wp_load_mid tC (.tmp 18) rfl b18 0 ((hF.keep 18 (by rw [hD]; rfl)).trans zs18) LV _ r18.all Try.underlying25 rfl HIV.out ⟨hl2 1, (hF.put 1 106 (SP.is (.agg LV.toArray)) (.agg LV.toArray) (by rw [hD]; rfl) rfl (by rw [hD]; rfl) (by rw [hsz]; decide) (by rw [hl]; decide)), hb1, r16, r18⟩)
          · have hk3 := hk
            have ea := (hF.done 0 (105, SP.is (.agg LV.toArray)) (by rw [hD]; rfl) (ready_dep hk 0 (by kernel_rfl)))
            have eb := (hF.done 1 (106, SP.is (.agg LV.toArray)) (by rw [hD]; rfl) (ready_dep hk 1 (by kernel_rfl)))
            exact wpOp_plain rfl rfl (wp_neC (.tmp 105) (.tmp 106) _ rfl V V HVW.out HVW.out (by rw [← HLV.out]; exact ea) (by rw [← HLV.out]; exact eb) false (by simp) ⟨hl2 2, (hF.put 2 107 (SP.is (.bool false)) (.bool false) (by rw [hD]; rfl) rfl (by rw [hD]; rfl) (by rw [hsz]; decide) (by rw [hl]; decide)), hb1, r16, r18⟩)
          · have hk3 := hk
            exact wpOp_plain rfl rfl (wp_move_v (ac.eval (.tmp 107)) rfl rfl ⟨hl2 3, (hF.put 3 108 (SP.is (.bool false)) (ac.eval (.tmp 107)) (by rw [hD]; rfl) ((hF.done 2 (107, SP.is (.bool false)) (by rw [hD]; rfl) (ready_dep hk 2 (by kernel_rfl)))) (by rw [hD]; rfl) (by rw [hsz]; decide) (by rw [hl]; decide)), hb1, r16, r18⟩)
          · have hk3 := hk
            exact wpOp_wanted rfl (wanted_g (g := 3) (b := false) rfl rfl (hF.done 3 (108, SP.is (.bool false)) (by rw [hD]; rfl) (ready_dep hk 3 (by kernel_rfl))) (by rw [hF.size, hsz]; decide)) (wp_move_v (ac.eval (.tmp 17)) rfl rfl ⟨hl2 4, (hF.put 4 109 (SP.is (.int .i64 RE)) (ac.eval (.tmp 17)) (by rw [hD]; rfl) (((hF.keep 17 (by rw [hD]; rfl)).trans zs17)) (by rw [hD]; rfl) (by rw [hsz]; decide) (by rw [hl]; decide)), hb1, r16, r18⟩)
          · have hk3 := hk
            exact wpOp_wanted rfl (wanted_g (g := 3) (b := false) rfl rfl (hF.done 3 (108, SP.is (.bool false)) (by rw [hD]; rfl) (ready_dep hk 3 (by kernel_rfl))) (by rw [hF.size, hsz]; decide)) (wp_move_v (ac.eval (.tmp 19)) rfl rfl ⟨hl2 5, (hF.put 5 110 (SP.is (.int .i64 RE)) (ac.eval (.tmp 19)) (by rw [hD]; rfl) (((hF.keep 19 (by rw [hD]; rfl)).trans zs19)) (by rw [hD]; rfl) (by rw [hsz]; decide) (by rw [hl]; decide)), hb1, r16, r18⟩)
          · have hk3 := hk
            have ea := (hF.done 4 (109, SP.is (.int .i64 RE)) (by rw [hD]; rfl) (ready_dep hk 4 (by kernel_rfl)))
            have eb := (hF.done 5 (110, SP.is (.int .i64 RE)) (by rw [hD]; rfl) (ready_dep hk 5 (by kernel_rfl)))
            exact wpOp_wanted rfl (wanted_g (g := 3) (b := false) rfl rfl (hF.done 3 (108, SP.is (.bool false)) (by rw [hD]; rfl) (ready_dep hk 3 (by kernel_rfl))) (by rw [hF.size, hsz]; decide)) (wp_neqE rfl RE ea eb ⟨hl2 6, (hF.put 6 111 (SP.is (.bool false)) (.bool false) (by rw [hD]; rfl) rfl (by rw [hD]; rfl) (by rw [hsz]; decide) (by rw [hl]; decide)), hb1, r16, r18⟩)
          · have hk3 := hk
            have ea := (hF.done 3 (108, SP.is (.bool false)) (by rw [hD]; rfl) (ready_dep hk 3 (by kernel_rfl)))
            have eb := (hF.done 6 (111, SP.is (.bool false)) (by rw [hD]; rfl) (ready_dep hk 6 (by kernel_rfl)))
            exact wpOp_plain rfl rfl (wp_pick_f (.bool false) rfl ea eb ⟨hl2 7, (hF.put 7 112 (SP.is (.bool false)) (.bool false) (by rw [hD]; rfl) rfl (by rw [hD]; rfl) (by rw [hsz]; decide) (by rw [hl]; decide)), hb1, r16, r18⟩)
          · have hk3 := hk
            exact wpOp_plain rfl rfl (wp_move_v (ac.eval (.tmp 112)) rfl rfl ⟨hl2 8, (hF.put 8 113 (SP.is (.bool false)) (ac.eval (.tmp 112)) (by rw [hD]; rfl) ((hF.done 7 (112, SP.is (.bool false)) (by rw [hD]; rfl) (ready_dep hk 7 (by kernel_rfl)))) (by rw [hD]; rfl) (by rw [hsz]; decide) (by rw [hl]; decide)), hb1, r16, r18⟩)
          · have hk3 := hk
            exact wpOp_wanted rfl (wanted_g (g := 8) (b := false) rfl rfl (hF.done 8 (113, SP.is (.bool false)) (by rw [hD]; rfl) (ready_dep hk 8 (by kernel_rfl))) (by rw [hF.size, hsz]; decide)) (wp_move_v (ac.eval (.tmp 14)) rfl rfl ⟨hl2 9, (hF.put 9 114 (SP.is (.slice (some ⟨G, 0, none⟩) j j)) (ac.eval (.tmp 14)) (by rw [hD]; rfl) (((hF.keep 14 (by rw [hD]; rfl)).trans zs14)) (by rw [hD]; rfl) (by rw [hsz]; decide) (by rw [hl]; decide)), hb1, r16, r18⟩)
          · have hk3 := hk
            exact wpOp_wanted rfl (wanted_g (g := 8) (b := false) rfl rfl (hF.done 8 (113, SP.is (.bool false)) (by rw [hD]; rfl) (ready_dep hk 8 (by kernel_rfl))) (by rw [hF.size, hsz]; decide)) (wp_move_v (ac.eval (.tmp 1)) rfl rfl ⟨hl2 10, (hF.put 10 115 (SP.is (.slice B n cb)) (ac.eval (.tmp 1)) (by rw [hD]; rfl) (((hF.keep 1 (by rw [hD]; rfl)).trans zs1)) (by rw [hD]; rfl) (by rw [hsz]; decide) (by rw [hl]; decide)), hb1, r16, r18⟩)
          · have hk3 := hk
            have ea := (hF.done 10 (115, SP.is (.slice B n cb)) (by rw [hD]; rfl) (ready_dep hk 10 (by kernel_rfl)))
            exact wpOp_wanted rfl (wanted_g (g := 8) (b := false) rfl rfl (hF.done 8 (113, SP.is (.bool false)) (by rw [hD]; rfl) (ready_dep hk 8 (by kernel_rfl))) (by rw [hF.size, hsz]; decide)) (wp_len_s 26 5 B n cb rfl Try.underlying26 ea ⟨hl2 11, (hF.put 11 116 (SP.is (.int .i64 (n : Int))) (.int .i64 (n : Int)) (by rw [hD]; rfl) rfl (by rw [hD]; rfl) (by rw [hsz]; decide) (by rw [hl]; decide)), hb1, r16, r18⟩)
          · have hk3 := hk
            have ea := (hF.done 9 (114, SP.is (.slice (some ⟨G, 0, none⟩) j j)) (by rw [hD]; rfl) (ready_dep hk 9 (by kernel_rfl)))
            have eb := (hF.done 11 (116, SP.is (.int .i64 (n : Int))) (by rw [hD]; rfl) (ready_dep hk 11 (by kernel_rfl)))
            exact wpOp_wanted rfl (wanted_g (g := 8) (b := false) rfl rfl (hF.done 8 (113, SP.is (.bool false)) (by rw [hD]; rfl) (ready_dep hk 8 (by kernel_rfl))) (by rw [hF.size, hsz]; decide)) (wp_cutTo 26 5 (.tmp 114) (.tmp 116) (some ⟨G, 0, none⟩) j j n 1 rfl ea eb HNM.out (Nat.le_refl _) Try.underlying26 info_u8 ⟨hl2 12, (hF.put 12 117 (SP.is (.slice (some ⟨G, 0, none⟩) n j)) (.slice (some ⟨G, 0, none⟩) n j) (by rw [hD]; rfl) rfl (by rw [hD]; rfl) (by rw [hsz]; decide) (by rw [hl]; decide)), hb1, r16, r18⟩)
          · have hk3 := hk
            have ea := (hF.done 12 (117, SP.is (.slice (some ⟨G, 0, none⟩) n j)) (by rw [hD]; rfl) (ready_dep hk 12 (by kernel_rfl)))
            exact wpOp_wanted rfl (wanted_g (g := 8) (b := false) rfl rfl (hF.done 8 (113, SP.is (.bool false)) (by rw [hD]; rfl) (ready_dep hk 8 (by kernel_rfl))) (by rw [hF.size, hsz]; decide)) (wp_convs rfl bs _ ea (HS1.out W hb1) ⟨hl2 13, (hF.put 13 118 (SP.is (.string (str bs))) (.string (str bs)) (by rw [hD]; rfl) rfl (by rw [hD]; rfl) (by rw [hsz]; decide) (by rw [hl]; decide)), hb1, r16, r18⟩)
          · have hk3 := hk
            exact wpOp_wanted rfl (wanted_g (g := 8) (b := false) rfl rfl (hF.done 8 (113, SP.is (.bool false)) (by rw [hD]; rfl) (ready_dep hk 8 (by kernel_rfl))) (by rw [hF.size, hsz]; decide)) (wp_move_v (ac.eval (.tmp 1)) rfl rfl ⟨hl2 14, (hF.put 14 119 (SP.is (.slice B n cb)) (ac.eval (.tmp 1)) (by rw [hD]; rfl) (((hF.keep 1 (by rw [hD]; rfl)).trans zs1)) (by rw [hD]; rfl) (by rw [hsz]; decide) (by rw [hl]; decide)), hb1, r16, r18⟩)
          · have hk3 := hk
            have ea := (hF.done 14 (119, SP.is (.slice B n cb)) (by rw [hD]; rfl) (ready_dep hk 14 (by kernel_rfl)))
            exact wpOp_wanted rfl (wanted_g (g := 8) (b := false) rfl rfl (hF.done 8 (113, SP.is (.bool false)) (by rw [hD]; rfl) (ready_dep hk 8 (by kernel_rfl))) (by rw [hF.size, hsz]; decide)) (wp_convs rfl bs _ ea (HS2.out W hb1) ⟨hl2 15, (hF.put 15 120 (SP.is (.string (str bs))) (.string (str bs)) (by rw [hD]; rfl) rfl (by rw [hD]; rfl) (by rw [hsz]; decide) (by rw [hl]; decide)), hb1, r16, r18⟩)
          · have hk3 := hk
            have ea := (hF.done 13 (118, SP.is (.string (str bs))) (by rw [hD]; rfl) (ready_dep hk 13 (by kernel_rfl)))
            have eb := (hF.done 15 (120, SP.is (.string (str bs))) (by rw [hD]; rfl) (ready_dep hk 15 (by kernel_rfl)))
            exact wpOp_wanted rfl (wanted_g (g := 8) (b := false) rfl rfl (hF.done 8 (113, SP.is (.bool false)) (by rw [hD]; rfl) (ready_dep hk 8 (by kernel_rfl))) (by rw [hF.size, hsz]; decide)) (wp_neqs rfl bs ea eb ⟨hl2 16, (hF.put 16 121 (SP.is (.bool false)) (.bool false) (by rw [hD]; rfl) rfl (by rw [hD]; rfl) (by rw [hsz]; decide) (by rw [hl]; decide)), hb1, r16, r18⟩)
          · have hk3 := hk
            have ea := (hF.done 8 (113, SP.is (.bool false)) (by rw [hD]; rfl) (ready_dep hk 8 (by kernel_rfl)))
            have eb := (hF.done 16 (121, SP.is (.bool false)) (by rw [hD]; rfl) (ready_dep hk 16 (by kernel_rfl)))
            exact wpOp_plain rfl rfl (wp_pick_f (.bool false) rfl ea eb ⟨hl2 17, (hF.put 17 122 (SP.is (.bool false)) (.bool false) (by rw [hD]; rfl) rfl (by rw [hD]; rfl) (by rw [hsz]; decide) (by rw [hl]; decide)), hb1, r16, r18⟩)
        · clear hb1 r16 r18 
          intro listed ac W hI hr
          obtain ⟨hl, hF, hb1, r16, r18⟩ := hI
          have hall := all_listed (by kernel_rfl) hl hr
          have h105 : ac.eval (.tmp 105) = .agg LV.toArray := hF.done 0 (105, SP.is (.agg LV.toArray)) (by rw [hD]; rfl) (hall 0 (by decide))
          have h106 : ac.eval (.tmp 106) = .agg LV.toArray := hF.done 1 (106, SP.is (.agg LV.toArray)) (by rw [hD]; rfl) (hall 1 (by decide))
          have h107 : ac.eval (.tmp 107) = .bool false := hF.done 2 (107, SP.is (.bool false)) (by rw [hD]; rfl) (hall 2 (by decide))
          have h108 : ac.eval (.tmp 108) = .bool false := hF.done 3 (108, SP.is (.bool false)) (by rw [hD]; rfl) (hall 3 (by decide))
          have h109 : ac.eval (.tmp 109) = .int .i64 RE := hF.done 4 (109, SP.is (.int .i64 RE)) (by rw [hD]; rfl) (hall 4 (by decide))
          have h110 : ac.eval (.tmp 110) = .int .i64 RE := hF.done 5 (110, SP.is (.int .i64 RE)) (by rw [hD]; rfl) (hall 5 (by decide))
          have h111 : ac.eval (.tmp 111) = .bool false := hF.done 6 (111, SP.is (.bool false)) (by rw [hD]; rfl) (hall 6 (by decide))
          have h112 : ac.eval (.tmp 112) = .bool false := hF.done 7 (112, SP.is (.bool false)) (by rw [hD]; rfl) (hall 7 (by decide))
          have h113 : ac.eval (.tmp 113) = .bool false := hF.done 8 (113, SP.is (.bool false)) (by rw [hD]; rfl) (hall 8 (by decide))
          have h114 : ac.eval (.tmp 114) = .slice (some ⟨G, 0, none⟩) j j := hF.done 9 (114, SP.is (.slice (some ⟨G, 0, none⟩) j j)) (by rw [hD]; rfl) (hall 9 (by decide))
          have h115 : ac.eval (.tmp 115) = .slice B n cb := hF.done 10 (115, SP.is (.slice B n cb)) (by rw [hD]; rfl) (hall 10 (by decide))
          have h116 : ac.eval (.tmp 116) = .int .i64 (n : Int) := hF.done 11 (116, SP.is (.int .i64 (n : Int))) (by rw [hD]; rfl) (hall 11 (by decide))
          have h117 : ac.eval (.tmp 117) = .slice (some ⟨G, 0, none⟩) n j := hF.done 12 (117, SP.is (.slice (some ⟨G, 0, none⟩) n j)) (by rw [hD]; rfl) (hall 12 (by decide))
          have h118 : ac.eval (.tmp 118) = .string (str bs) := hF.done 13 (118, SP.is (.string (str bs))) (by rw [hD]; rfl) (hall 13 (by decide))
          have h119 : ac.eval (.tmp 119) = .slice B n cb := hF.done 14 (119, SP.is (.slice B n cb)) (by rw [hD]; rfl) (hall 14 (by decide))
          have h120 : ac.eval (.tmp 120) = .string (str bs) := hF.done 15 (120, SP.is (.string (str bs))) (by rw [hD]; rfl) (hall 15 (by decide))
          have h121 : ac.eval (.tmp 121) = .bool false := hF.done 16 (121, SP.is (.bool false)) (by rw [hD]; rfl) (hall 16 (by decide))
          have h122 : ac.eval (.tmp 122) = .bool false := hF.done 17 (122, SP.is (.bool false)) (by rw [hD]; rfl) (hall 17 (by decide))
          have ea := hF.lay [(105, .agg LV.toArray), (106, .agg LV.toArray), (107, .bool false), (108, .bool false), (109, .int .i64 RE), (110, .int .i64 RE), (111, .bool false), (112, .bool false), (113, .bool false), (114, .slice (some ⟨G, 0, none⟩) j j), (115, .slice B n cb), (116, .int .i64 (n : Int)), (117, .slice (some ⟨G, 0, none⟩) n j), (118, .string (str bs)), (119, .slice B n cb), (120, .string (str bs)), (121, .bool false), (122, .bool false)] (by rw [hD, hsz]; rfl) (by simp only [List.forall_mem_cons, List.not_mem_nil, false_implies, implies_true, and_true]; exact ⟨h105, h106, h107, h108, h109, h110, h111, h112, h113, h114, h115, h116, h117, h118, h119, h120, h121, h122⟩)
          rw [ha0] at ea
          simp only [List.foldl_cons, List.foldl_nil, List.setIfInBounds_toArray, List.set_cons_zero, List.set_cons_succ] at ea
          clear hF hall hr hl hD  zs1 zs14 zs16 zs17 zs18 zs19 ha0 hsz h105 h106 h107 h108 h109 h110 h111 h112 h113 h114 h115 h116 h117 h118 h119 h120 h121 h122
          subst ea
          have K7 : Hid (Kb w W w.heap.size L (.slice A1 N c1) (.slice A2 N c2) DB) := (K0.out.keep B6.out).keep hb1
          have RO7 : Hid (Row W G (vB (owb bs 20)) 5) := Row.below RO6.out hb1 RO6.out.lt
          have RV7 : Hid (Row W b16 LV tC) := Row.below S6.out hb1 S6.out.lt
          have SV7 : Hid (SlAt W (.slice B n cb) bs) := HS2.out W hb1
          clear hb1 r16 r18 HS1 HS2 S6 T6 RO6 B6 K0 BW
          go_wp2
          go_loopw [20] (fun i wq => ∃ y : Nat, n ≤ y ∧ y ≤ j ∧ i = .int .i64 (y : Int) ∧ wq = W) (fun i _ => j - (intOf i).toNat)
          case atStart => exact ⟨n, Nat.le_refl _, HNM.out, rfl, rfl⟩
          case round =>
            obtain ⟨y, hy1, hy2, rfl, rfl⟩ := hrel
            by_cases hlt : y < j
            · have cy : _ = some (Value.int .u8 201) := RO7.out.cell y (.int .u8 201) (by unfold vB; rw [List.getElem?_map, owb_at bs y (by rw [HB.out]; exact hy1) (by rw [HB.out]; have := HM.out; omega)]; rfl)
              have hy3 : y ≤ 140737488351252 := by omega
              go_wp2
              exact ⟨⟨y + 1, by omega, hlt, by go_num, trivial⟩, by simp [intOf]; omega⟩
            · obtain rfl : y = j := by omega
              clear hlt hy2
              rcases HCV.out with ⟨v1, v2, v3, v4⟩ | ⟨v1, v2, v4⟩
              · subst v4
                have HBV : Hid (∀ X, Calls Try.prog 10 #[.agg LV.toArray] X fun e w' => ∃ A cap, e = .returned (.tuple #[.slice A n cap, .int .i64 0]) ∧ Bw w' (.slice A n cap) bs ∧ Below X.heap.size X w') := fun X => by
                  refine (lbytes_ok V v1 v2 LV HLV.out X).mono ?_
                  rintro e w' ⟨A, m, cap, hm, he, q1, q2, q3⟩
                  rw [← v3] at hm q1
                  rw [HB.out] at hm
                  subst hm
                  exact ⟨A, cap, he, q1, q3⟩
                clear v1 v2 v3
                go_wp2_with (first
                  | (refine wpList_ldS rfl tC (.tmp 16) rfl b16 0 rfl LV _ RV7.out.all Try.underlying25 rfl HIV.out ?_; simp only [Act.put, List.setIfInBounds_toArray, List.set_cons_zero, List.set_cons_succ])
                  | (go_at_call 10; refine Calls.mono (HBV.out _) ?_; rintro e Q1 ⟨A9, c9, rfl, q1, q2⟩; have K8 : Hid (Kb w Q1 w.heap.size L (.slice A1 N c1) (.slice A2 N c2) DB) := K7.out.keep q2; have SA : Hid (SlAt Q1 (.slice A9 n c9) bs) := Bw.sl q1; have SR : Hid (SlAt Q1 (.slice B n cb) bs) := SlAt.be SV7.out q2; clear q1 q2)
                  | (refine wpList_conv_s rfl (.tmp 143) rfl (.slice A9 n c9) bs rfl SA.out ?_; simp only [Act.put, List.setIfInBounds_toArray, List.set_cons_zero, List.set_cons_succ])
                  | (refine wpList_conv_s rfl (.tmp 145) rfl (.slice B n cb) bs rfl SR.out ?_; simp only [Act.put, List.setIfInBounds_toArray, List.set_cons_zero, List.set_cons_succ])
                  | (refine wpList_neq_s rfl (.tmp 144) (.tmp 146) _ _ rfl bs bs rfl rfl false (by simp) ?_; simp only [Act.put, List.setIfInBounds_toArray, List.set_cons_zero, List.set_cons_succ])
                  | (go_at_call 14; refine Calls.mono (Kb.owned K8.out HN9.out) ?_; rintro e Q2 ⟨rfl, q⟩; have BF : Hid (Below w.heap.size w Q2) := q; clear q))
                go_ret
                exact ⟨rfl, BF.out⟩
              · subst v4
                clear v1 v2
                go_wp2_with (go_at_call 14; refine Calls.mono (Kb.owned K7.out HN9.out) ?_; rintro e Q2 ⟨rfl, q⟩; have BF : Hid (Below w.heap.size w Q2) := q; clear q)
                go_ret
                exact ⟨rfl, BF.out⟩
  · subst f3
    have K0 : Hid (Kb w X4 w.heap.size L (.slice A1 N c1) (.slice A2 N c2) DB) := K4.out
    clear K4 HRA HCS f2
    go_upto_region 11 with fail
    have BW : Hid (Below w.heap.size w X4) := K0.out.be
    go_wp2_with (first
      | (refine wpList_make1 rfl (.tmp 76) (.tmp 76) rfl (n + 20) _ _ (by omega) (by omega) rfl rfl (by omega) ?_; intro W1 q1 q2 q3; have R1 : Hid (Row W1 X4.heap.size (vB (List.replicate (n + 20) 0#8)) 5) := q1; have BY1 : Hid (Below X4.heap.size X4 W1) := q2; clear q1 q2 q3; simp only [Act.put, List.setIfInBounds_toArray, List.set_cons_zero, List.set_cons_succ])
      | (refine wpList_copyb rfl (.tmp 78) (.tmp 79) rfl X4.heap.size (n + 20) n cb B bs HB.out rfl rfl (SlAt.be HV.out (BW.out.trans (BY1.out.mono BW.out.size))) (R1.out.there 0 _ HTL.out) ?_; obtain ⟨Y2, hY2⟩ : ∃ Y2, Y2 = World.setCells W1 X4.heap.size 0 (vB (bs.take (n + 20))) := ⟨_, rfl⟩; rw [← hY2]; obtain ⟨gi, hgi⟩ : ∃ v, v = goInt (vB (bs.take (n + 20))).length := ⟨_, rfl⟩; rw [← hgi]; clear hgi; have R2 : Hid (Row Y2 X4.heap.size (vB (owb bs 0)) 5) := (by { show Row _ _ _ _; rw [hY2, ← owb_0 bs n HB.out]; exact Row.setCells 0 _ R1.out HTL2.out }); have BY2 : Hid (Below X4.heap.size X4 Y2) := (by { show Below _ _ _; rw [hY2]; exact below_setCells BY1.out (Nat.le_refl _) _ }); clear hY2 R1 BY1; simp only [Act.put, List.setIfInBounds_toArray, List.set_cons_zero, List.set_cons_succ]))
    obtain ⟨G, hG⟩ : ∃ G, G = X4.heap.size := ⟨_, rfl⟩
    obtain ⟨M, hM⟩ : ∃ M, M = n + 20 := ⟨_, rfl⟩
    rw [← hG] at R2 ⊢
    rw [← hM]
    have HM : Hid (M = n + 20) := hM
    have HG : Hid (G = X4.heap.size) := hG
    have HNM : Hid (n ≤ M) := by show _ ≤ _; omega
    have hMl : M ≤ 140737488351252 := by omega
    clear hM hG
    go_loopw [15] (fun i wr => ∃ j : Nat, n ≤ j ∧ j ≤ M ∧ i = .int .i64 (j : Int) ∧ Row wr G (vB (owb bs (j - n))) 5 ∧ Below X4.heap.size X4 wr) (fun i _ => M - (intOf i).toNat)
    case atStart => exact ⟨n, Nat.le_refl _, HNM.out, rfl, by rw [Nat.sub_self]; exact R2.out, BY2.out⟩
    case round =>
      obtain ⟨j, hj1, hj2, rfl, r, hbl⟩ := hrel
      by_cases hlt : j < M
      · have RR : Hid (Row wr G (vB (owb bs (j - n))) 5) := r
        have HL : Hid (j < (vB (owb bs (j - n))).length) := by show _ < _; rw [vB_length, owb_len _ _ (by have := HM.out; omega), HB.out]; have := HM.out; omega
        have HS : Hid ((vB (owb bs (j - n))).set j (.int .u8 201) = vB (owb bs (j + 1 - n))) := by
          have e := owb_set bs (j - n) (by have := HM.out; omega)
          rw [HB.out, show n + (j - n) = j by omega] at e
          show _ = _
          rw [show j + 1 - n = j - n + 1 by omega, ← e, vB_setB]
          rfl
        have HBL : Hid (Below X4.heap.size X4 wr) := hbl
        have hj3 : j ≤ 140737488351252 := by omega
        clear r hbl hj2 R2 BY2
        go_wp2_with (refine wpList_st1 rfl 5 (.tmp 91) (.const (.int .u8 201)) rfl G j (.int .u8 201) (vB (owb bs (j - n))) 5 rfl rfl rfl RR.out HL.out info_u8 rfl ?_; intro X q1 q2; rw [HS.out] at q1; have RX : Hid (Row X G (vB (owb bs (j + 1 - n))) 5) := q1; have BX : Hid (Below X4.heap.size X4 X) := gro_newL HBL.out (Nat.le_of_eq HG.out.symm) q2; clear q1 q2)
        exact ⟨⟨j + 1, by omega, hlt, by go_num, RX.out, BX.out⟩, by simp [intOf]; omega⟩
      · obtain rfl : j = M := by omega
        have RO : Hid (Row wr G (vB (owb bs 20)) 5) := by have := r; rwa [show j - n = 20 by have := HM.out; omega] at this
        have BO : Hid (Below X4.heap.size X4 wr) := hbl
        clear r hbl hlt hj2 R2 BY2
        go_upto_region 19 with (first
          | (refine wpList_cutT rfl 26 5 (.tmp 93) (.tmp 95) (some ⟨G, 0, none⟩) j j n 1 rfl rfl rfl HNM.out (Nat.le_refl _) Try.underlying26 info_u8 ?_; simp only [Act.put, List.setIfInBounds_toArray, List.set_cons_zero, List.set_cons_succ])
          | (go_at_call 12; refine Calls.mono (HR1.out (some ⟨G, 0, none⟩) j wr (.inr ⟨G, 0, j, by rw [HB.out], by { rw [HB.out]; exact HNM.out }, owb_range RO.out⟩) (fun e => by cases e)) ?_; rintro e Z1 ⟨rfl, q⟩; have B1 : Hid (Below X4.heap.size X4 Z1) := BO.out.trans (q.mono BO.out.size); have RO1 : Hid (Row Z1 G (vB (owb bs 20)) 5) := Row.below RO.out q RO.out.lt; clear q)
          | (go_at_call 13; refine Calls.mono (HR2.out Z3 (BW.out.trans (B3.out.mono BW.out.size))) ?_; rintro e Z4 ⟨rfl, q⟩; have B4 : Hid (Below X4.heap.size X4 Z4) := B3.out.trans (q.mono B3.out.size); have RO4 : Hid (Row Z4 G (vB (owb bs 20)) 5) := Row.below RO3.out q RO3.out.lt; have S4 : Hid (Row Z4 Z1.heap.size LV tC) := Row.below S3.out q S3.out.lt; clear q)
          | (refine wpList_stL rfl tC (.tmp 16) (.tmp 98) rfl Z1.heap.size LV zC.cells tC rfl rfl A2.out HLVL.out HIV.out HLVO.out ?_; intro Z3 q1 q2; have q3 : Below Z1.heap.size Z1 Z3 := gro_newL D2.out (Nat.le_refl _) q2; have S3 : Hid (Row Z3 Z1.heap.size LV tC) := q1; have B3 : Hid (Below X4.heap.size X4 Z3) := B1.out.trans (q3.mono B1.out.size); have RO3 : Hid (Row Z3 G (vB (owb bs 20)) 5) := Row.below RO1.out q3 RO1.out.lt; clear q1 q2 q3 A2 D2)
          | (refine wpList_stL rfl tC (.tmp 18) (.tmp 103) rfl Z4.heap.size LV zC.cells tC rfl rfl A5.out HLVL.out HIV.out HLVO.out ?_; intro Z6 q1 q2; have q3 : Below Z4.heap.size Z4 Z6 := gro_newL D5.out (Nat.le_refl _) q2; have S6 : Hid (Row Z6 Z1.heap.size LV tC) := Row.below S4.out q3 S4.out.lt; have T6 : Hid (Row Z6 Z4.heap.size LV tC) := q1; have B6 : Hid (Below X4.heap.size X4 Z6) := B4.out.trans (q3.mono B4.out.size); have RO6 : Hid (Row Z6 G (vB (owb bs 20)) 5) := Row.below RO4.out q3 RO4.out.lt; clear q1 q2 q3 A5 D5)
          | (refine wpList_alC rfl rfl ?_; intro Z2 q1 q2 q3; have A2 : Hid (Row Z2 Z1.heap.size zC.cells tC) := q1; have D2 : Hid (Below Z1.heap.size Z1 Z2) := q2; clear q1 q2 q3; simp only [Act.put, List.setIfInBounds_toArray, List.set_cons_zero, List.set_cons_succ])
          | (refine wpList_alC rfl rfl ?_; intro Z5 q1 q2 q3; have A5 : Hid (Row Z5 Z4.heap.size zC.cells tC) := q1; have D5 : Hid (Below Z4.heap.size Z4 Z5) := q2; clear q1 q2 q3; simp only [Act.put, List.setIfInBounds_toArray, List.set_cons_zero, List.set_cons_succ]))
        obtain ⟨b16, h16⟩ : ∃ b, b = Z1.heap.size := ⟨_, rfl⟩
        obtain ⟨b18, h18⟩ : ∃ b, b = Z4.heap.size := ⟨_, rfl⟩
        rw [← h16] at S6 ⊢
        rw [← h18] at T6 ⊢
        have hb1 := Below.refl Z6.heap.size Z6
        have r16 := S6.out
        have r18 := T6.out
        have HS1 : Hid (∀ W, Below Z6.heap.size Z6 W → SlAt W (.slice (some ⟨G, 0, none⟩) n j) bs) := fun W k => .inr ⟨G, 0, j, by rw [HB.out], by rw [HB.out]; exact HNM.out, owb_range (Row.below RO6.out k RO6.out.lt)⟩
        have HS2 : Hid (∀ W, Below Z6.heap.size Z6 W → SlAt W (.slice B n cb) bs) := fun W k => SlAt.be HV.out ((BW.out.trans (B6.out.mono BW.out.size)).trans (k.mono (BW.out.trans (B6.out.mono BW.out.size)).size))
        clear h16 h18
        refine wp_named fun a0 ha0 => ?_
        have hsz : a0.tmps.size = 155 := by rw [ha0]; rfl
        have zs1 : a0.eval (.tmp 1) = .slice B n cb := by rw [ha0]; rfl
        have zs14 : a0.eval (.tmp 14) = .slice (some ⟨G, 0, none⟩) j j := by rw [ha0]; rfl
        have zs16 : a0.eval (.tmp 16) = .pointer (some ⟨b16, 0, none⟩) := by rw [ha0]; rfl
        have zs17 : a0.eval (.tmp 17) = .int .i64 RE := by rw [ha0]; rfl
        have zs18 : a0.eval (.tmp 18) = .pointer (some ⟨b18, 0, none⟩) := by rw [ha0]; rfl
        have zs19 : a0.eval (.tmp 19) = .int .i64 RE := by rw [ha0]; rfl
        obtain ⟨D, hD⟩ : ∃ D : List (Tmp × SP), D = [(105, SP.is (.agg LV.toArray)), (106, SP.is (.agg LV.toArray)), (107, SP.is (.bool false)), (108, SP.is (.bool false)), (109, SP.is (.int .i64 RE)), (110, SP.is (.int .i64 RE)), (111, SP.is (.bool false)), (112, SP.is (.bool false)), (113, SP.is (.bool false)), (114, SP.is (.slice (some ⟨G, 0, none⟩) j j)), (115, SP.is (.slice B n cb)), (116, SP.is (.int .i64 (n : Int))), (117, SP.is (.slice (some ⟨G, 0, none⟩) n j)), (118, SP.is (.string (str bs))), (119, SP.is (.slice B n cb)), (120, SP.is (.string (str bs))), (121, SP.is (.bool false)), (122, SP.is (.bool false))] := ⟨_, rfl⟩
        refine wp_region_down (by kernel_rfl) (fun listed ac W => listed.size = 18 ∧ Fp D a0 listed ac W ∧ Below Z6.heap.size Z6 W ∧ Row W b16 LV tC ∧ Row W b18 LV tC) ?_ ?_ ?_
        · exact ⟨by simp, Fp.start D a0 _ _, Below.drew hb1, Row.drew r16, Row.drew r18⟩
        · clear ha0 hb1 r16 r18 
          intro listed ac W k hI hdn hk
          obtain ⟨hl, hF, hb1, r16, r18⟩ := hI
          have hk1 : k < 18 := List.mem_range.1 (List.mem_filter.1 hk).1
          have hl2 : ∀ j, (listed.setIfInBounds j true).size = 18 := fun j => by rw [Array.size_setIfInBounds]; exact hl
          rcases (show k = 0 ∨ k = 1 ∨ k = 2 ∨ k = 3 ∨ k = 4 ∨ k = 5 ∨ k = 6 ∨ k = 7 ∨ k = 8 ∨ k = 9 ∨ k = 10 ∨ k = 11 ∨ k = 12 ∨ k = 13 ∨ k = 14 ∨ k = 15 ∨ k = 16 ∨ k = 17 by omega) with rfl | rfl | rfl | rfl | rfl | rfl | rfl | rfl | rfl | rfl | rfl | rfl | rfl | rfl | rfl | rfl | rfl | rfl
          · have hk3 := hk
            exact wpOp_plain rfl rfl (wp_load_mid tC (.tmp 16) rfl b16 0 ((hF.keep 16 (by rw [hD]; rfl)).trans zs16) LV _ r16.all Try.underlying25 rfl HIV.out ⟨hl2 0, (hF.put 0 105 (SP.is (.agg LV.toArray)) (.agg LV.toArray) (by rw [hD]; rfl) rfl (by rw [hD]; rfl) (by rw [hsz]; decide) (by rw [hl]; decide)), hb1, r16, r18⟩)
          · have hk3 := hk
            exact wpOp_plain rfl rfl (wp_load_mid tC (.tmp 18) rfl b18 0 ((hF.keep 18 (by rw [hD]; rfl)).trans zs18) LV _ r18.all Try.underlying25 rfl HIV.out ⟨hl2 1, (hF.put 1 106 (SP.is (.agg LV.toArray)) (.agg LV.toArray) (by rw [hD]; rfl) rfl (by rw [hD]; rfl) (by rw [hsz]; decide) (by rw [hl]; decide)), hb1, r16, r18⟩)
          · have hk3 := hk
            have ea := (hF.done 0 (105, SP.is (.agg LV.toArray)) (by rw [hD]; rfl) (ready_dep hk 0 (by kernel_rfl)))
            have eb := (hF.done 1 (106, SP.is (.agg LV.toArray)) (by rw [hD]; rfl) (ready_dep hk 1 (by kernel_rfl)))
            exact wpOp_plain rfl rfl (wp_neC (.tmp 105) (.tmp 106) _ rfl V V HVW.out HVW.out (by rw [← HLV.out]; exact ea) (by rw [← HLV.out]; exact eb) false (by simp) ⟨hl2 2, (hF.put 2 107 (SP.is (.bool false)) (.bool false) (by rw [hD]; rfl) rfl (by rw [hD]; rfl) (by rw [hsz]; decide) (by rw [hl]; decide)), hb1, r16, r18⟩)
          · have hk3 := hk
            exact wpOp_plain rfl rfl (wp_move_v (ac.eval (.tmp 107)) rfl rfl ⟨hl2 3, (hF.put 3 108 (SP.is (.bool false)) (ac.eval (.tmp 107)) (by rw [hD]; rfl) ((hF.done 2 (107, SP.is (.bool false)) (by rw [hD]; rfl) (ready_dep hk 2 (by kernel_rfl)))) (by rw [hD]; rfl) (by rw [hsz]; decide) (by rw [hl]; decide)), hb1, r16, r18⟩)
          · have hk3 := hk
            exact wpOp_wanted rfl (wanted_g (g := 3) (b := false) rfl rfl (hF.done 3 (108, SP.is (.bool false)) (by rw [hD]; rfl) (ready_dep hk 3 (by kernel_rfl))) (by rw [hF.size, hsz]; decide)) (wp_move_v (ac.eval (.tmp 17)) rfl rfl ⟨hl2 4, (hF.put 4 109 (SP.is (.int .i64 RE)) (ac.eval (.tmp 17)) (by rw [hD]; rfl) (((hF.keep 17 (by rw [hD]; rfl)).trans zs17)) (by rw [hD]; rfl) (by rw [hsz]; decide) (by rw [hl]; decide)), hb1, r16, r18⟩)
          · have hk3 := hk
            exact wpOp_wanted rfl (wanted_g (g := 3) (b := false) rfl rfl (hF.done 3 (108, SP.is (.bool false)) (by rw [hD]; rfl) (ready_dep hk 3 (by kernel_rfl))) (by rw [hF.size, hsz]; decide)) (wp_move_v (ac.eval (.tmp 19)) rfl rfl ⟨hl2 5, (hF.put 5 110 (SP.is (.int .i64 RE)) (ac.eval (.tmp 19)) (by rw [hD]; rfl) (((hF.keep 19 (by rw [hD]; rfl)).trans zs19)) (by rw [hD]; rfl) (by rw [hsz]; decide) (by rw [hl]; decide)), hb1, r16, r18⟩)
          · have hk3 := hk
            have ea := (hF.done 4 (109, SP.is (.int .i64 RE)) (by rw [hD]; rfl) (ready_dep hk 4 (by kernel_rfl)))
            have eb := (hF.done 5 (110, SP.is (.int .i64 RE)) (by rw [hD]; rfl) (ready_dep hk 5 (by kernel_rfl)))
            exact wpOp_wanted rfl (wanted_g (g := 3) (b := false) rfl rfl (hF.done 3 (108, SP.is (.bool false)) (by rw [hD]; rfl) (ready_dep hk 3 (by kernel_rfl))) (by rw [hF.size, hsz]; decide)) (wp_neqE rfl RE ea eb ⟨hl2 6, (hF.put 6 111 (SP.is (.bool false)) (.bool false) (by rw [hD]; rfl) rfl (by rw [hD]; rfl) (by rw [hsz]; decide) (by rw [hl]; decide)), hb1, r16, r18⟩)
          · have hk3 := hk
            have ea := (hF.done 3 (108, SP.is (.bool false)) (by rw [hD]; rfl) (ready_dep hk 3 (by kernel_rfl)))
            have eb := (hF.done 6 (111, SP.is (.bool false)) (by rw [hD]; rfl) (ready_dep hk 6 (by kernel_rfl)))
            exact wpOp_plain rfl rfl (wp_pick_f (.bool false) rfl ea eb ⟨hl2 7, (hF.put 7 112 (SP.is (.bool false)) (.bool false) (by rw [hD]; rfl) rfl (by rw [hD]; rfl) (by rw [hsz]; decide) (by rw [hl]; decide)), hb1, r16, r18⟩)
          · have hk3 := hk
            exact wpOp_plain rfl rfl (wp_move_v (ac.eval (.tmp 112)) rfl rfl ⟨hl2 8, (hF.put 8 113 (SP.is (.bool false)) (ac.eval (.tmp 112)) (by rw [hD]; rfl) ((hF.done 7 (112, SP.is (.bool false)) (by rw [hD]; rfl) (ready_dep hk 7 (by kernel_rfl)))) (by rw [hD]; rfl) (by rw [hsz]; decide) (by rw [hl]; decide)), hb1, r16, r18⟩)
          · have hk3 := hk
            exact wpOp_wanted rfl (wanted_g (g := 8) (b := false) rfl rfl (hF.done 8 (113, SP.is (.bool false)) (by rw [hD]; rfl) (ready_dep hk 8 (by kernel_rfl))) (by rw [hF.size, hsz]; decide)) (wp_move_v (ac.eval (.tmp 14)) rfl rfl ⟨hl2 9, (hF.put 9 114 (SP.is (.slice (some ⟨G, 0, none⟩) j j)) (ac.eval (.tmp 14)) (by rw [hD]; rfl) (((hF.keep 14 (by rw [hD]; rfl)).trans zs14)) (by rw [hD]; rfl) (by rw [hsz]; decide) (by rw [hl]; decide)), hb1, r16, r18⟩)
          · have hk3 := hk
            exact wpOp_wanted rfl (wanted_g (g := 8) (b := false) rfl rfl (hF.done 8 (113, SP.is (.bool false)) (by rw [hD]; rfl) (ready_dep hk 8 (by kernel_rfl))) (by rw [hF.size, hsz]; decide)) (wp_move_v (ac.eval (.tmp 1)) rfl rfl ⟨hl2 10, (hF.put 10 115 (SP.is (.slice B n cb)) (ac.eval (.tmp 1)) (by rw [hD]; rfl) (((hF.keep 1 (by rw [hD]; rfl)).trans zs1)) (by rw [hD]; rfl) (by rw [hsz]; decide) (by rw [hl]; decide)), hb1, r16, r18⟩)
          · have hk3 := hk
            have ea := (hF.done 10 (115, SP.is (.slice B n cb)) (by rw [hD]; rfl) (ready_dep hk 10 (by kernel_rfl)))
            exact wpOp_wanted rfl (wanted_g (g := 8) (b := false) rfl rfl (hF.done 8 (113, SP.is (.bool false)) (by rw [hD]; rfl) (ready_dep hk 8 (by kernel_rfl))) (by rw [hF.size, hsz]; decide)) (wp_len_s 26 5 B n cb rfl Try.underlying26 ea ⟨hl2 11, (hF.put 11 116 (SP.is (.int .i64 (n : Int))) (.int .i64 (n : Int)) (by rw [hD]; rfl) rfl (by rw [hD]; rfl) (by rw [hsz]; decide) (by rw [hl]; decide)), hb1, r16, r18⟩)
          · have hk3 := hk
            have ea := (hF.done 9 (114, SP.is (.slice (some ⟨G, 0, none⟩) j j)) (by rw [hD]; rfl) (ready_dep hk 9 (by kernel_rfl)))
            have eb := (hF.done 11 (116, SP.is (.int .i64 (n : Int))) (by rw [hD]; rfl) (ready_dep hk 11 (by kernel_rfl)))
            exact wpOp_wanted rfl (wanted_g (g := 8) (b := false) rfl rfl (hF.done 8 (113, SP.is (.bool false)) (by rw [hD]; rfl) (ready_dep hk 8 (by kernel_rfl))) (by rw [hF.size, hsz]; decide)) (wp_cutTo 26 5 (.tmp 114) (.tmp 116) (some ⟨G, 0, none⟩) j j n 1 rfl ea eb HNM.out (Nat.le_refl _) Try.underlying26 info_u8 ⟨hl2 12, (hF.put 12 117 (SP.is (.slice (some ⟨G, 0, none⟩) n j)) (.slice (some ⟨G, 0, none⟩) n j) (by rw [hD]; rfl) rfl (by rw [hD]; rfl) (by rw [hsz]; decide) (by rw [hl]; decide)), hb1, r16, r18⟩)
          · have hk3 := hk
            have ea := (hF.done 12 (117, SP.is (.slice (some ⟨G, 0, none⟩) n j)) (by rw [hD]; rfl) (ready_dep hk 12 (by kernel_rfl)))
            exact wpOp_wanted rfl (wanted_g (g := 8) (b := false) rfl rfl (hF.done 8 (113, SP.is (.bool false)) (by rw [hD]; rfl) (ready_dep hk 8 (by kernel_rfl))) (by rw [hF.size, hsz]; decide)) (wp_convs rfl bs _ ea (HS1.out W hb1) ⟨hl2 13, (hF.put 13 118 (SP.is (.string (str bs))) (.string (str bs)) (by rw [hD]; rfl) rfl (by rw [hD]; rfl) (by rw [hsz]; decide) (by rw [hl]; decide)), hb1, r16, r18⟩)
          · have hk3 := hk
            exact wpOp_wanted rfl (wanted_g (g := 8) (b := false) rfl rfl (hF.done 8 (113, SP.is (.bool false)) (by rw [hD]; rfl) (ready_dep hk 8 (by kernel_rfl))) (by rw [hF.size, hsz]; decide)) (wp_move_v (ac.eval (.tmp 1)) rfl rfl ⟨hl2 14, (hF.put 14 119 (SP.is (.slice B n cb)) (ac.eval (.tmp 1)) (by rw [hD]; rfl) (((hF.keep 1 (by rw [hD]; rfl)).trans zs1)) (by rw [hD]; rfl) (by rw [hsz]; decide) (by rw [hl]; decide)), hb1, r16, r18⟩)
          · have hk3 := hk
            have ea := (hF.done 14 (119, SP.is (.slice B n cb)) (by rw [hD]; rfl) (ready_dep hk 14 (by kernel_rfl)))
            exact wpOp_wanted rfl (wanted_g (g := 8) (b := false) rfl rfl (hF.done 8 (113, SP.is (.bool false)) (by rw [hD]; rfl) (ready_dep hk 8 (by kernel_rfl))) (by rw [hF.size, hsz]; decide)) (wp_convs rfl bs _ ea (HS2.out W hb1) ⟨hl2 15, (hF.put 15 120 (SP.is (.string (str bs))) (.string (str bs)) (by rw [hD]; rfl) rfl (by rw [hD]; rfl) (by rw [hsz]; decide) (by rw [hl]; decide)), hb1, r16, r18⟩)
          · have hk3 := hk
            have ea := (hF.done 13 (118, SP.is (.string (str bs))) (by rw [hD]; rfl) (ready_dep hk 13 (by kernel_rfl)))
            have eb := (hF.done 15 (120, SP.is (.string (str bs))) (by rw [hD]; rfl) (ready_dep hk 15 (by kernel_rfl)))
            exact wpOp_wanted rfl (wanted_g (g := 8) (b := false) rfl rfl (hF.done 8 (113, SP.is (.bool false)) (by rw [hD]; rfl) (ready_dep hk 8 (by kernel_rfl))) (by rw [hF.size, hsz]; decide)) (wp_neqs rfl bs ea eb ⟨hl2 16, (hF.put 16 121 (SP.is (.bool false)) (.bool false) (by rw [hD]; rfl) rfl (by rw [hD]; rfl) (by rw [hsz]; decide) (by rw [hl]; decide)), hb1, r16, r18⟩)
          · have hk3 := hk
            have ea := (hF.done 8 (113, SP.is (.bool false)) (by rw [hD]; rfl) (ready_dep hk 8 (by kernel_rfl)))
            have eb := (hF.done 16 (121, SP.is (.bool false)) (by rw [hD]; rfl) (ready_dep hk 16 (by kernel_rfl)))
            exact wpOp_plain rfl rfl (wp_pick_f (.bool false) rfl ea eb ⟨hl2 17, (hF.put 17 122 (SP.is (.bool false)) (.bool false) (by rw [hD]; rfl) rfl (by rw [hD]; rfl) (by rw [hsz]; decide) (by rw [hl]; decide)), hb1, r16, r18⟩)
        · clear hb1 r16 r18 
          intro listed ac W hI hr
          obtain ⟨hl, hF, hb1, r16, r18⟩ := hI
          have hall := all_listed (by kernel_rfl) hl hr
          have h105 : ac.eval (.tmp 105) = .agg LV.toArray := hF.done 0 (105, SP.is (.agg LV.toArray)) (by rw [hD]; rfl) (hall 0 (by decide))
          have h106 : ac.eval (.tmp 106) = .agg LV.toArray := hF.done 1 (106, SP.is (.agg LV.toArray)) (by rw [hD]; rfl) (hall 1 (by decide))
          have h107 : ac.eval (.tmp 107) = .bool false := hF.done 2 (107, SP.is (.bool false)) (by rw [hD]; rfl) (hall 2 (by decide))
          have h108 : ac.eval (.tmp 108) = .bool false := hF.done 3 (108, SP.is (.bool false)) (by rw [hD]; rfl) (hall 3 (by decide))
          have h109 : ac.eval (.tmp 109) = .int .i64 RE := hF.done 4 (109, SP.is (.int .i64 RE)) (by rw [hD]; rfl) (hall 4 (by decide))
          have h110 : ac.eval (.tmp 110) = .int .i64 RE := hF.done 5 (110, SP.is (.int .i64 RE)) (by rw [hD]; rfl) (hall 5 (by decide))
          have h111 : ac.eval (.tmp 111) = .bool false := hF.done 6 (111, SP.is (.bool false)) (by rw [hD]; rfl) (hall 6 (by decide))
          have h112 : ac.eval (.tmp 112) = .bool false := hF.done 7 (112, SP.is (.bool false)) (by rw [hD]; rfl) (hall 7 (by decide))
          have h113 : ac.eval (.tmp 113) = .bool false := hF.done 8 (113, SP.is (.bool false)) (by rw [hD]; rfl) (hall 8 (by decide))
          have h114 : ac.eval (.tmp 114) = .slice (some ⟨G, 0, none⟩) j j := hF.done 9 (114, SP.is (.slice (some ⟨G, 0, none⟩) j j)) (by rw [hD]; rfl) (hall 9 (by decide))
          have h115 : ac.eval (.tmp 115) = .slice B n cb := hF.done 10 (115, SP.is (.slice B n cb)) (by rw [hD]; rfl) (hall 10 (by decide))
          have h116 : ac.eval (.tmp 116) = .int .i64 (n : Int) := hF.done 11 (116, SP.is (.int .i64 (n : Int))) (by rw [hD]; rfl) (hall 11 (by decide))
          have h117 : ac.eval (.tmp 117) = .slice (some ⟨G, 0, none⟩) n j := hF.done 12 (117, SP.is (.slice (some ⟨G, 0, none⟩) n j)) (by rw [hD]; rfl) (hall 12 (by decide))
          have h118 : ac.eval (.tmp 118) = .string (str bs) := hF.done 13 (118, SP.is (.string (str bs))) (by rw [hD]; rfl) (hall 13 (by decide))
          have h119 : ac.eval (.tmp 119) = .slice B n cb := hF.done 14 (119, SP.is (.slice B n cb)) (by rw [hD]; rfl) (hall 14 (by decide))
          have h120 : ac.eval (.tmp 120) = .string (str bs) := hF.done 15 (120, SP.is (.string (str bs))) (by rw [hD]; rfl) (hall 15 (by decide))
          have h121 : ac.eval (.tmp 121) = .bool false := hF.done 16 (121, SP.is (.bool false)) (by rw [hD]; rfl) (hall 16 (by decide))
          have h122 : ac.eval (.tmp 122) = .bool false := hF.done 17 (122, SP.is (.bool false)) (by rw [hD]; rfl) (hall 17 (by decide))
          have ea := hF.lay [(105, .agg LV.toArray), (106, .agg LV.toArray), (107, .bool false), (108, .bool false), (109, .int .i64 RE), (110, .int .i64 RE), (111, .bool false), (112, .bool false), (113, .bool false), (114, .slice (some ⟨G, 0, none⟩) j j), (115, .slice B n cb), (116, .int .i64 (n : Int)), (117, .slice (some ⟨G, 0, none⟩) n j), (118, .string (str bs)), (119, .slice B n cb), (120, .string (str bs)), (121, .bool false), (122, .bool false)] (by rw [hD, hsz]; rfl) (by simp only [List.forall_mem_cons, List.not_mem_nil, false_implies, implies_true, and_true]; exact ⟨h105, h106, h107, h108, h109, h110, h111, h112, h113, h114, h115, h116, h117, h118, h119, h120, h121, h122⟩)
          rw [ha0] at ea
          simp only [List.foldl_cons, List.foldl_nil, List.setIfInBounds_toArray, List.set_cons_zero, List.set_cons_succ] at ea
          clear hF hall hr hl hD  zs1 zs14 zs16 zs17 zs18 zs19 ha0 hsz h105 h106 h107 h108 h109 h110 h111 h112 h113 h114 h115 h116 h117 h118 h119 h120 h121 h122
          subst ea
          have K7 : Hid (Kb w W w.heap.size L (.slice A1 N c1) (.slice A2 N c2) DB) := (K0.out.keep B6.out).keep hb1
          have RO7 : Hid (Row W G (vB (owb bs 20)) 5) := Row.below RO6.out hb1 RO6.out.lt
          have RV7 : Hid (Row W b16 LV tC) := Row.below S6.out hb1 S6.out.lt
          have SV7 : Hid (SlAt W (.slice B n cb) bs) := HS2.out W hb1
          clear hb1 r16 r18 HS1 HS2 S6 T6 RO6 B6 K0 BW
          go_wp2
          go_loopw [20] (fun i wq => ∃ y : Nat, n ≤ y ∧ y ≤ j ∧ i = .int .i64 (y : Int) ∧ wq = W) (fun i _ => j - (intOf i).toNat)
          case atStart => exact ⟨n, Nat.le_refl _, HNM.out, rfl, rfl⟩
          case round =>
            obtain ⟨y, hy1, hy2, rfl, rfl⟩ := hrel
            by_cases hlt : y < j
            · have cy : _ = some (Value.int .u8 201) := RO7.out.cell y (.int .u8 201) (by unfold vB; rw [List.getElem?_map, owb_at bs y (by rw [HB.out]; exact hy1) (by rw [HB.out]; have := HM.out; omega)]; rfl)
              have hy3 : y ≤ 140737488351252 := by omega
              go_wp2
              exact ⟨⟨y + 1, by omega, hlt, by go_num, trivial⟩, by simp [intOf]; omega⟩
            · obtain rfl : y = j := by omega
              clear hlt hy2
              rcases HCV.out with ⟨v1, v2, v3, v4⟩ | ⟨v1, v2, v4⟩
              · subst v4
                have HBV : Hid (∀ X, Calls Try.prog 10 #[.agg LV.toArray] X fun e w' => ∃ A cap, e = .returned (.tuple #[.slice A n cap, .int .i64 0]) ∧ Bw w' (.slice A n cap) bs ∧ Below X.heap.size X w') := fun X => by
                  refine (lbytes_ok V v1 v2 LV HLV.out X).mono ?_
                  rintro e w' ⟨A, m, cap, hm, he, q1, q2, q3⟩
                  rw [← v3] at hm q1
                  rw [HB.out] at hm
                  subst hm
                  exact ⟨A, cap, he, q1, q3⟩
                clear v1 v2 v3
                go_wp2_with (first
                  | (refine wpList_ldS rfl tC (.tmp 16) rfl b16 0 rfl LV _ RV7.out.all Try.underlying25 rfl HIV.out ?_; simp only [Act.put, List.setIfInBounds_toArray, List.set_cons_zero, List.set_cons_succ])
                  | (go_at_call 10; refine Calls.mono (HBV.out _) ?_; rintro e Q1 ⟨A9, c9, rfl, q1, q2⟩; have K8 : Hid (Kb w Q1 w.heap.size L (.slice A1 N c1) (.slice A2 N c2) DB) := K7.out.keep q2; have SA : Hid (SlAt Q1 (.slice A9 n c9) bs) := Bw.sl q1; have SR : Hid (SlAt Q1 (.slice B n cb) bs) := SlAt.be SV7.out q2; clear q1 q2)
                  | (refine wpList_conv_s rfl (.tmp 143) rfl (.slice A9 n c9) bs rfl SA.out ?_; simp only [Act.put, List.setIfInBounds_toArray, List.set_cons_zero, List.set_cons_succ])
                  | (refine wpList_conv_s rfl (.tmp 145) rfl (.slice B n cb) bs rfl SR.out ?_; simp only [Act.put, List.setIfInBounds_toArray, List.set_cons_zero, List.set_cons_succ])
                  | (refine wpList_neq_s rfl (.tmp 144) (.tmp 146) _ _ rfl bs bs rfl rfl false (by simp) ?_; simp only [Act.put, List.setIfInBounds_toArray, List.set_cons_zero, List.set_cons_succ])
                  | (go_at_call 14; refine Calls.mono (Kb.owned K8.out HN9.out) ?_; rintro e Q2 ⟨rfl, q⟩; have BF : Hid (Below w.heap.size w Q2) := q; clear q))
                go_ret
                exact ⟨rfl, BF.out⟩
              · subst v4
                clear v1 v2
                go_wp2_with (go_at_call 14; refine Calls.mono (Kb.owned K7.out HN9.out) ?_; rintro e Q2 ⟨rfl, q⟩; have BF : Hid (Below w.heap.size w Q2) := q; clear q)
                go_ret
                exact ⟨rfl, BF.out⟩

end Go.Proofs.Ytfommclhnfcioaa
