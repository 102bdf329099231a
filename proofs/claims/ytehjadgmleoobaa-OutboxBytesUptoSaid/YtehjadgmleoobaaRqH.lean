/-
  the document's outbox.Read: the leaf whose bytes they are, or nothing.
-/
import Derived.Test.YtehjadgmleoobaaRqF
import Derived.Test.YtehjadgmleoobaaObG

namespace Go.Proofs.Ytehjadgmleoobaa
open Go Go.RowKit
open Sha

theorem Rq.sl {w : World} {D g a cap : Nat} {A : Option Addr} {ao : Nat} {bs : List (BitVec 8)} {f : Int} (h : Rq w D g A cap ao bs a f) : SlAt w (.slice A bs.length cap) bs := by
  rcases h.lies with ⟨e3, _⟩ | e
  · exact .inl ⟨e3, A, cap, by rw [e3]; rfl⟩
  · by_cases h0 : 0 < bs.length
    · exact .inr ⟨g, ao, cap, by rw [e], h.room, h.by' h0⟩
    · have e0 : bs = [] := List.eq_nil_of_length_eq_zero (by omega)
      exact .inl ⟨e0, A, cap, by rw [e0]; rfl⟩
set_option maxRecDepth 100000 in
set_option maxHeartbeats 4000000 in
theorem rread_x (bs : List (BitVec 8)) (x1 x2 x3 a1 a2 a3 a4 a5 a6 : Nat) (f1 f2 f3 f4 f5 f6 : Int) (rc : List (BitVec 8)) (am : List Nat)
    (h1a : a1 = bA bs 0 (f0 bs)) (h1f : f1 = bF bs 0 (f0 bs)) (h2v : x1 = nV bs a1 f1) (h2a : a2 = nA bs a1 f1) (h2f : f2 = nF bs a1 f1) (h3v : x2 = nV bs a2 f2) (h3a : a3 = nA bs a2 f2) (h3f : f3 = nF bs a2 f2) (h4v : x3 = nV bs a3 f3) (h4a : a4 = nA bs a3 f3) (h4f : f4 = nF bs a3 f3) (h5v : rc = dV bs a4 f4) (h5a : a5 = dA bs a4 f4) (h5f : f5 = dF bs a4 f4) (h6v : am = wV bs a5 f5) (h6a : a6 = wA bs a5 f5) (h6f : f6 = wF bs a5 f5)
    (RV : List Value) (RE : Int) (hyes : (may (x1 : Int) (x2 : Int) (x3 : Int) am = true ∧ lfb (x1 : Int) (x2 : Int) (x3 : Int) rc am = bs) → RV = lf (x1 : Int) (x2 : Int) (x3 : Int) rc am ∧ RE = 0) (hno : ¬ (may (x1 : Int) (x2 : Int) (x3 : Int) am = true ∧ lfb (x1 : Int) (x2 : Int) (x3 : Int) rc am = bs) → RV = zLf ∧ RE = 110)
    (g : Nat) (A : Option Addr) (cap : Nat) (ao : Nat) (n : Nat) (hb : bs.length = n) (hl : n ≤ 140737488355328) (hc : n ≤ cap) (hlies : (bs = [] ∧ (A = none → cap = 0)) ∨ A = some ⟨g, ao, none⟩) (w : World) (hr : 0 < bs.length → w.rangeAt g ao (vB bs)) : Calls Try.prog 11 #[.slice A n cap] w fun e w' => e = .returned (.tuple #[.agg RV.toArray, .int .i64 RE]) ∧ Below w.heap.size w w' := by
  have hrc : rc.length = 20 := by rw [h5v]; exact dV_len _ _ _
  have ham : am.length = 4 := by rw [h6v]; exact wV_len _ _ _
  have HBO : Hid (may (x1 : Int) (x2 : Int) (x3 : Int) am = true → ∀ X, Calls Try.prog 6 #[.agg (lf (x1 : Int) (x2 : Int) (x3 : Int) rc am).toArray] X fun e w' => ∃ v, e = .returned (.tuple #[v, .int .i64 0]) ∧ Bw w' v (lfb (x1 : Int) (x2 : Int) (x3 : Int) rc am) ∧ Fresh X.heap.size v ∧ Below X.heap.size X w') := fun hm X => obytes_ok _ _ _ rc am hrc ham (by rw [h6v]; exact wV_lt _ _ _) hm _ rfl X
  have HBN : Hid (may (x1 : Int) (x2 : Int) (x3 : Int) am = false → ∀ X, Calls Try.prog 6 #[.agg (lf (x1 : Int) (x2 : Int) (x3 : Int) rc am).toArray] X fun e w' => e = .returned (.tuple #[.slice none 0 0, .int .i64 110]) ∧ Below X.heap.size X w') := fun hm X => obytes_no _ _ _ rc am hrc ham hm _ rfl X
  have HRC : Hid (rc.length = 20) := hrc
  have HAM : Hid (am.length = 4) := ham
  have HIA : Hid ((Try.prog.info? 34).map (·.size) = some (vB rc).length) := info_Ad rc hrc
  have HIW : Hid ((Try.prog.info? 37).map (·.size) = some (vQ am).length) := info_Wd am ham
  have HIZ : Hid ((Try.prog.info? 39).map (·.size) = some zLf.length) := info_lf (List.length_replicate ..) (List.length_replicate ..)
  have HOZ : Hid (zLf.toArray.all (·.oneCell') = true) := lf_all
  have H0a : Hid (a1 = bA bs 0 (f0 bs)) := h1a
  have H0f : Hid (f1 = bF bs 0 (f0 bs)) := h1f
  have H1v : Hid (x1 = nV bs a1 f1) := h2v
  have H1a : Hid (a2 = nA bs a1 f1) := h2a
  have H1f : Hid (f2 = nF bs a1 f1) := h2f
  have H2v : Hid (x2 = nV bs a2 f2) := h3v
  have H2a : Hid (a3 = nA bs a2 f2) := h3a
  have H2f : Hid (f3 = nF bs a2 f2) := h3f
  have H3v : Hid (x3 = nV bs a3 f3) := h4v
  have H3a : Hid (a4 = nA bs a3 f3) := h4a
  have H3f : Hid (f4 = nF bs a3 f3) := h4f
  have H4v : Hid (rc = dV bs a4 f4) := h5v
  have H4a : Hid (a5 = dA bs a4 f4) := h5a
  have H4f : Hid (f5 = dF bs a4 f4) := h5f
  have H5v : Hid (am = wV bs a5 f5) := h6v
  have H5a : Hid (a6 = wA bs a5 f5) := h6a
  have H5f : Hid (f6 = wF bs a5 f5) := h6f
  have HN : Hid (bs.length = n) := hb
  have HGL0 : Hid (0 < bs.length → g < w.heap.size) := fun e => range_lt (hr e) e
  have HRD : Hid (∀ X, Below w.heap.size w X → Calls Try.prog 35 #[.slice A n cap] X fun e w' => e = .returned (.pointer (some ⟨X.heap.size, 0, none⟩)) ∧ Rq w' X.heap.size g A cap ao bs 0 (f0 bs) ∧ Below X.heap.size X w') := fun X k => qread_any g A cap ao bs n hb hl hc hlies X (fun e => range_be (hr e) k)
  have HYE : Hid ((may (x1 : Int) (x2 : Int) (x3 : Int) am = true ∧ lfb (x1 : Int) (x2 : Int) (x3 : Int) rc am = bs) → RV = lf (x1 : Int) (x2 : Int) (x3 : Int) rc am ∧ RE = 0) := hyes
  have HNE : Hid (¬ (may (x1 : Int) (x2 : Int) (x3 : Int) am = true ∧ lfb (x1 : Int) (x2 : Int) (x3 : Int) rc am = bs) → RV = zLf ∧ RE = 110) := hno
  clear hyes hno h1a h1f h2v h2a h2f h3v h3a h3f h4v h4a h4f h5v h5a h5f h6v h6a h6f hb hl hc hlies hr hrc ham
  go_enter Try.func11, Try.ntmps11
  go_upto_region 1 with (refine wpList_allocLf rfl rfl ?_; intro X0 q1 q2 q3; have RQ : Hid (Row X0 w.heap.size zLf 39) := q1; have B0 : Hid (Below w.heap.size w X0) := q2; clear q1 q2 q3; simp only [Act.put, List.setIfInBounds_toArray, List.set_cons_zero, List.set_cons_succ])
  go_upto_region 2 with (go_at_call 35; refine Calls.mono (HRD.out X0 B0.out) ?_; rintro e X1 ⟨rfl, q1, q2⟩; have G1 : Hid (Rq X1 X0.heap.size g A cap ao bs 0 (f0 bs)) := q1; have B1 : Hid (Below X0.heap.size X0 X1) := q2; clear q1 q2)
  have RQ1 : Row X1 w.heap.size zLf 39 := Row.below RQ.out B1.out RQ.out.lt
  have B01 : Below w.heap.size w X1 := B0.out.trans (B1.out.mono B0.out.size)
  obtain ⟨D, hD⟩ : ∃ D, D = X0.heap.size := ⟨_, rfl⟩
  have HP0 : Hid (w.heap.size ≤ D) := by show _ ≤ _; rw [hD]; exact B0.out.size
  rw [← hD] at G1 ⊢
  have HFB : Hid (Calls Try.prog 36 #[.pointer (some ⟨D, 0, none⟩)] X1 fun e w' => e = .returned (.int .u8 ((bV bs 0 (f0 bs) : Nat) : Int)) ∧ Rq w' D g A cap ao bs a1 f1 ∧ Row w' w.heap.size zLf 39 ∧ Below w.heap.size w w') := by
    refine (q_byte G1.out).mono ?_
    rintro e w' ⟨rfl, h2, k⟩
    exact ⟨rfl, by rw [H0a.out, H0f.out]; exact h2, k.row RQ1 (row_ne RQ1 G1.out.row (by decide)), B01.trans (k.to_below B01.size (fun g e => by rw [e]; exact HP0.out))⟩
  clear RQ1 B01 hD
  go_upto_region 3 with (go_at_call 36; refine Calls.mono HFB.out ?_; rintro e X2 ⟨rfl, q1, q2, q3⟩; have G2 : Hid (Rq X2 D g A cap ao bs a1 f1) := q1; have RQ2 : Hid (Row X2 w.heap.size zLf 39) := q2; have B2 : Hid (Below w.heap.size w X2) := q3; clear q1 q2 q3)
  go_upto_region 4 with (first
    | (refine wpList_buildZL rfl rfl ?_; simp only [Act.put, List.setIfInBounds_toArray, List.set_cons_zero, List.set_cons_succ])
    | (refine wpList_allocLf rfl rfl ?_; intro X3 q1 q2 q3; have RB : Hid (Row X3 X2.heap.size zLf 39) := q1; have B3 : Hid (Below X2.heap.size X2 X3) := q2; clear q1 q2 q3; simp only [Act.put, List.setIfInBounds_toArray, List.set_cons_zero, List.set_cons_succ])
    | (refine wpList_storeL rfl 39 (.tmp 5) (.tmp 12) rfl X2.heap.size zLf zLf 39 rfl rfl RB.out rfl HIZ.out HOZ.out ?_; intro X4 q1 q2; have E4 : Hid (X4 = X3.setCells X2.heap.size 0 zLf) := q1; have R4 : Hid (Row X4 X2.heap.size zLf 39) := q2; clear q1 q2; simp only [Act.put]))
  have S0' : Rz w X3 w.heap.size D g A cap ao bs a1 f1 X2.heap.size zLf := ⟨G2.out.be B3.out, RB.out, Row.below RQ2.out B3.out RQ2.out.lt, RQ2.out.lt, rfl, HP0.out, HGL0.out, B2.out.trans (B3.out.mono B2.out.size)⟩
  have S1' : Rz w X4 w.heap.size D g A cap ao bs a1 f1 X2.heap.size zLf := S0'.put R4.out (by
    rw [E4.out]
    have k := below_setCells (Below.refl 0 X3) (b := X2.heap.size) (o := 0) (Nat.zero_le _) zLf
    exact ⟨k.os, k.tape, k.output, k.size, fun i _ hn => heap_sets X3 X2.heap.size 0 _ i hn⟩)
  obtain ⟨q, hq⟩ : ∃ q, q = w.heap.size := ⟨_, rfl⟩
  obtain ⟨b, hb⟩ : ∃ b, b = X2.heap.size := ⟨_, rfl⟩
  rw [← hb] at S1' ⊢
  rw [← hq] at S1' ⊢
  have S1 : Hid (Rz w X4 q D g A cap ao bs a1 f1 b (lf 0 0 0 (List.replicate 20 0#8) (List.replicate 4 0))) := S1'
  have HQ0 : Hid (q = w.heap.size) := hq
  clear hq hb S1' S0' RB B3 G2 HFB B1 G1 RQ B0 RQ2 B2 E4 R4 HRD
  go_upto_region 5 with (first
    | (go_at_call 37; refine Calls.mono (rz_number S1.out) ?_; rintro e Y1 ⟨rfl, h⟩; rw [← H1v.out]; have T1 : Hid (Rz w Y1 q D g A cap ao bs a2 f2 b (lf 0 0 0 (List.replicate 20 0#8) (List.replicate 4 0))) := (by rw [H1a.out, H1f.out]; exact h); clear h)
    | (refine wpList_set1 rfl 3 (.tmp 15) (.tmp 14) rfl b 0 (.int .i64 (x1 : Int)) (lf 0 0 0 (List.replicate 20 0#8) (List.replicate 4 0)) 39 rfl rfl rfl T1.out.rl (by rw [lf_len (List.length_replicate ..) (List.length_replicate ..)]; decide) info_int1 rfl ?_; intro Z q1 q2 q3; have S2 : Hid (Rz w Z q D g A cap ao bs a2 f2 b (lf (x1 : Int) 0 0 (List.replicate 20 0#8) (List.replicate 4 0))) := T1.out.put (M := lf (x1 : Int) 0 0 (List.replicate 20 0#8) (List.replicate 4 0)) q1 q2; clear q1 q2 q3; simp only [Act.put]))
  clear S1 T1
  go_upto_region 6 with (first
    | (go_at_call 37; refine Calls.mono (rz_number S2.out) ?_; rintro e Y2 ⟨rfl, h⟩; rw [← H2v.out]; have T2 : Hid (Rz w Y2 q D g A cap ao bs a3 f3 b (lf (x1 : Int) 0 0 (List.replicate 20 0#8) (List.replicate 4 0))) := (by rw [H2a.out, H2f.out]; exact h); clear h)
    | (refine wpList_set1 rfl 3 (.tmp 18) (.tmp 17) rfl b 1 (.int .i64 (x2 : Int)) (lf (x1 : Int) 0 0 (List.replicate 20 0#8) (List.replicate 4 0)) 39 rfl rfl rfl T2.out.rl (by rw [lf_len (List.length_replicate ..) (List.length_replicate ..)]; decide) info_int1 rfl ?_; intro Z q1 q2 q3; have S3 : Hid (Rz w Z q D g A cap ao bs a3 f3 b (lf (x1 : Int) (x2 : Int) 0 (List.replicate 20 0#8) (List.replicate 4 0))) := T2.out.put (M := lf (x1 : Int) (x2 : Int) 0 (List.replicate 20 0#8) (List.replicate 4 0)) q1 q2; clear q1 q2 q3; simp only [Act.put]))
  clear S2 T2
  go_upto_region 7 with (first
    | (go_at_call 37; refine Calls.mono (rz_number S3.out) ?_; rintro e Y3 ⟨rfl, h⟩; rw [← H3v.out]; have T3 : Hid (Rz w Y3 q D g A cap ao bs a4 f4 b (lf (x1 : Int) (x2 : Int) 0 (List.replicate 20 0#8) (List.replicate 4 0))) := (by rw [H3a.out, H3f.out]; exact h); clear h)
    | (refine wpList_set1 rfl 3 (.tmp 21) (.tmp 20) rfl b 2 (.int .i64 (x3 : Int)) (lf (x1 : Int) (x2 : Int) 0 (List.replicate 20 0#8) (List.replicate 4 0)) 39 rfl rfl rfl T3.out.rl (by rw [lf_len (List.length_replicate ..) (List.length_replicate ..)]; decide) info_int1 rfl ?_; intro Z q1 q2 q3; have S4 : Hid (Rz w Z q D g A cap ao bs a4 f4 b (lf (x1 : Int) (x2 : Int) (x3 : Int) (List.replicate 20 0#8) (List.replicate 4 0))) := T3.out.put (M := lf (x1 : Int) (x2 : Int) (x3 : Int) (List.replicate 20 0#8) (List.replicate 4 0)) q1 q2; clear q1 q2 q3; simp only [Act.put]))
  clear S3 T3
  go_upto_region 8 with (first
    | (go_at_call 38; refine Calls.mono (rz_address S4.out) ?_; rintro e Y4 ⟨rfl, h⟩; rw [← H4v.out]; have T4 : Hid (Rz w Y4 q D g A cap ao bs a5 f5 b (lf (x1 : Int) (x2 : Int) (x3 : Int) (List.replicate 20 0#8) (List.replicate 4 0))) := (by rw [H4a.out, H4f.out]; exact h); clear h)
    | (refine wpList_storeM rfl 34 (.tmp 24) (.tmp 23) rfl b 3 (vB rc) (lf (x1 : Int) (x2 : Int) (x3 : Int) (List.replicate 20 0#8) (List.replicate 4 0)) 39 rfl rfl T4.out.rl (by rw [lf_len (List.length_replicate ..) (List.length_replicate ..), vB_length, HRC.out]; decide) HIA.out (vB_all rc) ?_; intro Z q1 q2; rw [lf_put_rc _ _ _ _ _ _ (List.length_replicate ..) HRC.out] at q1; have S5 : Hid (Rz w Z q D g A cap ao bs a5 f5 b (lf (x1 : Int) (x2 : Int) (x3 : Int) rc (List.replicate 4 0))) := T4.out.put q1 q2; clear q1 q2; simp only [Act.put]))
  clear S4 T4
  go_upto_region 9 with (first
    | (go_at_call 39; refine Calls.mono (rz_wide S5.out) ?_; rintro e Y5 ⟨rfl, h⟩; rw [← H5v.out]; have T5 : Hid (Rz w Y5 q D g A cap ao bs a6 f6 b (lf (x1 : Int) (x2 : Int) (x3 : Int) rc (List.replicate 4 0))) := (by rw [H5a.out, H5f.out]; exact h); clear h)
    | (refine wpList_storeM rfl 37 (.tmp 27) (.tmp 26) rfl b 23 (vQ am) (lf (x1 : Int) (x2 : Int) (x3 : Int) rc (List.replicate 4 0)) 39 rfl rfl T5.out.rl (by rw [lf_len HRC.out (List.length_replicate ..), vQ_len, HAM.out]; decide) HIW.out (vQ_all am) ?_; intro Z q1 q2; rw [lf_put_am _ _ _ _ _ _ HRC.out (List.length_replicate ..) HAM.out] at q1; have S6 : Hid (Rz w Z q D g A cap ao bs a6 f6 b (lf (x1 : Int) (x2 : Int) (x3 : Int) rc am)) := T5.out.put q1 q2; clear q1 q2; simp only [Act.put]))
  clear S5 T5
  obtain ⟨L, hL⟩ : ∃ L, L = lf (x1 : Int) (x2 : Int) (x3 : Int) rc am := ⟨_, rfl⟩
  have HL : Hid (L = lf (x1 : Int) (x2 : Int) (x3 : Int) rc am) := hL
  rw [← hL] at S6 HBO HBN
  have HI : Hid ((Try.prog.info? 39).map (·.size) = some L.length) := by rw [hL]; exact info_lf HRC.out HAM.out
  have HLL : Hid (L.length = zLf.length) := by show _ = _; rw [hL, lf_len HRC.out HAM.out]; rfl
  have HO : Hid (L.toArray.all (·.oneCell') = true) := by rw [hL]; exact lf_all
  clear hL HIA HIW HRC HAM
  cases z3 : may (x1 : Int) (x2 : Int) (x3 : Int) am with
  | true =>
    have MT : Hid _ := z3
    obtain ⟨DD, hDD⟩ : ∃ DD, (!decide (lfb (x1 : Int) (x2 : Int) (x3 : Int) rc am = bs)) = DD := ⟨_, rfl⟩
    have HDD : Hid (_ = DD) := hDD
    cases DD with
    | true =>
      have HNOT : Hid (RV = zLf ∧ RE = 110) := HNE.out (fun z => by rw [decide_eq_true z.2] at hDD; cases hDD)
      clear z3 hDD
      go_wp2_with (first
          | (refine wpList_load_w rfl 39 (.tmp 5) rfl b 0 rfl L _ S6.out.rl.all Try.underlying39 rfl HI.out ?_; simp only [Act.put, List.setIfInBounds_toArray, List.set_cons_zero, List.set_cons_succ])
          | (go_at_call 6; refine Calls.mono (HBO.out MT.out _) ?_; rintro e Y7 ⟨v, rfl, q1, q2, q3⟩; have BW : Hid (Bw Y7 v (lfb (x1 : Int) (x2 : Int) (x3 : Int) rc am)) := q1; have T7 : Hid (Rz w Y7 q D g A cap ao bs a6 f6 b L) := S6.out.keep q3; have SL : Hid (SlAt Y7 (.slice A n cap) bs) := (by have z := T7.out.rx.sl; rw [HN.out] at z; exact z); clear q1 q2 q3)
          | (refine wpList_conv_s rfl (.tmp 36) rfl v (lfb (x1 : Int) (x2 : Int) (x3 : Int) rc am) rfl (Bw.sl BW.out) ?_; simp only [Act.put, List.setIfInBounds_toArray, List.set_cons_zero, List.set_cons_succ])
          | (refine wpList_conv_s rfl (.tmp 38) rfl (.slice A n cap) bs rfl SL.out ?_; simp only [Act.put, List.setIfInBounds_toArray, List.set_cons_zero, List.set_cons_succ])
          | (refine wpList_neq_s rfl (.tmp 37) (.tmp 39) _ _ rfl (lfb (x1 : Int) (x2 : Int) (x3 : Int) rc am) bs rfl rfl true HDD.out ?_; simp only [Act.put, List.setIfInBounds_toArray, List.set_cons_zero, List.set_cons_succ])
          | (refine wpList_buildZL rfl rfl ?_; simp only [Act.put, List.setIfInBounds_toArray, List.set_cons_zero, List.set_cons_succ])
          | (refine wpList_storeL rfl 39 (.tmp 2) (.tmp 42) rfl q zLf zLf 39 rfl rfl T7.out.rq rfl HIZ.out HOZ.out ?_; intro X9 q1 q2; have E9 : Hid (X9 = _) := q1; have R9 : Hid (Row X9 q zLf 39) := q2; clear q1 q2; simp only [Act.put]))
      have hE : Below w.heap.size w X9 := by rw [E9.out]; exact below_setCells T7.out.be (by rw [HQ0.out]; exact Nat.le_refl _) _
      exact bodyPost_ret (results_rowS_tmp Try.results11 _ _ q 39 zLf (.int .i64 110) rfl rfl R9.out Try.underlying39 HIZ.out) rfl ⟨by rw [HNOT.out.1, HNOT.out.2], hE⟩
    | false =>
      have HYES : Hid (RV = lf (x1 : Int) (x2 : Int) (x3 : Int) rc am ∧ RE = 0) := HYE.out ⟨z3, by simpa using hDD⟩
      clear z3 hDD
      go_upto_region 12 with (first
          | (refine wpList_load_w rfl 39 (.tmp 5) rfl b 0 rfl L _ S6.out.rl.all Try.underlying39 rfl HI.out ?_; simp only [Act.put, List.setIfInBounds_toArray, List.set_cons_zero, List.set_cons_succ])
          | (go_at_call 6; refine Calls.mono (HBO.out MT.out _) ?_; rintro e Y7 ⟨v, rfl, q1, q2, q3⟩; have BW : Hid (Bw Y7 v (lfb (x1 : Int) (x2 : Int) (x3 : Int) rc am)) := q1; have T7 : Hid (Rz w Y7 q D g A cap ao bs a6 f6 b L) := S6.out.keep q3; have SL : Hid (SlAt Y7 (.slice A n cap) bs) := (by have z := T7.out.rx.sl; rw [HN.out] at z; exact z); clear q1 q2 q3)
          | (refine wpList_conv_s rfl (.tmp 36) rfl v (lfb (x1 : Int) (x2 : Int) (x3 : Int) rc am) rfl (Bw.sl BW.out) ?_; simp only [Act.put, List.setIfInBounds_toArray, List.set_cons_zero, List.set_cons_succ])
          | (refine wpList_conv_s rfl (.tmp 38) rfl (.slice A n cap) bs rfl SL.out ?_; simp only [Act.put, List.setIfInBounds_toArray, List.set_cons_zero, List.set_cons_succ])
          | (refine wpList_neq_s rfl (.tmp 37) (.tmp 39) _ _ rfl (lfb (x1 : Int) (x2 : Int) (x3 : Int) rc am) bs rfl rfl false HDD.out ?_; simp only [Act.put, List.setIfInBounds_toArray, List.set_cons_zero, List.set_cons_succ]))
      go_wp2_with (first
          | (refine wpList_load_w rfl 39 (.tmp 5) rfl b 0 rfl L _ T7.out.rl.all Try.underlying39 rfl HI.out ?_; simp only [Act.put, List.setIfInBounds_toArray, List.set_cons_zero, List.set_cons_succ])
          | (refine wpList_storeL rfl 39 (.tmp 2) (.tmp 43) rfl q L zLf 39 rfl rfl T7.out.rq HLL.out HI.out HO.out ?_; intro X9 q1 q2; have E9 : Hid (X9 = _) := q1; have R9 : Hid (Row X9 q L 39) := q2; clear q1 q2; simp only [Act.put]))
      have hE : Below w.heap.size w X9 := by rw [E9.out]; exact below_setCells T7.out.be (by rw [HQ0.out]; exact Nat.le_refl _) _
      exact bodyPost_ret (results_rowS_tmp Try.results11 _ _ q 39 L (.int .i64 0) rfl rfl R9.out Try.underlying39 HI.out) rfl ⟨by rw [HYES.out.1, HYES.out.2, ← HL.out], hE⟩
  | false =>
    have MF : Hid _ := z3
    have HNOT : Hid (RV = zLf ∧ RE = 110) := HNE.out (fun z => by rw [z.1] at z3; cases z3)
    clear z3
    go_wp2_with (first
          | (refine wpList_load_w rfl 39 (.tmp 5) rfl b 0 rfl L _ S6.out.rl.all Try.underlying39 rfl HI.out ?_; simp only [Act.put, List.setIfInBounds_toArray, List.set_cons_zero, List.set_cons_succ])
          | (go_at_call 6; refine Calls.mono (HBN.out MF.out _) ?_; rintro e Y7 ⟨rfl, q3⟩; have T7 : Hid (Rz w Y7 q D g A cap ao bs a6 f6 b L) := S6.out.keep q3; clear q3)
          | (refine wpList_buildZL rfl rfl ?_; simp only [Act.put, List.setIfInBounds_toArray, List.set_cons_zero, List.set_cons_succ])
          | (refine wpList_storeL rfl 39 (.tmp 2) (.tmp 42) rfl q zLf zLf 39 rfl rfl T7.out.rq rfl HIZ.out HOZ.out ?_; intro X9 q1 q2; have E9 : Hid (X9 = _) := q1; have R9 : Hid (Row X9 q zLf 39) := q2; clear q1 q2; simp only [Act.put]))
    have hE : Below w.heap.size w X9 := by rw [E9.out]; exact below_setCells T7.out.be (by rw [HQ0.out]; exact Nat.le_refl _) _
    exact bodyPost_ret (results_rowS_tmp Try.results11 _ _ q 39 zLf (.int .i64 110) rfl rfl R9.out Try.underlying39 HIZ.out) rfl ⟨by rw [HNOT.out.1, HNOT.out.2], hE⟩

end Go.Proofs.Ytehjadgmleoobaa

namespace Go.Proofs.Ytehjadgmleoobaa
open Go Go.RowKit
open Sha

theorem vQ_inj : ∀ l r : List Nat, vQ l = vQ r → l = r
  | [], [], _ => rfl
  | [], y :: r, h => by simp [vQ] at h
  | x :: l, [], h => by simp [vQ] at h
  | x :: l, y :: r, h => by
    unfold vQ at h
    simp only [List.map_cons, List.cons.injEq, Value.int.injEq, true_and] at h
    have h1 : x = y := by have := h.1; omega
    rw [h1, vQ_inj l r h.2]
/-- A leaf's bytes are read. -/
theorem lfb_reads (bs : List (BitVec 8)) (m x1 x2 x3 a1 a2 a3 a4 a5 a6 : Nat) (f1 f2 f3 f4 f5 f6 : Int) (rc : List (BitVec 8)) (am : List Nat)
    (hm : m = bV bs 0 (f0 bs)) (h1a : a1 = bA bs 0 (f0 bs)) (h1f : f1 = bF bs 0 (f0 bs)) (h2v : x1 = nV bs a1 f1) (h2a : a2 = nA bs a1 f1) (h2f : f2 = nF bs a1 f1) (h3v : x2 = nV bs a2 f2) (h3a : a3 = nA bs a2 f2) (h3f : f3 = nF bs a2 f2) (h4v : x3 = nV bs a3 f3) (h4a : a4 = nA bs a3 f3) (h4f : f4 = nF bs a3 f3) (h5v : rc = dV bs a4 f4) (h5a : a5 = dA bs a4 f4) (h5f : f5 = dF bs a4 f4) (h6v : am = wV bs a5 f5) (h6a : a6 = wA bs a5 f5) (h6f : f6 = wF bs a5 f5)
    (ix en tk : Int) (rd : List (BitVec 8)) (ad : List Nat) (hrd : rd.length = 20) (had : ad.length = 4) (hq4 : ∀ x ∈ ad, x < 18446744073709551616) (hmy : may ix en tk ad = true) (hbs : bs = lfb ix en tk rd ad) :
    m = 76 ∧ (x1 : Int) = ix ∧ (x2 : Int) = en ∧ (x3 : Int) = tk ∧ rc = rd ∧ am = ad ∧ f6 = 0 ∧ a6 = bs.length := by
  obtain ⟨i0, i1, n0, n1, t0, t1⟩ := may_in hmy
  obtain ⟨y1, y2⟩ := byE_at (bs := bs) (x := 76#8) (r := nf ix ++ nf en ++ nf tk ++ rd ++ wf ad) (by rw [hbs]; rfl)
  obtain ⟨p1, p2, p3⟩ := at_num [76#8] (nf en ++ nf tk ++ rd ++ wf ad) bs ix 1 i0 (by omega) (by rw [hbs]; simp [lfb]) rfl
  obtain ⟨b1, b2, b3⟩ := at_num ([76#8] ++ nf ix) (nf tk ++ rd ++ wf ad) bs en (1 + (nf ix).length) n0 (by omega) (by rw [hbs]; simp [lfb]) (by simp; omega)
  obtain ⟨c1, c2, c3⟩ := at_num ([76#8] ++ nf ix ++ nf en) (rd ++ wf ad) bs tk (1 + (nf ix).length + (nf en).length) t0 (by omega) (by rw [hbs]; simp [lfb]) (by simp; omega)
  obtain ⟨d1, d2⟩ := at_adr ([76#8] ++ nf ix ++ nf en ++ nf tk) (wf ad) rd bs (1 + (nf ix).length + (nf en).length + (nf tk).length) (by rw [hbs]; simp [lfb]) (by simp; omega) hrd
  obtain ⟨g1, g2, g3⟩ := at_wide ([76#8] ++ nf ix ++ nf en ++ nf tk ++ rd) [] bs ad (1 + (nf ix).length + (nf en).length + (nf tk).length + 20) had hq4 (by rw [hbs]; simp [lfb]) (by simp [hrd]; omega)
  have hl := lfb_len ix en tk rd ad hrd
  have z0 : f0 bs = 0 := by unfold f0; rw [if_neg]; rw [hbs]; omega
  have e1 : a1 = 1 := by rw [h1a]; unfold bA; rw [if_pos ⟨z0, y1⟩]
  have z1 : f1 = 0 := by rw [h1f]; unfold bF; rw [if_pos z0]; exact y1
  have e2 : a2 = 1 + (nf ix).length := by rw [h2a, z1, e1]; unfold nA; rw [if_pos rfl, if_pos p1]; exact p3
  have z2 : f2 = 0 := by rw [h2f, z1, e1]; unfold nF; rw [if_pos rfl]; exact p1
  have e3 : a3 = 1 + (nf ix).length + (nf en).length := by rw [h3a, z2, e2]; unfold nA; rw [if_pos rfl, if_pos b1]; exact b3
  have z3 : f3 = 0 := by rw [h3f, z2, e2]; unfold nF; rw [if_pos rfl]; exact b1
  have e4 : a4 = 1 + (nf ix).length + (nf en).length + (nf tk).length := by rw [h4a, z3, e3]; unfold nA; rw [if_pos rfl, if_pos c1]; exact c3
  have z4 : f4 = 0 := by rw [h4f, z3, e3]; unfold nF; rw [if_pos rfl]; exact c1
  have e5 : a5 = 1 + (nf ix).length + (nf en).length + (nf tk).length + 20 := by rw [h5a, z4, e4]; unfold dA; rw [if_pos ⟨rfl, d1⟩]
  have z5 : f5 = 0 := by rw [h5f, z4, e4]; unfold dF; rw [if_pos rfl]; exact d1
  have e6 : a6 = 1 + (nf ix).length + (nf en).length + (nf tk).length + 20 + (wf ad).length := by rw [h6a, z5, e5]; unfold wA; rw [if_pos ⟨rfl, g1⟩]; exact g3
  have z6 : f6 = 0 := by rw [h6f, z5, e5]; unfold wF; rw [if_pos rfl]; exact g1
  refine ⟨?_, ?_, ?_, ?_, ?_, ?_, z6, ?_⟩
  · rw [hm]; unfold bV; rw [if_pos ⟨z0, y1⟩, y2]; rfl
  · rw [h2v, z1, e1]; unfold nV; rw [if_pos rfl, if_pos p1]; exact p2
  · rw [h3v, z2, e2]; unfold nV; rw [if_pos rfl, if_pos b1]; exact b2
  · rw [h4v, z3, e3]; unfold nV; rw [if_pos rfl, if_pos c1]; exact c2
  · rw [h5v, z4, e4]; unfold dV; rw [if_pos ⟨rfl, d1⟩]; exact d2
  · rw [h6v, z5, e5]; unfold wV; rw [if_pos ⟨rfl, g1⟩]; exact vQ_inj _ _ g2
  · rw [e6, hbs]
    simp [lfb, hrd]
    omega
/-- What the document reads of any bytes. -/
theorem rread_is (bs : List (BitVec 8)) (g : Nat) (A : Option Addr) (cap : Nat) (ao : Nat) (n : Nat) (hb : bs.length = n) (hl : n ≤ 140737488355328) (hc : n ≤ cap) (hlies : (bs = [] ∧ (A = none → cap = 0)) ∨ A = some ⟨g, ao, none⟩) (w : World) (hr : 0 < bs.length → w.rangeAt g ao (vB bs)) :
    (∀ ix en tk rc am, rc.length = 20 → am.length = 4 → (∀ x ∈ am, x < 18446744073709551616) → may ix en tk am = true → bs = lfb ix en tk rc am → Calls Try.prog 11 #[.slice A n cap] w fun e w' => e = .returned (.tuple #[.agg (lf ix en tk rc am).toArray, .int .i64 0]) ∧ Below w.heap.size w w') ∧
    ((¬ ∃ ix en tk rc am, rc.length = 20 ∧ am.length = 4 ∧ (∀ x ∈ am, x < 18446744073709551616) ∧ may ix en tk am = true ∧ bs = lfb ix en tk rc am) → Calls Try.prog 11 #[.slice A n cap] w fun e w' => e = .returned (.tuple #[.agg zLf.toArray, .int .i64 110]) ∧ Below w.heap.size w w') := by
  refine ⟨fun ix en tk rc am h1 h2 h3 h4 h5 => ?_, fun hno => ?_⟩
  · obtain ⟨_, k1, k2, k3, k4, k5, _, _⟩ := lfb_reads bs _ _ _ _ _ _ _ _ _ _ _ _ _ _ _ _ _ _ rfl rfl rfl rfl rfl rfl rfl rfl rfl rfl rfl rfl rfl rfl rfl rfl rfl rfl ix en tk rc am h1 h2 h3 h4 h5
    refine rread_x bs _ _ _ _ _ _ _ _ _ _ _ _ _ _ _ _ _ rfl rfl rfl rfl rfl rfl rfl rfl rfl rfl rfl rfl rfl rfl rfl rfl rfl (lf ix en tk rc am) 0 (fun _ => ⟨by rw [k1, k2, k3, k4, k5], rfl⟩) (fun hn => absurd ⟨by rw [k1, k2, k3, k5]; exact h4, by rw [k1, k2, k3, k4, k5]; exact h5.symm⟩ hn) g A cap ao n hb hl hc hlies w hr
  · exact rread_x bs _ _ _ _ _ _ _ _ _ _ _ _ _ _ _ _ _ rfl rfl rfl rfl rfl rfl rfl rfl rfl rfl rfl rfl rfl rfl rfl rfl rfl zLf 110 (fun hc => absurd ⟨_, _, _, _, _, dV_len _ _ _, wV_len _ _ _, wV_lt _ _ _, hc.1, hc.2.symm⟩ hno) (fun _ => ⟨rfl, rfl⟩) g A cap ao n hb hl hc hlies w hr
end Go.Proofs.Ytehjadgmleoobaa
