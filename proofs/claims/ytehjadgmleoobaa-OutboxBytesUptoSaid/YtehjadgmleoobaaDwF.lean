/-
  the document's outbox: May, Form, Bytes.
-/
import Derived.Test.YtehjadgmleoobaaDwE
namespace Go.Proofs.Ytehjadgmleoobaa
open Go Go.RowKit
open Sha

set_option maxRecDepth 100000 in
set_option maxHeartbeats 4000000 in
theorem may_doc (ix en tk : Int) (rc : List (BitVec 8)) (am : List Nat) (hto : rc.length = 20) (ham : am.length = 4) (L : List Value) (hL : L = lf ix en tk rc am) (w : World) : Calls Try.prog 24 #[.agg L.toArray] w fun e w' => e = .returned (.bool (may ix en tk am)) ∧ Below w.heap.size w w' := by
  have HL : Hid (L = lf ix en tk rc am) := hL
  have HTO : Hid (rc.length = 20) := hto
  have HAM : Hid (am.length = 4) := ham
  have HI : Hid ((Try.prog.info? 37).map (·.size) = some (vQ am).length) := info_Wd am ham
  obtain ⟨B, hB⟩ : ∃ B, B = decide (am = (List.replicate 4 0)) := ⟨_, rfl⟩
  have HB : Hid (decide (am = (List.replicate 4 0)) = B) := hB.symm
  have HNO : Hid (¬ (0 ≤ ix ∧ ix < 1099511627776 ∧ 0 ≤ en ∧ en < 1099511627776 ∧ 0 ≤ tk ∧ tk < 64) → may ix en tk am = false) := fun h => decide_eq_false (fun q => h ⟨q.1, q.2.1, q.2.2.1, q.2.2.2.1, q.2.2.2.2.1, q.2.2.2.2.2.1⟩)
  clear hL hto ham
  by_cases hall : 0 ≤ ix ∧ ix < 1099511627776 ∧ 0 ≤ en ∧ en < 1099511627776 ∧ 0 ≤ tk ∧ tk < 64
  · have HY : Hid (may ix en tk am = !B) := by
      show _ = _
      unfold may
      rw [hB]
      cases hd : decide (am = List.replicate 4 0) with
      | true => exact decide_eq_false (fun q => q.2.2.2.2.2.2 (of_decide_eq_true hd))
      | false => exact decide_eq_true ⟨hall.1, hall.2.1, hall.2.2.1, hall.2.2.2.1, hall.2.2.2.2.1, hall.2.2.2.2.2, of_decide_eq_false hd⟩
    obtain ⟨h1, h2, h3, h4, h5, h6⟩ := hall
    clear hB HNO
    go_enter Try.func24, Try.ntmps24
    go_wp2_with (first
      | (refine wpList_boxG 39 rfl (.tmp 0) rfl L rfl ?_; intro X q1 q2 q3; rw [HL.out] at q1; have c0 := q1.cell 0 _ rfl; have c1 := q1.cell 1 _ rfl; have c2 := q1.cell 2 _ rfl; have RA : Hid (X.rangeAt w.heap.size 23 (vQ am)) := lf_ram HTO.out q1; have B1 : Hid (Below w.heap.size w X) := q2; clear q1 q2 q3; simp only [Act.put, List.setIfInBounds_toArray, List.set_cons_zero, List.set_cons_succ])
      | (refine wpList_load_w rfl 37 (.tmp 32) rfl w.heap.size 23 rfl (vQ am) _ RA.out Try.underlying37 rfl HI.out ?_; simp only [Act.put, List.setIfInBounds_toArray, List.set_cons_zero, List.set_cons_succ])
      | (refine wpList_neq_q rfl (.tmp 33) (.tmp 34) _ rfl am (List.replicate 4 0) HAM.out rfl rfl rfl (!B) (congrArg not HB.out) ?_; simp only [Act.put, List.setIfInBounds_toArray, List.set_cons_zero, List.set_cons_succ]))
    go_ret
    exact ⟨by first | (rw [HY.out]; rfl) | rw [HY.out] | simp [HY.out], B1.out⟩
  · have HF : Hid (may ix en tk am = false) := HNO.out hall
    clear hB HNO
    by_cases lix : ¬ 0 ≤ ix
    · clear hall
      go_enter Try.func24, Try.ntmps24
      go_wp2_with (first
        | (refine wpList_boxG 39 rfl (.tmp 0) rfl L rfl ?_; intro X q1 q2 q3; rw [HL.out] at q1; have c0 := q1.cell 0 _ rfl; have c1 := q1.cell 1 _ rfl; have c2 := q1.cell 2 _ rfl; have RA : Hid (X.rangeAt w.heap.size 23 (vQ am)) := lf_ram HTO.out q1; have B1 : Hid (Below w.heap.size w X) := q2; clear q1 q2 q3; simp only [Act.put, List.setIfInBounds_toArray, List.set_cons_zero, List.set_cons_succ])
        | (refine wpList_load_w rfl 37 (.tmp 32) rfl w.heap.size 23 rfl (vQ am) _ RA.out Try.underlying37 rfl HI.out ?_; simp only [Act.put, List.setIfInBounds_toArray, List.set_cons_zero, List.set_cons_succ])
        | (refine wpList_neq_q rfl (.tmp 33) (.tmp 34) _ rfl am (List.replicate 4 0) HAM.out rfl rfl rfl (!B) (congrArg not HB.out) ?_; simp only [Act.put, List.setIfInBounds_toArray, List.set_cons_zero, List.set_cons_succ]))
      go_ret
      exact ⟨by rw [HF.out]; rfl, B1.out⟩
    replace lix := Classical.not_not.1 lix
    by_cases uix : ¬ ix < 1099511627776
    · clear hall
      go_enter Try.func24, Try.ntmps24
      go_wp2_with (first
        | (refine wpList_boxG 39 rfl (.tmp 0) rfl L rfl ?_; intro X q1 q2 q3; rw [HL.out] at q1; have c0 := q1.cell 0 _ rfl; have c1 := q1.cell 1 _ rfl; have c2 := q1.cell 2 _ rfl; have RA : Hid (X.rangeAt w.heap.size 23 (vQ am)) := lf_ram HTO.out q1; have B1 : Hid (Below w.heap.size w X) := q2; clear q1 q2 q3; simp only [Act.put, List.setIfInBounds_toArray, List.set_cons_zero, List.set_cons_succ])
        | (refine wpList_load_w rfl 37 (.tmp 32) rfl w.heap.size 23 rfl (vQ am) _ RA.out Try.underlying37 rfl HI.out ?_; simp only [Act.put, List.setIfInBounds_toArray, List.set_cons_zero, List.set_cons_succ])
        | (refine wpList_neq_q rfl (.tmp 33) (.tmp 34) _ rfl am (List.replicate 4 0) HAM.out rfl rfl rfl (!B) (congrArg not HB.out) ?_; simp only [Act.put, List.setIfInBounds_toArray, List.set_cons_zero, List.set_cons_succ]))
      go_ret
      exact ⟨by rw [HF.out]; rfl, B1.out⟩
    replace uix := Classical.not_not.1 uix
    by_cases len : ¬ 0 ≤ en
    · clear hall
      go_enter Try.func24, Try.ntmps24
      go_wp2_with (first
        | (refine wpList_boxG 39 rfl (.tmp 0) rfl L rfl ?_; intro X q1 q2 q3; rw [HL.out] at q1; have c0 := q1.cell 0 _ rfl; have c1 := q1.cell 1 _ rfl; have c2 := q1.cell 2 _ rfl; have RA : Hid (X.rangeAt w.heap.size 23 (vQ am)) := lf_ram HTO.out q1; have B1 : Hid (Below w.heap.size w X) := q2; clear q1 q2 q3; simp only [Act.put, List.setIfInBounds_toArray, List.set_cons_zero, List.set_cons_succ])
        | (refine wpList_load_w rfl 37 (.tmp 32) rfl w.heap.size 23 rfl (vQ am) _ RA.out Try.underlying37 rfl HI.out ?_; simp only [Act.put, List.setIfInBounds_toArray, List.set_cons_zero, List.set_cons_succ])
        | (refine wpList_neq_q rfl (.tmp 33) (.tmp 34) _ rfl am (List.replicate 4 0) HAM.out rfl rfl rfl (!B) (congrArg not HB.out) ?_; simp only [Act.put, List.setIfInBounds_toArray, List.set_cons_zero, List.set_cons_succ]))
      go_ret
      exact ⟨by rw [HF.out]; rfl, B1.out⟩
    replace len := Classical.not_not.1 len
    by_cases uen : ¬ en < 1099511627776
    · clear hall
      go_enter Try.func24, Try.ntmps24
      go_wp2_with (first
        | (refine wpList_boxG 39 rfl (.tmp 0) rfl L rfl ?_; intro X q1 q2 q3; rw [HL.out] at q1; have c0 := q1.cell 0 _ rfl; have c1 := q1.cell 1 _ rfl; have c2 := q1.cell 2 _ rfl; have RA : Hid (X.rangeAt w.heap.size 23 (vQ am)) := lf_ram HTO.out q1; have B1 : Hid (Below w.heap.size w X) := q2; clear q1 q2 q3; simp only [Act.put, List.setIfInBounds_toArray, List.set_cons_zero, List.set_cons_succ])
        | (refine wpList_load_w rfl 37 (.tmp 32) rfl w.heap.size 23 rfl (vQ am) _ RA.out Try.underlying37 rfl HI.out ?_; simp only [Act.put, List.setIfInBounds_toArray, List.set_cons_zero, List.set_cons_succ])
        | (refine wpList_neq_q rfl (.tmp 33) (.tmp 34) _ rfl am (List.replicate 4 0) HAM.out rfl rfl rfl (!B) (congrArg not HB.out) ?_; simp only [Act.put, List.setIfInBounds_toArray, List.set_cons_zero, List.set_cons_succ]))
      go_ret
      exact ⟨by rw [HF.out]; rfl, B1.out⟩
    replace uen := Classical.not_not.1 uen
    by_cases ltk : ¬ 0 ≤ tk
    · clear hall
      go_enter Try.func24, Try.ntmps24
      go_wp2_with (first
        | (refine wpList_boxG 39 rfl (.tmp 0) rfl L rfl ?_; intro X q1 q2 q3; rw [HL.out] at q1; have c0 := q1.cell 0 _ rfl; have c1 := q1.cell 1 _ rfl; have c2 := q1.cell 2 _ rfl; have RA : Hid (X.rangeAt w.heap.size 23 (vQ am)) := lf_ram HTO.out q1; have B1 : Hid (Below w.heap.size w X) := q2; clear q1 q2 q3; simp only [Act.put, List.setIfInBounds_toArray, List.set_cons_zero, List.set_cons_succ])
        | (refine wpList_load_w rfl 37 (.tmp 32) rfl w.heap.size 23 rfl (vQ am) _ RA.out Try.underlying37 rfl HI.out ?_; simp only [Act.put, List.setIfInBounds_toArray, List.set_cons_zero, List.set_cons_succ])
        | (refine wpList_neq_q rfl (.tmp 33) (.tmp 34) _ rfl am (List.replicate 4 0) HAM.out rfl rfl rfl (!B) (congrArg not HB.out) ?_; simp only [Act.put, List.setIfInBounds_toArray, List.set_cons_zero, List.set_cons_succ]))
      go_ret
      exact ⟨by rw [HF.out]; rfl, B1.out⟩
    replace ltk := Classical.not_not.1 ltk
    by_cases utk : ¬ tk < 64
    · clear hall
      go_enter Try.func24, Try.ntmps24
      go_wp2_with (first
        | (refine wpList_boxG 39 rfl (.tmp 0) rfl L rfl ?_; intro X q1 q2 q3; rw [HL.out] at q1; have c0 := q1.cell 0 _ rfl; have c1 := q1.cell 1 _ rfl; have c2 := q1.cell 2 _ rfl; have RA : Hid (X.rangeAt w.heap.size 23 (vQ am)) := lf_ram HTO.out q1; have B1 : Hid (Below w.heap.size w X) := q2; clear q1 q2 q3; simp only [Act.put, List.setIfInBounds_toArray, List.set_cons_zero, List.set_cons_succ])
        | (refine wpList_load_w rfl 37 (.tmp 32) rfl w.heap.size 23 rfl (vQ am) _ RA.out Try.underlying37 rfl HI.out ?_; simp only [Act.put, List.setIfInBounds_toArray, List.set_cons_zero, List.set_cons_succ])
        | (refine wpList_neq_q rfl (.tmp 33) (.tmp 34) _ rfl am (List.replicate 4 0) HAM.out rfl rfl rfl (!B) (congrArg not HB.out) ?_; simp only [Act.put, List.setIfInBounds_toArray, List.set_cons_zero, List.set_cons_succ]))
      go_ret
      exact ⟨by rw [HF.out]; rfl, B1.out⟩
    replace utk := Classical.not_not.1 utk
    exact absurd ⟨lix, uix, len, uen, ltk, utk⟩ hall
/-- What the document's Form lays, of any values. -/
def fmE1 (ix : Int) : Int := dnE 0 ix
def fmE2 (ix en : Int) : Int := dnE (fmE1 ix) en
def fmE3 (ix en tk : Int) : Int := dnE (fmE2 ix en) tk
def fmB1 (ix : Int) : List (BitVec 8) := dnB (dB [] 0 [76#8]) 0 ix
def fmB2 (ix en : Int) : List (BitVec 8) := dnB (fmB1 ix) (fmE1 ix) en
def fmB3 (ix en tk : Int) : List (BitVec 8) := dnB (fmB2 ix en) (fmE2 ix en) tk
def fmB4 (ix en tk : Int) (rc : List (BitVec 8)) : List (BitVec 8) := dB (fmB3 ix en tk) (fmE3 ix en tk) rc
def formB (ix en tk : Int) (rc : List (BitVec 8)) (am : List Nat) : List (BitVec 8) := dB (fmB4 ix en tk rc) (fmE3 ix en tk) (wf am)
theorem formB_may (ix en tk : Int) (rc : List (BitVec 8)) (am : List Nat) (h : may ix en tk am = true) : formB ix en tk rc am = lfb ix en tk rc am := by
  obtain ⟨h1, _, h3, _, h5, _⟩ := may_in h
  have e1 : fmE1 ix = 0 := by unfold fmE1 dnE; rw [if_pos rfl, if_neg (by omega)]
  have e2 : fmE2 ix en = 0 := by unfold fmE2 dnE; rw [e1, if_pos rfl, if_neg (by omega)]
  have e3 : fmE3 ix en tk = 0 := by unfold fmE3 dnE; rw [e2, if_pos rfl, if_neg (by omega)]
  unfold formB fmB4 fmB3 fmB2 fmB1 dB dnB
  rw [e3, e2, e1, if_pos rfl, if_pos rfl, if_pos rfl, if_pos ⟨rfl, h5⟩, if_pos ⟨rfl, h3⟩, if_pos ⟨rfl, h1⟩]
  rfl
theorem built_dw : Try.prog.built 64 [] = some #[.slice none 0 0, .int .i64 0] := by kernel_rfl
set_option maxRecDepth 100000 in
set_option maxHeartbeats 4000000 in
theorem form_doc (ix en tk : Int) (hix : ix < 9223372036854775808) (hen : en < 9223372036854775808) (htk : tk < 9223372036854775808) (rc : List (BitVec 8)) (am : List Nat) (hrc : rc.length = 20) (ham : am.length = 4) (hq4 : ∀ x ∈ am, x < 18446744073709551616) (L : List Value) (hL : L = lf ix en tk rc am) (w : World) : Calls Try.prog 8 #[.agg L.toArray] w fun e w' => ∃ v, e = .returned v ∧ Bw w' v (formB ix en tk rc am) ∧ Fresh w.heap.size v ∧ Below w.heap.size w w' := by
  have HBD : Hid (ix < 9223372036854775808 ∧ en < 9223372036854775808 ∧ tk < 9223372036854775808) := ⟨hix, hen, htk⟩
  have HL : Hid (L = lf ix en tk rc am) := hL
  have HTO : Hid (rc.length = 20) := hrc
  have HAM : Hid (am.length = 4) := ham
  have HQ : Hid (∀ x ∈ am, x < 18446744073709551616) := hq4
  have HIA : Hid ((Try.prog.info? 34).map (·.size) = some (vB rc).length) := info_Ad rc hrc
  have HIW : Hid ((Try.prog.info? 37).map (·.size) = some (vQ am).length) := info_Wd am ham
  have LN : Hid ((dB [] 0 [76#8]).length ≤ 1000000 ∧ (fmB1 ix).length ≤ 1000000 ∧ (fmB2 ix en).length ≤ 1000000 ∧ (fmB3 ix en tk).length ≤ 1000000 ∧ (fmB4 ix en tk rc).length ≤ 1000000) := by
    have a0 := dB_len [] 0 [76#8]
    have a1 := dnB_len (dB [] 0 [76#8]) 0 ix
    have a2 := dnB_len (fmB1 ix) (fmE1 ix) en
    have a3 := dnB_len (fmB2 ix en) (fmE2 ix en) tk
    have a4 := dB_len (fmB3 ix en tk) (fmE3 ix en tk) rc
    have b1 : (fmB1 ix).length ≤ (dB [] 0 [76#8]).length + 33 := a1
    have b2 : (fmB2 ix en).length ≤ (fmB1 ix).length + 33 := a2
    have b3 : (fmB3 ix en tk).length ≤ (fmB2 ix en).length + 33 := a3
    have b4 : (fmB4 ix en tk rc).length ≤ (fmB3 ix en tk).length + rc.length := a4
    simp at a0
    refine ⟨?_, ?_, ?_, ?_, ?_⟩ <;> omega
  clear hix hen htk hL hrc ham hq4
  go_enter Try.func8, Try.ntmps8
  go_upto_region 1 with (refine wpList_boxG 39 rfl (.tmp 0) rfl L rfl ?_; intro X1 q1 q2 q3; have R1 : Hid (Row X1 w.heap.size (lf ix en tk rc am) 39) := (by rw [← HL.out]; exact q1); have B1 : Hid (Below w.heap.size w X1) := q2; clear q1 q2 q3; simp only [Act.put, List.setIfInBounds_toArray, List.set_cons_zero, List.set_cons_succ])
  go_upto_region 2 with (refine wpList_boxG 64 rfl (.tmp 4) rfl [.slice none 0 0, .int .i64 0] rfl ?_; intro X2 q1 q2 q3; have M2 : Hid (Dw X1 X2 X1.heap.size (.slice none 0 0) [] 0) := ⟨q1, Bw.nil _, (fun g e => by cases e), Nat.le_refl _, q2⟩; clear q1 q2 q3; simp only [Act.put, List.setIfInBounds_toArray, List.set_cons_zero, List.set_cons_succ])
  obtain ⟨b, hb⟩ : ∃ b, b = w.heap.size := ⟨_, rfl⟩
  obtain ⟨P, hP⟩ : ∃ P, P = X1.heap.size := ⟨_, rfl⟩
  have RL : Hid (∀ Y, Below X1.heap.size X1 Y → Row Y b (lf ix en tk rc am) 39) := fun Y k => by rw [hb]; exact Row.below R1.out k R1.out.lt
  rw [← hP] at M2
  rw [← hP, ← hb]
  clear hb hP R1
  go_upto_region 3 with (go_at_call 25; refine Calls.mono (dw_byte X1 P (.slice none 0 0) [] 0 (Nat.zero_le _) 76#8 76 rfl X2 M2.out) ?_; rintro e X3 ⟨rfl, v3, q⟩; have M3 : Hid (Dw X1 X3 P v3 (dB [] 0 [76#8]) 0) := q; have c0 := (RL.out X3 q.be).cell 0 _ rfl; clear q M2)
  go_upto_region 4 with (go_at_call 26; refine Calls.mono (dw_number X1 P v3 (dB [] 0 [76#8]) 0 LN.out.1 ix HBD.out.1 X3 M3.out) ?_; rintro e X4 ⟨rfl, v4, q⟩; have M4 : Hid (Dw X1 X4 P v4 (fmB1 ix) (fmE1 ix)) := q; have c1 := (RL.out X4 q.be).cell 1 _ rfl; clear q M3 c0)
  go_upto_region 5 with (go_at_call 26; refine Calls.mono (dw_number X1 P v4 (fmB1 ix) (fmE1 ix) LN.out.2.1 en HBD.out.2.1 X4 M4.out) ?_; rintro e X5 ⟨rfl, v5, q⟩; have M5 : Hid (Dw X1 X5 P v5 (fmB2 ix en) (fmE2 ix en)) := q; have c2 := (RL.out X5 q.be).cell 2 _ rfl; clear q M4 c1)
  go_upto_region 6 with (go_at_call 26; refine Calls.mono (dw_number X1 P v5 (fmB2 ix en) (fmE2 ix en) LN.out.2.2.1 tk HBD.out.2.2 X5 M5.out) ?_; rintro e X6 ⟨rfl, v6, q⟩; have M6 : Hid (Dw X1 X6 P v6 (fmB3 ix en tk) (fmE3 ix en tk)) := q; have RT : Hid (X6.rangeAt b 3 (vB rc)) := lf_rto (RL.out X6 q.be); clear q M5 c2)
  go_upto_region 7 with (first
    | (refine wpList_load_w rfl 34 (.tmp 21) rfl b 3 rfl (vB rc) _ RT.out Try.underlying34 rfl HIA.out ?_; simp only [Act.put, List.setIfInBounds_toArray, List.set_cons_zero, List.set_cons_succ])
    | (go_at_call 27; refine Calls.mono (dw_address X1 P v6 (fmB3 ix en tk) (fmE3 ix en tk) LN.out.2.2.2.1 rc HTO.out X6 M6.out) ?_; rintro e X7 ⟨rfl, v7, q⟩; have M7 : Hid (Dw X1 X7 P v7 (fmB4 ix en tk rc) (fmE3 ix en tk)) := q; have RA : Hid (X7.rangeAt b 23 (vQ am)) := lf_ram HTO.out (RL.out X7 q.be); clear q M6 RT))
  go_upto_region 8 with (first
    | (refine wpList_load_w rfl 37 (.tmp 25) rfl b 23 rfl (vQ am) _ RA.out Try.underlying37 rfl HIW.out ?_; simp only [Act.put, List.setIfInBounds_toArray, List.set_cons_zero, List.set_cons_succ])
    | (go_at_call 28; refine Calls.mono (dw_wide X1 P v7 (fmB4 ix en tk rc) (fmE3 ix en tk) LN.out.2.2.2.2 am HAM.out HQ.out X7 M7.out) ?_; rintro e X8 ⟨rfl, v8, q⟩; have M8 : Hid (Dw X1 X8 P v8 (formB ix en tk rc am) (fmE3 ix en tk)) := q; clear q M7 RA))
  obtain ⟨A8, c8, e8, _, _⟩ := Bw.form M8.out.bw
  obtain ⟨n8, hn8⟩ : ∃ n, n = (formB ix en tk rc am).length := ⟨_, rfl⟩
  rw [← hn8] at e8
  subst e8
  have cv := M8.out.row.cell 0 _ rfl
  clear hn8
  go_wp2
  go_ret
  exact ⟨_, rfl, M8.out.bw, M8.out.fr.more B1.out.size, B1.out.trans (M8.out.be.mono B1.out.size)⟩
set_option maxRecDepth 100000 in
set_option maxHeartbeats 4000000 in
theorem obytes_ok (ix en tk : Int) (rc : List (BitVec 8)) (am : List Nat) (hrc : rc.length = 20) (ham : am.length = 4) (hq4 : ∀ x ∈ am, x < 18446744073709551616) (hm : may ix en tk am = true) (L : List Value) (hL : L = lf ix en tk rc am) (w : World) : Calls Try.prog 6 #[.agg L.toArray] w fun e w' => ∃ v, e = .returned (.tuple #[v, .int .i64 0]) ∧ Bw w' v (lfb ix en tk rc am) ∧ Fresh w.heap.size v ∧ Below w.heap.size w w' := by
  have HM : Hid (∀ X, Calls Try.prog 24 #[.agg L.toArray] X fun e w' => e = .returned (.bool true) ∧ Below X.heap.size X w') := fun X => by have := may_doc ix en tk rc am hrc ham L hL X; rwa [hm] at this
  have HFO : Hid (∀ X, Calls Try.prog 8 #[.agg L.toArray] X fun e w' => ∃ v, e = .returned v ∧ Bw w' v (lfb ix en tk rc am) ∧ Fresh X.heap.size v ∧ Below X.heap.size X w') := fun X => by
    obtain ⟨_, h2, _, h4, _, h6⟩ := may_in hm
    have q := form_doc ix en tk (by omega) (by omega) (by omega) rc am hrc ham hq4 L hL X
    rw [formB_may ix en tk rc am hm] at q
    exact q
  have HI : Hid ((Try.prog.info? 39).map (·.size) = some L.length) := by rw [hL]; exact info_lf hrc ham
  clear hL hrc ham hq4 hm
  go_enter Try.func6, Try.ntmps6
  go_wp2_with (first
    | (refine wpList_boxG 39 rfl (.tmp 0) rfl L rfl ?_; intro X1 q1 q2 q3; have R1 : Hid (Row X1 w.heap.size L 39) := q1; have B1 : Hid (Below w.heap.size w X1) := q2; clear q1 q2 q3; simp only [Act.put, List.setIfInBounds_toArray, List.set_cons_zero, List.set_cons_succ])
    | (refine wpList_load_w rfl 39 (.tmp 1) rfl w.heap.size 0 rfl L _ R1.out.all Try.underlying39 rfl HI.out ?_; simp only [Act.put, List.setIfInBounds_toArray, List.set_cons_zero, List.set_cons_succ])
    | (go_at_call 24; refine Calls.mono (HM.out X1) ?_; rintro e X2 ⟨rfl, q⟩; have R2 : Hid (Row X2 w.heap.size L 39) := Row.below R1.out q R1.out.lt; have B2 : Hid (Below w.heap.size w X2) := B1.out.trans (q.mono B1.out.size); clear q)
    | (refine wpList_load_w rfl 39 (.tmp 1) rfl w.heap.size 0 rfl L _ R2.out.all Try.underlying39 rfl HI.out ?_; simp only [Act.put, List.setIfInBounds_toArray, List.set_cons_zero, List.set_cons_succ])
    | (go_at_call 8; refine Calls.mono (HFO.out X2) ?_; rintro e X3 ⟨v, rfl, q1, q2, q3⟩; have W3 : Hid (Bw X3 v (lfb ix en tk rc am)) := q1; have F3 : Hid (Fresh w.heap.size v) := q2.more B2.out.size; have B3 : Hid (Below w.heap.size w X3) := B2.out.trans (q3.mono B2.out.size); clear q1 q2 q3))
  go_ret2
  exact ⟨_, rfl, W3.out, F3.out, B3.out⟩
set_option maxRecDepth 100000 in
set_option maxHeartbeats 4000000 in
theorem obytes_no (ix en tk : Int) (rc : List (BitVec 8)) (am : List Nat) (hrc : rc.length = 20) (ham : am.length = 4) (hm : may ix en tk am = false) (L : List Value) (hL : L = lf ix en tk rc am) (w : World) : Calls Try.prog 6 #[.agg L.toArray] w fun e w' => e = .returned (.tuple #[.slice none 0 0, .int .i64 110]) ∧ Below w.heap.size w w' := by
  have HM : Hid (∀ X, Calls Try.prog 24 #[.agg L.toArray] X fun e w' => e = .returned (.bool false) ∧ Below X.heap.size X w') := fun X => by have := may_doc ix en tk rc am hrc ham L hL X; rwa [hm] at this
  have HI : Hid ((Try.prog.info? 39).map (·.size) = some L.length) := by rw [hL]; exact info_lf hrc ham
  clear hL hrc ham hm
  go_enter Try.func6, Try.ntmps6
  go_wp2_with (first
    | (refine wpList_boxG 39 rfl (.tmp 0) rfl L rfl ?_; intro X1 q1 q2 q3; have R1 : Hid (Row X1 w.heap.size L 39) := q1; have B1 : Hid (Below w.heap.size w X1) := q2; clear q1 q2 q3; simp only [Act.put, List.setIfInBounds_toArray, List.set_cons_zero, List.set_cons_succ])
    | (refine wpList_load_w rfl 39 (.tmp 1) rfl w.heap.size 0 rfl L _ R1.out.all Try.underlying39 rfl HI.out ?_; simp only [Act.put, List.setIfInBounds_toArray, List.set_cons_zero, List.set_cons_succ])
    | (go_at_call 24; refine Calls.mono (HM.out X1) ?_; rintro e X2 ⟨rfl, q⟩; have B2 : Hid (Below w.heap.size w X2) := B1.out.trans (q.mono B1.out.size); clear q))
  go_ret2
  exact ⟨rfl, B2.out⟩

end Go.Proofs.Ytehjadgmleoobaa
