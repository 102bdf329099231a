/-
  greater, less; keys.
-/
import Derived.Test.YtelioddogdcdoaaDoorLhD
import Derived.LoopN
namespace Go.Proofs.YtelioddogdcdoaaDoor
open Go Go.RowKit Go.Maps
open Sha
open Wd

set_option maxRecDepth 100000 in
set_option maxHeartbeats 4000000 in
theorem grt (w0 : World) (S q : Nat) (f : ByteArray → List (BitVec 8)) (hq : q < 1000000) (t : Nat) (s : ByteArray) (hs : isK s.size = true) (a b : Nat) (ha : a < 2 ^ 256) (hb : b < 2 ^ 256) (hab : a + b < 2 ^ 256) (hd : f s = enc a) (LP LB : List Value) (hLP : LP = pgl S t) (hLB : LB = wq b) (N0 : List Value) (hN0 : N0 = lnl s (a + b)) (w : World) (h : Lg w0 w S q f) :
    Calls Tryd.prog 25 #[.agg LP.toArray, .string s, .agg LB.toArray] w fun e w' => e = .returned (.tuple #[.agg N0.toArray, .int .i64 0]) ∧ Lg w0 w' S (q + 1) f ∧ Kp w w' := by
  obtain ⟨LA, hLA⟩ : ∃ L : List Value, L = wq a := ⟨_, rfl⟩
  obtain ⟨LS, hLS⟩ : ∃ L : List Value, L = wq (a + b) := ⟨_, rfl⟩
  have HLPE : Hid (LP = pgl S t) := hLP
  have HLPI : Hid ((Tryd.prog.info? 58).map (·.size) = some LP.length) := by show _ = _; rw [hLP]; exact info_pgl S t
  have HLPJ : Hid ((Tryd.prog.info? 58).map (·.size) = some LP.toArray.size) := by show _ = _; rw [List.size_toArray, hLP]; exact info_pgl S t
  have HLPN : Hid (LP.length = zP.length) := by show _ = _; rw [hLP]; exact rfl
  have HLPO : Hid (LP.toArray.all (·.oneCell') = true) := by show _ = true; rw [hLP]; exact pgl_one S t
  have HLAE : Hid (LA = wq a) := hLA
  have HLAI : Hid ((Tryd.prog.info? 25).map (·.size) = some LA.length) := by show _ = _; rw [hLA]; exact info_wq _
  have HLAJ : Hid ((Tryd.prog.info? 25).map (·.size) = some LA.toArray.size) := by show _ = _; rw [List.size_toArray, hLA]; exact info_wq _
  have HLAN : Hid (LA.length = zW.length) := by show _ = _; rw [hLA]; exact wq_len _
  have HLAO : Hid (LA.toArray.all (·.oneCell') = true) := by show _ = true; rw [hLA]; exact wq_one _
  have HLBE : Hid (LB = wq b) := hLB
  have HLBI : Hid ((Tryd.prog.info? 25).map (·.size) = some LB.length) := by show _ = _; rw [hLB]; exact info_wq _
  have HLBJ : Hid ((Tryd.prog.info? 25).map (·.size) = some LB.toArray.size) := by show _ = _; rw [List.size_toArray, hLB]; exact info_wq _
  have HLBN : Hid (LB.length = zW.length) := by show _ = _; rw [hLB]; exact wq_len _
  have HLBO : Hid (LB.toArray.all (·.oneCell') = true) := by show _ = true; rw [hLB]; exact wq_one _
  have HLSE : Hid (LS = wq (a + b)) := hLS
  have HLSI : Hid ((Tryd.prog.info? 25).map (·.size) = some LS.length) := by show _ = _; rw [hLS]; exact info_wq _
  have HLSJ : Hid ((Tryd.prog.info? 25).map (·.size) = some LS.toArray.size) := by show _ = _; rw [List.size_toArray, hLS]; exact info_wq _
  have HLSN : Hid (LS.length = zW.length) := by show _ = _; rw [hLS]; exact wq_len _
  have HLSO : Hid (LS.toArray.all (·.oneCell') = true) := by show _ = true; rw [hLS]; exact wq_one _
  have HN0E : Hid (N0 = lnl s (a + b)) := hN0
  have HN0I : Hid ((Tryd.prog.info? 65).map (·.size) = some N0.length) := by show _ = _; rw [hN0]; exact info_lnl _ _
  have HN0J : Hid ((Tryd.prog.info? 65).map (·.size) = some N0.toArray.size) := by show _ = _; rw [List.size_toArray, hN0]; exact info_lnl _ _
  have HN0N : Hid (N0.length = zL.length) := by show _ = _; rw [hN0]; exact lnl_len _ _
  have HN0O : Hid (N0.toArray.all (·.oneCell') = true) := by show _ = true; rw [hN0]; exact lnl_one _ _
  have HBL : Hid (∀ w, (Instr.build 65 #[(0, .string s), (1, .agg LS.toArray)]).run Tryd.prog w = .ok (.agg N0.toArray) w) := fun w => by rw [hLS, hN0]; exact build_lin s (a + b) w
  have HAM : Hid (∀ W, Lg w0 W S q f → _) := fun W hW => amt_g w0 S q f hq t s hs a ha hd LP LA hLP hLA W hW
  have HOP : Hid (∀ W, Calls Tryd.prog 24 #[.agg LA.toArray, .agg LB.toArray] W fun e w' => e = .returned (.tuple #[.agg LS.toArray, .int .i64 0]) ∧ Below W.heap.size W w') := fun W => by rw [hLA, hLB, hLS]; exact addG W a b ha hb hab
  have HG : Hid (Lg w0 w S q f) := h
  have HW0 : Hid (w0.heap.size ≤ w.heap.size) := h.bel.size
  clear hLP hLA hLB hLS hq hs ha hb hab hd h hN0
  go_enter Tryd.func25, Tryd.ntmps25
  go_upto_region 1 with (first
    | (refine wpList_boxG 58 rfl (.tmp 0) rfl LP rfl ?_; intro X0 q1 q2 q3; have Q0 : Hid (Row X0 _ LP 58) := q1; have B0 : Hid (Below _ _ X0) := q2; clear q1 q2 q3; simp only [Act.put, List.setIfInBounds_toArray, List.set_cons_zero, List.set_cons_succ])
    | (refine wpList_boxG 25 rfl (.tmp 2) rfl LB rfl ?_; intro X1 q1 q2 q3; have Q1 : Hid (Row X1 _ LB 25) := q1; have B1 : Hid (Below _ _ X1) := q2; clear q1 q2 q3; simp only [Act.put, List.setIfInBounds_toArray, List.set_cons_zero, List.set_cons_succ])
    | (refine wpList_allocL rfl rfl ?_; intro X2 q1 q2 q3; have Q2 : Hid (Row X2 _ zL 65) := q1; have B2 : Hid (Below _ _ X2) := q2; clear q1 q2 q3; simp only [Act.put, List.setIfInBounds_toArray, List.set_cons_zero, List.set_cons_succ]))
  obtain ⟨bp, hbp⟩ : ∃ b, b = w.heap.size := ⟨_, rfl⟩
  obtain ⟨bb, hbb⟩ : ∃ b, b = X0.heap.size := ⟨_, rfl⟩
  obtain ⟨bq, hbq⟩ : ∃ b, b = X1.heap.size := ⟨_, rfl⟩
  have c00 := B0.out
  have c01 := c00.trans (B1.out.mono c00.size)
  have c02 := c01.trans (B2.out.mono c01.size)
  have c11 := B1.out
  have c12 := c11.trans (B2.out.mono c11.size)
  have c22 := B2.out
  have Rp : Hid (Row X2 bp LP 58) := by rw [hbp]; exact Row.below Q0.out c12 Q0.out.lt
  have HWbp : Hid (w.heap.size ≤ bp) := by show _ ≤ _; rw [hbp]; exact Nat.le_refl _
  have Rb : Hid (Row X2 bb LB 25) := by rw [hbb]; exact Row.below Q1.out c22 Q1.out.lt
  have HWbb : Hid (w.heap.size ≤ bb) := by show _ ≤ _; rw [hbb]; exact c00.size
  have Rl : Hid (Row X2 bq zL 65) := by rw [hbq]; exact Q2.out
  have HWbq : Hid (w.heap.size ≤ bq) := by show _ ≤ _; rw [hbq]; exact c01.size
  have Nbpbb : Hid (bp ≠ bb) := by show _ ≠ _; have := Q0.out.lt; rw [hbp, hbb]; omega
  have Nbpbq : Hid (bp ≠ bq) := by show _ ≠ _; have := Q0.out.lt; rw [hbp, hbq]; have := c11.size; omega
  have Nbbbq : Hid (bb ≠ bq) := by show _ ≠ _; have := Q1.out.lt; rw [hbb, hbq]; omega
  have BX : Hid (Below w.heap.size w X2) := c02
  rw [← hbp, ← hbb, ← hbq]
  clear hbp hbb hbq c00 c01 c02 c11 c12 c22 Q0 B0 Q1 B1 Q2 B2
  replace HG : Hid (Lg w0 X2 S q f) := HG.out.be BX.out
  have HK : Hid (Kp w X2) := Kp.of_below BX.out
  have Sp' : Hid (X2.rangeAt bp 0 LP) := Rp.out.all
  clear BX
  go_wp2_with (refine wpList_load_w rfl 58 (.tmp 3) rfl bp 0 rfl LP _ Sp'.out Tryd.underlying58 rfl HLPI.out ?_; simp only [Act.put, List.setIfInBounds_toArray, List.set_cons_zero, List.set_cons_succ])
  refine Calls.mono (HAM.out X2 HG.out) ?_
  rintro e V ⟨rfl, hG, hK⟩
  replace Rb : Hid (Row V bb LB 25) := hK.row _ _ _ (by decide) Rb.out
  replace Rl : Hid (Row V bq zL 65) := hK.row _ _ _ (by decide) Rl.out
  replace HG : Hid (Lg w0 V S (q + 1) f) := hG
  replace HK : Hid (Kp w V) := HK.out.trans hK
  clear hG hK Sp' HAM Rp
  obtain ⟨p8, hp8⟩ : ∃ b, b = V.heap.size := ⟨_, rfl⟩
  have HBp8 : Hid (p8 = V.heap.size) := hp8
  clear hp8
  go_upto_region 4 with (first
    | (refine wpList_allocW rfl rfl ?_; intro XY8 q1 q2 q3; have QY8 : Hid (Row XY8 _ zW 25) := q1; have BY8 : Hid (Below _ _ XY8) := q2; clear q1 q2 q3; simp only [Act.put, List.setIfInBounds_toArray, List.set_cons_zero, List.set_cons_succ])
    | (refine wpList_storeL rfl 25 (.tmp 8) (.tmp 15) rfl V.heap.size LA zW 25 rfl rfl QY8.out HLAN.out HLAI.out HLAO.out ?_; intro Y8 q1 q2; have HY8 : Hid (Y8 = _) := q1; have RY8 : Hid (Row Y8 V.heap.size LA 25) := q2; clear q1 q2; simp only [Act.put]))
  rw [← HBp8.out] at RY8 HY8
  rw [← HBp8.out]
  have cb : Below V.heap.size V Y8 := by rw [HY8.out]; exact below_setCells BY8.out (by rw [HBp8.out]; exact Nat.le_refl _) _
  have Nbbp8 : Hid (bb ≠ p8) := by show _ ≠ _; have := Rb.out.lt; rw [HBp8.out]; omega
  have Nbqp8 : Hid (bq ≠ p8) := by show _ ≠ _; have := Rl.out.lt; rw [HBp8.out]; omega
  replace Rb : Hid (Row Y8 bb LB 25) := Row.below Rb.out cb Rb.out.lt
  replace Rl : Hid (Row Y8 bq zL 65) := Row.below Rl.out cb Rl.out.lt
  replace HG : Hid (Lg w0 Y8 S (q + 1) f) := HG.out.be cb
  replace HK : Hid (Kp w Y8) := HK.out.trans (Kp.of_below cb)
  have Rp8 : Hid (Row Y8 p8 LA 25) := RY8.out
  clear cb HY8 BY8 QY8 RY8 HBp8
  have S8 : Hid (Y8.rangeAt p8 0 LA) := Rp8.out.all
  have S5 : Hid (Y8.rangeAt bb 0 LB) := Rb.out.all
  go_wp2_with (first
    | (refine wpList_load_w rfl 25 (.tmp 8) rfl p8 0 rfl LA _ S8.out Tryd.underlying25 rfl HLAI.out ?_; simp only [Act.put, List.setIfInBounds_toArray, List.set_cons_zero, List.set_cons_succ])
    | (refine wpList_load_w rfl 25 (.tmp 5) rfl bb 0 rfl LB _ S5.out Tryd.underlying25 rfl HLBI.out ?_; simp only [Act.put, List.setIfInBounds_toArray, List.set_cons_zero, List.set_cons_succ]))
  refine Calls.mono (HOP.out Y8) ?_
  rintro e V2 ⟨rfl, hB⟩
  replace Rl : Hid (Row V2 bq zL 65) := Row.below Rl.out hB Rl.out.lt
  replace HG : Hid (Lg w0 V2 S (q + 1) f) := HG.out.be hB
  replace HK : Hid (Kp w V2) := HK.out.trans (Kp.of_below hB)
  clear hB HOP S8 S5 Rp8 Rb
  obtain ⟨p10, hp10⟩ : ∃ b, b = V2.heap.size := ⟨_, rfl⟩
  have HBp10 : Hid (p10 = V2.heap.size) := hp10
  clear hp10
  go_upto_region 7 with (first
    | (refine wpList_allocW rfl rfl ?_; intro XY10 q1 q2 q3; have QY10 : Hid (Row XY10 _ zW 25) := q1; have BY10 : Hid (Below _ _ XY10) := q2; clear q1 q2 q3; simp only [Act.put, List.setIfInBounds_toArray, List.set_cons_zero, List.set_cons_succ])
    | (refine wpList_storeL rfl 25 (.tmp 10) (.tmp 25) rfl V2.heap.size LS zW 25 rfl rfl QY10.out HLSN.out HLSI.out HLSO.out ?_; intro Y10 q1 q2; have HY10 : Hid (Y10 = _) := q1; have RY10 : Hid (Row Y10 V2.heap.size LS 25) := q2; clear q1 q2; simp only [Act.put]))
  rw [← HBp10.out] at RY10 HY10
  rw [← HBp10.out]
  have cb : Below V2.heap.size V2 Y10 := by rw [HY10.out]; exact below_setCells BY10.out (by rw [HBp10.out]; exact Nat.le_refl _) _
  have Nbqp10 : Hid (bq ≠ p10) := by show _ ≠ _; have := Rl.out.lt; rw [HBp10.out]; omega
  replace Rl : Hid (Row Y10 bq zL 65) := Row.below Rl.out cb Rl.out.lt
  replace HG : Hid (Lg w0 Y10 S (q + 1) f) := HG.out.be cb
  replace HK : Hid (Kp w Y10) := HK.out.trans (Kp.of_below cb)
  have Rp10 : Hid (Row Y10 p10 LS 25) := RY10.out
  clear cb HY10 BY10 QY10 RY10 HBp10
  have S10 : Hid (Y10.rangeAt p10 0 LS) := Rp10.out.all
  go_wp2_with (first
    | (refine wpList_load_w rfl 25 (.tmp 10) rfl p10 0 rfl LS _ S10.out Tryd.underlying25 rfl HLSI.out ?_; simp only [Act.put, List.setIfInBounds_toArray, List.set_cons_zero, List.set_cons_succ])
    | (refine wpList_bld rfl 65 #[(0, .tmp 30), (1, .tmp 31)] rfl #[(0, .string s), (1, .agg LS.toArray)] rfl N0 HBL.out ?_; simp only [Act.put, List.setIfInBounds_toArray, List.set_cons_zero, List.set_cons_succ])
    | (refine wpList_storeL rfl 65 (.tmp 6) (.tmp 32) rfl bq N0 zL 65 rfl rfl Rl.out HN0N.out HN0I.out HN0O.out ?_; intro Y q1 q2; have HY : Hid (Y = _) := q1; have RY : Hid (Row Y bq N0 65) := q2; clear q1 q2; simp only [Act.put]))
  have gG : Lg w0 Y S (q + 1) f := by rw [HY.out]; exact HG.out.kept Rl.out (by decide) (by decide) (by decide) (by decide) (fun k hk => heap_sets _ _ _ _ _ hk) (below_setCells HG.out.bel (Nat.le_trans HW0.out HWbq.out) _)
  have gK : Kp w Y := by rw [HY.out]; exact Kp.kept bq HWbq.out HK.out (fun k hk => heap_sets _ _ _ _ _ hk) (below_setCells (Below.refl 0 _) (Nat.zero_le bq) _).size
  exact bodyPost_ret (results_rowS_tmp Tryd.results25 _ _ bq 65 N0 (.int .i64 0) rfl rfl RY.out Tryd.underlying65 HN0I.out) rfl ⟨rfl, gG, gK⟩
set_option maxRecDepth 100000 in
set_option maxHeartbeats 4000000 in
theorem les (w0 : World) (S q : Nat) (f : ByteArray → List (BitVec 8)) (hq : q < 1000000) (t : Nat) (s : ByteArray) (hs : isK s.size = true) (a b : Nat) (ha : a < 2 ^ 256) (_hb : b < 2 ^ 256) (hab : b ≤ a) (hd : f s = enc a) (LP LB : List Value) (hLP : LP = pgl S t) (hLB : LB = wq b) (N0 : List Value) (hN0 : N0 = lnl s (a - b)) (er : Int) (w : World) (h : Lg w0 w S q f) :
    Calls Tryd.prog 34 #[.agg LP.toArray, .string s, .agg LB.toArray, .int .i64 er] w fun e w' => e = .returned (.tuple #[.agg N0.toArray, .int .i64 0]) ∧ Lg w0 w' S (q + 1) f ∧ Kp w w' := by
  obtain ⟨LA, hLA⟩ : ∃ L : List Value, L = wq a := ⟨_, rfl⟩
  obtain ⟨LS, hLS⟩ : ∃ L : List Value, L = wq (a - b) := ⟨_, rfl⟩
  have HLPE : Hid (LP = pgl S t) := hLP
  have HLPI : Hid ((Tryd.prog.info? 58).map (·.size) = some LP.length) := by show _ = _; rw [hLP]; exact info_pgl S t
  have HLPJ : Hid ((Tryd.prog.info? 58).map (·.size) = some LP.toArray.size) := by show _ = _; rw [List.size_toArray, hLP]; exact info_pgl S t
  have HLPN : Hid (LP.length = zP.length) := by show _ = _; rw [hLP]; exact rfl
  have HLPO : Hid (LP.toArray.all (·.oneCell') = true) := by show _ = true; rw [hLP]; exact pgl_one S t
  have HLAE : Hid (LA = wq a) := hLA
  have HLAI : Hid ((Tryd.prog.info? 25).map (·.size) = some LA.length) := by show _ = _; rw [hLA]; exact info_wq _
  have HLAJ : Hid ((Tryd.prog.info? 25).map (·.size) = some LA.toArray.size) := by show _ = _; rw [List.size_toArray, hLA]; exact info_wq _
  have HLAN : Hid (LA.length = zW.length) := by show _ = _; rw [hLA]; exact wq_len _
  have HLAO : Hid (LA.toArray.all (·.oneCell') = true) := by show _ = true; rw [hLA]; exact wq_one _
  have HLBE : Hid (LB = wq b) := hLB
  have HLBI : Hid ((Tryd.prog.info? 25).map (·.size) = some LB.length) := by show _ = _; rw [hLB]; exact info_wq _
  have HLBJ : Hid ((Tryd.prog.info? 25).map (·.size) = some LB.toArray.size) := by show _ = _; rw [List.size_toArray, hLB]; exact info_wq _
  have HLBN : Hid (LB.length = zW.length) := by show _ = _; rw [hLB]; exact wq_len _
  have HLBO : Hid (LB.toArray.all (·.oneCell') = true) := by show _ = true; rw [hLB]; exact wq_one _
  have HLSE : Hid (LS = wq (a - b)) := hLS
  have HLSI : Hid ((Tryd.prog.info? 25).map (·.size) = some LS.length) := by show _ = _; rw [hLS]; exact info_wq _
  have HLSJ : Hid ((Tryd.prog.info? 25).map (·.size) = some LS.toArray.size) := by show _ = _; rw [List.size_toArray, hLS]; exact info_wq _
  have HLSN : Hid (LS.length = zW.length) := by show _ = _; rw [hLS]; exact wq_len _
  have HLSO : Hid (LS.toArray.all (·.oneCell') = true) := by show _ = true; rw [hLS]; exact wq_one _
  have HN0E : Hid (N0 = lnl s (a - b)) := hN0
  have HN0I : Hid ((Tryd.prog.info? 65).map (·.size) = some N0.length) := by show _ = _; rw [hN0]; exact info_lnl _ _
  have HN0J : Hid ((Tryd.prog.info? 65).map (·.size) = some N0.toArray.size) := by show _ = _; rw [List.size_toArray, hN0]; exact info_lnl _ _
  have HN0N : Hid (N0.length = zL.length) := by show _ = _; rw [hN0]; exact lnl_len _ _
  have HN0O : Hid (N0.toArray.all (·.oneCell') = true) := by show _ = true; rw [hN0]; exact lnl_one _ _
  have HBL : Hid (∀ w, (Instr.build 65 #[(0, .string s), (1, .agg LS.toArray)]).run Tryd.prog w = .ok (.agg N0.toArray) w) := fun w => by rw [hLS, hN0]; exact build_lin s (a - b) w
  have HAM : Hid (∀ W, Lg w0 W S q f → _) := fun W hW => amt_g w0 S q f hq t s hs a ha hd LP LA hLP hLA W hW
  have HOP : Hid (∀ W, Calls Tryd.prog 37 #[.agg LA.toArray, .agg LB.toArray] W fun e w' => e = .returned (.tuple #[.agg LS.toArray, .int .i64 0]) ∧ Below W.heap.size W w') := fun W => by rw [hLA, hLB, hLS]; exact subG W a b ha hab
  have HG : Hid (Lg w0 w S q f) := h
  have HW0 : Hid (w0.heap.size ≤ w.heap.size) := h.bel.size
  clear hLP hLA hLB hLS hq hs ha _hb hab hd h hN0
  go_enter Tryd.func34, Tryd.ntmps34
  go_upto_region 1 with (first
    | (refine wpList_boxG 58 rfl (.tmp 0) rfl LP rfl ?_; intro X0 q1 q2 q3; have Q0 : Hid (Row X0 _ LP 58) := q1; have B0 : Hid (Below _ _ X0) := q2; clear q1 q2 q3; simp only [Act.put, List.setIfInBounds_toArray, List.set_cons_zero, List.set_cons_succ])
    | (refine wpList_boxG 25 rfl (.tmp 2) rfl LB rfl ?_; intro X1 q1 q2 q3; have Q1 : Hid (Row X1 _ LB 25) := q1; have B1 : Hid (Below _ _ X1) := q2; clear q1 q2 q3; simp only [Act.put, List.setIfInBounds_toArray, List.set_cons_zero, List.set_cons_succ])
    | (refine wpList_allocL rfl rfl ?_; intro X2 q1 q2 q3; have Q2 : Hid (Row X2 _ zL 65) := q1; have B2 : Hid (Below _ _ X2) := q2; clear q1 q2 q3; simp only [Act.put, List.setIfInBounds_toArray, List.set_cons_zero, List.set_cons_succ]))
  obtain ⟨bp, hbp⟩ : ∃ b, b = w.heap.size := ⟨_, rfl⟩
  obtain ⟨bb, hbb⟩ : ∃ b, b = X0.heap.size := ⟨_, rfl⟩
  obtain ⟨bq, hbq⟩ : ∃ b, b = X1.heap.size := ⟨_, rfl⟩
  have c00 := B0.out
  have c01 := c00.trans (B1.out.mono c00.size)
  have c02 := c01.trans (B2.out.mono c01.size)
  have c11 := B1.out
  have c12 := c11.trans (B2.out.mono c11.size)
  have c22 := B2.out
  have Rp : Hid (Row X2 bp LP 58) := by rw [hbp]; exact Row.below Q0.out c12 Q0.out.lt
  have HWbp : Hid (w.heap.size ≤ bp) := by show _ ≤ _; rw [hbp]; exact Nat.le_refl _
  have Rb : Hid (Row X2 bb LB 25) := by rw [hbb]; exact Row.below Q1.out c22 Q1.out.lt
  have HWbb : Hid (w.heap.size ≤ bb) := by show _ ≤ _; rw [hbb]; exact c00.size
  have Rl : Hid (Row X2 bq zL 65) := by rw [hbq]; exact Q2.out
  have HWbq : Hid (w.heap.size ≤ bq) := by show _ ≤ _; rw [hbq]; exact c01.size
  have Nbpbb : Hid (bp ≠ bb) := by show _ ≠ _; have := Q0.out.lt; rw [hbp, hbb]; omega
  have Nbpbq : Hid (bp ≠ bq) := by show _ ≠ _; have := Q0.out.lt; rw [hbp, hbq]; have := c11.size; omega
  have Nbbbq : Hid (bb ≠ bq) := by show _ ≠ _; have := Q1.out.lt; rw [hbb, hbq]; omega
  have BX : Hid (Below w.heap.size w X2) := c02
  rw [← hbp, ← hbb, ← hbq]
  clear hbp hbb hbq c00 c01 c02 c11 c12 c22 Q0 B0 Q1 B1 Q2 B2
  replace HG : Hid (Lg w0 X2 S q f) := HG.out.be BX.out
  have HK : Hid (Kp w X2) := Kp.of_below BX.out
  have Sp' : Hid (X2.rangeAt bp 0 LP) := Rp.out.all
  clear BX
  go_wp2_with (refine wpList_load_w rfl 58 (.tmp 4) rfl bp 0 rfl LP _ Sp'.out Tryd.underlying58 rfl HLPI.out ?_; simp only [Act.put, List.setIfInBounds_toArray, List.set_cons_zero, List.set_cons_succ])
  refine Calls.mono (HAM.out X2 HG.out) ?_
  rintro e V ⟨rfl, hG, hK⟩
  replace Rb : Hid (Row V bb LB 25) := hK.row _ _ _ (by decide) Rb.out
  replace Rl : Hid (Row V bq zL 65) := hK.row _ _ _ (by decide) Rl.out
  replace HG : Hid (Lg w0 V S (q + 1) f) := hG
  replace HK : Hid (Kp w V) := HK.out.trans hK
  clear hG hK Sp' HAM Rp
  obtain ⟨p8, hp8⟩ : ∃ b, b = V.heap.size := ⟨_, rfl⟩
  have HBp8 : Hid (p8 = V.heap.size) := hp8
  clear hp8
  go_upto_region 4 with (first
    | (refine wpList_allocW rfl rfl ?_; intro XY8 q1 q2 q3; have QY8 : Hid (Row XY8 _ zW 25) := q1; have BY8 : Hid (Below _ _ XY8) := q2; clear q1 q2 q3; simp only [Act.put, List.setIfInBounds_toArray, List.set_cons_zero, List.set_cons_succ])
    | (refine wpList_storeL rfl 25 (.tmp 10) (.tmp 17) rfl V.heap.size LA zW 25 rfl rfl QY8.out HLAN.out HLAI.out HLAO.out ?_; intro Y8 q1 q2; have HY8 : Hid (Y8 = _) := q1; have RY8 : Hid (Row Y8 V.heap.size LA 25) := q2; clear q1 q2; simp only [Act.put]))
  rw [← HBp8.out] at RY8 HY8
  rw [← HBp8.out]
  have cb : Below V.heap.size V Y8 := by rw [HY8.out]; exact below_setCells BY8.out (by rw [HBp8.out]; exact Nat.le_refl _) _
  have Nbbp8 : Hid (bb ≠ p8) := by show _ ≠ _; have := Rb.out.lt; rw [HBp8.out]; omega
  have Nbqp8 : Hid (bq ≠ p8) := by show _ ≠ _; have := Rl.out.lt; rw [HBp8.out]; omega
  replace Rb : Hid (Row Y8 bb LB 25) := Row.below Rb.out cb Rb.out.lt
  replace Rl : Hid (Row Y8 bq zL 65) := Row.below Rl.out cb Rl.out.lt
  replace HG : Hid (Lg w0 Y8 S (q + 1) f) := HG.out.be cb
  replace HK : Hid (Kp w Y8) := HK.out.trans (Kp.of_below cb)
  have Rp8 : Hid (Row Y8 p8 LA 25) := RY8.out
  clear cb HY8 BY8 QY8 RY8 HBp8
  have S8 : Hid (Y8.rangeAt p8 0 LA) := Rp8.out.all
  have S5 : Hid (Y8.rangeAt bb 0 LB) := Rb.out.all
  go_wp2_with (first
    | (refine wpList_load_w rfl 25 (.tmp 10) rfl p8 0 rfl LA _ S8.out Tryd.underlying25 rfl HLAI.out ?_; simp only [Act.put, List.setIfInBounds_toArray, List.set_cons_zero, List.set_cons_succ])
    | (refine wpList_load_w rfl 25 (.tmp 6) rfl bb 0 rfl LB _ S5.out Tryd.underlying25 rfl HLBI.out ?_; simp only [Act.put, List.setIfInBounds_toArray, List.set_cons_zero, List.set_cons_succ]))
  refine Calls.mono (HOP.out Y8) ?_
  rintro e V2 ⟨rfl, hB⟩
  replace Rl : Hid (Row V2 bq zL 65) := Row.below Rl.out hB Rl.out.lt
  replace HG : Hid (Lg w0 V2 S (q + 1) f) := HG.out.be hB
  replace HK : Hid (Kp w V2) := HK.out.trans (Kp.of_below hB)
  clear hB HOP S8 S5 Rp8 Rb
  obtain ⟨p10, hp10⟩ : ∃ b, b = V2.heap.size := ⟨_, rfl⟩
  have HBp10 : Hid (p10 = V2.heap.size) := hp10
  clear hp10
  go_upto_region 7 with (first
    | (refine wpList_allocW rfl rfl ?_; intro XY10 q1 q2 q3; have QY10 : Hid (Row XY10 _ zW 25) := q1; have BY10 : Hid (Below _ _ XY10) := q2; clear q1 q2 q3; simp only [Act.put, List.setIfInBounds_toArray, List.set_cons_zero, List.set_cons_succ])
    | (refine wpList_storeL rfl 25 (.tmp 12) (.tmp 27) rfl V2.heap.size LS zW 25 rfl rfl QY10.out HLSN.out HLSI.out HLSO.out ?_; intro Y10 q1 q2; have HY10 : Hid (Y10 = _) := q1; have RY10 : Hid (Row Y10 V2.heap.size LS 25) := q2; clear q1 q2; simp only [Act.put]))
  rw [← HBp10.out] at RY10 HY10
  rw [← HBp10.out]
  have cb : Below V2.heap.size V2 Y10 := by rw [HY10.out]; exact below_setCells BY10.out (by rw [HBp10.out]; exact Nat.le_refl _) _
  have Nbqp10 : Hid (bq ≠ p10) := by show _ ≠ _; have := Rl.out.lt; rw [HBp10.out]; omega
  replace Rl : Hid (Row Y10 bq zL 65) := Row.below Rl.out cb Rl.out.lt
  replace HG : Hid (Lg w0 Y10 S (q + 1) f) := HG.out.be cb
  replace HK : Hid (Kp w Y10) := HK.out.trans (Kp.of_below cb)
  have Rp10 : Hid (Row Y10 p10 LS 25) := RY10.out
  clear cb HY10 BY10 QY10 RY10 HBp10
  have S10 : Hid (Y10.rangeAt p10 0 LS) := Rp10.out.all
  go_wp2_with (first
    | (refine wpList_load_w rfl 25 (.tmp 12) rfl p10 0 rfl LS _ S10.out Tryd.underlying25 rfl HLSI.out ?_; simp only [Act.put, List.setIfInBounds_toArray, List.set_cons_zero, List.set_cons_succ])
    | (refine wpList_bld rfl 65 #[(0, .tmp 33), (1, .tmp 34)] rfl #[(0, .string s), (1, .agg LS.toArray)] rfl N0 HBL.out ?_; simp only [Act.put, List.setIfInBounds_toArray, List.set_cons_zero, List.set_cons_succ])
    | (refine wpList_storeL rfl 65 (.tmp 8) (.tmp 35) rfl bq N0 zL 65 rfl rfl Rl.out HN0N.out HN0I.out HN0O.out ?_; intro Y q1 q2; have HY : Hid (Y = _) := q1; have RY : Hid (Row Y bq N0 65) := q2; clear q1 q2; simp only [Act.put]))
  have gG : Lg w0 Y S (q + 1) f := by rw [HY.out]; exact HG.out.kept Rl.out (by decide) (by decide) (by decide) (by decide) (fun k hk => heap_sets _ _ _ _ _ hk) (below_setCells HG.out.bel (Nat.le_trans HW0.out HWbq.out) _)
  have gK : Kp w Y := by rw [HY.out]; exact Kp.kept bq HWbq.out HK.out (fun k hk => heap_sets _ _ _ _ _ hk) (below_setCells (Below.refl 0 _) (Nat.zero_le bq) _).size
  exact bodyPost_ret (results_rowS_tmp Tryd.results34 _ _ bq 65 N0 (.int .i64 0) rfl rfl RY.out Tryd.underlying65 HN0I.out) rfl ⟨rfl, gG, gK⟩
set_option maxRecDepth 100000 in
set_option maxHeartbeats 4000000 in
theorem lsn (w0 : World) (S q : Nat) (f : ByteArray → List (BitVec 8)) (hq : q < 1000000) (t : Nat) (s : ByteArray) (hs : isK s.size = true) (a b : Nat) (ha : a < 2 ^ 256) (hb : b < 2 ^ 256) (hab : a < b) (hd : f s = enc a) (LP LB : List Value) (hLP : LP = pgl S t) (hLB : LB = wq b) (er : Int) (w : World) (h : Lg w0 w S q f) :
    Calls Tryd.prog 34 #[.agg LP.toArray, .string s, .agg LB.toArray, .int .i64 er] w fun e w' => e = .returned (.tuple #[.agg zL.toArray, .int .i64 er]) ∧ Lg w0 w' S (q + 1) f ∧ Kp w w' := by
  obtain ⟨LA, hLA⟩ : ∃ L : List Value, L = wq a := ⟨_, rfl⟩
  obtain ⟨LS, hLS⟩ : ∃ L : List Value, L = wq 0 := ⟨_, rfl⟩
  have HLPE : Hid (LP = pgl S t) := hLP
  have HLPI : Hid ((Tryd.prog.info? 58).map (·.size) = some LP.length) := by show _ = _; rw [hLP]; exact info_pgl S t
  have HLPJ : Hid ((Tryd.prog.info? 58).map (·.size) = some LP.toArray.size) := by show _ = _; rw [List.size_toArray, hLP]; exact info_pgl S t
  have HLPN : Hid (LP.length = zP.length) := by show _ = _; rw [hLP]; exact rfl
  have HLPO : Hid (LP.toArray.all (·.oneCell') = true) := by show _ = true; rw [hLP]; exact pgl_one S t
  have HLAE : Hid (LA = wq a) := hLA
  have HLAI : Hid ((Tryd.prog.info? 25).map (·.size) = some LA.length) := by show _ = _; rw [hLA]; exact info_wq _
  have HLAJ : Hid ((Tryd.prog.info? 25).map (·.size) = some LA.toArray.size) := by show _ = _; rw [List.size_toArray, hLA]; exact info_wq _
  have HLAN : Hid (LA.length = zW.length) := by show _ = _; rw [hLA]; exact wq_len _
  have HLAO : Hid (LA.toArray.all (·.oneCell') = true) := by show _ = true; rw [hLA]; exact wq_one _
  have HLBE : Hid (LB = wq b) := hLB
  have HLBI : Hid ((Tryd.prog.info? 25).map (·.size) = some LB.length) := by show _ = _; rw [hLB]; exact info_wq _
  have HLBJ : Hid ((Tryd.prog.info? 25).map (·.size) = some LB.toArray.size) := by show _ = _; rw [List.size_toArray, hLB]; exact info_wq _
  have HLBN : Hid (LB.length = zW.length) := by show _ = _; rw [hLB]; exact wq_len _
  have HLBO : Hid (LB.toArray.all (·.oneCell') = true) := by show _ = true; rw [hLB]; exact wq_one _
  have HLSE : Hid (LS = wq 0) := hLS
  have HLSI : Hid ((Tryd.prog.info? 25).map (·.size) = some LS.length) := by show _ = _; rw [hLS]; exact info_wq _
  have HLSJ : Hid ((Tryd.prog.info? 25).map (·.size) = some LS.toArray.size) := by show _ = _; rw [List.size_toArray, hLS]; exact info_wq _
  have HLSN : Hid (LS.length = zW.length) := by show _ = _; rw [hLS]; exact wq_len _
  have HLSO : Hid (LS.toArray.all (·.oneCell') = true) := by show _ = true; rw [hLS]; exact wq_one _
  obtain ⟨LZ, hLZ⟩ : ∃ L : List Value, L = zL := ⟨_, rfl⟩
  have HLZE : Hid (LZ = zL) := hLZ
  have HLZI : Hid ((Tryd.prog.info? 65).map (·.size) = some LZ.length) := by show _ = _; rw [hLZ]; exact (by kernel_rfl)
  have HLZJ : Hid ((Tryd.prog.info? 65).map (·.size) = some LZ.toArray.size) := by show _ = _; rw [List.size_toArray, hLZ]; exact (by kernel_rfl)
  have HLZN : Hid (LZ.length = zL.length) := by show _ = _; rw [hLZ]
  have HLZO : Hid (LZ.toArray.all (·.oneCell') = true) := by show _ = true; rw [hLZ]; exact (by rw [← Array.all_toList]; rfl)
  have HBL : Hid (∀ w, (Instr.build 65 #[]).run Tryd.prog w = .ok (.agg LZ.toArray) w) := fun w => by rw [hLZ]; exact build_lin0 w
  have HAM : Hid (∀ W, Lg w0 W S q f → _) := fun W hW => amt_g w0 S q f hq t s hs a ha hd LP LA hLP hLA W hW
  have HOP : Hid (∀ W, Calls Tryd.prog 37 #[.agg LA.toArray, .agg LB.toArray] W fun e w' => e = .returned (.tuple #[.agg LS.toArray, .int .i64 23]) ∧ Below W.heap.size W w') := fun W => by rw [hLA, hLB, hLS]; exact subNG W a b hab hb
  have HG : Hid (Lg w0 w S q f) := h
  have HW0 : Hid (w0.heap.size ≤ w.heap.size) := h.bel.size
  clear hLP hLA hLB hLS hq hs ha hb hab hd h hLZ
  go_enter Tryd.func34, Tryd.ntmps34
  go_upto_region 1 with (first
    | (refine wpList_boxG 58 rfl (.tmp 0) rfl LP rfl ?_; intro X0 q1 q2 q3; have Q0 : Hid (Row X0 _ LP 58) := q1; have B0 : Hid (Below _ _ X0) := q2; clear q1 q2 q3; simp only [Act.put, List.setIfInBounds_toArray, List.set_cons_zero, List.set_cons_succ])
    | (refine wpList_boxG 25 rfl (.tmp 2) rfl LB rfl ?_; intro X1 q1 q2 q3; have Q1 : Hid (Row X1 _ LB 25) := q1; have B1 : Hid (Below _ _ X1) := q2; clear q1 q2 q3; simp only [Act.put, List.setIfInBounds_toArray, List.set_cons_zero, List.set_cons_succ])
    | (refine wpList_allocL rfl rfl ?_; intro X2 q1 q2 q3; have Q2 : Hid (Row X2 _ zL 65) := q1; have B2 : Hid (Below _ _ X2) := q2; clear q1 q2 q3; simp only [Act.put, List.setIfInBounds_toArray, List.set_cons_zero, List.set_cons_succ]))
  obtain ⟨bp, hbp⟩ : ∃ b, b = w.heap.size := ⟨_, rfl⟩
  obtain ⟨bb, hbb⟩ : ∃ b, b = X0.heap.size := ⟨_, rfl⟩
  obtain ⟨bq, hbq⟩ : ∃ b, b = X1.heap.size := ⟨_, rfl⟩
  have c00 := B0.out
  have c01 := c00.trans (B1.out.mono c00.size)
  have c02 := c01.trans (B2.out.mono c01.size)
  have c11 := B1.out
  have c12 := c11.trans (B2.out.mono c11.size)
  have c22 := B2.out
  have Rp : Hid (Row X2 bp LP 58) := by rw [hbp]; exact Row.below Q0.out c12 Q0.out.lt
  have HWbp : Hid (w.heap.size ≤ bp) := by show _ ≤ _; rw [hbp]; exact Nat.le_refl _
  have Rb : Hid (Row X2 bb LB 25) := by rw [hbb]; exact Row.below Q1.out c22 Q1.out.lt
  have HWbb : Hid (w.heap.size ≤ bb) := by show _ ≤ _; rw [hbb]; exact c00.size
  have Rl : Hid (Row X2 bq zL 65) := by rw [hbq]; exact Q2.out
  have HWbq : Hid (w.heap.size ≤ bq) := by show _ ≤ _; rw [hbq]; exact c01.size
  have Nbpbb : Hid (bp ≠ bb) := by show _ ≠ _; have := Q0.out.lt; rw [hbp, hbb]; omega
  have Nbpbq : Hid (bp ≠ bq) := by show _ ≠ _; have := Q0.out.lt; rw [hbp, hbq]; have := c11.size; omega
  have Nbbbq : Hid (bb ≠ bq) := by show _ ≠ _; have := Q1.out.lt; rw [hbb, hbq]; omega
  have BX : Hid (Below w.heap.size w X2) := c02
  rw [← hbp, ← hbb, ← hbq]
  clear hbp hbb hbq c00 c01 c02 c11 c12 c22 Q0 B0 Q1 B1 Q2 B2
  replace HG : Hid (Lg w0 X2 S q f) := HG.out.be BX.out
  have HK : Hid (Kp w X2) := Kp.of_below BX.out
  have Sp' : Hid (X2.rangeAt bp 0 LP) := Rp.out.all
  clear BX
  go_wp2_with (refine wpList_load_w rfl 58 (.tmp 4) rfl bp 0 rfl LP _ Sp'.out Tryd.underlying58 rfl HLPI.out ?_; simp only [Act.put, List.setIfInBounds_toArray, List.set_cons_zero, List.set_cons_succ])
  refine Calls.mono (HAM.out X2 HG.out) ?_
  rintro e V ⟨rfl, hG, hK⟩
  replace Rb : Hid (Row V bb LB 25) := hK.row _ _ _ (by decide) Rb.out
  replace Rl : Hid (Row V bq zL 65) := hK.row _ _ _ (by decide) Rl.out
  replace HG : Hid (Lg w0 V S (q + 1) f) := hG
  replace HK : Hid (Kp w V) := HK.out.trans hK
  clear hG hK Sp' HAM Rp
  obtain ⟨p8, hp8⟩ : ∃ b, b = V.heap.size := ⟨_, rfl⟩
  have HBp8 : Hid (p8 = V.heap.size) := hp8
  clear hp8
  go_upto_region 4 with (first
    | (refine wpList_allocW rfl rfl ?_; intro XY8 q1 q2 q3; have QY8 : Hid (Row XY8 _ zW 25) := q1; have BY8 : Hid (Below _ _ XY8) := q2; clear q1 q2 q3; simp only [Act.put, List.setIfInBounds_toArray, List.set_cons_zero, List.set_cons_succ])
    | (refine wpList_storeL rfl 25 (.tmp 10) (.tmp 17) rfl V.heap.size LA zW 25 rfl rfl QY8.out HLAN.out HLAI.out HLAO.out ?_; intro Y8 q1 q2; have HY8 : Hid (Y8 = _) := q1; have RY8 : Hid (Row Y8 V.heap.size LA 25) := q2; clear q1 q2; simp only [Act.put]))
  rw [← HBp8.out] at RY8 HY8
  rw [← HBp8.out]
  have cb : Below V.heap.size V Y8 := by rw [HY8.out]; exact below_setCells BY8.out (by rw [HBp8.out]; exact Nat.le_refl _) _
  have Nbbp8 : Hid (bb ≠ p8) := by show _ ≠ _; have := Rb.out.lt; rw [HBp8.out]; omega
  have Nbqp8 : Hid (bq ≠ p8) := by show _ ≠ _; have := Rl.out.lt; rw [HBp8.out]; omega
  replace Rb : Hid (Row Y8 bb LB 25) := Row.below Rb.out cb Rb.out.lt
  replace Rl : Hid (Row Y8 bq zL 65) := Row.below Rl.out cb Rl.out.lt
  replace HG : Hid (Lg w0 Y8 S (q + 1) f) := HG.out.be cb
  replace HK : Hid (Kp w Y8) := HK.out.trans (Kp.of_below cb)
  have Rp8 : Hid (Row Y8 p8 LA 25) := RY8.out
  clear cb HY8 BY8 QY8 RY8 HBp8
  have S8 : Hid (Y8.rangeAt p8 0 LA) := Rp8.out.all
  have S5 : Hid (Y8.rangeAt bb 0 LB) := Rb.out.all
  go_wp2_with (first
    | (refine wpList_load_w rfl 25 (.tmp 10) rfl p8 0 rfl LA _ S8.out Tryd.underlying25 rfl HLAI.out ?_; simp only [Act.put, List.setIfInBounds_toArray, List.set_cons_zero, List.set_cons_succ])
    | (refine wpList_load_w rfl 25 (.tmp 6) rfl bb 0 rfl LB _ S5.out Tryd.underlying25 rfl HLBI.out ?_; simp only [Act.put, List.setIfInBounds_toArray, List.set_cons_zero, List.set_cons_succ]))
  refine Calls.mono (HOP.out Y8) ?_
  rintro e V2 ⟨rfl, hB⟩
  replace Rl : Hid (Row V2 bq zL 65) := Row.below Rl.out hB Rl.out.lt
  replace HG : Hid (Lg w0 V2 S (q + 1) f) := HG.out.be hB
  replace HK : Hid (Kp w V2) := HK.out.trans (Kp.of_below hB)
  clear hB HOP S8 S5 Rp8 Rb
  obtain ⟨p10, hp10⟩ : ∃ b, b = V2.heap.size := ⟨_, rfl⟩
  have HBp10 : Hid (p10 = V2.heap.size) := hp10
  clear hp10
  go_upto_region 6 with (first
    | (refine wpList_allocW rfl rfl ?_; intro XY10 q1 q2 q3; have QY10 : Hid (Row XY10 _ zW 25) := q1; have BY10 : Hid (Below _ _ XY10) := q2; clear q1 q2 q3; simp only [Act.put, List.setIfInBounds_toArray, List.set_cons_zero, List.set_cons_succ])
    | (refine wpList_storeL rfl 25 (.tmp 12) (.tmp 27) rfl V2.heap.size LS zW 25 rfl rfl QY10.out HLSN.out HLSI.out HLSO.out ?_; intro Y10 q1 q2; have HY10 : Hid (Y10 = _) := q1; have RY10 : Hid (Row Y10 V2.heap.size LS 25) := q2; clear q1 q2; simp only [Act.put]))
  rw [← HBp10.out] at RY10 HY10
  rw [← HBp10.out]
  have cb : Below V2.heap.size V2 Y10 := by rw [HY10.out]; exact below_setCells BY10.out (by rw [HBp10.out]; exact Nat.le_refl _) _
  have Nbqp10 : Hid (bq ≠ p10) := by show _ ≠ _; have := Rl.out.lt; rw [HBp10.out]; omega
  replace Rl : Hid (Row Y10 bq zL 65) := Row.below Rl.out cb Rl.out.lt
  replace HG : Hid (Lg w0 Y10 S (q + 1) f) := HG.out.be cb
  replace HK : Hid (Kp w Y10) := HK.out.trans (Kp.of_below cb)
  have Rp10 : Hid (Row Y10 p10 LS 25) := RY10.out
  clear cb HY10 BY10 QY10 RY10 HBp10
  go_wp2_with (first
    | (refine wpList_bld rfl 65 #[] rfl #[] rfl LZ HBL.out ?_; simp only [Act.put, List.setIfInBounds_toArray, List.set_cons_zero, List.set_cons_succ])
    | (refine wpList_storeL rfl 65 (.tmp 8) (.tmp 31) rfl bq LZ zL 65 rfl rfl Rl.out HLZN.out HLZI.out HLZO.out ?_; intro Y q1 q2; have HY : Hid (Y = _) := q1; have RY : Hid (Row Y bq LZ 65) := q2; clear q1 q2; simp only [Act.put]))
  have gG : Lg w0 Y S (q + 1) f := by rw [HY.out]; exact HG.out.kept Rl.out (by decide) (by decide) (by decide) (by decide) (fun k hk => heap_sets _ _ _ _ _ hk) (below_setCells HG.out.bel (Nat.le_trans HW0.out HWbq.out) _)
  have gK : Kp w Y := by rw [HY.out]; exact Kp.kept bq HWbq.out HK.out (fun k hk => heap_sets _ _ _ _ _ hk) (below_setCells (Below.refl 0 _) (Nat.zero_le bq) _).size
  exact bodyPost_ret (results_rowS_tmp Tryd.results34 _ _ bq 65 LZ (.int .i64 er) rfl rfl RY.out Tryd.underlying65 HLZI.out) rfl ⟨by rw [HLZE.out], gG, gK⟩
set_option maxRecDepth 100000 in
set_option maxHeartbeats 4000000 in
theorem bkeyG (S t : Nat) (ht : t < 64) (who : List (BitVec 8)) (hw : who.length = 20) (LP : List Value) (hLP : LP = pgl S t) (w : World) : Calls Tryd.prog 26 #[.agg LP.toArray, .agg (vB who).toArray] w fun e w' => e = .returned (.string (bKt t who)) ∧ Below w.heap.size w w' := by
  have HLPE : Hid (LP = pgl S t) := hLP
  have HLPI : Hid ((Tryd.prog.info? 58).map (·.size) = some LP.length) := by show _ = _; rw [hLP]; exact info_pgl S t
  have HLPJ : Hid ((Tryd.prog.info? 58).map (·.size) = some LP.toArray.size) := by show _ = _; rw [List.size_toArray, hLP]; exact info_pgl S t
  have HLPN : Hid (LP.length = zP.length) := by show _ = _; rw [hLP]; exact rfl
  have HLPO : Hid (LP.toArray.all (·.oneCell') = true) := by show _ = true; rw [hLP]; exact pgl_one S t
  have HWL : Hid (who.length = 20) := hw
  have HIA : Hid ((Tryd.prog.info? 33).map (·.size) = some (vB who).length) := info_adr hw
  have HKY : Hid (∀ g W, Row W g (vB who) 33 → Calls Tryd.prog 40 #[.agg LP.toArray, .string ⟨#[98]⟩, .slice (some ⟨g, 0, none⟩) 1 1] W fun e w' => e = .returned (.string (bKt t who)) ∧ Below W.heap.size W w') := fun g W hg => by rw [hLP]; exact keyB S t ht who hw g W hg
  clear hLP hw ht
  go_enter Tryd.func26, Tryd.ntmps26
  go_upto_region 1 with (first
    | (refine wpList_boxG 58 rfl (.tmp 0) rfl LP rfl ?_; intro X0 q1 q2 q3; have Q0 : Hid (Row X0 _ LP 58) := q1; have B0 : Hid (Below _ _ X0) := q2; clear q1 q2 q3; simp only [Act.put, List.setIfInBounds_toArray, List.set_cons_zero, List.set_cons_succ])
    | (refine wpList_boxG 33 rfl (.tmp 1) rfl (vB who) rfl ?_; intro X1 q1 q2 q3; have Q1 : Hid (Row X1 _ (vB who) 33) := q1; have B1 : Hid (Below _ _ X1) := q2; clear q1 q2 q3; simp only [Act.put, List.setIfInBounds_toArray, List.set_cons_zero, List.set_cons_succ]))
  obtain ⟨bp, hbp⟩ : ∃ b, b = w.heap.size := ⟨_, rfl⟩
  obtain ⟨ba, hba⟩ : ∃ b, b = X0.heap.size := ⟨_, rfl⟩
  have c00 := B0.out
  have c01 := c00.trans (B1.out.mono c00.size)
  have c11 := B1.out
  have Rp : Hid (Row X1 bp LP 58) := by rw [hbp]; exact Row.below Q0.out c11 Q0.out.lt
  have HWbp : Hid (w.heap.size ≤ bp) := by show _ ≤ _; rw [hbp]; exact Nat.le_refl _
  have Ra : Hid (Row X1 ba (vB who) 33) := by rw [hba]; exact Q1.out
  have HWba : Hid (w.heap.size ≤ ba) := by show _ ≤ _; rw [hba]; exact c00.size
  have Nbpba : Hid (bp ≠ ba) := by show _ ≠ _; have := Q0.out.lt; rw [hbp, hba]; omega
  have BX : Hid (Below w.heap.size w X1) := c01
  rw [← hbp, ← hba]
  clear hbp hba c00 c01 c11 Q0 B0 Q1 B1
  have S1 : Hid (X1.rangeAt bp 0 LP) := Rp.out.all
  have S2 : Hid (X1.rangeAt ba 0 (vB who)) := Ra.out.all
  go_wp2_with (first
    | (refine wpList_load_w rfl 58 (.tmp 2) rfl bp 0 rfl LP _ S1.out Tryd.underlying58 rfl HLPI.out ?_; simp only [Act.put, List.setIfInBounds_toArray, List.set_cons_zero, List.set_cons_succ])
    | (refine wpList_load_w rfl 33 (.tmp 3) rfl ba 0 rfl (vB who) _ S2.out Tryd.underlying33 rfl HIA.out ?_; simp only [Act.put, List.setIfInBounds_toArray, List.set_cons_zero, List.set_cons_succ])
    | (refine wpList_build_A rfl (.tmp 6) rfl who HWL.out rfl ?_; simp only [Act.put, List.setIfInBounds_toArray, List.set_cons_zero, List.set_cons_succ]))
  refine Calls.mono (HKY.out _ _ (Row.new' rfl rfl)) ?_
  rintro e V ⟨rfl, hB⟩
  have HB : Hid (Below w.heap.size w V) := (BX.out.alloc BX.out.size _).trans (hB.mono (BX.out.alloc BX.out.size _).size)
  clear hB HKY S1 S2
  go_wp2_with fail
  go_ret
  exact ⟨rfl, HB.out⟩
theorem range_app {w : World} {g : Nat} {a b : List Value} {t : TypeId} {k : Nat} (h : Row w g (a ++ b) t) (hk : a.length = k) : w.rangeAt g 0 a ∧ w.rangeAt g k b :=
  ⟨h.range 0 _ (fun j v hj => by rw [Nat.zero_add, List.getElem?_append_left (List.getElem?_eq_some_iff.1 hj).1]; exact hj), h.range k _ (fun j v hj => by rw [List.getElem?_append_right (by omega), hk, Nat.add_sub_cancel_left]; exact hj)⟩
set_option maxRecDepth 100000 in
set_option maxHeartbeats 2000000 in
theorem key2 (S : Nat) (tb : BitVec 8) (mk : UInt8) (mb : BitVec 8) (hmb : BitVec.ofNat 8 mk.toNat = mb) (x y : List (BitVec 8)) (hx : x.length = 20) (hy : y.length = 20) (g : Nat) (d : List (BitVec 8)) (hd : d = [mb, tb] ++ x ++ y) (w : World) (hg : Row w g (vB x ++ vB y) 33) : Calls Tryd.prog 40 #[.agg (pg S (c tb)).toArray, .string ⟨#[mk]⟩, .slice (some ⟨g, 0, none⟩) 2 2] w fun e w' => e = .returned (.string (str d)) ∧ Below w.heap.size w w' := by
  obtain ⟨W1, hW1, r1, b1⟩ : ∃ W, W = w.alloc (Obj.cells (pg S (c tb)).toArray 58) ∧ Row W w.heap.size (pg S (c tb)) 58 ∧ Below w.heap.size w W := ⟨_, rfl, Row.new' rfl rfl, (Below.refl _ _).alloc (Nat.le_refl _) _⟩
  have HMB : Hid (BitVec.ofNat 8 mk.toNat = mb) := hmb
  have HD : Hid (d = [mb, tb] ++ x ++ y) := hd
  have HW : Hid (W1 = _) := hW1
  have R1 : Hid (Row W1 w.heap.size (pg S (c tb)) 58) := r1
  have B1 : Hid (Below w.heap.size w W1) := b1
  have RQ : Hid (Row W1 g (vB x ++ vB y) 33) := Row.below hg b1 hg.lt
  have HLx : Hid (x.length = 20) := hx
  have HIx : Hid ((Tryd.prog.info? 33).map (·.size) = some (vB x).length) := info_adr hx
  have HJx : Hid ((Tryd.prog.info? 33).map (·.size) = some (vB x).toArray.size) := by show _ = _; rw [List.size_toArray]; exact info_adr hx
  have HOx : Hid ((vB x).toArray.all (·.oneCell') = true) := by show _ = true; rw [← Array.all_toList]; exact List.all_eq_true.2 (vB_one x)
  have HLy : Hid (y.length = 20) := hy
  have HIy : Hid ((Tryd.prog.info? 33).map (·.size) = some (vB y).length) := info_adr hy
  have HJy : Hid ((Tryd.prog.info? 33).map (·.size) = some (vB y).toArray.size) := by show _ = _; rw [List.size_toArray]; exact info_adr hy
  have HOy : Hid ((vB y).toArray.all (·.oneCell') = true) := by show _ = true; rw [← Array.all_toList]; exact List.all_eq_true.2 (vB_one y)
  clear hg hx hy hW1 r1 b1 hmb hd
  go_enter Tryd.func40, Tryd.ntmps40
  go_upto_region 1 with fail
  rw [← HW.out]
  clear HW
  go_wp2_with (first
    | (refine wpList_mark rfl (.tmp 10) rfl mk rfl mb HMB.out ?_; intro v1 V1 q1 q2; have g1 := (Row.below R1.out q2 R1.out.lt).cell 1 _ rfl; have Q1 : Hid (Sp W1.heap.size V1 v1 _) := q1; have Q2 : Hid (Below W1.heap.size W1 V1) := q2; clear q1 q2; simp only [Act.put, List.setIfInBounds_toArray, List.set_cons_zero, List.set_cons_succ])
    | (refine wpList_app_sp rfl (.tmp 11) (.tmp 14) rfl W1.heap.size v1 [mb] [tb] rfl (Sp.be Q1.out ((Below.refl _ _).alloc (Nat.le_refl _) _)) V1.heap.size 0 1 1 rfl (by decide) rfl (Row.all (cs := vB [tb]) (Row.new' rfl rfl)) (by show 1 + 1 ≤ 1000; decide) ?_; intro v2 V2 q1 q2; have Q3 : Hid (Sp W1.heap.size V2 v2 [mb, tb]) := q1; have Q4 : Hid (Below W1.heap.size W1 V2) := (Q2.out.alloc Q2.out.size _).trans q2; clear q1 q2 Q1 Q2 g1; simp only [Act.put, List.setIfInBounds_toArray, List.set_cons_zero, List.set_cons_succ]))
  refine wp_loop_rounds 3 ?_
  rw [rounds_succ]
  have Rr : Hid (V2.rangeAt g 0 (vB x)) := (range_app (Row.below RQ.out Q4.out RQ.out.lt) (k := 20) (by rw [vB_length, HLx.out])).1
  obtain ⟨X, hX, rX, bX⟩ : ∃ X, X = (V2.alloc (Obj.cells (vB (List.replicate 20 0#8)).toArray 33)).setCells V2.heap.size 0 (vB x) ∧ Row X V2.heap.size (vB x) 33 ∧ Below V2.heap.size V2 X := ⟨_, rfl, Row.over (Row.new' (cs := vB (List.replicate 20 0#8)) rfl rfl) (vs := vB x) (by rw [vB_length, vB_length, HLx.out]; rfl), below_setCells ((Below.refl V2.heap.size V2).alloc (Nat.le_refl _) _) (Nat.le_refl _) _⟩
  have HX : Hid (X = _) := hX
  have RX : Hid (Row X V2.heap.size (vB x) 33) := rX
  have BX : Hid (Below V2.heap.size V2 X) := bX
  have HSZ : Hid ([mb, tb].length + 20 ≤ 1000) := by show 2 + 20 ≤ 1000; decide
  clear hX rX bX
  go_wp2_with (first
    | (refine wpList_load_w rfl 33 (.tmp 20) rfl g 0 rfl (vB x) _ Rr.out Tryd.underlying33 rfl HIx.out ?_; simp only [Act.put, List.setIfInBounds_toArray, List.set_cons_zero, List.set_cons_succ])
    | (refine wpList_store_mid rfl 33 (.tmp 9) (.tmp 21) rfl V2.heap.size 0 (vB x).toArray rfl rfl (Row.there (Row.new' (cs := vB (List.replicate 20 0#8)) rfl rfl) 0 _ (by rw [List.size_toArray, vB_length, vB_length, HLx.out]; decide)) HJx.out HOx.out ?_; simp only [Act.put]; change wpList _ _ _ _ _ (World.setCells (World.alloc V2 (Obj.cells (vB (List.replicate 20 0#8)).toArray 33)) V2.heap.size 0 (vB x)); rw [← HX.out])
    | (refine wpList_app_sp rfl (.tmp 22) (.tmp 23) rfl W1.heap.size v2 [mb, tb] x rfl (Sp.be Q3.out BX.out) V2.heap.size 0 20 20 HLx.out (by decide) rfl RX.out.all HSZ.out ?_; intro v3 V3 q1 q2; have Q5 : Hid (Sp W1.heap.size V3 v3 ([mb, tb] ++ x)) := q1; have Q6 : Hid (Below W1.heap.size W1 V3) := (Q4.out.trans (BX.out.mono Q4.out.size)).trans q2; clear q1 q2 Q3 Q4; simp only [Act.put, List.setIfInBounds_toArray, List.set_cons_zero, List.set_cons_succ]))
  clear HX RX BX HSZ Rr
  rw [rounds_succ]
  have Rr : Hid (V3.rangeAt g 20 (vB y)) := (range_app (Row.below RQ.out Q6.out RQ.out.lt) (k := 20) (by rw [vB_length, HLx.out])).2
  obtain ⟨X, hX, rX, bX⟩ : ∃ X, X = (V3.alloc (Obj.cells (vB (List.replicate 20 0#8)).toArray 33)).setCells V3.heap.size 0 (vB y) ∧ Row X V3.heap.size (vB y) 33 ∧ Below V3.heap.size V3 X := ⟨_, rfl, Row.over (Row.new' (cs := vB (List.replicate 20 0#8)) rfl rfl) (vs := vB y) (by rw [vB_length, vB_length, HLy.out]; rfl), below_setCells ((Below.refl V3.heap.size V3).alloc (Nat.le_refl _) _) (Nat.le_refl _) _⟩
  have HX : Hid (X = _) := hX
  have RX : Hid (Row X V3.heap.size (vB y) 33) := rX
  have BX : Hid (Below V3.heap.size V3 X) := bX
  have HSZ : Hid (([mb, tb] ++ x).length + 20 ≤ 1000) := by show _ ≤ _; simp [HLx.out]
  clear hX rX bX
  go_wp2_with (first
    | (refine wpList_load_w rfl 33 (.tmp 20) rfl g 20 rfl (vB y) _ Rr.out Tryd.underlying33 rfl HIy.out ?_; simp only [Act.put, List.setIfInBounds_toArray, List.set_cons_zero, List.set_cons_succ])
    | (refine wpList_store_mid rfl 33 (.tmp 9) (.tmp 21) rfl V3.heap.size 0 (vB y).toArray rfl rfl (Row.there (Row.new' (cs := vB (List.replicate 20 0#8)) rfl rfl) 0 _ (by rw [List.size_toArray, vB_length, vB_length, HLy.out]; decide)) HJy.out HOy.out ?_; simp only [Act.put]; change wpList _ _ _ _ _ (World.setCells (World.alloc V3 (Obj.cells (vB (List.replicate 20 0#8)).toArray 33)) V3.heap.size 0 (vB y)); rw [← HX.out])
    | (refine wpList_app_sp rfl (.tmp 22) (.tmp 23) rfl W1.heap.size v3 ([mb, tb] ++ x) y rfl (Sp.be Q5.out BX.out) V3.heap.size 0 20 20 HLy.out (by decide) rfl RX.out.all HSZ.out ?_; intro v4 V4 q1 q2; have Q7 : Hid (Sp W1.heap.size V4 v4 (([mb, tb] ++ x) ++ y)) := q1; have Q8 : Hid (Below W1.heap.size W1 V4) := (Q6.out.trans (BX.out.mono Q6.out.size)).trans q2; clear q1 q2 Q5 Q6; simp only [Act.put, List.setIfInBounds_toArray, List.set_cons_zero, List.set_cons_succ]))
  clear HX RX BX HSZ Rr
  rw [rounds_succ]
  replace Q7 : Hid (Sp W1.heap.size V4 v4 d) := by rw [HD.out]; exact Q7.out
  have hcv := run_convert_sl (P := Tryd.prog) V4 52 5 9 Tryd.underlying52 Tryd.underlying5 Tryd.underlying9 v4 _ Q7.out.sl
  have HB : Hid (Below w.heap.size w V4) := B1.out.trans (Q8.out.mono B1.out.size)
  go_wp2_with fail
  go_ret
  exact ⟨rfl, HB.out⟩
section
variable {ops : Array Oper} {rest : List Oper} {o : Oper} {a : Act} {w : World} {Q : Exit → Act → World → Prop}
theorem wpList_buildA2 (hgd : o.guard = none) (x y : Operand) (ho : o.op = .buildSlice 22 2 #[(0, x), (1, y)]) (l r : List (BitVec 8)) (hl : l.length = 20) (hr : r.length = 20) (hx : a.eval x = .agg (vB l).toArray) (hy : a.eval y = .agg (vB r).toArray)
    (h : ∀ X, Row X w.heap.size (vB l ++ vB r) 33 → Below w.heap.size w X → wpList Tryd.prog ops Q rest (a.put o.dst (.slice (some ⟨w.heap.size, 0, none⟩) 2 2)) X) : wpList Tryd.prog ops Q (o :: rest) a w :=
  wpList_plain hgd fun _ hK => by
    obtain ⟨ie, z, h1, h2, h3, _, h4⟩ := info_A_open
    refine wp_buildSlice 22 33 2 _ ho ((vB l).toArray ++ (vB r).toArray) ie z Tryd.underlying22 h1 h2 (by rw [h3]; decide) (by rw [h3]; decide) ?_ (hK _ _ (h _ (Row.new' rfl (by simp)) ((Below.refl _ _).alloc (Nat.le_refl _) _)))
    rw [show (Array.map (fun (p : Nat × Operand) => match p with | (i, x) => (i, a.eval x)) #[(0, x), (1, y)]).toList = [(0, a.eval x), (1, a.eval y)] by simp, hx, hy, h3]
    exact fill_two 20 (by decide) _ _ _ (by simp [vB_length, hl]) (by simp [vB_length, hr]) (by simp)
end
set_option maxRecDepth 100000 in
set_option maxHeartbeats 4000000 in
theorem akeyG (S t : Nat) (ht : t < 64) (x y : List (BitVec 8)) (hx : x.length = 20) (hy : y.length = 20) (LP : List Value) (hLP : LP = pgl S t) (w : World) : Calls Tryd.prog 35 #[.agg LP.toArray, .agg (vB x).toArray, .agg (vB y).toArray] w fun e w' => e = .returned (.string (lKt t x y)) ∧ Below w.heap.size w w' := by
  have HLPE : Hid (LP = pgl S t) := hLP
  have HLPI : Hid ((Tryd.prog.info? 58).map (·.size) = some LP.length) := by show _ = _; rw [hLP]; exact info_pgl S t
  have HLPJ : Hid ((Tryd.prog.info? 58).map (·.size) = some LP.toArray.size) := by show _ = _; rw [List.size_toArray, hLP]; exact info_pgl S t
  have HLPN : Hid (LP.length = zP.length) := by show _ = _; rw [hLP]; exact rfl
  have HLPO : Hid (LP.toArray.all (·.oneCell') = true) := by show _ = true; rw [hLP]; exact pgl_one S t
  have HLx : Hid (x.length = 20) := hx
  have HLy : Hid (y.length = 20) := hy
  have HIx : Hid ((Tryd.prog.info? 33).map (·.size) = some (vB x).length) := info_adr hx
  have HIy : Hid ((Tryd.prog.info? 33).map (·.size) = some (vB y).length) := info_adr hy
  have HKY : Hid (∀ g W, Row W g (vB x ++ vB y) 33 → Calls Tryd.prog 40 #[.agg LP.toArray, .string ⟨#[108]⟩, .slice (some ⟨g, 0, none⟩) 2 2] W fun e w' => e = .returned (.string (lKt t x y)) ∧ Below W.heap.size W w') := fun g W hg => by
    have q := key2 S (BitVec.ofNat 8 t) 108 108#8 rfl x y hx hy g _ rfl W hg
    rw [c_tk ht] at q
    rw [hLP]
    exact q
  clear hLP hx hy ht
  go_enter Tryd.func35, Tryd.ntmps35
  go_upto_region 1 with (first
    | (refine wpList_boxG 58 rfl (.tmp 0) rfl LP rfl ?_; intro X0 q1 q2 q3; have Q0 : Hid (Row X0 _ LP 58) := q1; have B0 : Hid (Below _ _ X0) := q2; clear q1 q2 q3; simp only [Act.put, List.setIfInBounds_toArray, List.set_cons_zero, List.set_cons_succ])
    | (refine wpList_boxG 33 rfl (.tmp 1) rfl (vB x) rfl ?_; intro X1 q1 q2 q3; have Q1 : Hid (Row X1 _ (vB x) 33) := q1; have B1 : Hid (Below _ _ X1) := q2; clear q1 q2 q3; simp only [Act.put, List.setIfInBounds_toArray, List.set_cons_zero, List.set_cons_succ])
    | (refine wpList_boxG 33 rfl (.tmp 2) rfl (vB y) rfl ?_; intro X2 q1 q2 q3; have Q2 : Hid (Row X2 _ (vB y) 33) := q1; have B2 : Hid (Below _ _ X2) := q2; clear q1 q2 q3; simp only [Act.put, List.setIfInBounds_toArray, List.set_cons_zero, List.set_cons_succ]))
  obtain ⟨bp, hbp⟩ : ∃ b, b = w.heap.size := ⟨_, rfl⟩
  obtain ⟨bx, hbx⟩ : ∃ b, b = X0.heap.size := ⟨_, rfl⟩
  obtain ⟨by_, hby_⟩ : ∃ b, b = X1.heap.size := ⟨_, rfl⟩
  have c00 := B0.out
  have c01 := c00.trans (B1.out.mono c00.size)
  have c02 := c01.trans (B2.out.mono c01.size)
  have c11 := B1.out
  have c12 := c11.trans (B2.out.mono c11.size)
  have c22 := B2.out
  have Rp : Hid (Row X2 bp LP 58) := by rw [hbp]; exact Row.below Q0.out c12 Q0.out.lt
  have HWbp : Hid (w.heap.size ≤ bp) := by show _ ≤ _; rw [hbp]; exact Nat.le_refl _
  have Rx : Hid (Row X2 bx (vB x) 33) := by rw [hbx]; exact Row.below Q1.out c22 Q1.out.lt
  have HWbx : Hid (w.heap.size ≤ bx) := by show _ ≤ _; rw [hbx]; exact c00.size
  have Ry : Hid (Row X2 by_ (vB y) 33) := by rw [hby_]; exact Q2.out
  have HWby_ : Hid (w.heap.size ≤ by_) := by show _ ≤ _; rw [hby_]; exact c01.size
  have Nbpbx : Hid (bp ≠ bx) := by show _ ≠ _; have := Q0.out.lt; rw [hbp, hbx]; omega
  have Nbpby_ : Hid (bp ≠ by_) := by show _ ≠ _; have := Q0.out.lt; rw [hbp, hby_]; have := c11.size; omega
  have Nbxby_ : Hid (bx ≠ by_) := by show _ ≠ _; have := Q1.out.lt; rw [hbx, hby_]; omega
  have BX : Hid (Below w.heap.size w X2) := c02
  rw [← hbp, ← hbx, ← hby_]
  clear hbp hbx hby_ c00 c01 c02 c11 c12 c22 Q0 B0 Q1 B1 Q2 B2
  have S1 : Hid (X2.rangeAt bp 0 LP) := Rp.out.all
  have S2 : Hid (X2.rangeAt bx 0 (vB x)) := Rx.out.all
  have S3 : Hid (X2.rangeAt by_ 0 (vB y)) := Ry.out.all
  go_wp2_with (first
    | (refine wpList_load_w rfl 58 (.tmp 3) rfl bp 0 rfl LP _ S1.out Tryd.underlying58 rfl HLPI.out ?_; simp only [Act.put, List.setIfInBounds_toArray, List.set_cons_zero, List.set_cons_succ])
    | (refine wpList_load_w rfl 33 (.tmp 4) rfl bx 0 rfl (vB x) _ S2.out Tryd.underlying33 rfl HIx.out ?_; simp only [Act.put, List.setIfInBounds_toArray, List.set_cons_zero, List.set_cons_succ])
    | (refine wpList_load_w rfl 33 (.tmp 5) rfl by_ 0 rfl (vB y) _ S3.out Tryd.underlying33 rfl HIy.out ?_; simp only [Act.put, List.setIfInBounds_toArray, List.set_cons_zero, List.set_cons_succ])
    | (refine wpList_buildA2 rfl (.tmp 8) (.tmp 9) rfl x y HLx.out HLy.out rfl rfl ?_; intro V0 q1 q2; have RG : Hid (Row V0 X2.heap.size (vB x ++ vB y) 33) := q1; have BG : Hid (Below X2.heap.size X2 V0) := q2; clear q1 q2; simp only [Act.put, List.setIfInBounds_toArray, List.set_cons_zero, List.set_cons_succ]))
  refine Calls.mono (HKY.out _ V0 RG.out) ?_
  rintro e V ⟨rfl, hB⟩
  have c1 := BX.out.trans (BG.out.mono BX.out.size)
  have HB : Hid (Below w.heap.size w V) := c1.trans (hB.mono c1.size)
  clear hB HKY S1 S2 S3 c1
  go_wp2_with fail
  go_ret
  exact ⟨rfl, HB.out⟩

end Go.Proofs.YtelioddogdcdoaaDoor
