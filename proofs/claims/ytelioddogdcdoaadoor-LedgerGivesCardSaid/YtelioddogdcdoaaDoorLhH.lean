/-
  turnSupply, Register, Token, Mint, Burn.
-/
import Derived.Test.YtelioddogdcdoaaDoorLhG
namespace Go.Proofs.YtelioddogdcdoaaDoor
open Go Go.RowKit Go.Maps
open Sha
open Wd

theorem Lg.mono {w0 w : World} {S q q' : Nat} {f : ByteArray → List (BitVec 8)} (h : Lg w0 w S q f) (hq : q ≤ q') : Lg w0 w S q' f := by
  obtain ⟨T, m, k, E, hk, h⟩ := h
  exact ⟨T, m, k, E, Nat.le_trans hk hq, h⟩
set_option maxRecDepth 100000 in
set_option maxHeartbeats 4000000 in
theorem tsS (w0 : World) (S q : Nat) (f : ByteArray → List (BitVec 8)) (_hq : q < 999970) (t : Nat) (_ht : t < 64) (n n2 : Nat) (hn : n < 2 ^ 256) (hn2 : n2 < 2 ^ 256) (s0 : ByteArray) (_hs0 : isK s0.size = true) (m : Nat) (_hm : m < 2 ^ 256) (hne : n = n2) (LP LT LU N0 : List Value) (hLP : LP = pgl S t) (hLT : LT = tkl true false n) (hLU : LU = wq n2) (hN0 : N0 = lnl s0 m) (w : World) (h : Lg w0 w S q f) :
    Calls Tryd.prog 27 #[.agg LP.toArray, .agg LT.toArray, .agg LU.toArray, .agg N0.toArray] w fun e w' => e = .returned (.int .i64 0) ∧ Lg w0 w' S (q + 2) f ∧ Kp w w' := by
  obtain ⟨LS, hLS⟩ : ∃ L : List Value, L = wq n := ⟨_, rfl⟩
  obtain ⟨LV, hLV⟩ : ∃ L : List Value, L = tkl true false n2 := ⟨_, rfl⟩
  have HLPE : Hid (LP = pgl S t) := hLP
  have HLPI : Hid ((Tryd.prog.info? 58).map (·.size) = some LP.length) := by show _ = _; rw [hLP]; exact info_pgl S t
  have HLPJ : Hid ((Tryd.prog.info? 58).map (·.size) = some LP.toArray.size) := by show _ = _; rw [List.size_toArray, hLP]; exact info_pgl S t
  have HLPN : Hid (LP.length = zP.length) := by show _ = _; rw [hLP]; exact rfl
  have HLPO : Hid (LP.toArray.all (·.oneCell') = true) := by show _ = true; rw [hLP]; exact pgl_one S t
  have HLTE : Hid (LT = tkl true false n) := hLT
  have HLTI : Hid ((Tryd.prog.info? 44).map (·.size) = some LT.length) := by show _ = _; rw [hLT]; exact info_tkl _ _ _
  have HLTJ : Hid ((Tryd.prog.info? 44).map (·.size) = some LT.toArray.size) := by show _ = _; rw [List.size_toArray, hLT]; exact info_tkl _ _ _
  have HLTN : Hid (LT.length = zK.length) := by show _ = _; rw [hLT]; exact tkl_len _ _ _
  have HLTO : Hid (LT.toArray.all (·.oneCell') = true) := by show _ = true; rw [hLT]; exact tkl_one _ _ _
  have HLVE : Hid (LV = tkl true false n2) := hLV
  have HLVI : Hid ((Tryd.prog.info? 44).map (·.size) = some LV.length) := by show _ = _; rw [hLV]; exact info_tkl _ _ _
  have HLVJ : Hid ((Tryd.prog.info? 44).map (·.size) = some LV.toArray.size) := by show _ = _; rw [List.size_toArray, hLV]; exact info_tkl _ _ _
  have HLVN : Hid (LV.length = zK.length) := by show _ = _; rw [hLV]; exact tkl_len _ _ _
  have HLVO : Hid (LV.toArray.all (·.oneCell') = true) := by show _ = true; rw [hLV]; exact tkl_one _ _ _
  have HLUE : Hid (LU = wq n2) := hLU
  have HLUI : Hid ((Tryd.prog.info? 25).map (·.size) = some LU.length) := by show _ = _; rw [hLU]; exact info_wq _
  have HLUJ : Hid ((Tryd.prog.info? 25).map (·.size) = some LU.toArray.size) := by show _ = _; rw [List.size_toArray, hLU]; exact info_wq _
  have HLUN : Hid (LU.length = zW.length) := by show _ = _; rw [hLU]; exact wq_len _
  have HLUO : Hid (LU.toArray.all (·.oneCell') = true) := by show _ = true; rw [hLU]; exact wq_one _
  have HLSE : Hid (LS = wq n) := hLS
  have HLSI : Hid ((Tryd.prog.info? 25).map (·.size) = some LS.length) := by show _ = _; rw [hLS]; exact info_wq _
  have HLSJ : Hid ((Tryd.prog.info? 25).map (·.size) = some LS.toArray.size) := by show _ = _; rw [List.size_toArray, hLS]; exact info_wq _
  have HLSN : Hid (LS.length = zW.length) := by show _ = _; rw [hLS]; exact wq_len _
  have HLSO : Hid (LS.toArray.all (·.oneCell') = true) := by show _ = true; rw [hLS]; exact wq_one _
  have HN0E : Hid (N0 = lnl s0 m) := hN0
  have HN0I : Hid ((Tryd.prog.info? 65).map (·.size) = some N0.length) := by show _ = _; rw [hN0]; exact info_lnl _ _
  have HN0J : Hid ((Tryd.prog.info? 65).map (·.size) = some N0.toArray.size) := by show _ = _; rw [List.size_toArray, hN0]; exact info_lnl _ _
  have HN0N : Hid (N0.length = zL.length) := by show _ = _; rw [hN0]; exact lnl_len _ _
  have HN0O : Hid (N0.toArray.all (·.oneCell') = true) := by show _ = true; rw [hN0]; exact lnl_one _ _
  have HNN : Hid (n < 2 ^ 256 ∧ n2 < 2 ^ 256) := ⟨hn, hn2⟩
  have HNE : Hid (decide (n = n2) = true) := decide_eq_true hne
  have HG : Hid (Lg w0 w S q f) := h
  clear hLP hLT hLU hLS hLV hN0 hn hn2 hne h 
  go_enter Tryd.func27, Tryd.ntmps27
  go_upto_region 1 with (first
    | (refine wpList_boxG 58 rfl (.tmp 0) rfl LP rfl ?_; intro X0 q1 q2 q3; have Q0 : Hid (Row X0 _ LP 58) := q1; have B0 : Hid (Below _ _ X0) := q2; clear q1 q2 q3; simp only [Act.put, List.setIfInBounds_toArray, List.set_cons_zero, List.set_cons_succ])
    | (refine wpList_boxG 44 rfl (.tmp 1) rfl LT rfl ?_; intro X1 q1 q2 q3; have Q1 : Hid (Row X1 _ LT 44) := q1; have B1 : Hid (Below _ _ X1) := q2; clear q1 q2 q3; simp only [Act.put, List.setIfInBounds_toArray, List.set_cons_zero, List.set_cons_succ])
    | (refine wpList_boxG 25 rfl (.tmp 2) rfl LU rfl ?_; intro X2 q1 q2 q3; have Q2 : Hid (Row X2 _ LU 25) := q1; have B2 : Hid (Below _ _ X2) := q2; clear q1 q2 q3; simp only [Act.put, List.setIfInBounds_toArray, List.set_cons_zero, List.set_cons_succ])
    | (refine wpList_boxG 65 rfl (.tmp 3) rfl N0 rfl ?_; intro X3 q1 q2 q3; have Q3 : Hid (Row X3 _ N0 65) := q1; have B3 : Hid (Below _ _ X3) := q2; clear q1 q2 q3; simp only [Act.put, List.setIfInBounds_toArray, List.set_cons_zero, List.set_cons_succ]))
  obtain ⟨b4, hb4⟩ : ∃ b, b = w.heap.size := ⟨_, rfl⟩
  obtain ⟨b5, hb5⟩ : ∃ b, b = X0.heap.size := ⟨_, rfl⟩
  obtain ⟨b6, hb6⟩ : ∃ b, b = X1.heap.size := ⟨_, rfl⟩
  obtain ⟨b7, hb7⟩ : ∃ b, b = X2.heap.size := ⟨_, rfl⟩
  have c00 := B0.out
  have c01 := c00.trans (B1.out.mono c00.size)
  have c02 := c01.trans (B2.out.mono c01.size)
  have c03 := c02.trans (B3.out.mono c02.size)
  have c11 := B1.out
  have c12 := c11.trans (B2.out.mono c11.size)
  have c13 := c12.trans (B3.out.mono c12.size)
  have c22 := B2.out
  have c23 := c22.trans (B3.out.mono c22.size)
  have c33 := B3.out
  have R4 : Hid (Row X3 b4 LP 58) := by rw [hb4]; exact Row.below Q0.out c13 Q0.out.lt
  have HWb4 : Hid (w.heap.size ≤ b4) := by show _ ≤ _; rw [hb4]; exact Nat.le_refl _
  have R5 : Hid (Row X3 b5 LT 44) := by rw [hb5]; exact Row.below Q1.out c23 Q1.out.lt
  have HWb5 : Hid (w.heap.size ≤ b5) := by show _ ≤ _; rw [hb5]; exact c00.size
  have R6 : Hid (Row X3 b6 LU 25) := by rw [hb6]; exact Row.below Q2.out c33 Q2.out.lt
  have HWb6 : Hid (w.heap.size ≤ b6) := by show _ ≤ _; rw [hb6]; exact c01.size
  have R7 : Hid (Row X3 b7 N0 65) := by rw [hb7]; exact Q3.out
  have HWb7 : Hid (w.heap.size ≤ b7) := by show _ ≤ _; rw [hb7]; exact c02.size
  have Nb4b5 : Hid (b4 ≠ b5) := by show _ ≠ _; have := Q0.out.lt; rw [hb4, hb5]; omega
  have Nb4b6 : Hid (b4 ≠ b6) := by show _ ≠ _; have := Q0.out.lt; rw [hb4, hb6]; have := c11.size; omega
  have Nb4b7 : Hid (b4 ≠ b7) := by show _ ≠ _; have := Q0.out.lt; rw [hb4, hb7]; have := c12.size; omega
  have Nb5b6 : Hid (b5 ≠ b6) := by show _ ≠ _; have := Q1.out.lt; rw [hb5, hb6]; omega
  have Nb5b7 : Hid (b5 ≠ b7) := by show _ ≠ _; have := Q1.out.lt; rw [hb5, hb7]; have := c22.size; omega
  have Nb6b7 : Hid (b6 ≠ b7) := by show _ ≠ _; have := Q2.out.lt; rw [hb6, hb7]; omega
  have BX : Hid (Below w.heap.size w X3) := c03
  rw [← hb4, ← hb5, ← hb6, ← hb7]
  clear hb4 hb5 hb6 hb7 c00 c01 c02 c03 c11 c12 c13 c22 c23 c33 Q0 B0 Q1 B1 Q2 B2 Q3 B3
  have RT2 : Hid (X3.rangeAt b5 2 LS) := by show World.rangeAt _ _ _ _; rw [HLSE.out]; have q := R5.out; rw [HLTE.out] at q; exact tkl_am q
  have RA6 : Hid (X3.rangeAt b6 0 LU) := R6.out.all
  go_wp2_with (first
    | (refine wpList_load_w rfl 25 (.tmp 10) rfl b5 2 rfl LS _ RT2.out Tryd.underlying25 rfl HLSI.out ?_; simp only [Act.put, List.setIfInBounds_toArray, List.set_cons_zero, List.set_cons_succ])
    | (refine wpList_load_w rfl 25 (.tmp 6) rfl b6 0 rfl LU _ RA6.out Tryd.underlying25 rfl HLUI.out ?_; simp only [Act.put, List.setIfInBounds_toArray, List.set_cons_zero, List.set_cons_succ])
    | (refine wpList_eqlWg rfl (.tmp 11) (.tmp 12) _ rfl n n2 HNN.out.1 HNN.out.2 (by rw [← HLSE.out]; rfl) (by rw [← HLUE.out]; rfl) true HNE.out ?_; simp only [Act.put, List.setIfInBounds_toArray, List.set_cons_zero, List.set_cons_succ]))
  go_ret
  exact ⟨rfl, (HG.out.be BX.out).mono (by omega), Kp.of_below BX.out⟩
set_option maxRecDepth 100000 in
set_option maxHeartbeats 4000000 in
theorem tsG (w0 : World) (S q : Nat) (f : ByteArray → List (BitVec 8)) (hq : q < 999970) (t : Nat) (ht : t < 64) (n n2 : Nat) (hn : n < 2 ^ 256) (hn2 : n2 < 2 ^ 256) (s0 : ByteArray) (hs0 : isK s0.size = true) (m : Nat) (hm : m < 2 ^ 256) (f1 f2 : ByteArray → List (BitVec 8)) (hne : n ≠ n2) (hf1 : f1 = upd f (tKt t) (1#8 :: wB n2)) (hf2 : f2 = upd f1 s0 (enc m)) (LP LT LU N0 : List Value) (hLP : LP = pgl S t) (hLT : LT = tkl true false n) (hLU : LU = wq n2) (hN0 : N0 = lnl s0 m) (w : World) (h : Lg w0 w S q f) :
    Calls Tryd.prog 27 #[.agg LP.toArray, .agg LT.toArray, .agg LU.toArray, .agg N0.toArray] w fun e w' => e = .returned (.int .i64 0) ∧ Lg w0 w' S (q + 2) f2 ∧ Kp w w' := by
  obtain ⟨LS, hLS⟩ : ∃ L : List Value, L = wq n := ⟨_, rfl⟩
  obtain ⟨LV, hLV⟩ : ∃ L : List Value, L = tkl true false n2 := ⟨_, rfl⟩
  have HLPE : Hid (LP = pgl S t) := hLP
  have HLPI : Hid ((Tryd.prog.info? 58).map (·.size) = some LP.length) := by show _ = _; rw [hLP]; exact info_pgl S t
  have HLPJ : Hid ((Tryd.prog.info? 58).map (·.size) = some LP.toArray.size) := by show _ = _; rw [List.size_toArray, hLP]; exact info_pgl S t
  have HLPN : Hid (LP.length = zP.length) := by show _ = _; rw [hLP]; exact rfl
  have HLPO : Hid (LP.toArray.all (·.oneCell') = true) := by show _ = true; rw [hLP]; exact pgl_one S t
  have HLTE : Hid (LT = tkl true false n) := hLT
  have HLTI : Hid ((Tryd.prog.info? 44).map (·.size) = some LT.length) := by show _ = _; rw [hLT]; exact info_tkl _ _ _
  have HLTJ : Hid ((Tryd.prog.info? 44).map (·.size) = some LT.toArray.size) := by show _ = _; rw [List.size_toArray, hLT]; exact info_tkl _ _ _
  have HLTN : Hid (LT.length = zK.length) := by show _ = _; rw [hLT]; exact tkl_len _ _ _
  have HLTO : Hid (LT.toArray.all (·.oneCell') = true) := by show _ = true; rw [hLT]; exact tkl_one _ _ _
  have HLVE : Hid (LV = tkl true false n2) := hLV
  have HLVI : Hid ((Tryd.prog.info? 44).map (·.size) = some LV.length) := by show _ = _; rw [hLV]; exact info_tkl _ _ _
  have HLVJ : Hid ((Tryd.prog.info? 44).map (·.size) = some LV.toArray.size) := by show _ = _; rw [List.size_toArray, hLV]; exact info_tkl _ _ _
  have HLVN : Hid (LV.length = zK.length) := by show _ = _; rw [hLV]; exact tkl_len _ _ _
  have HLVO : Hid (LV.toArray.all (·.oneCell') = true) := by show _ = true; rw [hLV]; exact tkl_one _ _ _
  have HLUE : Hid (LU = wq n2) := hLU
  have HLUI : Hid ((Tryd.prog.info? 25).map (·.size) = some LU.length) := by show _ = _; rw [hLU]; exact info_wq _
  have HLUJ : Hid ((Tryd.prog.info? 25).map (·.size) = some LU.toArray.size) := by show _ = _; rw [List.size_toArray, hLU]; exact info_wq _
  have HLUN : Hid (LU.length = zW.length) := by show _ = _; rw [hLU]; exact wq_len _
  have HLUO : Hid (LU.toArray.all (·.oneCell') = true) := by show _ = true; rw [hLU]; exact wq_one _
  have HLSE : Hid (LS = wq n) := hLS
  have HLSI : Hid ((Tryd.prog.info? 25).map (·.size) = some LS.length) := by show _ = _; rw [hLS]; exact info_wq _
  have HLSJ : Hid ((Tryd.prog.info? 25).map (·.size) = some LS.toArray.size) := by show _ = _; rw [List.size_toArray, hLS]; exact info_wq _
  have HLSN : Hid (LS.length = zW.length) := by show _ = _; rw [hLS]; exact wq_len _
  have HLSO : Hid (LS.toArray.all (·.oneCell') = true) := by show _ = true; rw [hLS]; exact wq_one _
  have HN0E : Hid (N0 = lnl s0 m) := hN0
  have HN0I : Hid ((Tryd.prog.info? 65).map (·.size) = some N0.length) := by show _ = _; rw [hN0]; exact info_lnl _ _
  have HN0J : Hid ((Tryd.prog.info? 65).map (·.size) = some N0.toArray.size) := by show _ = _; rw [List.size_toArray, hN0]; exact info_lnl _ _
  have HN0N : Hid (N0.length = zL.length) := by show _ = _; rw [hN0]; exact lnl_len _ _
  have HN0O : Hid (N0.toArray.all (·.oneCell') = true) := by show _ = true; rw [hN0]; exact lnl_one _ _
  have HNN : Hid (n < 2 ^ 256 ∧ n2 < 2 ^ 256) := ⟨hn, hn2⟩
  have HNE : Hid (decide (n = n2) = false) := decide_eq_false hne
  have HG : Hid (Lg w0 w S q f) := h
  have HL1 : Hid (∀ W, Lg w0 W S q f → _) := fun W hW => layTG w0 S q f f1 (by omega) t ht n2 LP LV hLP hLV hf1 W hW
  have HL2 : Hid (∀ g W, Row W g N0 65 → Lg w0 W S (q + 1) f1 → _) := fun g W hR hW => layLG1 w0 S (q + 1) f1 f2 (by omega) t s0 hs0 m hm N0 hN0 hf2 g 1 N0 (by rw [List.append_nil]; exact List.take_of_length_le (by rw [hN0, lnl_len]; decide)) LP hLP W hR hW
  clear hLP hLT hLU hLS hLV hN0 hn hn2 hne h hf1 hf2 hm hs0 hq ht
  go_enter Tryd.func27, Tryd.ntmps27
  go_upto_region 1 with (first
    | (refine wpList_boxG 58 rfl (.tmp 0) rfl LP rfl ?_; intro X0 q1 q2 q3; have Q0 : Hid (Row X0 _ LP 58) := q1; have B0 : Hid (Below _ _ X0) := q2; clear q1 q2 q3; simp only [Act.put, List.setIfInBounds_toArray, List.set_cons_zero, List.set_cons_succ])
    | (refine wpList_boxG 44 rfl (.tmp 1) rfl LT rfl ?_; intro X1 q1 q2 q3; have Q1 : Hid (Row X1 _ LT 44) := q1; have B1 : Hid (Below _ _ X1) := q2; clear q1 q2 q3; simp only [Act.put, List.setIfInBounds_toArray, List.set_cons_zero, List.set_cons_succ])
    | (refine wpList_boxG 25 rfl (.tmp 2) rfl LU rfl ?_; intro X2 q1 q2 q3; have Q2 : Hid (Row X2 _ LU 25) := q1; have B2 : Hid (Below _ _ X2) := q2; clear q1 q2 q3; simp only [Act.put, List.setIfInBounds_toArray, List.set_cons_zero, List.set_cons_succ])
    | (refine wpList_boxG 65 rfl (.tmp 3) rfl N0 rfl ?_; intro X3 q1 q2 q3; have Q3 : Hid (Row X3 _ N0 65) := q1; have B3 : Hid (Below _ _ X3) := q2; clear q1 q2 q3; simp only [Act.put, List.setIfInBounds_toArray, List.set_cons_zero, List.set_cons_succ]))
  obtain ⟨b4, hb4⟩ : ∃ b, b = w.heap.size := ⟨_, rfl⟩
  obtain ⟨b5, hb5⟩ : ∃ b, b = X0.heap.size := ⟨_, rfl⟩
  obtain ⟨b6, hb6⟩ : ∃ b, b = X1.heap.size := ⟨_, rfl⟩
  obtain ⟨b7, hb7⟩ : ∃ b, b = X2.heap.size := ⟨_, rfl⟩
  have c00 := B0.out
  have c01 := c00.trans (B1.out.mono c00.size)
  have c02 := c01.trans (B2.out.mono c01.size)
  have c03 := c02.trans (B3.out.mono c02.size)
  have c11 := B1.out
  have c12 := c11.trans (B2.out.mono c11.size)
  have c13 := c12.trans (B3.out.mono c12.size)
  have c22 := B2.out
  have c23 := c22.trans (B3.out.mono c22.size)
  have c33 := B3.out
  have R4 : Hid (Row X3 b4 LP 58) := by rw [hb4]; exact Row.below Q0.out c13 Q0.out.lt
  have HWb4 : Hid (w.heap.size ≤ b4) := by show _ ≤ _; rw [hb4]; exact Nat.le_refl _
  have R5 : Hid (Row X3 b5 LT 44) := by rw [hb5]; exact Row.below Q1.out c23 Q1.out.lt
  have HWb5 : Hid (w.heap.size ≤ b5) := by show _ ≤ _; rw [hb5]; exact c00.size
  have R6 : Hid (Row X3 b6 LU 25) := by rw [hb6]; exact Row.below Q2.out c33 Q2.out.lt
  have HWb6 : Hid (w.heap.size ≤ b6) := by show _ ≤ _; rw [hb6]; exact c01.size
  have R7 : Hid (Row X3 b7 N0 65) := by rw [hb7]; exact Q3.out
  have HWb7 : Hid (w.heap.size ≤ b7) := by show _ ≤ _; rw [hb7]; exact c02.size
  have Nb4b5 : Hid (b4 ≠ b5) := by show _ ≠ _; have := Q0.out.lt; rw [hb4, hb5]; omega
  have Nb4b6 : Hid (b4 ≠ b6) := by show _ ≠ _; have := Q0.out.lt; rw [hb4, hb6]; have := c11.size; omega
  have Nb4b7 : Hid (b4 ≠ b7) := by show _ ≠ _; have := Q0.out.lt; rw [hb4, hb7]; have := c12.size; omega
  have Nb5b6 : Hid (b5 ≠ b6) := by show _ ≠ _; have := Q1.out.lt; rw [hb5, hb6]; omega
  have Nb5b7 : Hid (b5 ≠ b7) := by show _ ≠ _; have := Q1.out.lt; rw [hb5, hb7]; have := c22.size; omega
  have Nb6b7 : Hid (b6 ≠ b7) := by show _ ≠ _; have := Q2.out.lt; rw [hb6, hb7]; omega
  have BX : Hid (Below w.heap.size w X3) := c03
  rw [← hb4, ← hb5, ← hb6, ← hb7]
  clear hb4 hb5 hb6 hb7 c00 c01 c02 c03 c11 c12 c13 c22 c23 c33 Q0 B0 Q1 B1 Q2 B2 Q3 B3
  have RT2 : Hid (X3.rangeAt b5 2 LS) := by show World.rangeAt _ _ _ _; rw [HLSE.out]; have q := R5.out; rw [HLTE.out] at q; exact tkl_am q
  have RA6 : Hid (X3.rangeAt b6 0 LU) := R6.out.all
  have HTH : Hid (X3.there b5 2 LU.toArray.size) := R5.out.there 2 _ (by rw [List.size_toArray, HLUN.out, HLTN.out]; decide)
  obtain ⟨Z, hZ⟩ : ∃ Z, Z = X3.setCells b5 2 LU := ⟨_, rfl⟩
  have HZ : Hid (Z = _) := hZ
  have T4 : Hid (Row Z b4 LP 58) := by rw [hZ]; exact Row.setCells_other R4.out _ _ _ Nb4b5.out
  have S4 : Hid (Z.rangeAt b4 0 LP) := T4.out.all
  have S5 : Hid (Z.rangeAt b5 0 LV) := by
    show World.rangeAt _ _ _ _
    have q := R5.out
    rw [HLTE.out] at q
    rw [hZ, HLUE.out, HLVE.out]
    exact (tkl_set q).all
  have T7 : Hid (Row Z b7 N0 65) := by rw [hZ]; exact Row.setCells_other R7.out _ _ _ (Ne.symm Nb5b7.out)
  have BZ : Hid (Below w.heap.size w Z) := by rw [hZ]; exact below_setCells BX.out HWb5.out _
  clear hZ
  go_upto_region 4 with (first
    | (refine wpList_load_w rfl 25 (.tmp 10) rfl b5 2 rfl LS _ RT2.out Tryd.underlying25 rfl HLSI.out ?_; simp only [Act.put, List.setIfInBounds_toArray, List.set_cons_zero, List.set_cons_succ])
    | (refine wpList_load_w rfl 25 (.tmp 6) rfl b6 0 rfl LU _ RA6.out Tryd.underlying25 rfl HLUI.out ?_; simp only [Act.put, List.setIfInBounds_toArray, List.set_cons_zero, List.set_cons_succ])
    | (refine wpList_eqlWg rfl (.tmp 11) (.tmp 12) _ rfl n n2 HNN.out.1 HNN.out.2 (by rw [← HLSE.out]; rfl) (by rw [← HLUE.out]; rfl) false HNE.out ?_; simp only [Act.put, List.setIfInBounds_toArray, List.set_cons_zero, List.set_cons_succ])
    | (refine wpList_store_mid rfl 25 (.tmp 15) (.tmp 14) rfl b5 2 LU.toArray rfl rfl HTH.out HLUJ.out HLUO.out ?_; simp only [Act.put]; change wpList _ _ _ _ _ (World.setCells X3 b5 2 LU); rw [← HZ.out]))
  clear R4 R5 R6 R7 RT2 RA6 HTH HZ BX
  go_wp2_with (first
    | (refine wpList_load_w rfl 58 (.tmp 4) rfl b4 0 rfl LP _ S4.out Tryd.underlying58 rfl HLPI.out ?_; simp only [Act.put, List.setIfInBounds_toArray, List.set_cons_zero, List.set_cons_succ])
    | (refine wpList_load_w rfl 44 (.tmp 5) rfl b5 0 rfl LV _ S5.out Tryd.underlying44 rfl HLVI.out ?_; simp only [Act.put, List.setIfInBounds_toArray, List.set_cons_zero, List.set_cons_succ]))
  refine Calls.mono (HL1.out Z (HG.out.be BZ.out)) ?_
  rintro e V ⟨rfl, hG, hK⟩
  replace HG : Hid (Lg w0 V S (q + 1) f1) := hG
  have HK : Hid (Kp w V) := (Kp.of_below BZ.out).trans hK
  replace S4 : Hid (V.rangeAt b4 0 LP) := (hK.row _ _ _ (by decide) T4.out).all
  have S7 : Hid (V.rangeAt b7 0 N0) := (hK.row _ _ _ (by decide) T7.out).all
  clear hG hK S5 T4 T7 BZ HL1
  go_wp2_with (first
    | (refine wpList_load_w rfl 58 (.tmp 4) rfl b4 0 rfl LP _ S4.out Tryd.underlying58 rfl HLPI.out ?_; simp only [Act.put, List.setIfInBounds_toArray, List.set_cons_zero, List.set_cons_succ])
    | (refine wpList_load_w rfl 65 (.tmp 7) rfl b7 0 rfl N0 _ S7.out Tryd.underlying65 rfl HN0I.out ?_; simp only [Act.put, List.setIfInBounds_toArray, List.set_cons_zero, List.set_cons_succ])
    | (refine wpList_buildL1 rfl (.tmp 23) rfl N0 HN0N.out rfl ?_; intro V2 q1 q2; have RL : Hid (Row V2 V.heap.size N0 65) := q1; have BL : Hid (Below V.heap.size V V2) := q2; clear q1 q2; simp only [Act.put, List.setIfInBounds_toArray, List.set_cons_zero, List.set_cons_succ]))
  refine Calls.mono (HL2.out V.heap.size V2 RL.out (HG.out.be BL.out)) ?_
  rintro e V3 ⟨rfl, hG, hK⟩
  have HG3 : Hid (Lg w0 V3 S (q + 1 + 1) f2) := hG
  have HK3 : Hid (Kp w V3) := (HK.out.trans (Kp.of_below BL.out)).trans hK
  clear hG hK
  go_wp2_with fail
  go_ret
  exact ⟨rfl, HG3.out, HK3.out⟩
/-- Another supply, and what goes with it. -/
def tsF (f : ByteArray → List (BitVec 8)) (t n n2 : Nat) (s0 : ByteArray) (m : Nat) : ByteArray → List (BitVec 8) := if n = n2 then f else upd (upd f (tKt t) (1#8 :: wB n2)) s0 (enc m)
theorem tsA (w0 : World) (S q : Nat) (f : ByteArray → List (BitVec 8)) (hq : q < 999970) (t : Nat) (ht : t < 64) (n n2 : Nat) (hn : n < 2 ^ 256) (hn2 : n2 < 2 ^ 256) (s0 : ByteArray) (hs0 : isK s0.size = true) (m : Nat) (hm : m < 2 ^ 256) (LP LT LU N0 : List Value) (hLP : LP = pgl S t) (hLT : LT = tkl true false n) (hLU : LU = wq n2) (hN0 : N0 = lnl s0 m) (w : World) (h : Lg w0 w S q f) :
    Calls Tryd.prog 27 #[.agg LP.toArray, .agg LT.toArray, .agg LU.toArray, .agg N0.toArray] w fun e w' => e = .returned (.int .i64 0) ∧ Lg w0 w' S (q + 2) (tsF f t n n2 s0 m) ∧ Kp w w' := by
  unfold tsF
  by_cases he : n = n2
  · rw [if_pos he]
    exact tsS w0 S q f hq t ht n n2 hn hn2 s0 hs0 m hm he LP LT LU N0 hLP hLT hLU hN0 w h
  · rw [if_neg he]
    exact tsG w0 S q f hq t ht n n2 hn hn2 s0 hs0 m hm _ _ he rfl rfl LP LT LU N0 hLP hLT hLU hN0 w h
set_option maxRecDepth 100000 in
set_option maxHeartbeats 4000000 in
theorem regG (w0 : World) (S q : Nat) (f : ByteArray → List (BitVec 8)) (f2 : ByteArray → List (BitVec 8)) (hq : q < 999970) (t : Nat) (ht : t < 64) (hf : f (tKt t) = []) (hf2 : f2 = upd f (tKt t) (1#8 :: wB 0)) (w : World) (h : Lg w0 w S q f) :
    Calls Tryd.prog 7 #[.pointer (some ⟨S, 0, none⟩), .int .i64 (t : Int)] w fun e w' => e = .returned (.int .i64 0) ∧ Lg w0 w' S (q + 2) f2 ∧ Kp w w' := by
  obtain ⟨LP, hLP⟩ : ∃ L : List Value, L = pgl S t := ⟨_, rfl⟩
  obtain ⟨LZ, hLZ⟩ : ∃ L : List Value, L = tkl false false 0 := ⟨_, rfl⟩
  obtain ⟨LT, hLT⟩ : ∃ L : List Value, L = tkl true false 0 := ⟨_, rfl⟩
  have HLPE : Hid (LP = pgl S t) := hLP
  have HLPI : Hid ((Tryd.prog.info? 58).map (·.size) = some LP.length) := by show _ = _; rw [hLP]; exact info_pgl S t
  have HLPJ : Hid ((Tryd.prog.info? 58).map (·.size) = some LP.toArray.size) := by show _ = _; rw [List.size_toArray, hLP]; exact info_pgl S t
  have HLPN : Hid (LP.length = zP.length) := by show _ = _; rw [hLP]; exact rfl
  have HLPO : Hid (LP.toArray.all (·.oneCell') = true) := by show _ = true; rw [hLP]; exact pgl_one S t
  have HLZE : Hid (LZ = tkl false false 0) := hLZ
  have HLZI : Hid ((Tryd.prog.info? 44).map (·.size) = some LZ.length) := by show _ = _; rw [hLZ]; exact info_tkl _ _ _
  have HLZJ : Hid ((Tryd.prog.info? 44).map (·.size) = some LZ.toArray.size) := by show _ = _; rw [List.size_toArray, hLZ]; exact info_tkl _ _ _
  have HLZN : Hid (LZ.length = zK.length) := by show _ = _; rw [hLZ]; exact tkl_len _ _ _
  have HLZO : Hid (LZ.toArray.all (·.oneCell') = true) := by show _ = true; rw [hLZ]; exact tkl_one _ _ _
  have HBZ : Hid (∀ w, (Instr.build 44 #[]).run Tryd.prog w = .ok (.agg LZ.toArray) w) := fun w => by rw [hLZ, tkl_zK]; exact build_tok0 w
  have HC : Hid (∀ w, (binOp .neq 44 (.agg LZ.toArray) (.agg LZ.toArray)).run Tryd.prog w = .ok (.bool false) w) := by rw [hLZ, tkl_zK]; exact tok_zz
  have HA : Hid _ := ask_z w0 S q f (by omega) t ht hf LP LZ hLP hLZ w h
  have HRU : Hid (∀ W, Calls Tryd.prog 22 #[.agg LZ.toArray] W fun e w' => e = .returned (.agg LT.toArray) ∧ Below W.heap.size W w') := fun W => run_g false false 0 LZ LT hLZ hLT W
  have HLT : Hid (∀ W, Lg w0 W S (q + 1) f → _) := fun W hW => layTG w0 S (q + 1) f f2 (by omega) t ht 0 LP LT hLP hLT hf2 W hW
  clear hLP hLZ hLT hq ht hf hf2 h
  go_enter Tryd.func7, Tryd.ntmps7
  go_wp2_with fail
  refine Calls.mono HA.out ?_
  rintro e V ⟨rfl, hG, hK⟩
  have HG : Hid (Lg w0 V S (q + 1) f) := hG
  have HK : Hid (Kp w V) := hK
  clear hG hK HA
  go_upto_region 2 with (first
    | (refine wpList_allocP rfl rfl ?_; intro XP q1 q2 q3; have RP1 : Hid (Row XP V.heap.size zP 58) := q1; have BP : Hid (Below V.heap.size V XP) := q2; have NE12 : Hid (XP.heap.size ≠ V.heap.size) := (by show _ ≠ _; rw [q3]; omega); clear q1 q2 q3; simp only [Act.put, List.setIfInBounds_toArray, List.set_cons_zero, List.set_cons_succ])
    | (refine wpList_allocK rfl rfl ?_; intro XK q1 q2 q3; have RK1 : Hid (Row XK XP.heap.size zK 44) := q1; have BK : Hid (Below XP.heap.size XP XK) := q2; have RP2 : Hid (Row XK V.heap.size zP 58) := Row.below RP1.out q2 RP1.out.lt; clear q1 q2 q3; simp only [Act.put, List.setIfInBounds_toArray, List.set_cons_zero, List.set_cons_succ])
    | (refine wpList_storeL rfl 58 (.tmp 5) (.tmp 12) rfl V.heap.size LP zP 58 rfl rfl RP2.out HLPN.out HLPI.out HLPO.out ?_; intro YP q1 q2; have HYP : Hid (YP = _) := q1; have RYP : Hid (Row YP V.heap.size LP 58) := q2; have RK2 : Hid (Row YP XP.heap.size zK 44) := (by rw [q1]; exact Row.setCells_other RK1.out _ _ _ NE12.out); clear q1 q2; simp only [Act.put])
    | (refine wpList_storeL rfl 44 (.tmp 6) (.tmp 13) rfl XP.heap.size LZ zK 44 rfl rfl RK2.out HLZN.out HLZI.out HLZO.out ?_; intro YK q1 q2; have HYK : Hid (YK = _) := q1; have RYK : Hid (Row YK XP.heap.size LZ 44) := q2; clear q1 q2; simp only [Act.put]))
  obtain ⟨p1, hp1⟩ : ∃ p, p = V.heap.size := ⟨_, rfl⟩
  obtain ⟨p2, hp2⟩ : ∃ p, p = XP.heap.size := ⟨_, rfl⟩
  have b12 : Below V.heap.size V YK := by rw [HYK.out, HYP.out]; exact below_setCells (below_setCells (BP.out.trans (BK.out.mono BP.out.size)) (Nat.le_refl _) _) BP.out.size _
  have Rp1 : Hid (Row YK p1 LP 58) := by rw [HYK.out, hp1]; exact Row.setCells_other RYP.out _ _ _ (Ne.symm NE12.out)
  have Rp2 : Hid (Row YK p2 LZ 44) := by rw [hp2]; exact RYK.out
  have Np1p2 : Hid (p1 ≠ p2) := by rw [hp1, hp2]; exact Ne.symm NE12.out
  replace HG : Hid (Lg w0 YK S (q + 1) f) := HG.out.be b12
  replace HK : Hid (Kp w YK) := HK.out.trans (Kp.of_below b12)
  rw [← hp1, ← hp2]
  clear hp1 hp2 b12 BP BK RP1 RP2 RK1 RK2 NE12 HYP RYP HYK RYK
  have RA2 : Hid (YK.rangeAt p2 0 LZ) := Rp2.out.all
  go_upto_region 6 with (first
    | (refine wpList_load_w rfl 44 (.tmp 6) rfl p2 0 rfl LZ _ RA2.out Tryd.underlying44 rfl HLZI.out ?_; simp only [Act.put, List.setIfInBounds_toArray, List.set_cons_zero, List.set_cons_succ])
    | (refine wpList_bld rfl 44 #[] rfl #[] rfl LZ HBZ.out ?_; simp only [Act.put, List.setIfInBounds_toArray, List.set_cons_zero, List.set_cons_succ])
    | (refine wpList_cmpK rfl .neq (.tmp 20) (.tmp 21) _ rfl LZ LZ rfl rfl false HC.out ?_; simp only [Act.put, List.setIfInBounds_toArray, List.set_cons_zero, List.set_cons_succ]))
  have r1 := Rp1.out
  have r2 := Rp2.out
  have hG := HG.out
  have hK := HK.out
  have hb1 := Below.refl YK.heap.size YK
  clear Rp1 Rp2 HG HK RA2
  refine wp_named fun a0 ha0 => ?_
  have hsz : a0.tmps.size = 27 := by rw [ha0]; rfl
  have zs5 : a0.eval (.tmp 5) = .pointer (some ⟨p1, 0, none⟩) := by rw [ha0]; rfl
  have zs6 : a0.eval (.tmp 6) = .pointer (some ⟨p2, 0, none⟩) := by rw [ha0]; rfl
  obtain ⟨D, hD⟩ : ∃ D : List (Tmp × SP), D = [(23, SP.is (.agg LP.toArray)), (24, SP.is (.agg LZ.toArray)), (25, SP.is (.agg LT.toArray)), (26, SP.is (.int .i64 0)), (4, SP.is (.int .i64 0))] := ⟨_, rfl⟩
  refine wp_region_then (by kernel_rfl) 3 (by decide) (by kernel_rfl) (fun listed ac W => Fp D a0 listed ac W ∧ Below YK.heap.size YK W ∧ Row W p1 LP 58 ∧ Row W p2 LZ 44 ∧ Lg w0 W S (q + 1) f ∧ Kp w W) (fun listed ac W => Fp D a0 listed ac W ∧ Lg w0 W S (q + 1 + 1) f2 ∧ Kp w W) ?_ ?_ ?_ ?_ ?_
  · exact ⟨Fp.start D a0 _ _, Below.drew hb1, Row.drew r1, Row.drew r2, hG.below (Below.drew (Below.refl _ _)), hK.below (Below.drew (Below.refl _ _))⟩
  · clear ha0 hb1 r1 r2 hG hK
    intro listed ac W k hl hI hdn hk hne hnl
    replace hl : listed.size = 5 := hl
    obtain ⟨hF, hb1, r1, r2, hG, hK⟩ := hI
    have hk1 : k < 5 := List.mem_range.1 (List.mem_filter.1 hk).1
    rcases (show k = 0 ∨ k = 1 ∨ k = 2 ∨ k = 3 ∨ k = 4 by omega) with rfl | rfl | rfl | rfl | rfl
    · have hk3 := hk
      exact wpOp_plain rfl rfl (wp_load_mid 58 (.tmp 5) rfl p1 0 ((hF.keep 5 (by rw [hD]; rfl)).trans zs5) LP _ r1.all Tryd.underlying58 rfl HLPI.out ⟨(hF.put 0 23 (SP.is (.agg LP.toArray)) (.agg LP.toArray) (by rw [hD]; rfl) rfl (by rw [hD]; rfl) (by rw [hsz]; decide) (by rw [hl]; decide)), hb1, r1, r2, hG, hK⟩)
    · have hk3 := hk
      exact wpOp_plain rfl rfl (wp_load_mid 44 (.tmp 6) rfl p2 0 ((hF.keep 6 (by rw [hD]; rfl)).trans zs6) LZ _ r2.all Tryd.underlying44 rfl HLZI.out ⟨(hF.put 1 24 (SP.is (.agg LZ.toArray)) (.agg LZ.toArray) (by rw [hD]; rfl) rfl (by rw [hD]; rfl) (by rw [hsz]; decide) (by rw [hl]; decide)), hb1, r1, r2, hG, hK⟩)
    · have hk3 := hk
      have e24 := (hF.done 1 (24, SP.is (.agg LZ.toArray)) (by rw [hD]; rfl) (ready_dep hk 1 (by kernel_rfl)))
      refine wpOp_plain rfl rfl (wp_fcall_v 22 #[.agg LZ.toArray] rfl rfl (by show [ac.eval (.tmp 24)] = _; rw [show ac.eval (.tmp 24) = .agg LZ.toArray from e24]) (by go_simp) ((HRU.out W).mono ?_))
      rintro e W2 ⟨rfl, hB⟩
      exact ⟨_, rfl, ((hF.world hB).put 2 25 (SP.is (.agg LT.toArray)) (.agg LT.toArray) (by rw [hD]; rfl) rfl (by rw [hD]; rfl) (by rw [hsz]; decide) (by rw [hl]; decide)), hb1.trans (hB.mono hb1.size), Row.below r1 hB (Row.lt r1), Row.below r2 hB (Row.lt r2), hG.below hB, hK.below hB⟩
    · exact absurd rfl hne
    · exact absurd (ready_dep hk 3 (by kernel_rfl)) hnl
  · clear ha0 hb1 r1 r2 hG hK
    intro listed ac W hl hI hdn hk
    replace hl : listed.size = 5 := hl
    obtain ⟨hF, hb1, r1, r2, hG, hK⟩ := hI
    have e23 := (hF.done 0 (23, SP.is (.agg LP.toArray)) (by rw [hD]; rfl) (ready_dep hk 0 (by kernel_rfl)))
    have e25 := (hF.done 2 (25, SP.is (.agg LT.toArray)) (by rw [hD]; rfl) (ready_dep hk 2 (by kernel_rfl)))
    refine wpOp_plain rfl rfl (wp_fcall_v 21 #[.agg LP.toArray, .agg LT.toArray] rfl rfl (by show [ac.eval (.tmp 23), ac.eval (.tmp 25)] = _; rw [show ac.eval (.tmp 23) = .agg LP.toArray from e23, show ac.eval (.tmp 25) = .agg LT.toArray from e25]) (by go_simp) ((HLT.out W hG).mono ?_))
    rintro e W2 ⟨rfl, hG2, hK2⟩
    have hT : Fp D a0 listed ac W2 := hF.turn (by rw [hD]; simp only [List.forall_mem_cons, List.not_mem_nil, false_implies, implies_true, and_true]; exact ⟨fun _ h => h, fun _ h => h, fun _ h => h, fun _ h => h, fun _ h => h⟩)
    exact ⟨_, rfl, (hT.put 3 26 (SP.is (.int .i64 0)) _ (by rw [hD]; rfl) rfl (by rw [hD]; rfl) (by rw [hsz]; decide) (by rw [hl]; decide)), hG2, hK.trans hK2⟩
  · clear ha0 hb1 r1 r2 hG hK
    intro listed ac W k hl hJ hdn hk hne hyl
    replace hl : listed.size = 5 := hl
    obtain ⟨hF, hG, hK⟩ := hJ
    have hk1 : k < 5 := List.mem_range.1 (List.mem_filter.1 hk).1
    rcases (show k = 0 ∨ k = 1 ∨ k = 2 ∨ k = 3 ∨ k = 4 by omega) with rfl | rfl | rfl | rfl | rfl
    · exact absurd (hdn 3 hyl 0 (by kernel_rfl)) (not_yet hk)
    · exact absurd (hdn 2 (hdn 3 hyl 2 (by kernel_rfl)) 1 (by kernel_rfl)) (not_yet hk)
    · exact absurd (hdn 3 hyl 2 (by kernel_rfl)) (not_yet hk)
    · exact absurd rfl hne
    · exact wpOp_plain rfl rfl (wp_assign_v (ac.eval (.tmp 26)) rfl rfl ⟨(hF.put 4 4 (SP.is (.int .i64 0)) _ (by rw [hD]; rfl) (hF.done 3 (26, SP.is (.int .i64 0)) (by rw [hD]; rfl) (ready_dep hk 3 (by kernel_rfl))) (by rw [hD]; rfl) (by rw [hsz]; decide) (by rw [hl]; decide)), hG, hK⟩)
  · clear hb1 r1 r2 hG hK
    intro listed ac W hl hJ hr
    replace hl : listed.size = 5 := hl
    obtain ⟨hF, hG, hK⟩ := hJ
    have hall := all_listed (by kernel_rfl) hl hr
    have h23 : ac.eval (.tmp 23) = .agg LP.toArray := hF.done 0 (23, SP.is (.agg LP.toArray)) (by rw [hD]; rfl) (hall 0 (by decide))
    have h24 : ac.eval (.tmp 24) = .agg LZ.toArray := hF.done 1 (24, SP.is (.agg LZ.toArray)) (by rw [hD]; rfl) (hall 1 (by decide))
    have h25 : ac.eval (.tmp 25) = .agg LT.toArray := hF.done 2 (25, SP.is (.agg LT.toArray)) (by rw [hD]; rfl) (hall 2 (by decide))
    have h26 : ac.eval (.tmp 26) = .int .i64 0 := hF.done 3 (26, SP.is (.int .i64 0)) (by rw [hD]; rfl) (hall 3 (by decide))
    have h4 : ac.eval (.tmp 4) = .int .i64 0 := hF.done 4 (4, SP.is (.int .i64 0)) (by rw [hD]; rfl) (hall 4 (by decide))
    have ea := hF.lay [(23, .agg LP.toArray), (24, .agg LZ.toArray), (25, .agg LT.toArray), (26, .int .i64 0), (4, .int .i64 0)] (by rw [hD, hsz]; rfl) (by simp only [List.forall_mem_cons, List.not_mem_nil, false_implies, implies_true, and_true]; exact ⟨h23, h24, h25, h26, h4⟩)
    rw [ha0] at ea
    simp only [List.foldl_cons, List.foldl_nil, List.setIfInBounds_toArray, List.set_cons_zero, List.set_cons_succ] at ea
    clear hF hall hr hl hD zs5 zs6 ha0 hsz h23 h24 h25 h26 h4
    subst ea
    have HG : Hid (Lg w0 W S (q + 1 + 1) f2) := hG
    have HK : Hid (Kp w W) := hK
    clear hG hK
    go_wp2_with fail
    go_ret
    exact ⟨rfl, HG.out, HK.out⟩
set_option maxRecDepth 100000 in
set_option maxHeartbeats 4000000 in
theorem tokG (w0 : World) (S q : Nat) (f : ByteArray → List (BitVec 8)) (hq : q < 999970) (t : Nat) (ht : t < 64) (n : Nat) (hn : n < 2 ^ 256) (hf : f (tKt t) = 1#8 :: wB n) (LT : List Value) (hLT : LT = tkl true false n) (w : World) (h : Lg w0 w S q f) :
    Calls Tryd.prog 16 #[.pointer (some ⟨S, 0, none⟩), .int .i64 (t : Int)] w fun e w' => e = .returned (.tuple #[.agg LT.toArray, .int .i64 0]) ∧ Lg w0 w' S (q + 1) f ∧ Kp w w' := by
  obtain ⟨LP, hLP⟩ : ∃ L : List Value, L = pgl S t := ⟨_, rfl⟩
  have HLPE : Hid (LP = pgl S t) := hLP
  have HLPI : Hid ((Tryd.prog.info? 58).map (·.size) = some LP.length) := by show _ = _; rw [hLP]; exact info_pgl S t
  have HLPJ : Hid ((Tryd.prog.info? 58).map (·.size) = some LP.toArray.size) := by show _ = _; rw [List.size_toArray, hLP]; exact info_pgl S t
  have HLPN : Hid (LP.length = zP.length) := by show _ = _; rw [hLP]; exact rfl
  have HLPO : Hid (LP.toArray.all (·.oneCell') = true) := by show _ = true; rw [hLP]; exact pgl_one S t
  have HLTE : Hid (LT = tkl true false n) := hLT
  have HLTI : Hid ((Tryd.prog.info? 44).map (·.size) = some LT.length) := by show _ = _; rw [hLT]; exact info_tkl _ _ _
  have HLTJ : Hid ((Tryd.prog.info? 44).map (·.size) = some LT.toArray.size) := by show _ = _; rw [List.size_toArray, hLT]; exact info_tkl _ _ _
  have HLTN : Hid (LT.length = zK.length) := by show _ = _; rw [hLT]; exact tkl_len _ _ _
  have HLTO : Hid (LT.toArray.all (·.oneCell') = true) := by show _ = true; rw [hLT]; exact tkl_one _ _ _
  have HAK : Hid (∀ W, Lg w0 W S q f → _) := fun W hW => ask_r w0 S q f (by omega) t ht n hn hf LP LT hLP hLT W hW
  have HG : Hid (Lg w0 w S q f) := h
  have HW0 : Hid (w0.heap.size ≤ w.heap.size) := h.bel.size
  clear hLP hLT hq ht hn hf h
  go_enter Tryd.func16, Tryd.ntmps16
  go_wp2_with (first
    | (refine wpList_allocK rfl rfl ?_; intro X0 q1 q2 q3; have Q0 : Hid (Row X0 _ zK 44) := q1; have B0 : Hid (Below _ _ X0) := q2; clear q1 q2 q3; simp only [Act.put, List.setIfInBounds_toArray, List.set_cons_zero, List.set_cons_succ]))
  obtain ⟨b4, hb4⟩ : ∃ b, b = w.heap.size := ⟨_, rfl⟩
  have c00 := B0.out
  have R4 : Hid (Row X0 b4 zK 44) := by rw [hb4]; exact Q0.out
  have HWb4 : Hid (w.heap.size ≤ b4) := by show _ ≤ _; rw [hb4]; exact Nat.le_refl _
  have BX : Hid (Below w.heap.size w X0) := c00
  rw [← hb4]
  clear hb4 c00 Q0 B0
  replace HG : Hid (Lg w0 X0 S q f) := HG.out.be BX.out
  have HK : Hid (Kp w X0) := Kp.of_below BX.out
  clear BX
  refine Calls.mono (HAK.out X0 HG.out) ?_
  rintro e V ⟨rfl, hG, hK⟩
  replace R4 : Hid (Row V b4 zK 44) := hK.row _ _ _ (by decide) R4.out
  replace HG : Hid (Lg w0 V S (q + 1) f) := hG
  replace HK : Hid (Kp w V) := HK.out.trans hK
  clear hG hK HAK
  go_upto_region 2 with (first
    | (refine wpList_allocP rfl rfl ?_; intro XP q1 q2 q3; have RP1 : Hid (Row XP V.heap.size zP 58) := q1; have BP : Hid (Below V.heap.size V XP) := q2; have NE12 : Hid (XP.heap.size ≠ V.heap.size) := (by show _ ≠ _; rw [q3]; omega); clear q1 q2 q3; simp only [Act.put, List.setIfInBounds_toArray, List.set_cons_zero, List.set_cons_succ])
    | (refine wpList_allocK rfl rfl ?_; intro XK q1 q2 q3; have RK1 : Hid (Row XK XP.heap.size zK 44) := q1; have BK : Hid (Below XP.heap.size XP XK) := q2; have RP2 : Hid (Row XK V.heap.size zP 58) := Row.below RP1.out q2 RP1.out.lt; clear q1 q2 q3; simp only [Act.put, List.setIfInBounds_toArray, List.set_cons_zero, List.set_cons_succ])
    | (refine wpList_storeL rfl 58 (.tmp 6) (.tmp 13) rfl V.heap.size LP zP 58 rfl rfl RP2.out HLPN.out HLPI.out HLPO.out ?_; intro YP q1 q2; have HYP : Hid (YP = _) := q1; have RYP : Hid (Row YP V.heap.size LP 58) := q2; have RK2 : Hid (Row YP XP.heap.size zK 44) := (by rw [q1]; exact Row.setCells_other RK1.out _ _ _ NE12.out); clear q1 q2; simp only [Act.put])
    | (refine wpList_storeL rfl 44 (.tmp 7) (.tmp 14) rfl XP.heap.size LT zK 44 rfl rfl RK2.out HLTN.out HLTI.out HLTO.out ?_; intro YK q1 q2; have HYK : Hid (YK = _) := q1; have RYK : Hid (Row YK XP.heap.size LT 44) := q2; clear q1 q2; simp only [Act.put]))
  obtain ⟨p1, hp1⟩ : ∃ p, p = V.heap.size := ⟨_, rfl⟩
  obtain ⟨p2, hp2⟩ : ∃ p, p = XP.heap.size := ⟨_, rfl⟩
  have b12 : Below V.heap.size V YK := by rw [HYK.out, HYP.out]; exact below_setCells (below_setCells (BP.out.trans (BK.out.mono BP.out.size)) (Nat.le_refl _) _) BP.out.size _
  have Rp1 : Hid (Row YK p1 LP 58) := by rw [HYK.out, hp1]; exact Row.setCells_other RYP.out _ _ _ (Ne.symm NE12.out)
  have Rp2 : Hid (Row YK p2 LT 44) := by rw [hp2]; exact RYK.out
  have Np1p2 : Hid (p1 ≠ p2) := by rw [hp1, hp2]; exact Ne.symm NE12.out
  have Nb4p1 : Hid (b4 ≠ p1) := by show _ ≠ _; have := R4.out.lt; rw [hp1]; omega
  have Nb4p2 : Hid (b4 ≠ p2) := by show _ ≠ _; have := R4.out.lt; have := BP.out.size; rw [hp2]; omega
  replace R4 : Hid (Row YK b4 zK 44) := Row.below R4.out b12 R4.out.lt
  replace HG : Hid (Lg w0 YK S (q + 1) f) := HG.out.be b12
  replace HK : Hid (Kp w YK) := HK.out.trans (Kp.of_below b12)
  rw [← hp1, ← hp2]
  clear hp1 hp2 b12 BP BK RP1 RP2 RK1 RK2 NE12 HYP RYP HYK RYK
  have RA2 : Hid (YK.rangeAt p2 0 LT) := Rp2.out.all
  go_wp2_with (first
    | (refine wpList_load_w rfl 44 (.tmp 7) rfl p2 0 rfl LT _ RA2.out Tryd.underlying44 rfl HLTI.out ?_; simp only [Act.put, List.setIfInBounds_toArray, List.set_cons_zero, List.set_cons_succ])
    | (refine wpList_storeL rfl 44 (.tmp 4) (.tmp 16) rfl b4 LT zK 44 rfl rfl R4.out HLTN.out HLTI.out HLTO.out ?_; intro Y q1 q2; have HY : Hid (Y = _) := q1; have RY : Hid (Row Y b4 LT 44) := q2; clear q1 q2; simp only [Act.put]))
  have gG : Lg w0 Y S (q + 1) f := by rw [HY.out]; exact HG.out.kept R4.out (by decide) (by decide) (by decide) (by decide) (fun k hk => heap_sets _ _ _ _ _ hk) (below_setCells HG.out.bel (Nat.le_trans HW0.out HWb4.out) _)
  have gK : Kp w Y := by rw [HY.out]; exact Kp.kept b4 HWb4.out HK.out (fun k hk => heap_sets _ _ _ _ _ hk) (below_setCells (Below.refl 0 _) (Nat.zero_le b4) _).size
  exact bodyPost_ret (results_rowS_tmp Tryd.results16 _ _ b4 44 LT (.int .i64 0) rfl rfl RY.out Tryd.underlying44 HLTI.out) rfl ⟨rfl, gG, gK⟩
set_option maxRecDepth 100000 in
set_option maxHeartbeats 4000000 in
theorem mntG (w0 : World) (S q : Nat) (f : ByteArray → List (BitVec 8)) (hq : q < 999960) (t : Nat) (ht : t < 64) (n b d : Nat) (hn : n < 2 ^ 256) (hb : b < 2 ^ 256) (hd : d < 2 ^ 256) (hnb : n + b < 2 ^ 256) (hdb : d + b < 2 ^ 256) (hf : f (tKt t) = 1#8 :: wB n) (who : List (BitVec 8)) (h1 : who.length = 20) (hdf : f (bKt t who) = enc d) (LB : List Value) (hLB : LB = wq b) (w : World) (h : Lg w0 w S q f) :
    Calls Tryd.prog 8 #[.pointer (some ⟨S, 0, none⟩), .int .i64 (t : Int), .agg (vB who).toArray, .agg LB.toArray] w fun e w' => e = .returned (.int .i64 0) ∧ Lg w0 w' S (q + 4) (tsF f t n (n + b) (bKt t who) (d + b)) ∧ Kp w w' := by
  obtain ⟨LP, hLP⟩ : ∃ L : List Value, L = pgl S t := ⟨_, rfl⟩
  obtain ⟨LT, hLT⟩ : ∃ L : List Value, L = tkl true false n := ⟨_, rfl⟩
  obtain ⟨LS, hLS⟩ : ∃ L : List Value, L = wq n := ⟨_, rfl⟩
  obtain ⟨LU, hLU⟩ : ∃ L : List Value, L = wq (n + b) := ⟨_, rfl⟩
  obtain ⟨N0, hN0⟩ : ∃ L : List Value, L = lnl (bKt t who) (d + b) := ⟨_, rfl⟩
  have HLPE : Hid (LP = pgl S t) := hLP
  have HLPI : Hid ((Tryd.prog.info? 58).map (·.size) = some LP.length) := by show _ = _; rw [hLP]; exact info_pgl S t
  have HLPJ : Hid ((Tryd.prog.info? 58).map (·.size) = some LP.toArray.size) := by show _ = _; rw [List.size_toArray, hLP]; exact info_pgl S t
  have HLPN : Hid (LP.length = zP.length) := by show _ = _; rw [hLP]; exact rfl
  have HLPO : Hid (LP.toArray.all (·.oneCell') = true) := by show _ = true; rw [hLP]; exact pgl_one S t
  have HLTE : Hid (LT = tkl true false n) := hLT
  have HLTI : Hid ((Tryd.prog.info? 44).map (·.size) = some LT.length) := by show _ = _; rw [hLT]; exact info_tkl _ _ _
  have HLTJ : Hid ((Tryd.prog.info? 44).map (·.size) = some LT.toArray.size) := by show _ = _; rw [List.size_toArray, hLT]; exact info_tkl _ _ _
  have HLTN : Hid (LT.length = zK.length) := by show _ = _; rw [hLT]; exact tkl_len _ _ _
  have HLTO : Hid (LT.toArray.all (·.oneCell') = true) := by show _ = true; rw [hLT]; exact tkl_one _ _ _
  have HLBE : Hid (LB = wq b) := hLB
  have HLBI : Hid ((Tryd.prog.info? 25).map (·.size) = some LB.length) := by show _ = _; rw [hLB]; exact info_wq _
  have HLBJ : Hid ((Tryd.prog.info? 25).map (·.size) = some LB.toArray.size) := by show _ = _; rw [List.size_toArray, hLB]; exact info_wq _
  have HLBN : Hid (LB.length = zW.length) := by show _ = _; rw [hLB]; exact wq_len _
  have HLBO : Hid (LB.toArray.all (·.oneCell') = true) := by show _ = true; rw [hLB]; exact wq_one _
  have HLSE : Hid (LS = wq n) := hLS
  have HLSI : Hid ((Tryd.prog.info? 25).map (·.size) = some LS.length) := by show _ = _; rw [hLS]; exact info_wq _
  have HLSJ : Hid ((Tryd.prog.info? 25).map (·.size) = some LS.toArray.size) := by show _ = _; rw [List.size_toArray, hLS]; exact info_wq _
  have HLSN : Hid (LS.length = zW.length) := by show _ = _; rw [hLS]; exact wq_len _
  have HLSO : Hid (LS.toArray.all (·.oneCell') = true) := by show _ = true; rw [hLS]; exact wq_one _
  have HLUE : Hid (LU = wq (n + b)) := hLU
  have HLUI : Hid ((Tryd.prog.info? 25).map (·.size) = some LU.length) := by show _ = _; rw [hLU]; exact info_wq _
  have HLUJ : Hid ((Tryd.prog.info? 25).map (·.size) = some LU.toArray.size) := by show _ = _; rw [List.size_toArray, hLU]; exact info_wq _
  have HLUN : Hid (LU.length = zW.length) := by show _ = _; rw [hLU]; exact wq_len _
  have HLUO : Hid (LU.toArray.all (·.oneCell') = true) := by show _ = true; rw [hLU]; exact wq_one _
  have HN0E : Hid (N0 = lnl (bKt t who) (d + b)) := hN0
  have HN0I : Hid ((Tryd.prog.info? 65).map (·.size) = some N0.length) := by show _ = _; rw [hN0]; exact info_lnl _ _
  have HN0J : Hid ((Tryd.prog.info? 65).map (·.size) = some N0.toArray.size) := by show _ = _; rw [List.size_toArray, hN0]; exact info_lnl _ _
  have HN0N : Hid (N0.length = zL.length) := by show _ = _; rw [hN0]; exact lnl_len _ _
  have HN0O : Hid (N0.toArray.all (·.oneCell') = true) := by show _ = true; rw [hN0]; exact lnl_one _ _
  obtain ⟨f2, hf2⟩ : ∃ f2, f2 = tsF f t n (n + b) (bKt t who) (d + b) := ⟨_, rfl⟩
  rw [← hf2]
  have HIw : Hid ((Tryd.prog.info? 33).map (·.size) = some (vB who).length) := info_adr h1
  have HAR : Hid (∀ W, Lg w0 W S q f → _) := fun W hW => askRG w0 S q f (by omega) t ht n hn hf LP LT hLP hLT W hW
  have HKw : Hid (∀ W, Calls Tryd.prog 26 #[.agg LP.toArray, .agg (vB who).toArray] W fun e w' => e = .returned (.string (bKt t who)) ∧ Below W.heap.size W w') := fun W => bkeyG S t ht who h1 LP hLP W
  have HGR : Hid (∀ W, Lg w0 W S (q + 1) f → _) := fun W hW => grt w0 S (q + 1) f (by omega) t (bKt t who) (bKt_key t h1) d b hd hb hdb hdf LP LB hLP hLB N0 hN0 W hW
  have HAD : Hid (∀ W, Calls Tryd.prog 24 #[.agg LS.toArray, .agg LB.toArray] W fun e w' => e = .returned (.tuple #[.agg LU.toArray, .int .i64 0]) ∧ Below W.heap.size W w') := fun W => by rw [hLS, hLB, hLU]; exact addG W n b hn hb hnb
  have HTS : Hid (∀ W, Lg w0 W S (q + 1 + 1) f → Calls Tryd.prog 27 #[.agg LP.toArray, .agg LT.toArray, .agg LU.toArray, .agg N0.toArray] W fun e w' => e = .returned (.int .i64 0) ∧ Lg w0 w' S (q + 1 + 1 + 2) f2 ∧ Kp W w') := fun W hW => by rw [hf2]; exact tsA w0 S (q + 1 + 1) f (by omega) t ht n (n + b) hn hnb (bKt t who) (bKt_key t h1) (d + b) hdb LP LT LU N0 hLP hLT hLU hN0 W hW
  have HG : Hid (Lg w0 w S q f) := h
  clear hLP hLT hLS hLU hN0 hLB hf2 h1 hq ht hn hb hd hnb hdb hf hdf h
  go_enter Tryd.func8, Tryd.ntmps8
  go_wp2_with (first
    | (refine wpList_boxG 33 rfl (.tmp 2) rfl (vB who) rfl ?_; intro X0 q1 q2 q3; have Q0 : Hid (Row X0 _ (vB who) 33) := q1; have B0 : Hid (Below _ _ X0) := q2; clear q1 q2 q3; simp only [Act.put, List.setIfInBounds_toArray, List.set_cons_zero, List.set_cons_succ])
    | (refine wpList_boxG 25 rfl (.tmp 3) rfl LB rfl ?_; intro X1 q1 q2 q3; have Q1 : Hid (Row X1 _ LB 25) := q1; have B1 : Hid (Below _ _ X1) := q2; clear q1 q2 q3; simp only [Act.put, List.setIfInBounds_toArray, List.set_cons_zero, List.set_cons_succ]))
  obtain ⟨b6, hb6⟩ : ∃ b, b = w.heap.size := ⟨_, rfl⟩
  obtain ⟨b7, hb7⟩ : ∃ b, b = X0.heap.size := ⟨_, rfl⟩
  have c00 := B0.out
  have c01 := c00.trans (B1.out.mono c00.size)
  have c11 := B1.out
  have R6 : Hid (Row X1 b6 (vB who) 33) := by rw [hb6]; exact Row.below Q0.out c11 Q0.out.lt
  have HWb6 : Hid (w.heap.size ≤ b6) := by show _ ≤ _; rw [hb6]; exact Nat.le_refl _
  have R7 : Hid (Row X1 b7 LB 25) := by rw [hb7]; exact Q1.out
  have HWb7 : Hid (w.heap.size ≤ b7) := by show _ ≤ _; rw [hb7]; exact c00.size
  have Nb6b7 : Hid (b6 ≠ b7) := by show _ ≠ _; have := Q0.out.lt; rw [hb6, hb7]; omega
  have BX : Hid (Below w.heap.size w X1) := c01
  rw [← hb6, ← hb7]
  clear hb6 hb7 c00 c01 c11 Q0 B0 Q1 B1
  replace HG : Hid (Lg w0 X1 S q f) := HG.out.be BX.out
  have HK : Hid (Kp w X1) := Kp.of_below BX.out
  clear BX
  refine Calls.mono (HAR.out X1 HG.out) ?_
  rintro e V ⟨rfl, hG, hK⟩
  replace R6 : Hid (Row V b6 (vB who) 33) := hK.row _ _ _ (by decide) R6.out
  replace R7 : Hid (Row V b7 LB 25) := hK.row _ _ _ (by decide) R7.out
  replace HG : Hid (Lg w0 V S (q + 1) f) := hG
  replace HK : Hid (Kp w V) := HK.out.trans hK
  clear hG hK HAR
  go_upto_region 2 with (first
    | (refine wpList_allocP rfl rfl ?_; intro XP q1 q2 q3; have RP1 : Hid (Row XP V.heap.size zP 58) := q1; have BP : Hid (Below V.heap.size V XP) := q2; have NE12 : Hid (XP.heap.size ≠ V.heap.size) := (by show _ ≠ _; rw [q3]; omega); clear q1 q2 q3; simp only [Act.put, List.setIfInBounds_toArray, List.set_cons_zero, List.set_cons_succ])
    | (refine wpList_allocK rfl rfl ?_; intro XK q1 q2 q3; have RK1 : Hid (Row XK XP.heap.size zK 44) := q1; have BK : Hid (Below XP.heap.size XP XK) := q2; have RP2 : Hid (Row XK V.heap.size zP 58) := Row.below RP1.out q2 RP1.out.lt; clear q1 q2 q3; simp only [Act.put, List.setIfInBounds_toArray, List.set_cons_zero, List.set_cons_succ])
    | (refine wpList_storeL rfl 58 (.tmp 9) (.tmp 18) rfl V.heap.size LP zP 58 rfl rfl RP2.out HLPN.out HLPI.out HLPO.out ?_; intro YP q1 q2; have HYP : Hid (YP = _) := q1; have RYP : Hid (Row YP V.heap.size LP 58) := q2; have RK2 : Hid (Row YP XP.heap.size zK 44) := (by rw [q1]; exact Row.setCells_other RK1.out _ _ _ NE12.out); clear q1 q2; simp only [Act.put])
    | (refine wpList_storeL rfl 44 (.tmp 10) (.tmp 19) rfl XP.heap.size LT zK 44 rfl rfl RK2.out HLTN.out HLTI.out HLTO.out ?_; intro YK q1 q2; have HYK : Hid (YK = _) := q1; have RYK : Hid (Row YK XP.heap.size LT 44) := q2; clear q1 q2; simp only [Act.put]))
  obtain ⟨p1, hp1⟩ : ∃ p, p = V.heap.size := ⟨_, rfl⟩
  obtain ⟨p2, hp2⟩ : ∃ p, p = XP.heap.size := ⟨_, rfl⟩
  have b12 : Below V.heap.size V YK := by rw [HYK.out, HYP.out]; exact below_setCells (below_setCells (BP.out.trans (BK.out.mono BP.out.size)) (Nat.le_refl _) _) BP.out.size _
  have Rp1 : Hid (Row YK p1 LP 58) := by rw [HYK.out, hp1]; exact Row.setCells_other RYP.out _ _ _ (Ne.symm NE12.out)
  have Rp2 : Hid (Row YK p2 LT 44) := by rw [hp2]; exact RYK.out
  have Np1p2 : Hid (p1 ≠ p2) := by rw [hp1, hp2]; exact Ne.symm NE12.out
  have Nb6p1 : Hid (b6 ≠ p1) := by show _ ≠ _; have := R6.out.lt; rw [hp1]; omega
  have Nb6p2 : Hid (b6 ≠ p2) := by show _ ≠ _; have := R6.out.lt; have := BP.out.size; rw [hp2]; omega
  have Nb7p1 : Hid (b7 ≠ p1) := by show _ ≠ _; have := R7.out.lt; rw [hp1]; omega
  have Nb7p2 : Hid (b7 ≠ p2) := by show _ ≠ _; have := R7.out.lt; have := BP.out.size; rw [hp2]; omega
  replace R6 : Hid (Row YK b6 (vB who) 33) := Row.below R6.out b12 R6.out.lt
  replace R7 : Hid (Row YK b7 LB 25) := Row.below R7.out b12 R7.out.lt
  replace HG : Hid (Lg w0 YK S (q + 1) f) := HG.out.be b12
  replace HK : Hid (Kp w YK) := HK.out.trans (Kp.of_below b12)
  rw [← hp1, ← hp2]
  clear hp1 hp2 b12 BP BK RP1 RP2 RK1 RK2 NE12 HYP RYP HYK RYK
  have RS : Hid (YK.rangeAt p2 2 LS) := by show World.rangeAt _ _ _ _; rw [HLSE.out]; have q := Rp2.out; rw [HLTE.out] at q; exact tkl_am q
  have RA7 : Hid (YK.rangeAt b7 0 LB) := R7.out.all
  go_wp2_with (first
    | (refine wpList_load_w rfl 25 (.tmp 25) rfl p2 2 rfl LS _ RS.out Tryd.underlying25 rfl HLSI.out ?_; simp only [Act.put, List.setIfInBounds_toArray, List.set_cons_zero, List.set_cons_succ])
    | (refine wpList_load_w rfl 25 (.tmp 7) rfl b7 0 rfl LB _ RA7.out Tryd.underlying25 rfl HLBI.out ?_; simp only [Act.put, List.setIfInBounds_toArray, List.set_cons_zero, List.set_cons_succ]))
  refine Calls.mono (HAD.out YK) ?_
  rintro e V2 ⟨rfl, hB⟩
  replace R6 : Hid (Row V2 b6 (vB who) 33) := Row.below R6.out hB R6.out.lt
  replace R7 : Hid (Row V2 b7 LB 25) := Row.below R7.out hB R7.out.lt
  replace Rp1 : Hid (Row V2 p1 LP 58) := Row.below Rp1.out hB Rp1.out.lt
  replace Rp2 : Hid (Row V2 p2 LT 44) := Row.below Rp2.out hB Rp2.out.lt
  replace HG : Hid (Lg w0 V2 S (q + 1) f) := HG.out.be hB
  replace HK : Hid (Kp w V2) := HK.out.trans (Kp.of_below hB)
  clear hB RS RA7
  obtain ⟨bu, hbu⟩ : ∃ b, b = V2.heap.size := ⟨_, rfl⟩
  have HBbu : Hid (bu = V2.heap.size) := hbu
  clear hbu
  go_upto_region 7 with (first
    | (refine wpList_allocW rfl rfl ?_; intro XYU q1 q2 q3; have QYU : Hid (Row XYU _ zW 25) := q1; have BYU : Hid (Below _ _ XYU) := q2; clear q1 q2 q3; simp only [Act.put, List.setIfInBounds_toArray, List.set_cons_zero, List.set_cons_succ])
    | (refine wpList_storeL rfl 25 (.tmp 12) (.tmp 29) rfl V2.heap.size LU zW 25 rfl rfl QYU.out HLUN.out HLUI.out HLUO.out ?_; intro YU q1 q2; have HYU : Hid (YU = _) := q1; have RYU : Hid (Row YU V2.heap.size LU 25) := q2; clear q1 q2; simp only [Act.put]))
  rw [← HBbu.out] at RYU HYU
  rw [← HBbu.out]
  have cb : Below V2.heap.size V2 YU := by rw [HYU.out]; exact below_setCells BYU.out (by rw [HBbu.out]; exact Nat.le_refl _) _
  have Nb6bu : Hid (b6 ≠ bu) := by show _ ≠ _; have := R6.out.lt; rw [HBbu.out]; omega
  have Nb7bu : Hid (b7 ≠ bu) := by show _ ≠ _; have := R7.out.lt; rw [HBbu.out]; omega
  have Np1bu : Hid (p1 ≠ bu) := by show _ ≠ _; have := Rp1.out.lt; rw [HBbu.out]; omega
  have Np2bu : Hid (p2 ≠ bu) := by show _ ≠ _; have := Rp2.out.lt; rw [HBbu.out]; omega
  replace R6 : Hid (Row YU b6 (vB who) 33) := Row.below R6.out cb R6.out.lt
  replace R7 : Hid (Row YU b7 LB 25) := Row.below R7.out cb R7.out.lt
  replace Rp1 : Hid (Row YU p1 LP 58) := Row.below Rp1.out cb Rp1.out.lt
  replace Rp2 : Hid (Row YU p2 LT 44) := Row.below Rp2.out cb Rp2.out.lt
  replace HG : Hid (Lg w0 YU S (q + 1) f) := HG.out.be cb
  replace HK : Hid (Kp w YU) := HK.out.trans (Kp.of_below cb)
  have Rbu : Hid (Row YU bu LU 25) := RYU.out
  clear cb HYU BYU QYU RYU HBbu
  have rp := Rp1.out
  have r2 := Rp2.out
  have r6 := R6.out
  have rb := R7.out
  have r12 := Rbu.out
  have hG := HG.out
  have hK := HK.out
  have hw0 : w0.heap.size ≤ YU.heap.size := hG.bel.size
  have hwf : w.heap.size ≤ YU.heap.size := hK.size
  have hb1 := Below.refl YU.heap.size YU
  clear Rp1 Rp2 R6 R7 Rbu HG HK
  refine wp_named fun a0 ha0 => ?_
  have hsz : a0.tmps.size = 50 := by rw [ha0]; rfl
  have zs9 : a0.eval (.tmp 9) = .pointer (some ⟨p1, 0, none⟩) := by rw [ha0]; rfl
  have zs6 : a0.eval (.tmp 6) = .pointer (some ⟨b6, 0, none⟩) := by rw [ha0]; rfl
  have zs7 : a0.eval (.tmp 7) = .pointer (some ⟨b7, 0, none⟩) := by rw [ha0]; rfl
  have lt_rp : p1 < YU.heap.size := rp.lt
  have lt_r2 : p2 < YU.heap.size := r2.lt
  have lt_r6 : b6 < YU.heap.size := r6.lt
  have lt_rb : b7 < YU.heap.size := rb.lt
  have lt_r12 : bu < YU.heap.size := r12.lt
  obtain ⟨D, hD⟩ : ∃ D : List (Tmp × SP), D = [(34, SP.is (.agg LP.toArray)), (35, SP.is (.agg LP.toArray)), (36, SP.is (.agg (vB who).toArray)), (37, SP.is (.string (bKt t who))), (38, SP.is (.agg LB.toArray)), (39, SP.is (.tuple #[.agg N0.toArray, .int .i64 0])), (33, SP.is (.tuple #[.agg N0.toArray, .int .i64 0])), (40, SP.is (.agg N0.toArray)), (41, SP.is (.int .i64 0)), (13, SP.any), (1000, SP.any), (11, SP.is (.int .i64 0))] := ⟨_, rfl⟩
  refine wp_region_then (by kernel_rfl) 5 (by decide) (by kernel_rfl) (fun listed ac W => Fp D a0 listed ac W ∧ Below YU.heap.size YU W ∧ Row W p1 LP 58 ∧ Row W p2 LT 44 ∧ Row W b6 ((vB who)) 33 ∧ Row W b7 LB 25 ∧ Row W bu LU 25 ∧ Lg w0 W S (q + 1) f ∧ Kp w W ∧ (listed.getD 9 false = true → ∃ N, ac.eval (.tmp 13) = .pointer (some ⟨N, 0, none⟩) ∧ YU.heap.size ≤ N ∧ Row W N zL 65)) (fun listed ac W => Fp D a0 listed ac W ∧ YU.heap.size ≤ W.heap.size ∧ Row W p1 LP 58 ∧ Row W p2 LT 44 ∧ Row W b6 ((vB who)) 33 ∧ Row W b7 LB 25 ∧ Row W bu LU 25 ∧ Lg w0 W S (q + 1 + 1) f ∧ Kp w W ∧ (listed.getD 9 false = true → ∃ N, ac.eval (.tmp 13) = .pointer (some ⟨N, 0, none⟩) ∧ YU.heap.size ≤ N ∧ Row W N (if listed.getD 10 false = true then N0 else zL) 65)) ?_ ?_ ?_ ?_ ?_
  · exact ⟨Fp.start D a0 _ _, Below.drew hb1, Row.drew rp, Row.drew r2, Row.drew r6, Row.drew rb, Row.drew r12, hG.below (Below.drew (Below.refl _ _)), hK.below (Below.drew (Below.refl _ _)), (fun h => (start_no h).elim)⟩
  · clear ha0 hb1 rp r2 r6 rb r12 hG hK
    intro listed ac W k hl hI hdn hk hne hnl
    replace hl : listed.size = 12 := hl
    obtain ⟨hF, hb1, rp, r2, r6, rb, r12, hG, hK, al9⟩ := hI
    have hk1 : k < 12 := List.mem_range.1 (List.mem_filter.1 hk).1
    rcases (show k = 0 ∨ k = 1 ∨ k = 2 ∨ k = 3 ∨ k = 4 ∨ k = 5 ∨ k = 6 ∨ k = 7 ∨ k = 8 ∨ k = 9 ∨ k = 10 ∨ k = 11 by omega) with rfl | rfl | rfl | rfl | rfl | rfl | rfl | rfl | rfl | rfl | rfl | rfl
    · have hk3 := hk
      exact wpOp_plain rfl rfl (wp_load_mid 58 (.tmp 9) rfl p1 0 ((hF.keep 9 (by rw [hD]; rfl)).trans zs9) LP _ rp.all Tryd.underlying58 rfl HLPI.out ⟨(hF.put 0 34 (SP.is (.agg LP.toArray)) (.agg LP.toArray) (by rw [hD]; rfl) rfl (by rw [hD]; rfl) (by rw [hsz]; decide) (by rw [hl]; decide)), hb1, rp, r2, r6, rb, r12, hG, hK, (fun h => by obtain ⟨N, e, hN, r⟩ := al9 (by rwa [getD_set _ _ _ (by decide)] at h); exact ⟨N, (eval_put_other ac _ (by decide)).trans e, hN, r⟩)⟩)
    · have hk3 := hk
      exact wpOp_plain rfl rfl (wp_load_mid 58 (.tmp 9) rfl p1 0 ((hF.keep 9 (by rw [hD]; rfl)).trans zs9) LP _ rp.all Tryd.underlying58 rfl HLPI.out ⟨(hF.put 1 35 (SP.is (.agg LP.toArray)) (.agg LP.toArray) (by rw [hD]; rfl) rfl (by rw [hD]; rfl) (by rw [hsz]; decide) (by rw [hl]; decide)), hb1, rp, r2, r6, rb, r12, hG, hK, (fun h => by obtain ⟨N, e, hN, r⟩ := al9 (by rwa [getD_set _ _ _ (by decide)] at h); exact ⟨N, (eval_put_other ac _ (by decide)).trans e, hN, r⟩)⟩)
    · have hk3 := hk
      exact wpOp_plain rfl rfl (wp_load_mid 33 (.tmp 6) rfl b6 0 ((hF.keep 6 (by rw [hD]; rfl)).trans zs6) ((vB who)) _ r6.all Tryd.underlying33 rfl HIw.out ⟨(hF.put 2 36 (SP.is (.agg (vB who).toArray)) (.agg (vB who).toArray) (by rw [hD]; rfl) rfl (by rw [hD]; rfl) (by rw [hsz]; decide) (by rw [hl]; decide)), hb1, rp, r2, r6, rb, r12, hG, hK, (fun h => by obtain ⟨N, e, hN, r⟩ := al9 (by rwa [getD_set _ _ _ (by decide)] at h); exact ⟨N, (eval_put_other ac _ (by decide)).trans e, hN, r⟩)⟩)
    · have hk3 := hk
      have ea0 := (hF.done 1 (35, SP.is (.agg LP.toArray)) (by rw [hD]; rfl) (ready_dep hk 1 (by kernel_rfl)))
      have ea1 := (hF.done 2 (36, SP.is (.agg (vB who).toArray)) (by rw [hD]; rfl) (ready_dep hk 2 (by kernel_rfl)))
      refine wpOp_plain rfl rfl (wp_fcall_v 26 #[.agg LP.toArray, .agg (vB who).toArray] rfl rfl (by show [ac.eval (.tmp 35), ac.eval (.tmp 36)] = _; rw [show ac.eval (.tmp 35) = .agg LP.toArray from ea0, show ac.eval (.tmp 36) = .agg (vB who).toArray from ea1]) (by go_simp) (((show Calls Tryd.prog 26 #[.agg LP.toArray, .agg (vB who).toArray] W _ from HKw.out W)).mono ?_))
      rintro e W2 ⟨rfl, hB⟩
      exact ⟨_, rfl, ((hF.world hB).put 3 37 (SP.is (.string (bKt t who))) (.string (bKt t who)) (by rw [hD]; rfl) rfl (by rw [hD]; rfl) (by rw [hsz]; decide) (by rw [hl]; decide)), hb1.trans (hB.mono hb1.size), Row.below rp hB (Row.lt rp), Row.below r2 hB (Row.lt r2), Row.below r6 hB (Row.lt r6), Row.below rb hB (Row.lt rb), Row.below r12 hB (Row.lt r12), hG.below hB, hK.below hB, (fun h => by obtain ⟨N, e, hN, r⟩ := al9 (by rwa [getD_set _ _ _ (by decide)] at h); exact ⟨N, (eval_put_other ac _ (by decide)).trans e, hN, Row.below r hB (Row.lt r)⟩)⟩
    · have hk3 := hk
      exact wpOp_plain rfl rfl (wp_load_mid 25 (.tmp 7) rfl b7 0 ((hF.keep 7 (by rw [hD]; rfl)).trans zs7) LB _ rb.all Tryd.underlying25 rfl HLBI.out ⟨(hF.put 4 38 (SP.is (.agg LB.toArray)) (.agg LB.toArray) (by rw [hD]; rfl) rfl (by rw [hD]; rfl) (by rw [hsz]; decide) (by rw [hl]; decide)), hb1, rp, r2, r6, rb, r12, hG, hK, (fun h => by obtain ⟨N, e, hN, r⟩ := al9 (by rwa [getD_set _ _ _ (by decide)] at h); exact ⟨N, (eval_put_other ac _ (by decide)).trans e, hN, r⟩)⟩)
    · exact absurd rfl hne
    · exact absurd (ready_dep hk 5 (by kernel_rfl)) hnl
    · exact absurd (hdn 6 (ready_dep hk 6 (by kernel_rfl)) 5 (by kernel_rfl)) hnl
    · exact absurd (hdn 6 (ready_dep hk 6 (by kernel_rfl)) 5 (by kernel_rfl)) hnl
    · have hk3 := hk
      have hB : Below W.heap.size W (W.alloc (Obj.cells zL.toArray 65)) := (Below.refl _ _).alloc (Nat.le_refl _) _
      exact wpOp_plain rfl rfl (wp_allocLn rfl ⟨((hF.world hB).put 9 13 (SP.any) (.pointer (some ⟨W.heap.size, 0, none⟩)) (by rw [hD]; rfl) trivial (by rw [hD]; rfl) (by rw [hsz]; decide) (by rw [hl]; decide)), hb1.trans (hB.mono hb1.size), Row.alloc rp _, Row.alloc r2 _, Row.alloc r6 _, Row.alloc rb _, Row.alloc r12 _, hG.below hB, hK.below hB, (fun _ => ⟨W.heap.size, eval_put_same ac _ (by rw [hF.size, hsz]; decide), hb1.size, Row.new' rfl rfl⟩)⟩)
    · exact absurd (hdn 6 (hdn 7 (ready_dep hk 7 (by kernel_rfl)) 6 (by kernel_rfl)) 5 (by kernel_rfl)) hnl
    · exact absurd (hdn 6 (hdn 8 (ready_dep hk 8 (by kernel_rfl)) 6 (by kernel_rfl)) 5 (by kernel_rfl)) hnl
  · clear ha0 hb1 rp r2 r6 rb r12 hG hK
    intro listed ac W hl hI hdn hk
    replace hl : listed.size = 12 := hl
    obtain ⟨hF, hb1, rp, r2, r6, rb, r12, hG, hK, al9⟩ := hI
    have eb1 := (hF.done 0 (34, SP.is (.agg LP.toArray)) (by rw [hD]; rfl) (ready_dep hk 0 (by kernel_rfl)))
    have eb2 := (hF.done 3 (37, SP.is (.string (bKt t who))) (by rw [hD]; rfl) (ready_dep hk 3 (by kernel_rfl)))
    have eb3 := (hF.done 4 (38, SP.is (.agg LB.toArray)) (by rw [hD]; rfl) (ready_dep hk 4 (by kernel_rfl)))
    have hns10 : ¬ listed.getD 10 false = true := fun h => not_yet hk (hdn 6 (hdn 7 (hdn 10 h 7 (by kernel_rfl)) 6 (by kernel_rfl)) 5 (by kernel_rfl))
    refine wpOp_plain rfl rfl (wp_fcall_v 25 #[.agg LP.toArray, .string (bKt t who), .agg LB.toArray] rfl rfl (by show [ac.eval (.tmp 34), ac.eval (.tmp 37), ac.eval (.tmp 38)] = _; rw [show ac.eval (.tmp 34) = .agg LP.toArray from eb1, show ac.eval (.tmp 37) = .string (bKt t who) from eb2, show ac.eval (.tmp 38) = .agg LB.toArray from eb3]) (by go_simp) ((HGR.out W hG).mono ?_))
    rintro e W2 ⟨rfl, hG2, hK2⟩
    have hT : Fp D a0 listed ac W2 := hF.turn (by rw [hD]; simp only [List.forall_mem_cons, List.not_mem_nil, false_implies, implies_true, and_true]; exact ⟨fun _ h => h, fun _ h => h, fun _ h => h, fun _ h => h, fun _ h => h, fun _ h => h, fun _ h => h, fun _ h => h, fun _ h => h, fun _ h => h, fun _ h => h, fun _ h => h⟩)
    exact ⟨_, rfl, (hT.put 5 39 (SP.is (.tuple #[.agg N0.toArray, .int .i64 0])) (_) (by rw [hD]; rfl) rfl (by rw [hD]; rfl) (by rw [hsz]; decide) (by rw [hl]; decide)), Nat.le_trans hb1.size hK2.size, hK2.row _ _ _ (by decide) rp, hK2.row _ _ _ (by decide) r2, hK2.row _ _ _ (by decide) r6, hK2.row _ _ _ (by decide) rb, hK2.row _ _ _ (by decide) r12, hG2, hK.trans hK2, (fun h => by obtain ⟨N, e, hN, r⟩ := al9 (by rwa [getD_set _ _ _ (by decide)] at h); exact ⟨N, (eval_put_other ac _ (by decide)).trans e, hN, by rw [getD_set _ _ _ (by decide), if_neg hns10]; exact hK2.row _ _ _ (by decide) r⟩)⟩
  · clear ha0 hb1 rp r2 r6 rb r12 hG hK
    intro listed ac W k hl hJ hdn hk hne hyl
    replace hl : listed.size = 12 := hl
    obtain ⟨hF, hS, rp, r2, r6, rb, r12, hG, hK, al9⟩ := hJ
    have hk1 : k < 12 := List.mem_range.1 (List.mem_filter.1 hk).1
    rcases (show k = 0 ∨ k = 1 ∨ k = 2 ∨ k = 3 ∨ k = 4 ∨ k = 5 ∨ k = 6 ∨ k = 7 ∨ k = 8 ∨ k = 9 ∨ k = 10 ∨ k = 11 by omega) with rfl | rfl | rfl | rfl | rfl | rfl | rfl | rfl | rfl | rfl | rfl | rfl
    · exact absurd (hdn 5 hyl 0 (by kernel_rfl)) (not_yet hk)
    · exact absurd (hdn 3 (hdn 5 hyl 3 (by kernel_rfl)) 1 (by kernel_rfl)) (not_yet hk)
    · exact absurd (hdn 3 (hdn 5 hyl 3 (by kernel_rfl)) 2 (by kernel_rfl)) (not_yet hk)
    · exact absurd (hdn 5 hyl 3 (by kernel_rfl)) (not_yet hk)
    · exact absurd (hdn 5 hyl 4 (by kernel_rfl)) (not_yet hk)
    · exact absurd rfl hne
    · have hk3 := hk
      exact wpOp_plain rfl rfl (wp_move_v (ac.eval (.tmp 39)) rfl rfl ⟨(hF.put 6 33 (SP.is (.tuple #[.agg N0.toArray, .int .i64 0])) (ac.eval (.tmp 39)) (by rw [hD]; rfl) ((hF.done 5 (39, SP.is (.tuple #[.agg N0.toArray, .int .i64 0])) (by rw [hD]; rfl) (ready_dep hk 5 (by kernel_rfl)))) (by rw [hD]; rfl) (by rw [hsz]; decide) (by rw [hl]; decide)), hS, rp, r2, r6, rb, r12, hG, hK, (fun h => by obtain ⟨N, e, hN, r⟩ := al9 (by rwa [getD_set _ _ _ (by decide)] at h); exact ⟨N, (eval_put_other ac _ (by decide)).trans e, hN, by rw [getD_set _ _ _ (by decide)]; exact r⟩)⟩)
    · have hk3 := hk
      exact wpOp_plain rfl rfl (wp_extract (.tmp 33) 0 rfl _ (hF.done 6 (33, SP.is (.tuple #[.agg N0.toArray, .int .i64 0])) (by rw [hD]; rfl) (ready_dep hk 6 (by kernel_rfl))) (.agg N0.toArray) rfl ⟨(hF.put 7 40 (SP.is (.agg N0.toArray)) (.agg N0.toArray) (by rw [hD]; rfl) rfl (by rw [hD]; rfl) (by rw [hsz]; decide) (by rw [hl]; decide)), hS, rp, r2, r6, rb, r12, hG, hK, (fun h => by obtain ⟨N, e, hN, r⟩ := al9 (by rwa [getD_set _ _ _ (by decide)] at h); exact ⟨N, (eval_put_other ac _ (by decide)).trans e, hN, by rw [getD_set _ _ _ (by decide)]; exact r⟩)⟩)
    · have hk3 := hk
      exact wpOp_plain rfl rfl (wp_extract (.tmp 33) 1 rfl _ (hF.done 6 (33, SP.is (.tuple #[.agg N0.toArray, .int .i64 0])) (by rw [hD]; rfl) (ready_dep hk 6 (by kernel_rfl))) (.int .i64 0) rfl ⟨(hF.put 8 41 (SP.is (.int .i64 0)) (.int .i64 0) (by rw [hD]; rfl) rfl (by rw [hD]; rfl) (by rw [hsz]; decide) (by rw [hl]; decide)), hS, rp, r2, r6, rb, r12, hG, hK, (fun h => by obtain ⟨N, e, hN, r⟩ := al9 (by rwa [getD_set _ _ _ (by decide)] at h); exact ⟨N, (eval_put_other ac _ (by decide)).trans e, hN, by rw [getD_set _ _ _ (by decide)]; exact r⟩)⟩)
    · have hk3 := hk
      have hB : Below W.heap.size W (W.alloc (Obj.cells zL.toArray 65)) := (Below.refl _ _).alloc (Nat.le_refl _) _
      have hns : ¬ listed.getD 10 false = true := fun h => not_yet hk (hdn 10 h 9 (by kernel_rfl))
      exact wpOp_plain rfl rfl (wp_allocLn rfl ⟨((hF.world hB).put 9 13 (SP.any) (.pointer (some ⟨W.heap.size, 0, none⟩)) (by rw [hD]; rfl) trivial (by rw [hD]; rfl) (by rw [hsz]; decide) (by rw [hl]; decide)), Nat.le_trans hS hB.size, Row.alloc rp _, Row.alloc r2 _, Row.alloc r6 _, Row.alloc rb _, Row.alloc r12 _, hG.below hB, hK.below hB, (fun _ => ⟨W.heap.size, eval_put_same ac _ (by rw [hF.size, hsz]; decide), hS, (by rw [getD_set _ _ _ (by decide), if_neg hns]; exact Row.new' rfl rfl)⟩)⟩)
    · have hk3 := hk
      obtain ⟨N, e, hN, r⟩ := al9 (ready_dep hk 9 (by kernel_rfl))
      rw [if_neg (not_yet hk)] at r
      have hT : Fp D a0 listed ac (W.setCells N 0 N0) := hF.turn (by rw [hD]; simp only [List.forall_mem_cons, List.not_mem_nil, false_implies, implies_true, and_true]; exact ⟨fun _ h => h, fun _ h => h, fun _ h => h, fun _ h => h, fun _ h => h, fun _ h => h, fun _ h => h, fun _ h => h, fun _ h => h, fun _ h => h, fun _ h => h, fun _ h => h⟩)
      exact wpOp_plain rfl rfl (wp_store_mid 65 (.tmp 13) (.tmp 40) rfl N 0 N0.toArray e (hF.done 7 (40, SP.is (.agg N0.toArray)) (by rw [hD]; rfl) (ready_dep hk 7 (by kernel_rfl))) (r.there 0 _ (by rw [List.size_toArray, HN0N.out]; decide)) HN0J.out HN0O.out ⟨(hT.skip 10 1000 (by rw [hD]; rfl) (by rw [hl]; decide)), (by rw [size_setCells]; exact hS), Row.setCells_other rp _ _ _ (by omega), Row.setCells_other r2 _ _ _ (by omega), Row.setCells_other r6 _ _ _ (by omega), Row.setCells_other rb _ _ _ (by omega), Row.setCells_other r12 _ _ _ (by omega), hG.kept r (by decide) (by decide) (by decide) (by decide) (fun k hk => heap_sets _ _ _ _ _ hk) (below_setCells hG.bel (Nat.le_trans hw0 hN) _), Kp.kept N (Nat.le_trans hwf hN) hK (fun k hk => heap_sets _ _ _ _ _ hk) (below_setCells (Below.refl 0 _) (Nat.zero_le N) _).size, (fun _ => ⟨N, e, hN, by rw [if_pos (getD_same (by rw [hl]; decide))]; exact r.over HN0N.out⟩)⟩)
    · have hk3 := hk
      exact wpOp_plain rfl rfl (wp_assign_v (ac.eval (.tmp 41)) rfl rfl ⟨(hF.put 11 11 (SP.is (.int .i64 0)) (ac.eval (.tmp 41)) (by rw [hD]; rfl) ((hF.done 8 (41, SP.is (.int .i64 0)) (by rw [hD]; rfl) (ready_dep hk 8 (by kernel_rfl)))) (by rw [hD]; rfl) (by rw [hsz]; decide) (by rw [hl]; decide)), hS, rp, r2, r6, rb, r12, hG, hK, (fun h => by obtain ⟨N, e, hN, r⟩ := al9 (by rwa [getD_set _ _ _ (by decide)] at h); exact ⟨N, (eval_put_other ac _ (by decide)).trans e, hN, by rw [getD_set _ _ _ (by decide)]; exact r⟩)⟩)
  · clear hb1 rp r2 r6 rb r12 hG hK
    intro listed ac W hl hJ hr
    replace hl : listed.size = 12 := hl
    obtain ⟨hF, hS, rp, r2, r6, rb, r12, hG, hK, al9⟩ := hJ
    have hall := all_listed (by kernel_rfl) hl hr
    obtain ⟨NL, ea13, hNL, rNL⟩ := al9 (hall 9 (by decide))
    rw [if_pos (hall 10 (by decide))] at rNL
    have h34 : ac.eval (.tmp 34) = .agg LP.toArray := hF.done 0 (34, SP.is (.agg LP.toArray)) (by rw [hD]; rfl) (hall 0 (by decide))
    have h35 : ac.eval (.tmp 35) = .agg LP.toArray := hF.done 1 (35, SP.is (.agg LP.toArray)) (by rw [hD]; rfl) (hall 1 (by decide))
    have h36 : ac.eval (.tmp 36) = .agg (vB who).toArray := hF.done 2 (36, SP.is (.agg (vB who).toArray)) (by rw [hD]; rfl) (hall 2 (by decide))
    have h37 : ac.eval (.tmp 37) = .string (bKt t who) := hF.done 3 (37, SP.is (.string (bKt t who))) (by rw [hD]; rfl) (hall 3 (by decide))
    have h38 : ac.eval (.tmp 38) = .agg LB.toArray := hF.done 4 (38, SP.is (.agg LB.toArray)) (by rw [hD]; rfl) (hall 4 (by decide))
    have h39 : ac.eval (.tmp 39) = .tuple #[.agg N0.toArray, .int .i64 0] := hF.done 5 (39, SP.is (.tuple #[.agg N0.toArray, .int .i64 0])) (by rw [hD]; rfl) (hall 5 (by decide))
    have h33 : ac.eval (.tmp 33) = .tuple #[.agg N0.toArray, .int .i64 0] := hF.done 6 (33, SP.is (.tuple #[.agg N0.toArray, .int .i64 0])) (by rw [hD]; rfl) (hall 6 (by decide))
    have h40 : ac.eval (.tmp 40) = .agg N0.toArray := hF.done 7 (40, SP.is (.agg N0.toArray)) (by rw [hD]; rfl) (hall 7 (by decide))
    have h41 : ac.eval (.tmp 41) = .int .i64 0 := hF.done 8 (41, SP.is (.int .i64 0)) (by rw [hD]; rfl) (hall 8 (by decide))
    have h11 : ac.eval (.tmp 11) = .int .i64 0 := hF.done 11 (11, SP.is (.int .i64 0)) (by rw [hD]; rfl) (hall 11 (by decide))
    have ea := hF.lay [(34, .agg LP.toArray), (35, .agg LP.toArray), (36, .agg (vB who).toArray), (37, .string (bKt t who)), (38, .agg LB.toArray), (39, .tuple #[.agg N0.toArray, .int .i64 0]), (33, .tuple #[.agg N0.toArray, .int .i64 0]), (40, .agg N0.toArray), (41, .int .i64 0), (13, .pointer (some ⟨NL, 0, none⟩)), (11, .int .i64 0)] (by rw [hD, hsz]; rfl) (by simp only [List.forall_mem_cons, List.not_mem_nil, false_implies, implies_true, and_true]; exact ⟨h34, h35, h36, h37, h38, h39, h33, h40, h41, ea13, h11⟩)
    rw [ha0] at ea
    simp only [List.foldl_cons, List.foldl_nil, List.setIfInBounds_toArray, List.set_cons_zero, List.set_cons_succ] at ea
    clear hF hall hr hl hD zs9 zs6 zs7 ha0 hsz h34 h35 h36 h37 h38 h39 h33 h40 h41 ea13 h11 al9 lt_rp lt_r2 lt_r6 lt_rb lt_r12
    subst ea
    obtain ⟨V3, hV⟩ : ∃ V, V = W := ⟨_, rfl⟩
    rw [← hV]
    rw [← hV] at hG hK rp r2 r12 rNL
    have HK : Hid (Kp w V3) := hK
    have S1 : Hid (V3.rangeAt p1 0 LP) := rp.all
    have S2 : Hid (V3.rangeAt p2 0 LT) := r2.all
    have S12 : Hid (V3.rangeAt bu 0 LU) := r12.all
    have S13 : Hid (V3.rangeAt NL 0 N0) := rNL.all
    have HT : Hid _ := HTS.out V3 hG
    clear hV hG hK rp r2 r6 rb r12 rNL hS hNL hw0 hwf
    go_wp2_with (first
      | (refine wpList_load_w rfl 58 (.tmp 9) rfl p1 0 rfl LP _ S1.out Tryd.underlying58 rfl HLPI.out ?_; simp only [Act.put, List.setIfInBounds_toArray, List.set_cons_zero, List.set_cons_succ])
      | (refine wpList_load_w rfl 44 (.tmp 10) rfl p2 0 rfl LT _ S2.out Tryd.underlying44 rfl HLTI.out ?_; simp only [Act.put, List.setIfInBounds_toArray, List.set_cons_zero, List.set_cons_succ])
      | (refine wpList_load_w rfl 25 (.tmp 12) rfl bu 0 rfl LU _ S12.out Tryd.underlying25 rfl HLUI.out ?_; simp only [Act.put, List.setIfInBounds_toArray, List.set_cons_zero, List.set_cons_succ])
      | (refine wpList_load_w rfl 65 (.tmp 13) rfl NL 0 rfl N0 _ S13.out Tryd.underlying65 rfl HN0I.out ?_; simp only [Act.put, List.setIfInBounds_toArray, List.set_cons_zero, List.set_cons_succ]))
    refine Calls.mono HT.out ?_
    rintro e V4 ⟨rfl, hG, hK⟩
    have HG4 : Hid (Lg w0 V4 S (q + 1 + 1 + 2) f2) := hG
    have HK4 : Hid (Kp w V4) := HK.out.trans hK
    clear hG hK HT
    go_wp2_with fail
    go_ret
    exact ⟨rfl, HG4.out, HK4.out⟩
set_option maxRecDepth 100000 in
set_option maxHeartbeats 4000000 in
theorem brnG (w0 : World) (S q : Nat) (f : ByteArray → List (BitVec 8)) (hq : q < 999960) (t : Nat) (ht : t < 64) (n b d : Nat) (hn : n < 2 ^ 256) (hb : b < 2 ^ 256) (hd : d < 2 ^ 256) (hnb : b ≤ n) (hdb : b ≤ d) (hf : f (tKt t) = 1#8 :: wB n) (who : List (BitVec 8)) (h1 : who.length = 20) (hdf : f (bKt t who) = enc d) (LB : List Value) (hLB : LB = wq b) (w : World) (h : Lg w0 w S q f) :
    Calls Tryd.prog 15 #[.pointer (some ⟨S, 0, none⟩), .int .i64 (t : Int), .agg (vB who).toArray, .agg LB.toArray] w fun e w' => e = .returned (.int .i64 0) ∧ Lg w0 w' S (q + 4) (tsF f t n (n - b) (bKt t who) (d - b)) ∧ Kp w w' := by
  obtain ⟨LP, hLP⟩ : ∃ L : List Value, L = pgl S t := ⟨_, rfl⟩
  obtain ⟨LT, hLT⟩ : ∃ L : List Value, L = tkl true false n := ⟨_, rfl⟩
  obtain ⟨LS, hLS⟩ : ∃ L : List Value, L = wq n := ⟨_, rfl⟩
  obtain ⟨LU, hLU⟩ : ∃ L : List Value, L = wq (n - b) := ⟨_, rfl⟩
  obtain ⟨N0, hN0⟩ : ∃ L : List Value, L = lnl (bKt t who) (d - b) := ⟨_, rfl⟩
  have HLPE : Hid (LP = pgl S t) := hLP
  have HLPI : Hid ((Tryd.prog.info? 58).map (·.size) = some LP.length) := by show _ = _; rw [hLP]; exact info_pgl S t
  have HLPJ : Hid ((Tryd.prog.info? 58).map (·.size) = some LP.toArray.size) := by show _ = _; rw [List.size_toArray, hLP]; exact info_pgl S t
  have HLPN : Hid (LP.length = zP.length) := by show _ = _; rw [hLP]; exact rfl
  have HLPO : Hid (LP.toArray.all (·.oneCell') = true) := by show _ = true; rw [hLP]; exact pgl_one S t
  have HLTE : Hid (LT = tkl true false n) := hLT
  have HLTI : Hid ((Tryd.prog.info? 44).map (·.size) = some LT.length) := by show _ = _; rw [hLT]; exact info_tkl _ _ _
  have HLTJ : Hid ((Tryd.prog.info? 44).map (·.size) = some LT.toArray.size) := by show _ = _; rw [List.size_toArray, hLT]; exact info_tkl _ _ _
  have HLTN : Hid (LT.length = zK.length) := by show _ = _; rw [hLT]; exact tkl_len _ _ _
  have HLTO : Hid (LT.toArray.all (·.oneCell') = true) := by show _ = true; rw [hLT]; exact tkl_one _ _ _
  have HLBE : Hid (LB = wq b) := hLB
  have HLBI : Hid ((Tryd.prog.info? 25).map (·.size) = some LB.length) := by show _ = _; rw [hLB]; exact info_wq _
  have HLBJ : Hid ((Tryd.prog.info? 25).map (·.size) = some LB.toArray.size) := by show _ = _; rw [List.size_toArray, hLB]; exact info_wq _
  have HLBN : Hid (LB.length = zW.length) := by show _ = _; rw [hLB]; exact wq_len _
  have HLBO : Hid (LB.toArray.all (·.oneCell') = true) := by show _ = true; rw [hLB]; exact wq_one _
  have HLSE : Hid (LS = wq n) := hLS
  have HLSI : Hid ((Tryd.prog.info? 25).map (·.size) = some LS.length) := by show _ = _; rw [hLS]; exact info_wq _
  have HLSJ : Hid ((Tryd.prog.info? 25).map (·.size) = some LS.toArray.size) := by show _ = _; rw [List.size_toArray, hLS]; exact info_wq _
  have HLSN : Hid (LS.length = zW.length) := by show _ = _; rw [hLS]; exact wq_len _
  have HLSO : Hid (LS.toArray.all (·.oneCell') = true) := by show _ = true; rw [hLS]; exact wq_one _
  have HLUE : Hid (LU = wq (n - b)) := hLU
  have HLUI : Hid ((Tryd.prog.info? 25).map (·.size) = some LU.length) := by show _ = _; rw [hLU]; exact info_wq _
  have HLUJ : Hid ((Tryd.prog.info? 25).map (·.size) = some LU.toArray.size) := by show _ = _; rw [List.size_toArray, hLU]; exact info_wq _
  have HLUN : Hid (LU.length = zW.length) := by show _ = _; rw [hLU]; exact wq_len _
  have HLUO : Hid (LU.toArray.all (·.oneCell') = true) := by show _ = true; rw [hLU]; exact wq_one _
  have HN0E : Hid (N0 = lnl (bKt t who) (d - b)) := hN0
  have HN0I : Hid ((Tryd.prog.info? 65).map (·.size) = some N0.length) := by show _ = _; rw [hN0]; exact info_lnl _ _
  have HN0J : Hid ((Tryd.prog.info? 65).map (·.size) = some N0.toArray.size) := by show _ = _; rw [List.size_toArray, hN0]; exact info_lnl _ _
  have HN0N : Hid (N0.length = zL.length) := by show _ = _; rw [hN0]; exact lnl_len _ _
  have HN0O : Hid (N0.toArray.all (·.oneCell') = true) := by show _ = true; rw [hN0]; exact lnl_one _ _
  obtain ⟨f2, hf2⟩ : ∃ f2, f2 = tsF f t n (n - b) (bKt t who) (d - b) := ⟨_, rfl⟩
  rw [← hf2]
  have HIw : Hid ((Tryd.prog.info? 33).map (·.size) = some (vB who).length) := info_adr h1
  have HAR : Hid (∀ W, Lg w0 W S q f → _) := fun W hW => askRG w0 S q f (by omega) t ht n hn hf LP LT hLP hLT W hW
  have HKw : Hid (∀ W, Calls Tryd.prog 26 #[.agg LP.toArray, .agg (vB who).toArray] W fun e w' => e = .returned (.string (bKt t who)) ∧ Below W.heap.size W w') := fun W => bkeyG S t ht who h1 LP hLP W
  have HGR : Hid (∀ W, Lg w0 W S (q + 1) f → _) := fun W hW => les w0 S (q + 1) f (by omega) t (bKt t who) (bKt_key t h1) d b hd hb hdb hdf LP LB hLP hLB N0 hN0 85 W hW
  have HAD : Hid (∀ W, Calls Tryd.prog 37 #[.agg LS.toArray, .agg LB.toArray] W fun e w' => e = .returned (.tuple #[.agg LU.toArray, .int .i64 0]) ∧ Below W.heap.size W w') := fun W => by rw [hLS, hLB, hLU]; exact subG W n b hn hnb
  have HTS : Hid (∀ W, Lg w0 W S (q + 1 + 1) f → Calls Tryd.prog 27 #[.agg LP.toArray, .agg LT.toArray, .agg LU.toArray, .agg N0.toArray] W fun e w' => e = .returned (.int .i64 0) ∧ Lg w0 w' S (q + 1 + 1 + 2) f2 ∧ Kp W w') := fun W hW => by rw [hf2]; exact tsA w0 S (q + 1 + 1) f (by omega) t ht n (n - b) hn (Nat.lt_of_le_of_lt (Nat.sub_le _ _) hn) (bKt t who) (bKt_key t h1) (d - b) (Nat.lt_of_le_of_lt (Nat.sub_le _ _) hd) LP LT LU N0 hLP hLT hLU hN0 W hW
  have HG : Hid (Lg w0 w S q f) := h
  clear hLP hLT hLS hLU hN0 hLB hf2 h1 hq ht hn hb hd hnb hdb hf hdf h
  go_enter Tryd.func15, Tryd.ntmps15
  go_wp2_with (first
    | (refine wpList_boxG 33 rfl (.tmp 2) rfl (vB who) rfl ?_; intro X0 q1 q2 q3; have Q0 : Hid (Row X0 _ (vB who) 33) := q1; have B0 : Hid (Below _ _ X0) := q2; clear q1 q2 q3; simp only [Act.put, List.setIfInBounds_toArray, List.set_cons_zero, List.set_cons_succ])
    | (refine wpList_boxG 25 rfl (.tmp 3) rfl LB rfl ?_; intro X1 q1 q2 q3; have Q1 : Hid (Row X1 _ LB 25) := q1; have B1 : Hid (Below _ _ X1) := q2; clear q1 q2 q3; simp only [Act.put, List.setIfInBounds_toArray, List.set_cons_zero, List.set_cons_succ]))
  obtain ⟨b6, hb6⟩ : ∃ b, b = w.heap.size := ⟨_, rfl⟩
  obtain ⟨b7, hb7⟩ : ∃ b, b = X0.heap.size := ⟨_, rfl⟩
  have c00 := B0.out
  have c01 := c00.trans (B1.out.mono c00.size)
  have c11 := B1.out
  have R6 : Hid (Row X1 b6 (vB who) 33) := by rw [hb6]; exact Row.below Q0.out c11 Q0.out.lt
  have HWb6 : Hid (w.heap.size ≤ b6) := by show _ ≤ _; rw [hb6]; exact Nat.le_refl _
  have R7 : Hid (Row X1 b7 LB 25) := by rw [hb7]; exact Q1.out
  have HWb7 : Hid (w.heap.size ≤ b7) := by show _ ≤ _; rw [hb7]; exact c00.size
  have Nb6b7 : Hid (b6 ≠ b7) := by show _ ≠ _; have := Q0.out.lt; rw [hb6, hb7]; omega
  have BX : Hid (Below w.heap.size w X1) := c01
  rw [← hb6, ← hb7]
  clear hb6 hb7 c00 c01 c11 Q0 B0 Q1 B1
  replace HG : Hid (Lg w0 X1 S q f) := HG.out.be BX.out
  have HK : Hid (Kp w X1) := Kp.of_below BX.out
  clear BX
  refine Calls.mono (HAR.out X1 HG.out) ?_
  rintro e V ⟨rfl, hG, hK⟩
  replace R6 : Hid (Row V b6 (vB who) 33) := hK.row _ _ _ (by decide) R6.out
  replace R7 : Hid (Row V b7 LB 25) := hK.row _ _ _ (by decide) R7.out
  replace HG : Hid (Lg w0 V S (q + 1) f) := hG
  replace HK : Hid (Kp w V) := HK.out.trans hK
  clear hG hK HAR
  go_upto_region 2 with (first
    | (refine wpList_allocP rfl rfl ?_; intro XP q1 q2 q3; have RP1 : Hid (Row XP V.heap.size zP 58) := q1; have BP : Hid (Below V.heap.size V XP) := q2; have NE12 : Hid (XP.heap.size ≠ V.heap.size) := (by show _ ≠ _; rw [q3]; omega); clear q1 q2 q3; simp only [Act.put, List.setIfInBounds_toArray, List.set_cons_zero, List.set_cons_succ])
    | (refine wpList_allocK rfl rfl ?_; intro XK q1 q2 q3; have RK1 : Hid (Row XK XP.heap.size zK 44) := q1; have BK : Hid (Below XP.heap.size XP XK) := q2; have RP2 : Hid (Row XK V.heap.size zP 58) := Row.below RP1.out q2 RP1.out.lt; clear q1 q2 q3; simp only [Act.put, List.setIfInBounds_toArray, List.set_cons_zero, List.set_cons_succ])
    | (refine wpList_storeL rfl 58 (.tmp 9) (.tmp 18) rfl V.heap.size LP zP 58 rfl rfl RP2.out HLPN.out HLPI.out HLPO.out ?_; intro YP q1 q2; have HYP : Hid (YP = _) := q1; have RYP : Hid (Row YP V.heap.size LP 58) := q2; have RK2 : Hid (Row YP XP.heap.size zK 44) := (by rw [q1]; exact Row.setCells_other RK1.out _ _ _ NE12.out); clear q1 q2; simp only [Act.put])
    | (refine wpList_storeL rfl 44 (.tmp 10) (.tmp 19) rfl XP.heap.size LT zK 44 rfl rfl RK2.out HLTN.out HLTI.out HLTO.out ?_; intro YK q1 q2; have HYK : Hid (YK = _) := q1; have RYK : Hid (Row YK XP.heap.size LT 44) := q2; clear q1 q2; simp only [Act.put]))
  obtain ⟨p1, hp1⟩ : ∃ p, p = V.heap.size := ⟨_, rfl⟩
  obtain ⟨p2, hp2⟩ : ∃ p, p = XP.heap.size := ⟨_, rfl⟩
  have b12 : Below V.heap.size V YK := by rw [HYK.out, HYP.out]; exact below_setCells (below_setCells (BP.out.trans (BK.out.mono BP.out.size)) (Nat.le_refl _) _) BP.out.size _
  have Rp1 : Hid (Row YK p1 LP 58) := by rw [HYK.out, hp1]; exact Row.setCells_other RYP.out _ _ _ (Ne.symm NE12.out)
  have Rp2 : Hid (Row YK p2 LT 44) := by rw [hp2]; exact RYK.out
  have Np1p2 : Hid (p1 ≠ p2) := by rw [hp1, hp2]; exact Ne.symm NE12.out
  have Nb6p1 : Hid (b6 ≠ p1) := by show _ ≠ _; have := R6.out.lt; rw [hp1]; omega
  have Nb6p2 : Hid (b6 ≠ p2) := by show _ ≠ _; have := R6.out.lt; have := BP.out.size; rw [hp2]; omega
  have Nb7p1 : Hid (b7 ≠ p1) := by show _ ≠ _; have := R7.out.lt; rw [hp1]; omega
  have Nb7p2 : Hid (b7 ≠ p2) := by show _ ≠ _; have := R7.out.lt; have := BP.out.size; rw [hp2]; omega
  replace R6 : Hid (Row YK b6 (vB who) 33) := Row.below R6.out b12 R6.out.lt
  replace R7 : Hid (Row YK b7 LB 25) := Row.below R7.out b12 R7.out.lt
  replace HG : Hid (Lg w0 YK S (q + 1) f) := HG.out.be b12
  replace HK : Hid (Kp w YK) := HK.out.trans (Kp.of_below b12)
  rw [← hp1, ← hp2]
  clear hp1 hp2 b12 BP BK RP1 RP2 RK1 RK2 NE12 HYP RYP HYK RYK
  have rp := Rp1.out
  have r2 := Rp2.out
  have r6 := R6.out
  have rb := R7.out
  have hG := HG.out
  have hK := HK.out
  have hw0 : w0.heap.size ≤ YK.heap.size := hG.bel.size
  have hwf : w.heap.size ≤ YK.heap.size := hK.size
  have hb1 := Below.refl YK.heap.size YK
  clear Rp1 Rp2 R6 R7 HG HK
  go_upto_region 4 with fail
  refine wp_named fun a0 ha0 => ?_
  have hsz : a0.tmps.size = 50 := by rw [ha0]; rfl
  have zs9 : a0.eval (.tmp 9) = .pointer (some ⟨p1, 0, none⟩) := by rw [ha0]; rfl
  have zs6 : a0.eval (.tmp 6) = .pointer (some ⟨b6, 0, none⟩) := by rw [ha0]; rfl
  have zs7 : a0.eval (.tmp 7) = .pointer (some ⟨b7, 0, none⟩) := by rw [ha0]; rfl
  have lt_rp : p1 < YK.heap.size := rp.lt
  have lt_r2 : p2 < YK.heap.size := r2.lt
  have lt_r6 : b6 < YK.heap.size := r6.lt
  have lt_rb : b7 < YK.heap.size := rb.lt
  obtain ⟨D, hD⟩ : ∃ D : List (Tmp × SP), D = [(25, SP.is (.agg LP.toArray)), (26, SP.is (.agg LP.toArray)), (27, SP.is (.agg (vB who).toArray)), (28, SP.is (.string (bKt t who))), (29, SP.is (.agg LB.toArray)), (30, SP.is (.tuple #[.agg N0.toArray, .int .i64 0])), (24, SP.is (.tuple #[.agg N0.toArray, .int .i64 0])), (31, SP.is (.agg N0.toArray)), (32, SP.is (.int .i64 0)), (12, SP.any), (1000, SP.any), (11, SP.is (.int .i64 0))] := ⟨_, rfl⟩
  refine wp_region_then (by kernel_rfl) 5 (by decide) (by kernel_rfl) (fun listed ac W => Fp D a0 listed ac W ∧ Below YK.heap.size YK W ∧ Row W p1 LP 58 ∧ Row W p2 LT 44 ∧ Row W b6 ((vB who)) 33 ∧ Row W b7 LB 25 ∧ Lg w0 W S (q + 1) f ∧ Kp w W ∧ (listed.getD 9 false = true → ∃ N, ac.eval (.tmp 12) = .pointer (some ⟨N, 0, none⟩) ∧ YK.heap.size ≤ N ∧ Row W N zL 65)) (fun listed ac W => Fp D a0 listed ac W ∧ YK.heap.size ≤ W.heap.size ∧ Row W p1 LP 58 ∧ Row W p2 LT 44 ∧ Row W b6 ((vB who)) 33 ∧ Row W b7 LB 25 ∧ Lg w0 W S (q + 1 + 1) f ∧ Kp w W ∧ (listed.getD 9 false = true → ∃ N, ac.eval (.tmp 12) = .pointer (some ⟨N, 0, none⟩) ∧ YK.heap.size ≤ N ∧ Row W N (if listed.getD 10 false = true then N0 else zL) 65)) ?_ ?_ ?_ ?_ ?_
  · exact ⟨Fp.start D a0 _ _, Below.drew hb1, Row.drew rp, Row.drew r2, Row.drew r6, Row.drew rb, hG.below (Below.drew (Below.refl _ _)), hK.below (Below.drew (Below.refl _ _)), (fun h => (start_no h).elim)⟩
  · clear ha0 hb1 rp r2 r6 rb hG hK
    intro listed ac W k hl hI hdn hk hne hnl
    replace hl : listed.size = 12 := hl
    obtain ⟨hF, hb1, rp, r2, r6, rb, hG, hK, al9⟩ := hI
    have hk1 : k < 12 := List.mem_range.1 (List.mem_filter.1 hk).1
    rcases (show k = 0 ∨ k = 1 ∨ k = 2 ∨ k = 3 ∨ k = 4 ∨ k = 5 ∨ k = 6 ∨ k = 7 ∨ k = 8 ∨ k = 9 ∨ k = 10 ∨ k = 11 by omega) with rfl | rfl | rfl | rfl | rfl | rfl | rfl | rfl | rfl | rfl | rfl | rfl
    · have hk3 := hk
      exact wpOp_plain rfl rfl (wp_load_mid 58 (.tmp 9) rfl p1 0 ((hF.keep 9 (by rw [hD]; rfl)).trans zs9) LP _ rp.all Tryd.underlying58 rfl HLPI.out ⟨(hF.put 0 25 (SP.is (.agg LP.toArray)) (.agg LP.toArray) (by rw [hD]; rfl) rfl (by rw [hD]; rfl) (by rw [hsz]; decide) (by rw [hl]; decide)), hb1, rp, r2, r6, rb, hG, hK, (fun h => by obtain ⟨N, e, hN, r⟩ := al9 (by rwa [getD_set _ _ _ (by decide)] at h); exact ⟨N, (eval_put_other ac _ (by decide)).trans e, hN, r⟩)⟩)
    · have hk3 := hk
      exact wpOp_plain rfl rfl (wp_load_mid 58 (.tmp 9) rfl p1 0 ((hF.keep 9 (by rw [hD]; rfl)).trans zs9) LP _ rp.all Tryd.underlying58 rfl HLPI.out ⟨(hF.put 1 26 (SP.is (.agg LP.toArray)) (.agg LP.toArray) (by rw [hD]; rfl) rfl (by rw [hD]; rfl) (by rw [hsz]; decide) (by rw [hl]; decide)), hb1, rp, r2, r6, rb, hG, hK, (fun h => by obtain ⟨N, e, hN, r⟩ := al9 (by rwa [getD_set _ _ _ (by decide)] at h); exact ⟨N, (eval_put_other ac _ (by decide)).trans e, hN, r⟩)⟩)
    · have hk3 := hk
      exact wpOp_plain rfl rfl (wp_load_mid 33 (.tmp 6) rfl b6 0 ((hF.keep 6 (by rw [hD]; rfl)).trans zs6) ((vB who)) _ r6.all Tryd.underlying33 rfl HIw.out ⟨(hF.put 2 27 (SP.is (.agg (vB who).toArray)) (.agg (vB who).toArray) (by rw [hD]; rfl) rfl (by rw [hD]; rfl) (by rw [hsz]; decide) (by rw [hl]; decide)), hb1, rp, r2, r6, rb, hG, hK, (fun h => by obtain ⟨N, e, hN, r⟩ := al9 (by rwa [getD_set _ _ _ (by decide)] at h); exact ⟨N, (eval_put_other ac _ (by decide)).trans e, hN, r⟩)⟩)
    · have hk3 := hk
      have ea0 := (hF.done 1 (26, SP.is (.agg LP.toArray)) (by rw [hD]; rfl) (ready_dep hk 1 (by kernel_rfl)))
      have ea1 := (hF.done 2 (27, SP.is (.agg (vB who).toArray)) (by rw [hD]; rfl) (ready_dep hk 2 (by kernel_rfl)))
      refine wpOp_plain rfl rfl (wp_fcall_v 26 #[.agg LP.toArray, .agg (vB who).toArray] rfl rfl (by show [ac.eval (.tmp 26), ac.eval (.tmp 27)] = _; rw [show ac.eval (.tmp 26) = .agg LP.toArray from ea0, show ac.eval (.tmp 27) = .agg (vB who).toArray from ea1]) (by go_simp) (((show Calls Tryd.prog 26 #[.agg LP.toArray, .agg (vB who).toArray] W _ from HKw.out W)).mono ?_))
      rintro e W2 ⟨rfl, hB⟩
      exact ⟨_, rfl, ((hF.world hB).put 3 28 (SP.is (.string (bKt t who))) (.string (bKt t who)) (by rw [hD]; rfl) rfl (by rw [hD]; rfl) (by rw [hsz]; decide) (by rw [hl]; decide)), hb1.trans (hB.mono hb1.size), Row.below rp hB (Row.lt rp), Row.below r2 hB (Row.lt r2), Row.below r6 hB (Row.lt r6), Row.below rb hB (Row.lt rb), hG.below hB, hK.below hB, (fun h => by obtain ⟨N, e, hN, r⟩ := al9 (by rwa [getD_set _ _ _ (by decide)] at h); exact ⟨N, (eval_put_other ac _ (by decide)).trans e, hN, Row.below r hB (Row.lt r)⟩)⟩
    · have hk3 := hk
      exact wpOp_plain rfl rfl (wp_load_mid 25 (.tmp 7) rfl b7 0 ((hF.keep 7 (by rw [hD]; rfl)).trans zs7) LB _ rb.all Tryd.underlying25 rfl HLBI.out ⟨(hF.put 4 29 (SP.is (.agg LB.toArray)) (.agg LB.toArray) (by rw [hD]; rfl) rfl (by rw [hD]; rfl) (by rw [hsz]; decide) (by rw [hl]; decide)), hb1, rp, r2, r6, rb, hG, hK, (fun h => by obtain ⟨N, e, hN, r⟩ := al9 (by rwa [getD_set _ _ _ (by decide)] at h); exact ⟨N, (eval_put_other ac _ (by decide)).trans e, hN, r⟩)⟩)
    · exact absurd rfl hne
    · exact absurd (ready_dep hk 5 (by kernel_rfl)) hnl
    · exact absurd (hdn 6 (ready_dep hk 6 (by kernel_rfl)) 5 (by kernel_rfl)) hnl
    · exact absurd (hdn 6 (ready_dep hk 6 (by kernel_rfl)) 5 (by kernel_rfl)) hnl
    · have hk3 := hk
      have hB : Below W.heap.size W (W.alloc (Obj.cells zL.toArray 65)) := (Below.refl _ _).alloc (Nat.le_refl _) _
      exact wpOp_plain rfl rfl (wp_allocLn rfl ⟨((hF.world hB).put 9 12 (SP.any) (.pointer (some ⟨W.heap.size, 0, none⟩)) (by rw [hD]; rfl) trivial (by rw [hD]; rfl) (by rw [hsz]; decide) (by rw [hl]; decide)), hb1.trans (hB.mono hb1.size), Row.alloc rp _, Row.alloc r2 _, Row.alloc r6 _, Row.alloc rb _, hG.below hB, hK.below hB, (fun _ => ⟨W.heap.size, eval_put_same ac _ (by rw [hF.size, hsz]; decide), hb1.size, Row.new' rfl rfl⟩)⟩)
    · exact absurd (hdn 6 (hdn 7 (ready_dep hk 7 (by kernel_rfl)) 6 (by kernel_rfl)) 5 (by kernel_rfl)) hnl
    · exact absurd (hdn 6 (hdn 8 (ready_dep hk 8 (by kernel_rfl)) 6 (by kernel_rfl)) 5 (by kernel_rfl)) hnl
  · clear ha0 hb1 rp r2 r6 rb hG hK
    intro listed ac W hl hI hdn hk
    replace hl : listed.size = 12 := hl
    obtain ⟨hF, hb1, rp, r2, r6, rb, hG, hK, al9⟩ := hI
    have eb1 := (hF.done 0 (25, SP.is (.agg LP.toArray)) (by rw [hD]; rfl) (ready_dep hk 0 (by kernel_rfl)))
    have eb2 := (hF.done 3 (28, SP.is (.string (bKt t who))) (by rw [hD]; rfl) (ready_dep hk 3 (by kernel_rfl)))
    have eb3 := (hF.done 4 (29, SP.is (.agg LB.toArray)) (by rw [hD]; rfl) (ready_dep hk 4 (by kernel_rfl)))
    have hns10 : ¬ listed.getD 10 false = true := fun h => not_yet hk (hdn 6 (hdn 7 (hdn 10 h 7 (by kernel_rfl)) 6 (by kernel_rfl)) 5 (by kernel_rfl))
    refine wpOp_plain rfl rfl (wp_fcall_v 34 #[.agg LP.toArray, .string (bKt t who), .agg LB.toArray, .int .i64 85] rfl rfl (by show [ac.eval (.tmp 25), ac.eval (.tmp 28), ac.eval (.tmp 29), .int .i64 85] = _; rw [show ac.eval (.tmp 25) = .agg LP.toArray from eb1, show ac.eval (.tmp 28) = .string (bKt t who) from eb2, show ac.eval (.tmp 29) = .agg LB.toArray from eb3]) (by go_simp) ((HGR.out W hG).mono ?_))
    rintro e W2 ⟨rfl, hG2, hK2⟩
    have hT : Fp D a0 listed ac W2 := hF.turn (by rw [hD]; simp only [List.forall_mem_cons, List.not_mem_nil, false_implies, implies_true, and_true]; exact ⟨fun _ h => h, fun _ h => h, fun _ h => h, fun _ h => h, fun _ h => h, fun _ h => h, fun _ h => h, fun _ h => h, fun _ h => h, fun _ h => h, fun _ h => h, fun _ h => h⟩)
    exact ⟨_, rfl, (hT.put 5 30 (SP.is (.tuple #[.agg N0.toArray, .int .i64 0])) (_) (by rw [hD]; rfl) rfl (by rw [hD]; rfl) (by rw [hsz]; decide) (by rw [hl]; decide)), Nat.le_trans hb1.size hK2.size, hK2.row _ _ _ (by decide) rp, hK2.row _ _ _ (by decide) r2, hK2.row _ _ _ (by decide) r6, hK2.row _ _ _ (by decide) rb, hG2, hK.trans hK2, (fun h => by obtain ⟨N, e, hN, r⟩ := al9 (by rwa [getD_set _ _ _ (by decide)] at h); exact ⟨N, (eval_put_other ac _ (by decide)).trans e, hN, by rw [getD_set _ _ _ (by decide), if_neg hns10]; exact hK2.row _ _ _ (by decide) r⟩)⟩
  · clear ha0 hb1 rp r2 r6 rb hG hK
    intro listed ac W k hl hJ hdn hk hne hyl
    replace hl : listed.size = 12 := hl
    obtain ⟨hF, hS, rp, r2, r6, rb, hG, hK, al9⟩ := hJ
    have hk1 : k < 12 := List.mem_range.1 (List.mem_filter.1 hk).1
    rcases (show k = 0 ∨ k = 1 ∨ k = 2 ∨ k = 3 ∨ k = 4 ∨ k = 5 ∨ k = 6 ∨ k = 7 ∨ k = 8 ∨ k = 9 ∨ k = 10 ∨ k = 11 by omega) with rfl | rfl | rfl | rfl | rfl | rfl | rfl | rfl | rfl | rfl | rfl | rfl
    · exact absurd (hdn 5 hyl 0 (by kernel_rfl)) (not_yet hk)
    · exact absurd (hdn 3 (hdn 5 hyl 3 (by kernel_rfl)) 1 (by kernel_rfl)) (not_yet hk)
    · exact absurd (hdn 3 (hdn 5 hyl 3 (by kernel_rfl)) 2 (by kernel_rfl)) (not_yet hk)
    · exact absurd (hdn 5 hyl 3 (by kernel_rfl)) (not_yet hk)
    · exact absurd (hdn 5 hyl 4 (by kernel_rfl)) (not_yet hk)
    · exact absurd rfl hne
    · have hk3 := hk
      exact wpOp_plain rfl rfl (wp_move_v (ac.eval (.tmp 30)) rfl rfl ⟨(hF.put 6 24 (SP.is (.tuple #[.agg N0.toArray, .int .i64 0])) (ac.eval (.tmp 30)) (by rw [hD]; rfl) ((hF.done 5 (30, SP.is (.tuple #[.agg N0.toArray, .int .i64 0])) (by rw [hD]; rfl) (ready_dep hk 5 (by kernel_rfl)))) (by rw [hD]; rfl) (by rw [hsz]; decide) (by rw [hl]; decide)), hS, rp, r2, r6, rb, hG, hK, (fun h => by obtain ⟨N, e, hN, r⟩ := al9 (by rwa [getD_set _ _ _ (by decide)] at h); exact ⟨N, (eval_put_other ac _ (by decide)).trans e, hN, by rw [getD_set _ _ _ (by decide)]; exact r⟩)⟩)
    · have hk3 := hk
      exact wpOp_plain rfl rfl (wp_extract (.tmp 24) 0 rfl _ (hF.done 6 (24, SP.is (.tuple #[.agg N0.toArray, .int .i64 0])) (by rw [hD]; rfl) (ready_dep hk 6 (by kernel_rfl))) (.agg N0.toArray) rfl ⟨(hF.put 7 31 (SP.is (.agg N0.toArray)) (.agg N0.toArray) (by rw [hD]; rfl) rfl (by rw [hD]; rfl) (by rw [hsz]; decide) (by rw [hl]; decide)), hS, rp, r2, r6, rb, hG, hK, (fun h => by obtain ⟨N, e, hN, r⟩ := al9 (by rwa [getD_set _ _ _ (by decide)] at h); exact ⟨N, (eval_put_other ac _ (by decide)).trans e, hN, by rw [getD_set _ _ _ (by decide)]; exact r⟩)⟩)
    · have hk3 := hk
      exact wpOp_plain rfl rfl (wp_extract (.tmp 24) 1 rfl _ (hF.done 6 (24, SP.is (.tuple #[.agg N0.toArray, .int .i64 0])) (by rw [hD]; rfl) (ready_dep hk 6 (by kernel_rfl))) (.int .i64 0) rfl ⟨(hF.put 8 32 (SP.is (.int .i64 0)) (.int .i64 0) (by rw [hD]; rfl) rfl (by rw [hD]; rfl) (by rw [hsz]; decide) (by rw [hl]; decide)), hS, rp, r2, r6, rb, hG, hK, (fun h => by obtain ⟨N, e, hN, r⟩ := al9 (by rwa [getD_set _ _ _ (by decide)] at h); exact ⟨N, (eval_put_other ac _ (by decide)).trans e, hN, by rw [getD_set _ _ _ (by decide)]; exact r⟩)⟩)
    · have hk3 := hk
      have hB : Below W.heap.size W (W.alloc (Obj.cells zL.toArray 65)) := (Below.refl _ _).alloc (Nat.le_refl _) _
      have hns : ¬ listed.getD 10 false = true := fun h => not_yet hk (hdn 10 h 9 (by kernel_rfl))
      exact wpOp_plain rfl rfl (wp_allocLn rfl ⟨((hF.world hB).put 9 12 (SP.any) (.pointer (some ⟨W.heap.size, 0, none⟩)) (by rw [hD]; rfl) trivial (by rw [hD]; rfl) (by rw [hsz]; decide) (by rw [hl]; decide)), Nat.le_trans hS hB.size, Row.alloc rp _, Row.alloc r2 _, Row.alloc r6 _, Row.alloc rb _, hG.below hB, hK.below hB, (fun _ => ⟨W.heap.size, eval_put_same ac _ (by rw [hF.size, hsz]; decide), hS, (by rw [getD_set _ _ _ (by decide), if_neg hns]; exact Row.new' rfl rfl)⟩)⟩)
    · have hk3 := hk
      obtain ⟨N, e, hN, r⟩ := al9 (ready_dep hk 9 (by kernel_rfl))
      rw [if_neg (not_yet hk)] at r
      have hT : Fp D a0 listed ac (W.setCells N 0 N0) := hF.turn (by rw [hD]; simp only [List.forall_mem_cons, List.not_mem_nil, false_implies, implies_true, and_true]; exact ⟨fun _ h => h, fun _ h => h, fun _ h => h, fun _ h => h, fun _ h => h, fun _ h => h, fun _ h => h, fun _ h => h, fun _ h => h, fun _ h => h, fun _ h => h, fun _ h => h⟩)
      exact wpOp_plain rfl rfl (wp_store_mid 65 (.tmp 12) (.tmp 31) rfl N 0 N0.toArray e (hF.done 7 (31, SP.is (.agg N0.toArray)) (by rw [hD]; rfl) (ready_dep hk 7 (by kernel_rfl))) (r.there 0 _ (by rw [List.size_toArray, HN0N.out]; decide)) HN0J.out HN0O.out ⟨(hT.skip 10 1000 (by rw [hD]; rfl) (by rw [hl]; decide)), (by rw [size_setCells]; exact hS), Row.setCells_other rp _ _ _ (by omega), Row.setCells_other r2 _ _ _ (by omega), Row.setCells_other r6 _ _ _ (by omega), Row.setCells_other rb _ _ _ (by omega), hG.kept r (by decide) (by decide) (by decide) (by decide) (fun k hk => heap_sets _ _ _ _ _ hk) (below_setCells hG.bel (Nat.le_trans hw0 hN) _), Kp.kept N (Nat.le_trans hwf hN) hK (fun k hk => heap_sets _ _ _ _ _ hk) (below_setCells (Below.refl 0 _) (Nat.zero_le N) _).size, (fun _ => ⟨N, e, hN, by rw [if_pos (getD_same (by rw [hl]; decide))]; exact r.over HN0N.out⟩)⟩)
    · have hk3 := hk
      exact wpOp_plain rfl rfl (wp_assign_v (ac.eval (.tmp 32)) rfl rfl ⟨(hF.put 11 11 (SP.is (.int .i64 0)) (ac.eval (.tmp 32)) (by rw [hD]; rfl) ((hF.done 8 (32, SP.is (.int .i64 0)) (by rw [hD]; rfl) (ready_dep hk 8 (by kernel_rfl)))) (by rw [hD]; rfl) (by rw [hsz]; decide) (by rw [hl]; decide)), hS, rp, r2, r6, rb, hG, hK, (fun h => by obtain ⟨N, e, hN, r⟩ := al9 (by rwa [getD_set _ _ _ (by decide)] at h); exact ⟨N, (eval_put_other ac _ (by decide)).trans e, hN, by rw [getD_set _ _ _ (by decide)]; exact r⟩)⟩)
  · clear hb1 rp r2 r6 rb hG hK
    intro listed ac W hl hJ hr
    replace hl : listed.size = 12 := hl
    obtain ⟨hF, hS, rp, r2, r6, rb, hG, hK, al9⟩ := hJ
    have hall := all_listed (by kernel_rfl) hl hr
    obtain ⟨NL, ea12, hNL, rNL⟩ := al9 (hall 9 (by decide))
    rw [if_pos (hall 10 (by decide))] at rNL
    have h25 : ac.eval (.tmp 25) = .agg LP.toArray := hF.done 0 (25, SP.is (.agg LP.toArray)) (by rw [hD]; rfl) (hall 0 (by decide))
    have h26 : ac.eval (.tmp 26) = .agg LP.toArray := hF.done 1 (26, SP.is (.agg LP.toArray)) (by rw [hD]; rfl) (hall 1 (by decide))
    have h27 : ac.eval (.tmp 27) = .agg (vB who).toArray := hF.done 2 (27, SP.is (.agg (vB who).toArray)) (by rw [hD]; rfl) (hall 2 (by decide))
    have h28 : ac.eval (.tmp 28) = .string (bKt t who) := hF.done 3 (28, SP.is (.string (bKt t who))) (by rw [hD]; rfl) (hall 3 (by decide))
    have h29 : ac.eval (.tmp 29) = .agg LB.toArray := hF.done 4 (29, SP.is (.agg LB.toArray)) (by rw [hD]; rfl) (hall 4 (by decide))
    have h30 : ac.eval (.tmp 30) = .tuple #[.agg N0.toArray, .int .i64 0] := hF.done 5 (30, SP.is (.tuple #[.agg N0.toArray, .int .i64 0])) (by rw [hD]; rfl) (hall 5 (by decide))
    have h24 : ac.eval (.tmp 24) = .tuple #[.agg N0.toArray, .int .i64 0] := hF.done 6 (24, SP.is (.tuple #[.agg N0.toArray, .int .i64 0])) (by rw [hD]; rfl) (hall 6 (by decide))
    have h31 : ac.eval (.tmp 31) = .agg N0.toArray := hF.done 7 (31, SP.is (.agg N0.toArray)) (by rw [hD]; rfl) (hall 7 (by decide))
    have h32 : ac.eval (.tmp 32) = .int .i64 0 := hF.done 8 (32, SP.is (.int .i64 0)) (by rw [hD]; rfl) (hall 8 (by decide))
    have h11 : ac.eval (.tmp 11) = .int .i64 0 := hF.done 11 (11, SP.is (.int .i64 0)) (by rw [hD]; rfl) (hall 11 (by decide))
    have ea := hF.lay [(25, .agg LP.toArray), (26, .agg LP.toArray), (27, .agg (vB who).toArray), (28, .string (bKt t who)), (29, .agg LB.toArray), (30, .tuple #[.agg N0.toArray, .int .i64 0]), (24, .tuple #[.agg N0.toArray, .int .i64 0]), (31, .agg N0.toArray), (32, .int .i64 0), (12, .pointer (some ⟨NL, 0, none⟩)), (11, .int .i64 0)] (by rw [hD, hsz]; rfl) (by simp only [List.forall_mem_cons, List.not_mem_nil, false_implies, implies_true, and_true]; exact ⟨h25, h26, h27, h28, h29, h30, h24, h31, h32, ea12, h11⟩)
    rw [ha0] at ea
    simp only [List.foldl_cons, List.foldl_nil, List.setIfInBounds_toArray, List.set_cons_zero, List.set_cons_succ] at ea
    clear hF hall hr hl hD zs9 zs6 zs7 ha0 hsz h25 h26 h27 h28 h29 h30 h24 h31 h32 ea12 h11 al9 lt_rp lt_r2 lt_r6 lt_rb
    subst ea
    obtain ⟨V2, hV⟩ : ∃ V, V = W := ⟨_, rfl⟩
    rw [← hV]
    rw [← hV] at hG hK rp r2 rb rNL
    have HG : Hid (Lg w0 V2 S (q + 1 + 1) f) := hG
    have HK : Hid (Kp w V2) := hK
    have Rp1 : Hid (Row V2 p1 LP 58) := rp
    have Rp2 : Hid (Row V2 p2 LT 44) := r2
    have RN : Hid (Row V2 NL N0 65) := rNL
    have RS : Hid (V2.rangeAt p2 2 LS) := by show World.rangeAt _ _ _ _; rw [HLSE.out]; have q := r2; rw [HLTE.out] at q; exact tkl_am q
    have RA7 : Hid (V2.rangeAt b7 0 LB) := rb.all
    clear hV hG hK rp r2 r6 rb rNL hS hNL hw0 hwf
    go_wp2_with (first
      | (refine wpList_load_w rfl 25 (.tmp 37) rfl p2 2 rfl LS _ RS.out Tryd.underlying25 rfl HLSI.out ?_; simp only [Act.put, List.setIfInBounds_toArray, List.set_cons_zero, List.set_cons_succ])
      | (refine wpList_load_w rfl 25 (.tmp 7) rfl b7 0 rfl LB _ RA7.out Tryd.underlying25 rfl HLBI.out ?_; simp only [Act.put, List.setIfInBounds_toArray, List.set_cons_zero, List.set_cons_succ]))
    refine Calls.mono (HAD.out V2) ?_
    rintro e V3 ⟨rfl, hB⟩
    replace Rp1 : Hid (Row V3 p1 LP 58) := Row.below Rp1.out hB Rp1.out.lt
    replace Rp2 : Hid (Row V3 p2 LT 44) := Row.below Rp2.out hB Rp2.out.lt
    replace RN : Hid (Row V3 NL N0 65) := Row.below RN.out hB RN.out.lt
    replace HG : Hid (Lg w0 V3 S (q + 1 + 1) f) := HG.out.be hB
    replace HK : Hid (Kp w V3) := HK.out.trans (Kp.of_below hB)
    clear hB RS RA7
    obtain ⟨bu, hbu⟩ : ∃ b, b = V3.heap.size := ⟨_, rfl⟩
    have HBbu : Hid (bu = V3.heap.size) := hbu
    clear hbu
    go_upto_region 10 with (first
      | (refine wpList_allocW rfl rfl ?_; intro XYU q1 q2 q3; have QYU : Hid (Row XYU _ zW 25) := q1; have BYU : Hid (Below _ _ XYU) := q2; clear q1 q2 q3; simp only [Act.put, List.setIfInBounds_toArray, List.set_cons_zero, List.set_cons_succ])
      | (refine wpList_storeL rfl 25 (.tmp 13) (.tmp 41) rfl V3.heap.size LU zW 25 rfl rfl QYU.out HLUN.out HLUI.out HLUO.out ?_; intro YU q1 q2; have HYU : Hid (YU = _) := q1; have RYU : Hid (Row YU V3.heap.size LU 25) := q2; clear q1 q2; simp only [Act.put]))
    rw [← HBbu.out] at RYU HYU
    rw [← HBbu.out]
    have cb : Below V3.heap.size V3 YU := by rw [HYU.out]; exact below_setCells BYU.out (by rw [HBbu.out]; exact Nat.le_refl _) _
    have Np1bu : Hid (p1 ≠ bu) := by show _ ≠ _; have := Rp1.out.lt; rw [HBbu.out]; omega
    have Np2bu : Hid (p2 ≠ bu) := by show _ ≠ _; have := Rp2.out.lt; rw [HBbu.out]; omega
    have NNLbu : Hid (NL ≠ bu) := by show _ ≠ _; have := RN.out.lt; rw [HBbu.out]; omega
    replace Rp1 : Hid (Row YU p1 LP 58) := Row.below Rp1.out cb Rp1.out.lt
    replace Rp2 : Hid (Row YU p2 LT 44) := Row.below Rp2.out cb Rp2.out.lt
    replace RN : Hid (Row YU NL N0 65) := Row.below RN.out cb RN.out.lt
    replace HG : Hid (Lg w0 YU S (q + 1 + 1) f) := HG.out.be cb
    replace HK : Hid (Kp w YU) := HK.out.trans (Kp.of_below cb)
    have Rbu : Hid (Row YU bu LU 25) := RYU.out
    clear cb HYU BYU QYU RYU HBbu
    have S1 : Hid (YU.rangeAt p1 0 LP) := Rp1.out.all
    have S2 : Hid (YU.rangeAt p2 0 LT) := Rp2.out.all
    have S12 : Hid (YU.rangeAt bu 0 LU) := Rbu.out.all
    have S13 : Hid (YU.rangeAt NL 0 N0) := RN.out.all
    have HT : Hid _ := HTS.out YU HG.out
    clear HG Rp1 Rp2 RN Rbu
    go_wp2_with (first
      | (refine wpList_load_w rfl 58 (.tmp 9) rfl p1 0 rfl LP _ S1.out Tryd.underlying58 rfl HLPI.out ?_; simp only [Act.put, List.setIfInBounds_toArray, List.set_cons_zero, List.set_cons_succ])
      | (refine wpList_load_w rfl 44 (.tmp 10) rfl p2 0 rfl LT _ S2.out Tryd.underlying44 rfl HLTI.out ?_; simp only [Act.put, List.setIfInBounds_toArray, List.set_cons_zero, List.set_cons_succ])
      | (refine wpList_load_w rfl 25 (.tmp 13) rfl bu 0 rfl LU _ S12.out Tryd.underlying25 rfl HLUI.out ?_; simp only [Act.put, List.setIfInBounds_toArray, List.set_cons_zero, List.set_cons_succ])
      | (refine wpList_load_w rfl 65 (.tmp 12) rfl NL 0 rfl N0 _ S13.out Tryd.underlying65 rfl HN0I.out ?_; simp only [Act.put, List.setIfInBounds_toArray, List.set_cons_zero, List.set_cons_succ]))
    refine Calls.mono HT.out ?_
    rintro e V4 ⟨rfl, hG, hK⟩
    have HG4 : Hid (Lg w0 V4 S (q + 1 + 1 + 2) f2) := hG
    have HK4 : Hid (Kp w V4) := HK.out.trans hK
    clear hG hK HT
    go_wp2_with fail
    go_ret
    exact ⟨rfl, HG4.out, HK4.out⟩

end Go.Proofs.YtelioddogdcdoaaDoor
