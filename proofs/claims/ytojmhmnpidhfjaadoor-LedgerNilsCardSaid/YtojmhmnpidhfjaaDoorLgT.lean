/-
  turnSupply, Balance.
-/
import Derived.Test.YtojmhmnpidhfjaaDoorLgS
import Derived.Test.YtojmhmnpidhfjaaDoorLgM
namespace Go.Proofs.YtojmhmnpidhfjaaDoor
open Go Go.RowKit Go.Maps
open Sha
open Wd

section
variable {ops : Array Oper} {rest : List Oper} {op : Oper} {a : Act} {w : World} {Q : Exit → Act → World → Prop}
theorem guardW : Tryd.prog.eqGuardType Tryd.prog.depth 26 = false := by kernel_rfl
theorem wpList_eqlWd (hw : Region.wanted op (yielded ops a.tmps) = true) (x y : Operand) (yt : TypeId) (ho : op.op = .binOp .eql 26 x y yt) (m n : Nat) (L M : List Value) (hL : L = [.int .u64 (m : Int), .int .u64 0, .int .u64 0, .int .u64 0]) (hM : M = [.int .u64 (n : Int), .int .u64 0, .int .u64 0, .int .u64 0]) (hx : a.eval x = .agg L.toArray) (hy : a.eval y = .agg M.toArray)
    (B : Bool) (hB : decide ([m, 0, 0, 0] = [n, 0, 0, 0]) = B) (h : wpList Tryd.prog ops Q rest (a.put op.dst (.bool B)) w) : wpList Tryd.prog ops Q (op :: rest) a w :=
  BigFrame.wpList_want hw fun _ hK => by
    have hr := run_eql_w w [m, 0, 0, 0] [n, 0, 0, 0] rfl rfl
    rw [hB, show vQ [m, 0, 0, 0] = L by rw [hL]; rfl, show vQ [n, 0, 0, 0] = M by rw [hM]; rfl] at hr
    unfold Oper.wp execOp
    simp only [ho, hx, hy, Sem.run_bind, run_eqGuard_agg w .eql 26 x y _ _ guardW, Result.andThen_ok, hr, Sem.run_pure, Oper.upon_value]
    exact hK _ _ h
end
theorem tok_set {L M A : List Value} {th pa : Bool} {m n : Int} (hL : L = [.bool th, .bool pa, .int .u64 m, .int .u64 0, .int .u64 0, .int .u64 0]) (hM : M = [.bool th, .bool pa, .int .u64 n, .int .u64 0, .int .u64 0, .int .u64 0]) (hA : A = [.int .u64 n, .int .u64 0, .int .u64 0, .int .u64 0]) {w : World} {b : Nat} {t : TypeId} (r : Row w b L t) : Row (w.setCells b 2 A) b M t := by
  have q := Row.setCells 2 A r (by rw [hL, hA]; show 2 + 4 ≤ 6; decide)
  subst hL hM hA
  exact q
set_option maxRecDepth 100000 in
set_option maxHeartbeats 4000000 in
theorem turn_ok (w0 : World) (S q : Nat) (f f1 f2 : ByteArray → List (BitVec 8)) (hq : q < 999980) (n n2 : Nat) (hn2 : n2 < 1000000) (hne : n ≠ n2) (s0 : ByteArray) (hs0 : isK s0.size = true) (m : Nat) (hm : m < 1000000) (hm0 : m ≠ 0) (hf1 : f1 = upd f tK (1#8 :: wB n2)) (hf2 : f2 = upd f1 s0 (wB m)) (LP LT LA N0 : List Value) (hLP : LP = [.pointer (some ⟨S, 0, none⟩), .int .u8 5]) (hLT : LT = [.bool true, .bool false, .int .u64 (n : Int), .int .u64 0, .int .u64 0, .int .u64 0]) (hLA : LA = [.int .u64 (n2 : Int), .int .u64 0, .int .u64 0, .int .u64 0]) (heN0 : N0 = [.string s0, .int .u64 (m : Int), .int .u64 0, .int .u64 0, .int .u64 0]) (w : World) (h : Lg w0 w S q f) :
    Calls Tryd.prog 31 #[.agg LP.toArray, .agg LT.toArray, .agg LA.toArray, .agg N0.toArray] w fun e w' => e = .returned (.int .i64 0) ∧ Lg w0 w' S (q + 2) f2 ∧ Kp w w' := by
  obtain ⟨LS, hLS⟩ : ∃ L : List Value, L = [.int .u64 (n : Int), .int .u64 0, .int .u64 0, .int .u64 0] := ⟨_, rfl⟩
  obtain ⟨LU, hLU⟩ : ∃ L : List Value, L = [.bool true, .bool false, .int .u64 (n2 : Int), .int .u64 0, .int .u64 0, .int .u64 0] := ⟨_, rfl⟩
  have HPE : Hid (LP = [.pointer (some ⟨S, 0, none⟩), .int .u8 5]) := hLP
  have HPI : Hid ((Tryd.prog.info? 61).map (·.size) = some LP.length) := by show _ = _; rw [hLP]; exact info_pg
  have HPN : Hid (LP.length = zP.length) := by show _ = _; rw [hLP]; rfl
  have HPO : Hid (LP.toArray.all (·.oneCell') = true) := pg_one hLP
  have HLTE : Hid (LT = [.bool true, .bool false, .int .u64 (n : Int), .int .u64 0, .int .u64 0, .int .u64 0]) := hLT
  have HLTI : Hid ((Tryd.prog.info? 33).map (·.size) = some LT.length) := by show _ = _; rw [hLT]; exact info_tok
  have HLTN : Hid (LT.length = zK.length) := by show _ = _; rw [hLT]; rfl
  have HLTO : Hid (LT.toArray.all (·.oneCell') = true) := tok_one hLT
  have HLUE : Hid (LU = [.bool true, .bool false, .int .u64 (n2 : Int), .int .u64 0, .int .u64 0, .int .u64 0]) := hLU
  have HLUI : Hid ((Tryd.prog.info? 33).map (·.size) = some LU.length) := by show _ = _; rw [hLU]; exact info_tok
  have HLUN : Hid (LU.length = zK.length) := by show _ = _; rw [hLU]; rfl
  have HLUO : Hid (LU.toArray.all (·.oneCell') = true) := tok_one hLU
  have HLAE : Hid (LA = [.int .u64 (n2 : Int), .int .u64 0, .int .u64 0, .int .u64 0]) := hLA
  have HLAI : Hid ((Tryd.prog.info? 26).map (·.size) = some LA.length) := by show _ = _; rw [hLA]; exact info_w4l
  have HLAJ : Hid ((Tryd.prog.info? 26).map (·.size) = some LA.toArray.size) := by show _ = _; rw [List.size_toArray, hLA]; exact info_w4l
  have HLAN : Hid (LA.length = zW.length) := by show _ = _; rw [hLA]; rfl
  have HLAO : Hid (LA.toArray.all (·.oneCell') = true) := by show _ = true; rw [hLA, ← Array.all_toList]; rfl
  have HLSE : Hid (LS = [.int .u64 (n : Int), .int .u64 0, .int .u64 0, .int .u64 0]) := hLS
  have HLSI : Hid ((Tryd.prog.info? 26).map (·.size) = some LS.length) := by show _ = _; rw [hLS]; exact info_w4l
  have HLSJ : Hid ((Tryd.prog.info? 26).map (·.size) = some LS.toArray.size) := by show _ = _; rw [List.size_toArray, hLS]; exact info_w4l
  have HLSN : Hid (LS.length = zW.length) := by show _ = _; rw [hLS]; rfl
  have HLSO : Hid (LS.toArray.all (·.oneCell') = true) := by show _ = true; rw [hLS, ← Array.all_toList]; rfl
  have HEN0 : Hid (N0 = [.string s0, .int .u64 (m : Int), .int .u64 0, .int .u64 0, .int .u64 0]) := heN0
  have HIN0 : Hid ((Tryd.prog.info? 68).map (·.size) = some N0.length) := by show _ = _; rw [heN0]; exact info_line
  have HJN0 : Hid ((Tryd.prog.info? 68).map (·.size) = some N0.toArray.size) := by show _ = _; rw [List.size_toArray, heN0]; exact info_line
  have HNN0 : Hid (N0.length = zL.length) := by show _ = _; rw [heN0]; rfl
  have HON0 : Hid (N0.toArray.all (·.oneCell') = true) := line_one heN0
  have HQ : Hid (q < 999980) := hq
  have HN2 : Hid (n2 < 1000000) := hn2
  have HNE : Hid (decide ([n, 0, 0, 0] = [n2, 0, 0, 0]) = false) := decide_eq_false (fun e => hne (by simpa using e))
  have HS0 : Hid (isK s0.size = true) := hs0
  have HM : Hid (m < 1000000 ∧ m ≠ 0) := ⟨hm, hm0⟩
  have HF1 : Hid (f1 = upd f tK (1#8 :: wB n2)) := hf1
  have HF2 : Hid (f2 = upd f1 s0 (wB m)) := hf2
  have HG : Hid (Lg w0 w S q f) := h
  clear hLP hLT hLA hLS hLU heN0 hq hn2 hne hs0 hm hm0 hf1 hf2 h
  go_enter Tryd.func31, Tryd.ntmps31
  go_upto_region 1 with (first
    | (refine wpList_boxG 61 rfl (.tmp 0) rfl LP rfl ?_; intro X0 q1 q2 q3; have Q0 : Hid (Row X0 _ LP 61) := q1; have B0 : Hid (Below _ _ X0) := q2; clear q1 q2 q3; simp only [Act.put, List.setIfInBounds_toArray, List.set_cons_zero, List.set_cons_succ])
    | (refine wpList_boxG 33 rfl (.tmp 1) rfl LT rfl ?_; intro X1 q1 q2 q3; have Q1 : Hid (Row X1 _ LT 33) := q1; have B1 : Hid (Below _ _ X1) := q2; clear q1 q2 q3; simp only [Act.put, List.setIfInBounds_toArray, List.set_cons_zero, List.set_cons_succ])
    | (refine wpList_boxG 26 rfl (.tmp 2) rfl LA rfl ?_; intro X2 q1 q2 q3; have Q2 : Hid (Row X2 _ LA 26) := q1; have B2 : Hid (Below _ _ X2) := q2; clear q1 q2 q3; simp only [Act.put, List.setIfInBounds_toArray, List.set_cons_zero, List.set_cons_succ])
    | (refine wpList_boxG 68 rfl (.tmp 3) rfl N0 rfl ?_; intro X3 q1 q2 q3; have Q3 : Hid (Row X3 _ N0 68) := q1; have B3 : Hid (Below _ _ X3) := q2; clear q1 q2 q3; simp only [Act.put, List.setIfInBounds_toArray, List.set_cons_zero, List.set_cons_succ]))
  obtain ⟨b4, hb4⟩ : ∃ b, b = w.heap.size := ⟨_, rfl⟩
  obtain ⟨b5, hb5⟩ : ∃ b, b = X0.heap.size := ⟨_, rfl⟩
  obtain ⟨b6, hb6⟩ : ∃ b, b = X1.heap.size := ⟨_, rfl⟩
  obtain ⟨b7, hb7⟩ : ∃ b, b = X2.heap.size := ⟨_, rfl⟩
  have c00 := B0.out
  have c01 := c00.trans (B1.out.mono c00.size)
  have c02 := c01.trans (B2.out.mono c01.size)
  have c03 := c02.trans (B3.out.mono c02.size)
  have c11 := B1.out
  have c12 := c11.trans (B2.out.mono c11.size)
  have c13 := c12.trans (B3.out.mono c12.size)
  have c22 := B2.out
  have c23 := c22.trans (B3.out.mono c22.size)
  have c33 := B3.out
  have R4 : Hid (Row X3 b4 LP 61) := by rw [hb4]; exact Row.below Q0.out c13 Q0.out.lt
  have HWb4 : Hid (w.heap.size ≤ b4) := by show _ ≤ _; rw [hb4]; exact Nat.le_refl _
  have R5 : Hid (Row X3 b5 LT 33) := by rw [hb5]; exact Row.below Q1.out c23 Q1.out.lt
  have HWb5 : Hid (w.heap.size ≤ b5) := by show _ ≤ _; rw [hb5]; exact c00.size
  have R6 : Hid (Row X3 b6 LA 26) := by rw [hb6]; exact Row.below Q2.out c33 Q2.out.lt
  have HWb6 : Hid (w.heap.size ≤ b6) := by show _ ≤ _; rw [hb6]; exact c01.size
  have R7 : Hid (Row X3 b7 N0 68) := by rw [hb7]; exact Q3.out
  have HWb7 : Hid (w.heap.size ≤ b7) := by show _ ≤ _; rw [hb7]; exact c02.size
  have Nb4b5 : Hid (b4 ≠ b5) := by show _ ≠ _; have := Q0.out.lt; rw [hb4, hb5]; omega
  have Nb4b6 : Hid (b4 ≠ b6) := by show _ ≠ _; have := Q0.out.lt; rw [hb4, hb6]; have := c11.size; omega
  have Nb4b7 : Hid (b4 ≠ b7) := by show _ ≠ _; have := Q0.out.lt; rw [hb4, hb7]; have := c12.size; omega
  have Nb5b6 : Hid (b5 ≠ b6) := by show _ ≠ _; have := Q1.out.lt; rw [hb5, hb6]; omega
  have Nb5b7 : Hid (b5 ≠ b7) := by show _ ≠ _; have := Q1.out.lt; rw [hb5, hb7]; have := c22.size; omega
  have Nb6b7 : Hid (b6 ≠ b7) := by show _ ≠ _; have := Q2.out.lt; rw [hb6, hb7]; omega
  have BX : Hid (Below w.heap.size w X3) := c03
  rw [← hb4, ← hb5, ← hb6, ← hb7]
  clear hb4 hb5 hb6 hb7 c00 c01 c02 c03 c11 c12 c13 c22 c23 c33 Q0 B0 Q1 B1 Q2 B2 Q3 B3
  have RT2 : Hid (X3.rangeAt b5 2 LS) := by show World.rangeAt _ _ _ _; rw [HLSE.out]; exact tok_am HLTE.out R5.out
  have RA6 : Hid (X3.rangeAt b6 0 LA) := R6.out.all
  have HTH : Hid (X3.there b5 2 LA.toArray.size) := R5.out.there 2 _ (by rw [List.size_toArray, HLAN.out, HLTN.out]; decide)
  obtain ⟨Z, hZ⟩ : ∃ Z, Z = X3.setCells b5 2 LA := ⟨_, rfl⟩
  have HZ : Hid (Z = _) := hZ
  have S4 : Hid (Z.rangeAt b4 0 LP) := by rw [hZ]; exact (Row.setCells_other R4.out _ _ _ Nb4b5.out).all
  have T4 : Hid (Row Z b4 LP 61) := by rw [hZ]; exact Row.setCells_other R4.out _ _ _ Nb4b5.out
  have S5 : Hid (Z.rangeAt b5 0 LU) := by rw [hZ]; exact (tok_set HLTE.out HLUE.out HLAE.out R5.out).all
  have T7 : Hid (Row Z b7 N0 68) := by rw [hZ]; exact Row.setCells_other R7.out _ _ _ (Ne.symm Nb5b7.out)
  have BZ : Hid (Below w.heap.size w Z) := by rw [hZ]; exact below_setCells BX.out HWb5.out _
  clear hZ
  go_upto_region 4 with (first
    | (refine wpList_load_w rfl 26 (.tmp 10) rfl b5 2 rfl LS _ RT2.out Tryd.underlying26 rfl HLSI.out ?_; simp only [Act.put, List.setIfInBounds_toArray, List.set_cons_zero, List.set_cons_succ])
    | (refine wpList_load_w rfl 26 (.tmp 6) rfl b6 0 rfl LA _ RA6.out Tryd.underlying26 rfl HLAI.out ?_; simp only [Act.put, List.setIfInBounds_toArray, List.set_cons_zero, List.set_cons_succ])
    | (refine wpList_eqlWd rfl (.tmp 11) (.tmp 12) _ rfl n n2 LS LA HLSE.out HLAE.out rfl rfl false HNE.out ?_; simp only [Act.put, List.setIfInBounds_toArray, List.set_cons_zero, List.set_cons_succ])
    | (refine wpList_store_mid rfl 26 (.tmp 15) (.tmp 14) rfl b5 2 LA.toArray rfl rfl HTH.out HLAJ.out HLAO.out ?_; simp only [Act.put]; change wpList _ _ _ _ _ (World.setCells X3 b5 2 LA); rw [← HZ.out]))
  clear R4 R5 R6 R7 RT2 RA6 HTH HZ BX
  go_wp2_with (first
    | (refine wpList_load_w rfl 61 (.tmp 4) rfl b4 0 rfl LP _ S4.out Tryd.underlying61 rfl HPI.out ?_; simp only [Act.put, List.setIfInBounds_toArray, List.set_cons_zero, List.set_cons_succ])
    | (refine wpList_load_w rfl 33 (.tmp 5) rfl b5 0 rfl LU _ S5.out Tryd.underlying33 rfl HLUI.out ?_; simp only [Act.put, List.setIfInBounds_toArray, List.set_cons_zero, List.set_cons_succ]))
  refine Calls.mono (layT w0 S q f f1 (by have := HQ.out; omega) n2 HN2.out LP LU HPE.out HLUE.out HF1.out Z (HG.out.be BZ.out)) ?_
  rintro e V ⟨rfl, hG, hK⟩
  replace HG : Hid (Lg w0 V S (q + 1) f1) := hG
  have HK : Hid (Kp w V) := (Kp.of_below BZ.out).trans hK
  replace S4 : Hid (V.rangeAt b4 0 LP) := (hK.row _ _ _ (by decide) T4.out).all
  have S7 : Hid (V.rangeAt b7 0 N0) := (hK.row _ _ _ (by decide) T7.out).all
  clear hG hK S5 T4 T7 BZ
  go_wp2_with (first
    | (refine wpList_load_w rfl 61 (.tmp 4) rfl b4 0 rfl LP _ S4.out Tryd.underlying61 rfl HPI.out ?_; simp only [Act.put, List.setIfInBounds_toArray, List.set_cons_zero, List.set_cons_succ])
    | (refine wpList_load_w rfl 68 (.tmp 7) rfl b7 0 rfl N0 _ S7.out Tryd.underlying68 rfl HIN0.out ?_; simp only [Act.put, List.setIfInBounds_toArray, List.set_cons_zero, List.set_cons_succ])
    | (refine wpList_buildL1 rfl (.tmp 23) rfl N0 HNN0.out rfl ?_; intro V2 q1 q2; have RL : Hid (Row V2 V.heap.size N0 68) := q1; have BL : Hid (Below V.heap.size V V2) := q2; clear q1 q2; simp only [Act.put, List.setIfInBounds_toArray, List.set_cons_zero, List.set_cons_succ]))
  refine Calls.mono (layL1 w0 S (q + 1) f1 f2 (by have := HQ.out; omega) s0 HS0.out m HM.out.1 HM.out.2 N0 HEN0.out HF2.out V.heap.size N0 rfl LP HPE.out V2 RL.out (HG.out.be BL.out)) ?_
  rintro e V3 ⟨rfl, hG, hK⟩
  have HG3 : Hid (Lg w0 V3 S (q + 1 + 1) f2) := hG
  have HK3 : Hid (Kp w V3) := (HK.out.trans (Kp.of_below BL.out)).trans hK
  clear hG hK
  go_wp2_with fail
  go_ret
  exact ⟨rfl, HG3.out, HK3.out⟩
set_option maxRecDepth 100000 in
set_option maxHeartbeats 4000000 in
theorem balance_ok (w0 : World) (S q : Nat) (f : ByteArray → List (BitVec 8)) (hq : q < 999980) (who : List (BitVec 8)) (h1 : who.length = 20) (a : Nat) (hA : (∀ q' W, q' < 1000000 → Lg w0 W S q' f → Calls Tryd.prog 35 #[.agg #[.pointer (some ⟨S, 0, none⟩), .int .u8 5], .string (bK who)] W fun e w' => e = .returned (.tuple #[.agg (sm (a : Int)), .int .i64 0]) ∧ Lg w0 w' S (q' + 1) f ∧ Kp W w')) (LA : List Value) (hLA : LA = [.int .u64 (a : Int), .int .u64 0, .int .u64 0, .int .u64 0]) (w : World) (h : Lg w0 w S q f) :
    Calls Tryd.prog 11 #[.pointer (some ⟨S, 0, none⟩), .int .i64 5, .agg (vB who).toArray] w fun e w' => e = .returned (.tuple #[.agg LA.toArray, .int .i64 0]) ∧ Lg w0 w' S (q + 1) f ∧ Kp w w' := by
  obtain ⟨LP, hLP⟩ : ∃ L : List Value, L = [.pointer (some ⟨S, 0, none⟩), .int .u8 5] := ⟨_, rfl⟩
  have HPE : Hid (LP = [.pointer (some ⟨S, 0, none⟩), .int .u8 5]) := hLP
  have HPI : Hid ((Tryd.prog.info? 61).map (·.size) = some LP.length) := by show _ = _; rw [hLP]; exact info_pg
  have HPN : Hid (LP.length = zP.length) := by show _ = _; rw [hLP]; rfl
  have HPO : Hid (LP.toArray.all (·.oneCell') = true) := pg_one hLP
  have HLAE : Hid (LA = [.int .u64 (a : Int), .int .u64 0, .int .u64 0, .int .u64 0]) := hLA
  have HLAI : Hid ((Tryd.prog.info? 26).map (·.size) = some LA.length) := by show _ = _; rw [hLA]; exact info_w4l
  have HLAJ : Hid ((Tryd.prog.info? 26).map (·.size) = some LA.toArray.size) := by show _ = _; rw [List.size_toArray, hLA]; exact info_w4l
  have HLAN : Hid (LA.length = zW.length) := by show _ = _; rw [hLA]; rfl
  have HLAO : Hid (LA.toArray.all (·.oneCell') = true) := by show _ = true; rw [hLA, ← Array.all_toList]; rfl
  have Hwho : Hid (who.length = 20) := h1
  have HIw : Hid ((Tryd.prog.info? 23).map (·.size) = some (vB who).length) := info_adr h1
  have HQ : Hid (q < 999980) := hq
  have HAA : Hid _ := hA
  have HG : Hid (Lg w0 w S q f) := h
  have HW0 : Hid (w0.heap.size ≤ w.heap.size) := h.bel.size
  have HOP : Hid (∀ W, Calls Tryd.prog 34 #[.pointer (some ⟨S, 0, none⟩), .int .i64 5] W fun e w' => e = .returned (.tuple #[.agg LP.toArray, .int .i64 0]) ∧ Below W.heap.size W w') := fun W => by rw [hLP]; exact open_5 S W
  clear hLP hLA h1 hq hA h
  go_enter Tryd.func11, Tryd.ntmps11
  go_wp2_with (first
    | (refine wpList_boxG 23 rfl (.tmp 2) rfl (vB who) rfl ?_; intro X0 q1 q2 q3; have Q0 : Hid (Row X0 _ (vB who) 23) := q1; have B0 : Hid (Below _ _ X0) := q2; clear q1 q2 q3; simp only [Act.put, List.setIfInBounds_toArray, List.set_cons_zero, List.set_cons_succ])
    | (refine wpList_allocW rfl rfl ?_; intro X1 q1 q2 q3; have Q1 : Hid (Row X1 _ zW 26) := q1; have B1 : Hid (Below _ _ X1) := q2; clear q1 q2 q3; simp only [Act.put, List.setIfInBounds_toArray, List.set_cons_zero, List.set_cons_succ]))
  obtain ⟨b5, hb5⟩ : ∃ b, b = w.heap.size := ⟨_, rfl⟩
  obtain ⟨b6, hb6⟩ : ∃ b, b = X0.heap.size := ⟨_, rfl⟩
  have bX := B0.out.trans (B1.out.mono B0.out.size)
  have R5 : Hid (Row X1 b5 (vB who) 23) := by rw [hb5]; exact Row.below Q0.out B1.out Q0.out.lt
  have R6 : Hid (Row X1 b6 zW 26) := by rw [hb6]; exact Q1.out
  have HW6 : Hid (w.heap.size ≤ b6) := by show _ ≤ _; rw [hb6]; exact B0.out.size
  have N56 : Hid (b5 ≠ b6) := by show _ ≠ _; have := Q0.out.lt; rw [hb5, hb6]; omega
  rw [← hb5, ← hb6]
  replace HG : Hid (Lg w0 X1 S q f) := HG.out.be bX
  have HK : Hid (Kp w X1) := Kp.of_below bX
  clear hb5 hb6 bX Q0 Q1 B0 B1
  refine Calls.mono (HOP.out X1) ?_
  rintro e V ⟨rfl, hB⟩
  replace R5 : Hid (Row V b5 (vB who) 23) := Row.below R5.out hB R5.out.lt
  replace R6 : Hid (Row V b6 zW 26) := Row.below R6.out hB R6.out.lt
  replace HG : Hid (Lg w0 V S q f) := HG.out.be hB
  replace HK : Hid (Kp w V) := HK.out.trans (Kp.of_below hB)
  obtain ⟨b8, hb8⟩ : ∃ b, b = V.heap.size := ⟨_, rfl⟩
  have HB8 : Hid (b8 = V.heap.size) := hb8
  clear hB hb8
  go_upto_region 2 with (first
    | (refine wpList_allocP rfl rfl ?_; intro X8 q1 q2 q3; have Q8 : Hid (Row X8 _ zP 61) := q1; have B8 : Hid (Below _ _ X8) := q2; clear q1 q2 q3; simp only [Act.put, List.setIfInBounds_toArray, List.set_cons_zero, List.set_cons_succ])
    | (refine wpList_storeL rfl 61 (.tmp 8) (.tmp 14) rfl V.heap.size LP zP 61 rfl rfl Q8.out HPN.out HPI.out HPO.out ?_; intro Y8 q1 q2; have HY8 : Hid (Y8 = _) := q1; have RY8 : Hid (Row Y8 V.heap.size LP 61) := q2; clear q1 q2; simp only [Act.put]))
  rw [← HB8.out] at RY8 HY8
  rw [← HB8.out]
  have c8 : Below V.heap.size V Y8 := by rw [HY8.out]; exact below_setCells B8.out (by rw [HB8.out]; exact Nat.le_refl _) _
  have n58 : b5 ≠ b8 := by have := R5.out.lt; rw [HB8.out]; omega
  have n68 : b6 ≠ b8 := by have := R6.out.lt; rw [HB8.out]; omega
  have N58 : Hid (b5 ≠ b8) := n58
  have N68 : Hid (b6 ≠ b8) := n68
  replace R5 : Hid (Row Y8 b5 (vB who) 23) := Row.below R5.out c8 R5.out.lt
  replace R6 : Hid (Row Y8 b6 zW 26) := Row.below R6.out c8 R6.out.lt
  have R8 : Hid (Row Y8 b8 LP 61) := RY8.out
  replace HG : Hid (Lg w0 Y8 S q f) := HG.out.be c8
  replace HK : Hid (Kp w Y8) := HK.out.trans (Kp.of_below c8)
  clear c8 n58 n68 RY8 HY8 B8 Q8 HB8
  go_upto_region 4 with fail
  have rp := R8.out
  have r5 := R5.out
  have r6 := R6.out
  have hG := HG.out
  have hK := HK.out
  have hw0 : w0.heap.size ≤ Y8.heap.size := hG.bel.size
  have hwf : w.heap.size ≤ Y8.heap.size := hK.size
  have hwp := HW6.out
  have hwq : w0.heap.size ≤ b6 := Nat.le_trans HW0.out HW6.out
  have n56 := N56.out
  have n58 := N58.out
  have n68 := N68.out
  have hb1 := Below.refl Y8.heap.size Y8
  clear R5 R6 R8 HG HK
  refine wp_named fun a0 ha0 => ?_
  have hsz : a0.tmps.size = 27 := by rw [ha0]; rfl
  have zs5 : a0.eval (.tmp 5) = .pointer (some ⟨b5, 0, none⟩) := by rw [ha0]; rfl
  have zs6 : a0.eval (.tmp 6) = .pointer (some ⟨b6, 0, none⟩) := by rw [ha0]; rfl
  have zs8 : a0.eval (.tmp 8) = .pointer (some ⟨b8, 0, none⟩) := by rw [ha0]; rfl
  have lt_rp : b8 < Y8.heap.size := rp.lt
  have lt_r5 : b5 < Y8.heap.size := r5.lt
  have lt_r6 : b6 < Y8.heap.size := r6.lt
  obtain ⟨D, hD⟩ : ∃ D : List (Tmp × SP), D = [(20, SP.is (.agg LP.toArray)), (21, SP.is (.agg LP.toArray)), (22, SP.is (.agg (vB who).toArray)), (23, SP.is (.string (bK who))), (24, SP.is (.tuple #[.agg LA.toArray, .int .i64 0])), (25, SP.is (.agg LA.toArray)), (26, SP.is (.int .i64 0)), (1000, SP.any), (7, SP.is (.int .i64 0))] := ⟨_, rfl⟩
  refine wp_region_then (by kernel_rfl) 4 (by decide) (by kernel_rfl) (fun listed ac W => Fp D a0 listed ac W ∧ Below Y8.heap.size Y8 W ∧ Row W b8 LP 61 ∧ Row W b5 ((vB who)) 23 ∧ Row W b6 zW 26 ∧ Lg w0 W S (q) f ∧ Kp w W) (fun listed ac W => Fp D a0 listed ac W ∧ Y8.heap.size ≤ W.heap.size ∧ Row W b8 LP 61 ∧ Row W b5 ((vB who)) 23 ∧ Row W b6 (if listed.getD 7 false = true then LA else zW) 26 ∧ Lg w0 W S (q + 1) f ∧ Kp w W) ?_ ?_ ?_ ?_ ?_
  · exact ⟨Fp.start D a0 _ _, Below.drew hb1, Row.drew rp, Row.drew r5, Row.drew r6, hG.below (Below.drew (Below.refl _ _)), hK.below (Below.drew (Below.refl _ _))⟩
  · clear ha0 hb1 rp r5 r6 hG hK
    intro listed ac W k hl hI hdn hk hne hnl
    replace hl : listed.size = 9 := hl
    obtain ⟨hF, hb1, rp, r5, r6, hG, hK⟩ := hI
    have hk1 : k < 9 := List.mem_range.1 (List.mem_filter.1 hk).1
    rcases (show k = 0 ∨ k = 1 ∨ k = 2 ∨ k = 3 ∨ k = 4 ∨ k = 5 ∨ k = 6 ∨ k = 7 ∨ k = 8 by omega) with rfl | rfl | rfl | rfl | rfl | rfl | rfl | rfl | rfl
    · have hk3 := hk
      exact wpOp_plain rfl rfl (wp_load_mid 61 (.tmp 8) rfl b8 0 ((hF.keep 8 (by rw [hD]; rfl)).trans zs8) LP _ rp.all Tryd.underlying61 rfl HPI.out ⟨(hF.put 0 20 (SP.is (.agg LP.toArray)) (.agg LP.toArray) (by rw [hD]; rfl) rfl (by rw [hD]; rfl) (by rw [hsz]; decide) (by rw [hl]; decide)), hb1, rp, r5, r6, hG, hK⟩)
    · have hk3 := hk
      exact wpOp_plain rfl rfl (wp_load_mid 61 (.tmp 8) rfl b8 0 ((hF.keep 8 (by rw [hD]; rfl)).trans zs8) LP _ rp.all Tryd.underlying61 rfl HPI.out ⟨(hF.put 1 21 (SP.is (.agg LP.toArray)) (.agg LP.toArray) (by rw [hD]; rfl) rfl (by rw [hD]; rfl) (by rw [hsz]; decide) (by rw [hl]; decide)), hb1, rp, r5, r6, hG, hK⟩)
    · have hk3 := hk
      exact wpOp_plain rfl rfl (wp_load_mid 23 (.tmp 5) rfl b5 0 ((hF.keep 5 (by rw [hD]; rfl)).trans zs5) ((vB who)) _ r5.all Tryd.underlying23 rfl HIw.out ⟨(hF.put 2 22 (SP.is (.agg (vB who).toArray)) (.agg (vB who).toArray) (by rw [hD]; rfl) rfl (by rw [hD]; rfl) (by rw [hsz]; decide) (by rw [hl]; decide)), hb1, rp, r5, r6, hG, hK⟩)
    · have hk3 := hk
      have ea1 := (hF.done 1 (21, SP.is (.agg LP.toArray)) (by rw [hD]; rfl) (ready_dep hk 1 (by kernel_rfl)))
      have ea2 := (hF.done 2 (22, SP.is (.agg (vB who).toArray)) (by rw [hD]; rfl) (ready_dep hk 2 (by kernel_rfl)))
      refine wpOp_plain rfl rfl (wp_fcall_v 30 #[.agg LP.toArray, .agg (vB who).toArray] rfl rfl (by show [ac.eval (.tmp 21), ac.eval (.tmp 22)] = _; rw [show ac.eval (.tmp 21) = .agg LP.toArray from ea1, show ac.eval (.tmp 22) = .agg (vB who).toArray from ea2]) (by go_simp) (((show Calls Tryd.prog 30 #[.agg LP.toArray, .agg (vB who).toArray] W _ by rw [HPE.out]; exact bkey S who Hwho.out W)).mono ?_))
      rintro e W2 ⟨rfl, hB⟩
      exact ⟨_, rfl, ((hF.world hB).put 3 23 (SP.is (.string (bK who))) (.string (bK who)) (by rw [hD]; rfl) rfl (by rw [hD]; rfl) (by rw [hsz]; decide) (by rw [hl]; decide)), hb1.trans (hB.mono hb1.size), Row.below rp hB (Row.lt rp), Row.below r5 hB (Row.lt r5), Row.below r6 hB (Row.lt r6), hG.below hB, hK.below hB⟩
    · exact absurd rfl hne
    · exact absurd (ready_dep hk 4 (by kernel_rfl)) hnl
    · exact absurd (ready_dep hk 4 (by kernel_rfl)) hnl
    · exact absurd (hdn 5 (ready_dep hk 5 (by kernel_rfl)) 4 (by kernel_rfl)) hnl
    · exact absurd (hdn 6 (ready_dep hk 6 (by kernel_rfl)) 4 (by kernel_rfl)) hnl
  · clear ha0 hb1 rp r5 r6 hG hK
    intro listed ac W hl hI hdn hk
    replace hl : listed.size = 9 := hl
    obtain ⟨hF, hb1, rp, r5, r6, hG, hK⟩ := hI
    have eb1 := (hF.done 0 (20, SP.is (.agg LP.toArray)) (by rw [hD]; rfl) (ready_dep hk 0 (by kernel_rfl)))
    have eb2 := (hF.done 3 (23, SP.is (.string (bK who))) (by rw [hD]; rfl) (ready_dep hk 3 (by kernel_rfl)))
    have hns7 : ¬ listed.getD 7 false = true := fun h => not_yet hk (hdn 5 (hdn 7 h 5 (by kernel_rfl)) 4 (by kernel_rfl))
    refine wpOp_plain rfl rfl (wp_fcall_v 35 #[.agg LP.toArray, .string (bK who)] rfl rfl (by show [ac.eval (.tmp 20), ac.eval (.tmp 23)] = _; rw [show ac.eval (.tmp 20) = .agg LP.toArray from eb1, show ac.eval (.tmp 23) = .string (bK who) from eb2]) (by go_simp) (((show Calls Tryd.prog 35 #[.agg LP.toArray, .string (bK who)] W fun e w' => e = .returned (.tuple #[.agg LA.toArray, .int .i64 0]) ∧ Lg w0 w' S (q + 1) f ∧ Kp W w' by rw [HPE.out, HLAE.out]; exact HAA.out q W (by have := HQ.out; omega) hG)).mono ?_))
    rintro e W2 ⟨rfl, hG2, hK2⟩
    have hT : Fp D a0 listed ac W2 := hF.turn (by rw [hD]; simp only [List.forall_mem_cons, List.not_mem_nil, false_implies, implies_true, and_true]; exact ⟨fun _ h => h, fun _ h => h, fun _ h => h, fun _ h => h, fun _ h => h, fun _ h => h, fun _ h => h, fun _ h => h, fun _ h => h⟩)
    exact ⟨_, rfl, (hT.put 4 24 (SP.is (.tuple #[.agg LA.toArray, .int .i64 0])) (_) (by rw [hD]; rfl) rfl (by rw [hD]; rfl) (by rw [hsz]; decide) (by rw [hl]; decide)), Nat.le_trans hb1.size hK2.size, hK2.row _ _ _ (by decide) rp, hK2.row _ _ _ (by decide) r5, (by rw [getD_set _ _ _ (by decide), if_neg hns7]; exact hK2.row _ _ _ (by decide) r6), hG2, hK.trans hK2⟩
  · clear ha0 hb1 rp r5 r6 hG hK
    intro listed ac W k hl hJ hdn hk hne hyl
    replace hl : listed.size = 9 := hl
    obtain ⟨hF, hS, rp, r5, r6, hG, hK⟩ := hJ
    have hk1 : k < 9 := List.mem_range.1 (List.mem_filter.1 hk).1
    rcases (show k = 0 ∨ k = 1 ∨ k = 2 ∨ k = 3 ∨ k = 4 ∨ k = 5 ∨ k = 6 ∨ k = 7 ∨ k = 8 by omega) with rfl | rfl | rfl | rfl | rfl | rfl | rfl | rfl | rfl
    · exact absurd (hdn 4 hyl 0 (by kernel_rfl)) (not_yet hk)
    · exact absurd (hdn 3 (hdn 4 hyl 3 (by kernel_rfl)) 1 (by kernel_rfl)) (not_yet hk)
    · exact absurd (hdn 3 (hdn 4 hyl 3 (by kernel_rfl)) 2 (by kernel_rfl)) (not_yet hk)
    · exact absurd (hdn 4 hyl 3 (by kernel_rfl)) (not_yet hk)
    · exact absurd rfl hne
    · have hk3 := hk
      exact wpOp_plain rfl rfl (wp_extract (.tmp 24) 0 rfl _ (hF.done 4 (24, SP.is (.tuple #[.agg LA.toArray, .int .i64 0])) (by rw [hD]; rfl) (ready_dep hk 4 (by kernel_rfl))) (.agg LA.toArray) rfl ⟨(hF.put 5 25 (SP.is (.agg LA.toArray)) (.agg LA.toArray) (by rw [hD]; rfl) rfl (by rw [hD]; rfl) (by rw [hsz]; decide) (by rw [hl]; decide)), hS, rp, r5, (by rw [getD_set _ _ _ (by decide)]; exact r6), hG, hK⟩)
    · have hk3 := hk
      exact wpOp_plain rfl rfl (wp_extract (.tmp 24) 1 rfl _ (hF.done 4 (24, SP.is (.tuple #[.agg LA.toArray, .int .i64 0])) (by rw [hD]; rfl) (ready_dep hk 4 (by kernel_rfl))) (.int .i64 0) rfl ⟨(hF.put 6 26 (SP.is (.int .i64 0)) (.int .i64 0) (by rw [hD]; rfl) rfl (by rw [hD]; rfl) (by rw [hsz]; decide) (by rw [hl]; decide)), hS, rp, r5, (by rw [getD_set _ _ _ (by decide)]; exact r6), hG, hK⟩)
    · have hk3 := hk
      rw [if_neg (not_yet hk)] at r6
      have hT : Fp D a0 listed ac (W.setCells b6 0 LA) := hF.turn (by rw [hD]; simp only [List.forall_mem_cons, List.not_mem_nil, false_implies, implies_true, and_true]; exact ⟨fun _ h => h, fun _ h => h, fun _ h => h, fun _ h => h, fun _ h => h, fun _ h => h, fun _ h => h, fun _ h => h, fun _ h => h⟩)
      exact wpOp_plain rfl rfl (wp_store_mid 26 (.tmp 6) (.tmp 25) rfl b6 0 LA.toArray ((hF.keep 6 (by rw [hD]; rfl)).trans zs6) (hF.done 5 (25, SP.is (.agg LA.toArray)) (by rw [hD]; rfl) (ready_dep hk 5 (by kernel_rfl))) (r6.there 0 _ (by rw [List.size_toArray, HLAN.out]; decide)) HLAJ.out HLAO.out ⟨(hT.skip 7 1000 (by rw [hD]; rfl) (by rw [hl]; decide)), (by rw [size_setCells]; exact hS), Row.setCells_other rp _ _ _ (by omega), Row.setCells_other r5 _ _ _ (by omega), (by rw [if_pos (getD_same (by rw [hl]; decide))]; exact r6.over HLAN.out), hG.kept r6 (by decide) (by decide) (by decide) (by decide) (fun k hk => heap_sets _ _ _ _ _ hk) (below_setCells hG.bel hwq _), Kp.kept b6 hwp hK (fun k hk => heap_sets _ _ _ _ _ hk) (below_setCells (Below.refl 0 _) (Nat.zero_le _) _).size⟩)
    · have hk3 := hk
      exact wpOp_plain rfl rfl (wp_assign_v (ac.eval (.tmp 26)) rfl rfl ⟨(hF.put 8 7 (SP.is (.int .i64 0)) (ac.eval (.tmp 26)) (by rw [hD]; rfl) ((hF.done 6 (26, SP.is (.int .i64 0)) (by rw [hD]; rfl) (ready_dep hk 6 (by kernel_rfl)))) (by rw [hD]; rfl) (by rw [hsz]; decide) (by rw [hl]; decide)), hS, rp, r5, (by rw [getD_set _ _ _ (by decide)]; exact r6), hG, hK⟩)
  · clear hb1 rp r5 r6 hG hK
    intro listed ac W hl hJ hr
    replace hl : listed.size = 9 := hl
    obtain ⟨hF, hS, rp, r5, r6, hG, hK⟩ := hJ
    have hall := all_listed (by kernel_rfl) hl hr
    rw [if_pos (hall 7 (by decide))] at r6
    have h20 : ac.eval (.tmp 20) = .agg LP.toArray := hF.done 0 (20, SP.is (.agg LP.toArray)) (by rw [hD]; rfl) (hall 0 (by decide))
    have h21 : ac.eval (.tmp 21) = .agg LP.toArray := hF.done 1 (21, SP.is (.agg LP.toArray)) (by rw [hD]; rfl) (hall 1 (by decide))
    have h22 : ac.eval (.tmp 22) = .agg (vB who).toArray := hF.done 2 (22, SP.is (.agg (vB who).toArray)) (by rw [hD]; rfl) (hall 2 (by decide))
    have h23 : ac.eval (.tmp 23) = .string (bK who) := hF.done 3 (23, SP.is (.string (bK who))) (by rw [hD]; rfl) (hall 3 (by decide))
    have h24 : ac.eval (.tmp 24) = .tuple #[.agg LA.toArray, .int .i64 0] := hF.done 4 (24, SP.is (.tuple #[.agg LA.toArray, .int .i64 0])) (by rw [hD]; rfl) (hall 4 (by decide))
    have h25 : ac.eval (.tmp 25) = .agg LA.toArray := hF.done 5 (25, SP.is (.agg LA.toArray)) (by rw [hD]; rfl) (hall 5 (by decide))
    have h26 : ac.eval (.tmp 26) = .int .i64 0 := hF.done 6 (26, SP.is (.int .i64 0)) (by rw [hD]; rfl) (hall 6 (by decide))
    have h7 : ac.eval (.tmp 7) = .int .i64 0 := hF.done 8 (7, SP.is (.int .i64 0)) (by rw [hD]; rfl) (hall 8 (by decide))
    have ea := hF.lay [(20, .agg LP.toArray), (21, .agg LP.toArray), (22, .agg (vB who).toArray), (23, .string (bK who)), (24, .tuple #[.agg LA.toArray, .int .i64 0]), (25, .agg LA.toArray), (26, .int .i64 0), (7, .int .i64 0)] (by rw [hD, hsz]; rfl) (by simp only [List.forall_mem_cons, List.not_mem_nil, false_implies, implies_true, and_true]; exact ⟨h20, h21, h22, h23, h24, h25, h26, h7⟩)
    rw [ha0] at ea
    simp only [List.foldl_cons, List.foldl_nil, List.setIfInBounds_toArray, List.set_cons_zero, List.set_cons_succ] at ea
    clear hF hall hr hl hD zs5 zs6 zs8 ha0 hsz h20 h21 h22 h23 h24 h25 h26 h7  lt_rp lt_r5 lt_r6
    subst ea
    have HG : Hid (Lg w0 W S (q + 1) f) := hG
    have HK : Hid (Kp w W) := hK
    have F6 : Hid (Row W b6 LA 26) := r6
    clear hG hK rp r5 r6 hS hw0 hwf hwp hwq n56 n58 n68
    go_wp2_with fail
    exact bodyPost_ret (results_rowA_tmp Tryd.results11 _ _ b6 26 LA (.int .i64 0) rfl rfl F6.out Tryd.underlying26 HLAI.out) rfl ⟨rfl, HG.out, HK.out⟩

end Go.Proofs.YtojmhmnpidhfjaaDoor
