/-
  the law LedgerGives: nothing is moved.
-/
import Derived.Test.YtelioddogdcdoaaDoorLhN
namespace Go.Proofs.YtelioddogdcdoaaDoor
open Go Go.RowKit Go.Maps
open Sha
open Wd

set_option maxRecDepth 100000 in
set_option maxHeartbeats 4000000 in
theorem giv_zs (cs : List Value) (hcl : cs.length = 10) (z0 : Int) (h1 : -9223372036854775808 ≤ z0) (h2 : z0 ≤ 9223372036854775807) (hc0 : cs[0]? = some (.int .i64 z0)) (g o n cap : Nat) (hn : 3 ≤ n) (hc1 : cs[1]? = some (.slice (some ⟨g, o, none⟩) n cap)) (a b : Nat) (ha : a < 2 ^ 256) (hb : b < 2 ^ 256) (hcA : (cs.drop 2).take 4 = wq a) (hcB : (cs.drop 6).take 4 = wq b) (x y z : List (BitVec 8)) (hx : x.length = 20) (hy : y.length = 20) (hz : z.length = 20) (hab : b ≤ a) (hb0 : b = 0) (hxy : x = y) (w : World) (hX : w.rangeAt g o (vB x)) (hY : w.rangeAt g (o + 20) (vB y)) (hZ : w.rangeAt g (o + 40) (vB z)) :
    Calls Tryd.prog 3 #[.agg cs.toArray] w fun e w' => e = .returned (.bool true) ∧ Below w.heap.size w w' := by
  obtain ⟨t, ht, hpk⟩ := pk_nat z0
  have HP : Hid (∀ W, Calls Tryd.prog 6 #[.int .i64 z0, .int .i64 64] W fun e w' => e = .returned (.int .i64 (t : Int)) ∧ w' = W) := fun W => by rw [← hpk]; exact pick8 z0 64 (by decide) h1 h2 (by decide) W
  have HC0 : Hid (cs[0]? = some (.int .i64 z0)) := hc0
  have HC1 : Hid (cs[1]? = some (.slice (some ⟨g, o, none⟩) n cap)) := hc1
  obtain ⟨LA, hLA⟩ : ∃ L : List Value, L = wq a := ⟨_, rfl⟩
  obtain ⟨LB, hLB⟩ : ∃ L : List Value, L = wq b := ⟨_, rfl⟩
  have HLAE : Hid (LA = wq a) := hLA
  have HLAI : Hid ((Tryd.prog.info? 25).map (·.size) = some LA.length) := by show _ = _; rw [hLA]; exact info_wq _
  have HLAJ : Hid ((Tryd.prog.info? 25).map (·.size) = some LA.toArray.size) := by show _ = _; rw [List.size_toArray, hLA]; exact info_wq _
  have HLAN : Hid (LA.length = zW.length) := by show _ = _; rw [hLA]; exact wq_len _
  have HLAO : Hid (LA.toArray.all (·.oneCell') = true) := by show _ = true; rw [hLA]; exact wq_one _
  have HLBE : Hid (LB = wq b) := hLB
  have HLBI : Hid ((Tryd.prog.info? 25).map (·.size) = some LB.length) := by show _ = _; rw [hLB]; exact info_wq _
  have HLBJ : Hid ((Tryd.prog.info? 25).map (·.size) = some LB.toArray.size) := by show _ = _; rw [List.size_toArray, hLB]; exact info_wq _
  have HLBN : Hid (LB.length = zW.length) := by show _ = _; rw [hLB]; exact wq_len _
  have HLBO : Hid (LB.toArray.all (·.oneCell') = true) := by show _ = true; rw [hLB]; exact wq_one _
  have HCA : Hid ((cs.drop 2).take 4 = LA) := by show _ = _; rw [hLA]; exact hcA
  have HCB : Hid ((cs.drop 6).take 4 = LB) := by show _ = _; rw [hLB]; exact hcB
  have HCI : Hid ((Tryd.prog.info? 27).map (·.size) = some cs.length) := by show _ = _; rw [hcl]; kernel_rfl
  have Hx : Hid (x.length = 20) := hx
  have HxI : Hid ((Tryd.prog.info? 33).map (·.size) = some (vB x).length) := info_adr Hx.out
  have HxN : Hid ((vB x).length = zA.length) := by show _ = _; rw [vB_length, Hx.out]; rfl
  have HxO : Hid ((vB x).toArray.all (·.oneCell') = true) := ad_one
  have Hy : Hid (y.length = 20) := hy
  have HyI : Hid ((Tryd.prog.info? 33).map (·.size) = some (vB y).length) := info_adr Hy.out
  have HyN : Hid ((vB y).length = zA.length) := by show _ = _; rw [vB_length, Hy.out]; rfl
  have HyO : Hid ((vB y).toArray.all (·.oneCell') = true) := ad_one
  have Hz : Hid (z.length = 20) := hz
  have HzI : Hid ((Tryd.prog.info? 33).map (·.size) = some (vB z).length) := info_adr Hz.out
  have HzN : Hid ((vB z).length = zA.length) := by show _ = _; rw [vB_length, Hz.out]; rfl
  have HzO : Hid ((vB z).toArray.all (·.oneCell') = true) := ad_one
  have HX0 : Hid (w.rangeAt g o (vB x)) := hX
  have HY0 : Hid (w.rangeAt g (o + 20) (vB y)) := hY
  have HZ0 : Hid (w.rangeAt g (o + 40) (vB z)) := hZ
  have hn3 : ¬ ((n : Int) < 3) := by omega
  have HN : Hid (3 ≤ n) := hn
  have HAB : Hid (a < 2 ^ 256 ∧ b < 2 ^ 256) := ⟨ha, hb⟩
  obtain ⟨A0, hA0⟩ : ∃ A : List (BitVec 8) → List (BitVec 8) → Nat, A = fun _ _ => 0 := ⟨_, rfl⟩
  obtain ⟨B0, hB0⟩ : ∃ B : List (BitVec 8) → Nat, B = fun _ => 0 := ⟨_, rfl⟩
  obtain ⟨B1, hB1⟩ : ∃ B, B = sB B0 x (B0 x + a) := ⟨_, rfl⟩
  have g0 : ∀ u, B0 u = 0 := fun u => by rw [hB0]
  have g1x : B1 x = a := by rw [hB1, sB_same, g0, Nat.zero_add]
  have KRG : Hid (∀ U S W, Lg U W S 0 (fun _ => []) → Calls Tryd.prog 7 #[.pointer (some ⟨S, 0, none⟩), .int .i64 (t : Int)] W fun e w' => e = .returned (.int .i64 0) ∧ Led U w' S 2 t 0 B0 A0 ∧ Kp W w') := fun U S W hW => by rw [hA0, hB0]; exact regL U S 0 t (by decide) ht W hW
  have KMI : Hid (∀ U S W, Led U W S 2 t 0 B0 A0 → Calls Tryd.prog 8 #[.pointer (some ⟨S, 0, none⟩), .int .i64 (t : Int), .agg (vB x).toArray, .agg LA.toArray] W fun e w' => e = .returned (.int .i64 0) ∧ Led U w' S 6 t a B1 A0 ∧ Kp W w') := fun U S W hW => by have q := mntL U S 2 t 0 B0 A0 (by decide) ht a (by decide) ha x hx (by rw [g0]; decide) (by omega) (by rw [g0]; omega) LA hLA W hW; rw [Nat.zero_add, ← hB1] at q; exact q
  obtain ⟨E, hE⟩ : ∃ E, E = cmpR a b := ⟨_, rfl⟩
  have hE0 : ¬ (E < 0) := by rw [hE]; unfold cmpR; split <;> (try split) <;> omega
  have HCM : Hid (∀ W, Calls Tryd.prog 10 #[.agg LA.toArray, .agg LB.toArray] W fun e w' => e = .returned (.int .i64 E) ∧ Below W.heap.size W w') := fun W => by rw [hLA, hLB, hE]; exact refCmp_any a b ha hb W
  obtain ⟨B2, hB2⟩ : ∃ B, B = mB B1 x y b := ⟨_, rfl⟩
  obtain ⟨B3, hB3⟩ : ∃ B, B = mB B2 y x b := ⟨_, rfl⟩
  obtain ⟨A1, hA1⟩ : ∃ A, A = sA A0 x z b := ⟨_, rfl⟩
  obtain ⟨B5, hB5⟩ : ∃ B, B = mB B3 x y b := ⟨_, rfl⟩
  obtain ⟨A2, hA2⟩ : ∃ A, A = sA A1 x z (A1 x z - b) := ⟨_, rfl⟩
  have a0 : ∀ u v, A0 u v = 0 := fun u v => by rw [hA0]
  have a1 : A1 x z = b := by rw [hA1, sA_same]
  have a2 : A2 x z = 0 := by rw [hA2, sA_same, a1, Nat.sub_self]
  have g1y : B1 y = a := by rw [← hxy]; exact g1x
  have g2 : B2 = B1 := by rw [hB2]; unfold mB; rw [if_pos hxy]
  have g2x : B2 x = a := by rw [g2, g1x]
  have g2y : B2 y = a := by rw [g2, g1y]
  have g3 : B3 = B2 := by rw [hB3]; unfold mB; rw [if_pos hxy.symm]
  have g3x : B3 x = a := by rw [g3, g2x]
  have g3y : B3 y = a := by rw [g3, g2y]
  have g5 : B5 = B3 := by rw [hB5]; unfold mB; rw [if_pos hxy]
  have g5x : B5 x = a := by rw [g5, g3x]
  have g5y : B5 y = a := by rw [g5, g3y]
  obtain ⟨cv, hcv⟩ : ∃ c, c = a := ⟨_, rfl⟩
  obtain ⟨dv, hdv⟩ : ∃ d, d = a := ⟨_, rfl⟩
  have e1 : b ≤ B2 y := by rw [g2y]; exact hab
  have e2 : a - cv = 0 := by omega
  have hcl2 : cv < 2 ^ 256 := by omega
  have hdl : dv < 2 ^ 256 := by omega
  have b5x : B5 x = cv := by rw [g5x, hcv]
  have b5y : B5 y = dv := by rw [g5y, hdv]
  obtain ⟨B6, hB6⟩ : ∃ B, B = sB B5 x (B5 x - cv) := ⟨_, rfl⟩
  obtain ⟨LC, hLC⟩ : ∃ L : List Value, L = wq cv := ⟨_, rfl⟩
  have HLCE : Hid (LC = wq cv) := hLC
  have HLCI : Hid ((Tryd.prog.info? 25).map (·.size) = some LC.length) := by show _ = _; rw [hLC]; exact info_wq _
  have HLCJ : Hid ((Tryd.prog.info? 25).map (·.size) = some LC.toArray.size) := by show _ = _; rw [List.size_toArray, hLC]; exact info_wq _
  have HLCN : Hid (LC.length = zW.length) := by show _ = _; rw [hLC]; exact wq_len _
  have HLCO : Hid (LC.toArray.all (·.oneCell') = true) := by show _ = true; rw [hLC]; exact wq_one _
  obtain ⟨LD, hLD⟩ : ∃ L : List Value, L = wq dv := ⟨_, rfl⟩
  have HLDE : Hid (LD = wq dv) := hLD
  have HLDI : Hid ((Tryd.prog.info? 25).map (·.size) = some LD.length) := by show _ = _; rw [hLD]; exact info_wq _
  have HLDJ : Hid ((Tryd.prog.info? 25).map (·.size) = some LD.toArray.size) := by show _ = _; rw [List.size_toArray, hLD]; exact info_wq _
  have HLDN : Hid (LD.length = zW.length) := by show _ = _; rw [hLD]; exact wq_len _
  have HLDO : Hid (LD.toArray.all (·.oneCell') = true) := by show _ = true; rw [hLD]; exact wq_one _
  obtain ⟨L0, hL0⟩ : ∃ L : List Value, L = wq 0 := ⟨_, rfl⟩
  have HL0E : Hid (L0 = wq 0) := hL0
  have HL0I : Hid ((Tryd.prog.info? 25).map (·.size) = some L0.length) := by show _ = _; rw [hL0]; exact info_wq _
  have HL0J : Hid ((Tryd.prog.info? 25).map (·.size) = some L0.toArray.size) := by show _ = _; rw [List.size_toArray, hL0]; exact info_wq _
  have HL0N : Hid (L0.length = zW.length) := by show _ = _; rw [hL0]; exact wq_len _
  have HL0O : Hid (L0.toArray.all (·.oneCell') = true) := by show _ = true; rw [hL0]; exact wq_one _
  obtain ⟨LT, hLT⟩ : ∃ L : List Value, L = tkl true false 0 := ⟨_, rfl⟩
  have HLTE : Hid (LT = tkl true false 0) := hLT
  have HLTI : Hid ((Tryd.prog.info? 44).map (·.size) = some LT.length) := by show _ = _; rw [hLT]; exact info_tkl _ _ _
  have HLTJ : Hid ((Tryd.prog.info? 44).map (·.size) = some LT.toArray.size) := by show _ = _; rw [List.size_toArray, hLT]; exact info_tkl _ _ _
  have HLTN : Hid (LT.length = zK.length) := by show _ = _; rw [hLT]; exact tkl_len _ _ _
  have HLTO : Hid (LT.toArray.all (·.oneCell') = true) := by show _ = true; rw [hLT]; exact tkl_one _ _ _
  have KM1 : Hid (∀ U S W, Led U W S 6 t a B1 A0 → Calls Tryd.prog 9 #[.pointer (some ⟨S, 0, none⟩), .int .i64 (t : Int), .agg (vB x).toArray, .agg (vB y).toArray, .agg LB.toArray] W fun e w' => e = .returned (.int .i64 0) ∧ Led U w' S 11 t a B2 A0 ∧ Kp W w') := fun U S W hW => by rw [hB2]; exact movL U S 6 t a B1 A0 (by decide) ht ha x y hx hy b hb (by rw [g1x]; exact ha) (by rw [g1y]; omega) (by rw [g1x]; exact hab) (fun q => absurd hxy q) LB hLB W hW
  have KM2 : Hid (∀ U S W, Led U W S 11 t a B2 A0 → Calls Tryd.prog 9 #[.pointer (some ⟨S, 0, none⟩), .int .i64 (t : Int), .agg (vB y).toArray, .agg (vB x).toArray, .agg LB.toArray] W fun e w' => e = .returned (.int .i64 0) ∧ Led U w' S 16 t a B3 A0 ∧ Kp W w') := fun U S W hW => by rw [hB3]; exact movL U S 11 t a B2 A0 (by decide) ht ha y x hy hx b hb (by rw [g2y]; omega) (by rw [g2x]; omega) e1 (fun q => absurd hxy.symm q) LB hLB W hW
  have KB1 : Hid (∀ U S W, Led U W S 16 t a B3 A0 → Calls Tryd.prog 11 #[.pointer (some ⟨S, 0, none⟩), .int .i64 (t : Int), .agg (vB x).toArray] W fun e w' => e = .returned (.tuple #[.agg LA.toArray, .int .i64 0]) ∧ Led U w' S 17 t a B3 A0 ∧ Kp W w') := fun U S W hW => balL U S 16 t a B3 A0 (by decide) ht x hx a g3x ha LA hLA W hW
  have KP1 : Hid (∀ U S W, Led U W S 17 t a B3 A0 → Calls Tryd.prog 12 #[.pointer (some ⟨S, 0, none⟩), .int .i64 (t : Int), .agg (vB z).toArray, .agg (vB x).toArray, .agg (vB y).toArray, .agg LB.toArray] W fun e w' => e = .returned (.int .i64 0) ∧ Led U w' S 24 t a B3 A0 ∧ Kp W w') := fun U S W hW => by
    refine Calls.mono (pulL U S 17 t a B3 A0 (by decide) ht ha z x y hz hx hy b hb (by rw [a0]; decide) (by rw [hb0]; exact Nat.zero_le _) (by rw [g3x]; exact ha) (by rw [g3y]; omega) (by rw [g3x]; exact hab) (fun q => absurd hxy q) LB hLB W hW) ?_
    rintro e w' ⟨r, hL, hK⟩
    exact ⟨r, hL.of (fun u => by rw [hb0]; exact (mB_zero B3 x y u).symm) (fun u v => by rw [hb0, Nat.sub_zero]; exact (sA_id A0 x z u v).symm), hK⟩
  have KAL : Hid (∀ U S W, Led U W S 24 t a B3 A0 → Calls Tryd.prog 13 #[.pointer (some ⟨S, 0, none⟩), .int .i64 (t : Int), .agg (vB x).toArray, .agg (vB z).toArray, .agg LB.toArray] W fun e w' => e = .returned (.int .i64 0) ∧ Led U w' S 26 t a B3 A1 ∧ Kp W w') := fun U S W hW => by rw [hA1]; exact alwL U S 24 t a B3 A0 (by decide) ht ha x z hx hz b hb LB hLB W hW
  have KP2 : Hid (∀ U S W, Led U W S 26 t a B3 A1 → Calls Tryd.prog 12 #[.pointer (some ⟨S, 0, none⟩), .int .i64 (t : Int), .agg (vB z).toArray, .agg (vB x).toArray, .agg (vB y).toArray, .agg LB.toArray] W fun e w' => e = .returned (.int .i64 0) ∧ Led U w' S 33 t a B5 A2 ∧ Kp W w') := fun U S W hW => by rw [hB5, hA2]; exact pulL U S 26 t a B3 A1 (by decide) ht ha z x y hz hx hy b hb (by rw [a1]; exact hb) (by rw [a1]; exact Nat.le_refl _) (by rw [g3x]; exact ha) (by rw [g3y]; omega) (by rw [g3x]; exact hab) (fun q => absurd hxy q) LB hLB W hW
  have KAD : Hid (∀ U S W, Led U W S 33 t a B5 A2 → Calls Tryd.prog 14 #[.pointer (some ⟨S, 0, none⟩), .int .i64 (t : Int), .agg (vB x).toArray, .agg (vB z).toArray] W fun e w' => e = .returned (.tuple #[.agg L0.toArray, .int .i64 0]) ∧ Led U w' S 34 t a B5 A2 ∧ Kp W w') := fun U S W hW => aldL U S 33 t a B5 A2 (by decide) ht x z hx hz 0 a2 (by decide) L0 hL0 W hW
  have KB2 : Hid (∀ U S W, Led U W S 34 t a B5 A2 → Calls Tryd.prog 11 #[.pointer (some ⟨S, 0, none⟩), .int .i64 (t : Int), .agg (vB x).toArray] W fun e w' => e = .returned (.tuple #[.agg LC.toArray, .int .i64 0]) ∧ Led U w' S 35 t a B5 A2 ∧ Kp W w') := fun U S W hW => balL U S 34 t a B5 A2 (by decide) ht x hx cv b5x hcl2 LC hLC W hW
  have KB3 : Hid (∀ U S W, Led U W S 35 t a B5 A2 → Calls Tryd.prog 11 #[.pointer (some ⟨S, 0, none⟩), .int .i64 (t : Int), .agg (vB y).toArray] W fun e w' => e = .returned (.tuple #[.agg LD.toArray, .int .i64 0]) ∧ Led U w' S 36 t a B5 A2 ∧ Kp W w') := fun U S W hW => balL U S 35 t a B5 A2 (by decide) ht y hy dv b5y hdl LD hLD W hW
  have KU1 : Hid (∀ U S W, Led U W S 36 t a B5 A2 → Calls Tryd.prog 15 #[.pointer (some ⟨S, 0, none⟩), .int .i64 (t : Int), .agg (vB x).toArray, .agg LC.toArray] W fun e w' => e = .returned (.int .i64 0) ∧ Led U w' S 40 t 0 B6 A2 ∧ Kp W w') := fun U S W hW => by have q := brnL U S 36 t a B5 A2 (by decide) ht cv ha hcl2 x hx (by rw [b5x]; exact hcl2) (by omega) (by rw [b5x]; exact Nat.le_refl _) LC hLC W hW; rw [e2, ← hB6] at q; exact q
  have KTO : Hid (∀ U S W, Led U W S 40 t 0 B6 A2 → Calls Tryd.prog 16 #[.pointer (some ⟨S, 0, none⟩), .int .i64 (t : Int)] W fun e w' => e = .returned (.tuple #[.agg LT.toArray, .int .i64 0]) ∧ Led U w' S (40 + 1) t 0 B6 A2 ∧ Kp W w') := fun U S W hW => tokL U S 40 t 0 B6 A2 (by decide) ht (by decide) LT hLT W hW
  have HB0 : Hid (∀ w, (Instr.build 25 #[]).run Tryd.prog w = .ok (.agg L0.toArray) w) := fun w => by rw [hL0]; exact build_w0 w
  have HBT : Hid (∀ w, (Instr.build 44 #[(0, .bool true)]).run Tryd.prog w = .ok (.agg LT.toArray) w) := fun w => by rw [hLT]; exact build_tokT w
  have HTT : Hid (∀ w, (binOp .eql 44 (.agg LT.toArray) (.agg LT.toArray)).run Tryd.prog w = .ok (.bool true) w) := fun w => by rw [hLT]; exact tok_tt w
  have HEB : Hid (decide (b = 0) = true) := decide_eq_true hb0
  have HEX : Hid ((!decide (x = y)) = false) := by rw [decide_eq_true hxy]; rfl
  clear ht hpk h1 h2 hc0 hc1 hcA hcB hcl hLA hLB hn ha hb hx hy hz hX hY hZ hA0 hB0 hB1 g0 g1x hab hE hB2 hB3 hA1 hB5 hA2 a0 a1 a2 g1y g2x g2y g3x g3y g5x g5y hcv hdv e1 e2 hcl2 hdl b5x b5y hB6 hLC hLD hL0 hLT hb0 hxy g2 g3 g5
  go_enter Tryd.func3, Tryd.ntmps3
  go_wp2_with (refine wpList_boxG 27 rfl (.tmp 0) rfl cs rfl ?_; intro X1 q1 q2 q3; have R1 : Hid (Row X1 _ cs 27) := q1; have BX1 : Hid (Below _ _ X1) := q2; clear q1 q2 q3; simp only [Act.put, List.setIfInBounds_toArray, List.set_cons_zero, List.set_cons_succ])
  obtain ⟨b1, hb1⟩ : ∃ b, b = w.heap.size := ⟨_, rfl⟩
  replace R1 : Hid (Row X1 b1 cs 27) := by rw [hb1]; exact R1.out
  rw [← hb1]
  clear hb1
  refine Calls.mono (known_any X1) ?_
  rintro e U ⟨rfl, hB⟩
  replace R1 : Hid (Row U b1 cs 27) := Row.below R1.out hB R1.out.lt
  have BU : Hid (Below w.heap.size w U) := BX1.out.trans (hB.mono BX1.out.size)
  clear hB BX1
  go_wp2_with fail
  refine Calls.mono (over_nil U) ?_
  rintro e V ⟨S, rfl, hG⟩
  replace R1 : Hid (Row V b1 cs 27) := Row.below R1.out hG.bel R1.out.lt
  have HG : Hid (Lg U V S 0 (fun _ => [])) := hG
  have c0 := R1.out.cell 0 _ HC0.out
  clear hG
  go_wp2_with fail
  refine Calls.mono (HP.out V) ?_
  rintro e Vx ⟨rfl, hqq⟩
  obtain rfl := hqq.symm
  have SA1 : Hid (V.rangeAt b1 2 LA) := by show World.rangeAt _ _ _ _; rw [← HCA.out]; exact sub_range R1.out 2 4
  clear HP c0
  obtain ⟨b6, hb6⟩ : ∃ b, b = V.heap.size := ⟨_, rfl⟩
  have HBb6 : Hid (b6 = V.heap.size) := hb6
  clear hb6
  go_upto_region 5 with (first
    | (refine wpList_load_w rfl 25 (.tmp 36) rfl b1 2 rfl LA _ SA1.out Tryd.underlying25 rfl HLAI.out ?_; simp only [Act.put, List.setIfInBounds_toArray, List.set_cons_zero, List.set_cons_succ])
    | (refine wpList_allocW rfl rfl ?_; intro XA q1 q2 q3; have QA : Hid (Row XA _ zW 25) := q1; have BA : Hid (Below _ _ XA) := q2; clear q1 q2 q3; simp only [Act.put, List.setIfInBounds_toArray, List.set_cons_zero, List.set_cons_succ])
    | (refine wpList_storeL rfl 25 (.tmp 6) (.tmp 37) rfl V.heap.size LA zW 25 rfl rfl QA.out HLAN.out HLAI.out HLAO.out ?_; intro YA q1 q2; have HYA : Hid (YA = _) := q1; have RYA : Hid (Row YA V.heap.size LA 25) := q2; clear q1 q2; simp only [Act.put]))
  rw [← HBb6.out] at RYA HYA
  rw [← HBb6.out]
  have cb : Below V.heap.size V YA := by rw [HYA.out]; exact below_setCells BA.out (by rw [HBb6.out]; exact Nat.le_refl _) _
  replace R1 : Hid (Row YA b1 cs 27) := Row.below R1.out cb R1.out.lt
  replace HG : Hid (Lg U YA S 0 (fun _ => [])) := HG.out.be cb
  clear cb HYA BA HBb6
  have R6 : Hid (Row YA b6 LA 25) := RYA.out
  have SB1 : Hid (YA.rangeAt b1 6 LB) := by show World.rangeAt _ _ _ _; rw [← HCB.out]; exact sub_range R1.out 6 4
  clear RYA QA SA1
  obtain ⟨b7, hb7⟩ : ∃ b, b = YA.heap.size := ⟨_, rfl⟩
  have HBb7 : Hid (b7 = YA.heap.size) := hb7
  clear hb7
  go_upto_region 6 with (first
    | (refine wpList_load_w rfl 25 (.tmp 38) rfl b1 6 rfl LB _ SB1.out Tryd.underlying25 rfl HLBI.out ?_; simp only [Act.put, List.setIfInBounds_toArray, List.set_cons_zero, List.set_cons_succ])
    | (refine wpList_allocW rfl rfl ?_; intro XB q1 q2 q3; have QB : Hid (Row XB _ zW 25) := q1; have BB : Hid (Below _ _ XB) := q2; clear q1 q2 q3; simp only [Act.put, List.setIfInBounds_toArray, List.set_cons_zero, List.set_cons_succ])
    | (refine wpList_storeL rfl 25 (.tmp 7) (.tmp 39) rfl YA.heap.size LB zW 25 rfl rfl QB.out HLBN.out HLBI.out HLBO.out ?_; intro YB q1 q2; have HYB : Hid (YB = _) := q1; have RYB : Hid (Row YB YA.heap.size LB 25) := q2; clear q1 q2; simp only [Act.put]))
  rw [← HBb7.out] at RYB HYB
  rw [← HBb7.out]
  have cb : Below YA.heap.size YA YB := by rw [HYB.out]; exact below_setCells BB.out (by rw [HBb7.out]; exact Nat.le_refl _) _
  replace R1 : Hid (Row YB b1 cs 27) := Row.below R1.out cb R1.out.lt
  replace R6 : Hid (Row YB b6 LA 25) := Row.below R6.out cb R6.out.lt
  replace HG : Hid (Lg U YB S 0 (fun _ => [])) := HG.out.be cb
  clear cb HYB BB HBb7
  have R7 : Hid (Row YB b7 LB 25) := RYB.out
  have c1 := R1.out.cell 1 _ HC1.out
  clear RYB QB SB1
  have Sx : Hid (YB.rangeAt g o (vB x)) := rng_be HX0.out (BU.out.trans (HG.out.bel.mono BU.out.size)) (Nat.le_refl _)
  obtain ⟨b8, hb8⟩ : ∃ b, b = YB.heap.size := ⟨_, rfl⟩
  have HBb8 : Hid (b8 = YB.heap.size) := hb8
  clear hb8
  go_upto_region 9 with (first
    | (refine wpList_ix_a rfl (.tmp 54) (.const (.int .i64 0)) rfl g o n cap 0 o (by omega) 0 rfl rfl rfl (by have := HN.out; omega) ?_; simp only [Act.put, List.setIfInBounds_toArray, List.set_cons_zero, List.set_cons_succ])
    | (refine wpList_load_w rfl 33 (.tmp 55) rfl g o rfl (vB x) _ Sx.out Tryd.underlying33 rfl HxI.out ?_; simp only [Act.put, List.setIfInBounds_toArray, List.set_cons_zero, List.set_cons_succ])
    | (refine wpList_allocA rfl rfl ?_; intro XYX q1 q2 q3; have QYX : Hid (Row XYX _ zA 33) := q1; have BYX : Hid (Below _ _ XYX) := q2; clear q1 q2 q3; simp only [Act.put, List.setIfInBounds_toArray, List.set_cons_zero, List.set_cons_succ])
    | (refine wpList_storeL rfl 33 (.tmp 8) (.tmp 56) rfl YB.heap.size (vB x) zA 33 rfl rfl QYX.out HxN.out HxI.out HxO.out ?_; intro YX q1 q2; have HYX : Hid (YX = _) := q1; have RYX : Hid (Row YX YB.heap.size (vB x) 33) := q2; clear q1 q2; simp only [Act.put]))
  rw [← HBb8.out] at RYX HYX
  rw [← HBb8.out]
  have cb : Below YB.heap.size YB YX := by rw [HYX.out]; exact below_setCells BYX.out (by rw [HBb8.out]; exact Nat.le_refl _) _
  replace R1 : Hid (Row YX b1 cs 27) := Row.below R1.out cb R1.out.lt
  replace R6 : Hid (Row YX b6 LA 25) := Row.below R6.out cb R6.out.lt
  replace R7 : Hid (Row YX b7 LB 25) := Row.below R7.out cb R7.out.lt
  replace HG : Hid (Lg U YX S 0 (fun _ => [])) := HG.out.be cb
  clear cb HYX BYX HBb8
  have R8 : Hid (Row YX b8 (vB x) 33) := RYX.out
  clear RYX QYX Sx c1
  have c1 := R1.out.cell 1 _ HC1.out
  have Sy : Hid (YX.rangeAt g (o + 20) (vB y)) := rng_be HY0.out (BU.out.trans (HG.out.bel.mono BU.out.size)) (Nat.le_refl _)
  obtain ⟨b9, hb9⟩ : ∃ b, b = YX.heap.size := ⟨_, rfl⟩
  have HBb9 : Hid (b9 = YX.heap.size) := hb9
  clear hb9
  go_upto_region 10 with (first
    | (refine wpList_ix_a rfl (.tmp 58) (.const (.int .i64 1)) rfl g o n cap 1 (o + 20) (by omega) 1 rfl rfl rfl (by have := HN.out; omega) ?_; simp only [Act.put, List.setIfInBounds_toArray, List.set_cons_zero, List.set_cons_succ])
    | (refine wpList_load_w rfl 33 (.tmp 59) rfl g (o + 20) rfl (vB y) _ Sy.out Tryd.underlying33 rfl HyI.out ?_; simp only [Act.put, List.setIfInBounds_toArray, List.set_cons_zero, List.set_cons_succ])
    | (refine wpList_allocA rfl rfl ?_; intro XYY q1 q2 q3; have QYY : Hid (Row XYY _ zA 33) := q1; have BYY : Hid (Below _ _ XYY) := q2; clear q1 q2 q3; simp only [Act.put, List.setIfInBounds_toArray, List.set_cons_zero, List.set_cons_succ])
    | (refine wpList_storeL rfl 33 (.tmp 9) (.tmp 60) rfl YX.heap.size (vB y) zA 33 rfl rfl QYY.out HyN.out HyI.out HyO.out ?_; intro YY q1 q2; have HYY : Hid (YY = _) := q1; have RYY : Hid (Row YY YX.heap.size (vB y) 33) := q2; clear q1 q2; simp only [Act.put]))
  rw [← HBb9.out] at RYY HYY
  rw [← HBb9.out]
  have cb : Below YX.heap.size YX YY := by rw [HYY.out]; exact below_setCells BYY.out (by rw [HBb9.out]; exact Nat.le_refl _) _
  replace R1 : Hid (Row YY b1 cs 27) := Row.below R1.out cb R1.out.lt
  replace R6 : Hid (Row YY b6 LA 25) := Row.below R6.out cb R6.out.lt
  replace R7 : Hid (Row YY b7 LB 25) := Row.below R7.out cb R7.out.lt
  replace R8 : Hid (Row YY b8 (vB x) 33) := Row.below R8.out cb R8.out.lt
  replace HG : Hid (Lg U YY S 0 (fun _ => [])) := HG.out.be cb
  clear cb HYY BYY HBb9
  have R9 : Hid (Row YY b9 (vB y) 33) := RYY.out
  clear RYY QYY Sy c1
  have c1 := R1.out.cell 1 _ HC1.out
  have Sz : Hid (YY.rangeAt g (o + 40) (vB z)) := rng_be HZ0.out (BU.out.trans (HG.out.bel.mono BU.out.size)) (Nat.le_refl _)
  obtain ⟨b10, hb10⟩ : ∃ b, b = YY.heap.size := ⟨_, rfl⟩
  have HBb10 : Hid (b10 = YY.heap.size) := hb10
  clear hb10
  go_upto_region 11 with (first
    | (refine wpList_ix_a rfl (.tmp 62) (.const (.int .i64 2)) rfl g o n cap 2 (o + 40) (by omega) 2 rfl rfl rfl (by have := HN.out; omega) ?_; simp only [Act.put, List.setIfInBounds_toArray, List.set_cons_zero, List.set_cons_succ])
    | (refine wpList_load_w rfl 33 (.tmp 63) rfl g (o + 40) rfl (vB z) _ Sz.out Tryd.underlying33 rfl HzI.out ?_; simp only [Act.put, List.setIfInBounds_toArray, List.set_cons_zero, List.set_cons_succ])
    | (refine wpList_allocA rfl rfl ?_; intro XYZ q1 q2 q3; have QYZ : Hid (Row XYZ _ zA 33) := q1; have BYZ : Hid (Below _ _ XYZ) := q2; clear q1 q2 q3; simp only [Act.put, List.setIfInBounds_toArray, List.set_cons_zero, List.set_cons_succ])
    | (refine wpList_storeL rfl 33 (.tmp 10) (.tmp 64) rfl YY.heap.size (vB z) zA 33 rfl rfl QYZ.out HzN.out HzI.out HzO.out ?_; intro YZ q1 q2; have HYZ : Hid (YZ = _) := q1; have RYZ : Hid (Row YZ YY.heap.size (vB z) 33) := q2; clear q1 q2; simp only [Act.put]))
  rw [← HBb10.out] at RYZ HYZ
  rw [← HBb10.out]
  have cb : Below YY.heap.size YY YZ := by rw [HYZ.out]; exact below_setCells BYZ.out (by rw [HBb10.out]; exact Nat.le_refl _) _
  replace R1 : Hid (Row YZ b1 cs 27) := Row.below R1.out cb R1.out.lt
  replace R6 : Hid (Row YZ b6 LA 25) := Row.below R6.out cb R6.out.lt
  replace R7 : Hid (Row YZ b7 LB 25) := Row.below R7.out cb R7.out.lt
  replace R8 : Hid (Row YZ b8 (vB x) 33) := Row.below R8.out cb R8.out.lt
  replace R9 : Hid (Row YZ b9 (vB y) 33) := Row.below R9.out cb R9.out.lt
  replace HG : Hid (Lg U YZ S 0 (fun _ => [])) := HG.out.be cb
  clear cb HYZ BYZ HBb10
  have R10 : Hid (Row YZ b10 (vB z) 33) := RYZ.out
  clear RYZ QYZ Sz c1
  clear R1
  have HX : Hid _ := KRG.out U S YZ HG.out
  clear HG KRG
  go_wp2_with fail
  refine Calls.mono HX.out ?_
  rintro e V1 ⟨rfl, hG, hK⟩
  replace R6 : Hid (Row V1 b6 LA 25) := hK.row _ _ _ (by decide) R6.out
  replace R7 : Hid (Row V1 b7 LB 25) := hK.row _ _ _ (by decide) R7.out
  replace R8 : Hid (Row V1 b8 (vB x) 33) := hK.row _ _ _ (by decide) R8.out
  replace R9 : Hid (Row V1 b9 (vB y) 33) := hK.row _ _ _ (by decide) R9.out
  replace R10 : Hid (Row V1 b10 (vB z) 33) := hK.row _ _ _ (by decide) R10.out
  have HG : Hid (Led U V1 S 2 t 0 B0 A0) := hG
  clear hG hK HX 
  have HX : Hid _ := KMI.out U S V1 HG.out
  have Tx : Hid (V1.rangeAt b8 0 (vB x)) := R8.out.all
  have Ta : Hid (V1.rangeAt b6 0 LA) := R6.out.all
  clear HG KMI
  go_wp2_with (first
    | (refine wpList_load_w rfl 33 (.tmp 8) rfl b8 0 rfl (vB x) _ Tx.out Tryd.underlying33 rfl HxI.out ?_; simp only [Act.put, List.setIfInBounds_toArray, List.set_cons_zero, List.set_cons_succ])
    | (refine wpList_load_w rfl 25 (.tmp 6) rfl b6 0 rfl LA _ Ta.out Tryd.underlying25 rfl HLAI.out ?_; simp only [Act.put, List.setIfInBounds_toArray, List.set_cons_zero, List.set_cons_succ]))
  refine Calls.mono HX.out ?_
  rintro e V2 ⟨rfl, hG, hK⟩
  replace R6 : Hid (Row V2 b6 LA 25) := hK.row _ _ _ (by decide) R6.out
  replace R7 : Hid (Row V2 b7 LB 25) := hK.row _ _ _ (by decide) R7.out
  replace R8 : Hid (Row V2 b8 (vB x) 33) := hK.row _ _ _ (by decide) R8.out
  replace R9 : Hid (Row V2 b9 (vB y) 33) := hK.row _ _ _ (by decide) R9.out
  replace R10 : Hid (Row V2 b10 (vB z) 33) := hK.row _ _ _ (by decide) R10.out
  have HG : Hid (Led U V2 S 6 t a B1 A0) := hG
  clear hG hK HX Tx Ta
  have HX : Hid _ := KM1.out U S V2 HG.out
  have Tx : Hid (V2.rangeAt b8 0 (vB x)) := R8.out.all
  have Ty : Hid (V2.rangeAt b9 0 (vB y)) := R9.out.all
  have Tb : Hid (V2.rangeAt b7 0 LB) := R7.out.all
  clear HG KM1
  go_wp2_with (first
    | (refine wpList_load_w rfl 33 (.tmp 8) rfl b8 0 rfl (vB x) _ Tx.out Tryd.underlying33 rfl HxI.out ?_; simp only [Act.put, List.setIfInBounds_toArray, List.set_cons_zero, List.set_cons_succ])
    | (refine wpList_load_w rfl 33 (.tmp 9) rfl b9 0 rfl (vB y) _ Ty.out Tryd.underlying33 rfl HyI.out ?_; simp only [Act.put, List.setIfInBounds_toArray, List.set_cons_zero, List.set_cons_succ])
    | (refine wpList_load_w rfl 25 (.tmp 7) rfl b7 0 rfl LB _ Tb.out Tryd.underlying25 rfl HLBI.out ?_; simp only [Act.put, List.setIfInBounds_toArray, List.set_cons_zero, List.set_cons_succ]))
  refine Calls.mono HX.out ?_
  rintro e V3 ⟨rfl, hG, hK⟩
  replace R6 : Hid (Row V3 b6 LA 25) := hK.row _ _ _ (by decide) R6.out
  replace R7 : Hid (Row V3 b7 LB 25) := hK.row _ _ _ (by decide) R7.out
  replace R8 : Hid (Row V3 b8 (vB x) 33) := hK.row _ _ _ (by decide) R8.out
  replace R9 : Hid (Row V3 b9 (vB y) 33) := hK.row _ _ _ (by decide) R9.out
  replace R10 : Hid (Row V3 b10 (vB z) 33) := hK.row _ _ _ (by decide) R10.out
  have HG : Hid (Led U V3 S 11 t a B2 A0) := hG
  clear hG hK HX Tx Ty Tb
  have Ta : Hid (V3.rangeAt b6 0 LA) := R6.out.all
  have Tb : Hid (V3.rangeAt b7 0 LB) := R7.out.all
  go_wp2_with (first
    | (refine wpList_load_w rfl 25 (.tmp 6) rfl b6 0 rfl LA _ Ta.out Tryd.underlying25 rfl HLAI.out ?_; simp only [Act.put, List.setIfInBounds_toArray, List.set_cons_zero, List.set_cons_succ])
    | (refine wpList_load_w rfl 25 (.tmp 7) rfl b7 0 rfl LB _ Tb.out Tryd.underlying25 rfl HLBI.out ?_; simp only [Act.put, List.setIfInBounds_toArray, List.set_cons_zero, List.set_cons_succ]))
  refine Calls.mono (HCM.out V3) ?_
  rintro e V4 ⟨rfl, hB⟩
  replace R6 : Hid (Row V4 b6 LA 25) := Row.below R6.out hB R6.out.lt
  replace R7 : Hid (Row V4 b7 LB 25) := Row.below R7.out hB R7.out.lt
  replace R8 : Hid (Row V4 b8 (vB x) 33) := Row.below R8.out hB R8.out.lt
  replace R9 : Hid (Row V4 b9 (vB y) 33) := Row.below R9.out hB R9.out.lt
  replace R10 : Hid (Row V4 b10 (vB z) 33) := Row.below R10.out hB R10.out.lt
  replace HG : Hid (Led U V4 S 11 t a B2 A0) := HG.out.be hB
  clear hB Ta Tb HCM
  have HX : Hid _ := KM2.out U S V4 HG.out
  have Ty : Hid (V4.rangeAt b9 0 (vB y)) := R9.out.all
  have Tx : Hid (V4.rangeAt b8 0 (vB x)) := R8.out.all
  have Tb : Hid (V4.rangeAt b7 0 LB) := R7.out.all
  clear HG KM2
  go_wp2_with (first
    | (refine wpList_load_w rfl 33 (.tmp 9) rfl b9 0 rfl (vB y) _ Ty.out Tryd.underlying33 rfl HyI.out ?_; simp only [Act.put, List.setIfInBounds_toArray, List.set_cons_zero, List.set_cons_succ])
    | (refine wpList_load_w rfl 33 (.tmp 8) rfl b8 0 rfl (vB x) _ Tx.out Tryd.underlying33 rfl HxI.out ?_; simp only [Act.put, List.setIfInBounds_toArray, List.set_cons_zero, List.set_cons_succ])
    | (refine wpList_load_w rfl 25 (.tmp 7) rfl b7 0 rfl LB _ Tb.out Tryd.underlying25 rfl HLBI.out ?_; simp only [Act.put, List.setIfInBounds_toArray, List.set_cons_zero, List.set_cons_succ]))
  refine Calls.mono HX.out ?_
  rintro e V5 ⟨rfl, hG, hK⟩
  replace R6 : Hid (Row V5 b6 LA 25) := hK.row _ _ _ (by decide) R6.out
  replace R7 : Hid (Row V5 b7 LB 25) := hK.row _ _ _ (by decide) R7.out
  replace R8 : Hid (Row V5 b8 (vB x) 33) := hK.row _ _ _ (by decide) R8.out
  replace R9 : Hid (Row V5 b9 (vB y) 33) := hK.row _ _ _ (by decide) R9.out
  replace R10 : Hid (Row V5 b10 (vB z) 33) := hK.row _ _ _ (by decide) R10.out
  have HG : Hid (Led U V5 S 16 t a B3 A0) := hG
  clear hG hK HX Ty Tx Tb
  have HX : Hid _ := KB1.out U S V5 HG.out
  have Tx : Hid (V5.rangeAt b8 0 (vB x)) := R8.out.all
  clear HG KB1
  go_wp2_with (first
    | (refine wpList_load_w rfl 33 (.tmp 8) rfl b8 0 rfl (vB x) _ Tx.out Tryd.underlying33 rfl HxI.out ?_; simp only [Act.put, List.setIfInBounds_toArray, List.set_cons_zero, List.set_cons_succ]))
  refine Calls.mono HX.out ?_
  rintro e V6 ⟨rfl, hG, hK⟩
  replace R6 : Hid (Row V6 b6 LA 25) := hK.row _ _ _ (by decide) R6.out
  replace R7 : Hid (Row V6 b7 LB 25) := hK.row _ _ _ (by decide) R7.out
  replace R8 : Hid (Row V6 b8 (vB x) 33) := hK.row _ _ _ (by decide) R8.out
  replace R9 : Hid (Row V6 b9 (vB y) 33) := hK.row _ _ _ (by decide) R9.out
  replace R10 : Hid (Row V6 b10 (vB z) 33) := hK.row _ _ _ (by decide) R10.out
  have HG : Hid (Led U V6 S 17 t a B3 A0) := hG
  clear hG hK HX Tx
  obtain ⟨b16, hb16⟩ : ∃ b, b = V6.heap.size := ⟨_, rfl⟩
  have HBb16 : Hid (b16 = V6.heap.size) := hb16
  clear hb16
  go_upto_region 21 with (first
    | (refine wpList_allocW rfl rfl ?_; intro XP q1 q2 q3; have QP : Hid (Row XP _ zW 25) := q1; have BP : Hid (Below _ _ XP) := q2; clear q1 q2 q3; simp only [Act.put, List.setIfInBounds_toArray, List.set_cons_zero, List.set_cons_succ])
    | (refine wpList_storeL rfl 25 (.tmp 16) (.tmp 116) rfl V6.heap.size LA zW 25 rfl rfl QP.out HLAN.out HLAI.out HLAO.out ?_; intro YP q1 q2; have HYP : Hid (YP = _) := q1; have RYP : Hid (Row YP V6.heap.size LA 25) := q2; clear q1 q2; simp only [Act.put]))
  rw [← HBb16.out] at RYP HYP
  rw [← HBb16.out]
  have cb : Below V6.heap.size V6 YP := by rw [HYP.out]; exact below_setCells BP.out (by rw [HBb16.out]; exact Nat.le_refl _) _
  replace R6 : Hid (Row YP b6 LA 25) := Row.below R6.out cb R6.out.lt
  replace R7 : Hid (Row YP b7 LB 25) := Row.below R7.out cb R7.out.lt
  replace R8 : Hid (Row YP b8 (vB x) 33) := Row.below R8.out cb R8.out.lt
  replace R9 : Hid (Row YP b9 (vB y) 33) := Row.below R9.out cb R9.out.lt
  replace R10 : Hid (Row YP b10 (vB z) 33) := Row.below R10.out cb R10.out.lt
  replace HG : Hid (Led U YP S 17 t a B3 A0) := HG.out.be cb
  clear cb HYP BP HBb16
  have R16 : Hid (Row YP b16 LA 25) := RYP.out
  clear RYP QP
  have HX : Hid _ := KP1.out U S YP HG.out
  have Tz : Hid (YP.rangeAt b10 0 (vB z)) := R10.out.all
  have Tx : Hid (YP.rangeAt b8 0 (vB x)) := R8.out.all
  have Ty : Hid (YP.rangeAt b9 0 (vB y)) := R9.out.all
  have Tb : Hid (YP.rangeAt b7 0 LB) := R7.out.all
  clear HG KP1
  go_wp2_with (first
    | (refine wpList_load_w rfl 33 (.tmp 10) rfl b10 0 rfl (vB z) _ Tz.out Tryd.underlying33 rfl HzI.out ?_; simp only [Act.put, List.setIfInBounds_toArray, List.set_cons_zero, List.set_cons_succ])
    | (refine wpList_load_w rfl 33 (.tmp 8) rfl b8 0 rfl (vB x) _ Tx.out Tryd.underlying33 rfl HxI.out ?_; simp only [Act.put, List.setIfInBounds_toArray, List.set_cons_zero, List.set_cons_succ])
    | (refine wpList_load_w rfl 33 (.tmp 9) rfl b9 0 rfl (vB y) _ Ty.out Tryd.underlying33 rfl HyI.out ?_; simp only [Act.put, List.setIfInBounds_toArray, List.set_cons_zero, List.set_cons_succ])
    | (refine wpList_load_w rfl 25 (.tmp 7) rfl b7 0 rfl LB _ Tb.out Tryd.underlying25 rfl HLBI.out ?_; simp only [Act.put, List.setIfInBounds_toArray, List.set_cons_zero, List.set_cons_succ]))
  refine Calls.mono HX.out ?_
  rintro e V7 ⟨rfl, hG, hK⟩
  replace R6 : Hid (Row V7 b6 LA 25) := hK.row _ _ _ (by decide) R6.out
  replace R7 : Hid (Row V7 b7 LB 25) := hK.row _ _ _ (by decide) R7.out
  replace R8 : Hid (Row V7 b8 (vB x) 33) := hK.row _ _ _ (by decide) R8.out
  replace R9 : Hid (Row V7 b9 (vB y) 33) := hK.row _ _ _ (by decide) R9.out
  replace R10 : Hid (Row V7 b10 (vB z) 33) := hK.row _ _ _ (by decide) R10.out
  replace R16 : Hid (Row V7 b16 LA 25) := hK.row _ _ _ (by decide) R16.out
  have HG : Hid (Led U V7 S 24 t a B3 A0) := hG
  clear hG hK HX Tz Tx Ty Tb
  have HX : Hid _ := KAL.out U S V7 HG.out
  have Tx : Hid (V7.rangeAt b8 0 (vB x)) := R8.out.all
  have Tz : Hid (V7.rangeAt b10 0 (vB z)) := R10.out.all
  have Tb : Hid (V7.rangeAt b7 0 LB) := R7.out.all
  clear HG KAL
  go_wp2_with (first
    | (refine wpList_load_w rfl 33 (.tmp 8) rfl b8 0 rfl (vB x) _ Tx.out Tryd.underlying33 rfl HxI.out ?_; simp only [Act.put, List.setIfInBounds_toArray, List.set_cons_zero, List.set_cons_succ])
    | (refine wpList_load_w rfl 33 (.tmp 10) rfl b10 0 rfl (vB z) _ Tz.out Tryd.underlying33 rfl HzI.out ?_; simp only [Act.put, List.setIfInBounds_toArray, List.set_cons_zero, List.set_cons_succ])
    | (refine wpList_load_w rfl 25 (.tmp 7) rfl b7 0 rfl LB _ Tb.out Tryd.underlying25 rfl HLBI.out ?_; simp only [Act.put, List.setIfInBounds_toArray, List.set_cons_zero, List.set_cons_succ]))
  refine Calls.mono HX.out ?_
  rintro e V8 ⟨rfl, hG, hK⟩
  replace R6 : Hid (Row V8 b6 LA 25) := hK.row _ _ _ (by decide) R6.out
  replace R7 : Hid (Row V8 b7 LB 25) := hK.row _ _ _ (by decide) R7.out
  replace R8 : Hid (Row V8 b8 (vB x) 33) := hK.row _ _ _ (by decide) R8.out
  replace R9 : Hid (Row V8 b9 (vB y) 33) := hK.row _ _ _ (by decide) R9.out
  replace R10 : Hid (Row V8 b10 (vB z) 33) := hK.row _ _ _ (by decide) R10.out
  replace R16 : Hid (Row V8 b16 LA 25) := hK.row _ _ _ (by decide) R16.out
  have HG : Hid (Led U V8 S 26 t a B3 A1) := hG
  clear hG hK HX Tx Tz Tb
  have HX : Hid _ := KP2.out U S V8 HG.out
  have Tz : Hid (V8.rangeAt b10 0 (vB z)) := R10.out.all
  have Tx : Hid (V8.rangeAt b8 0 (vB x)) := R8.out.all
  have Ty : Hid (V8.rangeAt b9 0 (vB y)) := R9.out.all
  have Tb : Hid (V8.rangeAt b7 0 LB) := R7.out.all
  clear HG KP2
  go_wp2_with (first
    | (refine wpList_load_w rfl 33 (.tmp 10) rfl b10 0 rfl (vB z) _ Tz.out Tryd.underlying33 rfl HzI.out ?_; simp only [Act.put, List.setIfInBounds_toArray, List.set_cons_zero, List.set_cons_succ])
    | (refine wpList_load_w rfl 33 (.tmp 8) rfl b8 0 rfl (vB x) _ Tx.out Tryd.underlying33 rfl HxI.out ?_; simp only [Act.put, List.setIfInBounds_toArray, List.set_cons_zero, List.set_cons_succ])
    | (refine wpList_load_w rfl 33 (.tmp 9) rfl b9 0 rfl (vB y) _ Ty.out Tryd.underlying33 rfl HyI.out ?_; simp only [Act.put, List.setIfInBounds_toArray, List.set_cons_zero, List.set_cons_succ])
    | (refine wpList_load_w rfl 25 (.tmp 7) rfl b7 0 rfl LB _ Tb.out Tryd.underlying25 rfl HLBI.out ?_; simp only [Act.put, List.setIfInBounds_toArray, List.set_cons_zero, List.set_cons_succ]))
  refine Calls.mono HX.out ?_
  rintro e V9 ⟨rfl, hG, hK⟩
  replace R6 : Hid (Row V9 b6 LA 25) := hK.row _ _ _ (by decide) R6.out
  replace R7 : Hid (Row V9 b7 LB 25) := hK.row _ _ _ (by decide) R7.out
  replace R8 : Hid (Row V9 b8 (vB x) 33) := hK.row _ _ _ (by decide) R8.out
  replace R9 : Hid (Row V9 b9 (vB y) 33) := hK.row _ _ _ (by decide) R9.out
  replace R10 : Hid (Row V9 b10 (vB z) 33) := hK.row _ _ _ (by decide) R10.out
  replace R16 : Hid (Row V9 b16 LA 25) := hK.row _ _ _ (by decide) R16.out
  have HG : Hid (Led U V9 S 33 t a B5 A2) := hG
  clear hG hK HX Tz Tx Ty Tb
  have HX : Hid _ := KAD.out U S V9 HG.out
  have Tx : Hid (V9.rangeAt b8 0 (vB x)) := R8.out.all
  have Tz : Hid (V9.rangeAt b10 0 (vB z)) := R10.out.all
  clear HG KAD
  go_wp2_with (first
    | (refine wpList_load_w rfl 33 (.tmp 8) rfl b8 0 rfl (vB x) _ Tx.out Tryd.underlying33 rfl HxI.out ?_; simp only [Act.put, List.setIfInBounds_toArray, List.set_cons_zero, List.set_cons_succ])
    | (refine wpList_load_w rfl 33 (.tmp 10) rfl b10 0 rfl (vB z) _ Tz.out Tryd.underlying33 rfl HzI.out ?_; simp only [Act.put, List.setIfInBounds_toArray, List.set_cons_zero, List.set_cons_succ]))
  refine Calls.mono HX.out ?_
  rintro e W1 ⟨rfl, hG, hK⟩
  replace R6 : Hid (Row W1 b6 LA 25) := hK.row _ _ _ (by decide) R6.out
  replace R7 : Hid (Row W1 b7 LB 25) := hK.row _ _ _ (by decide) R7.out
  replace R8 : Hid (Row W1 b8 (vB x) 33) := hK.row _ _ _ (by decide) R8.out
  replace R9 : Hid (Row W1 b9 (vB y) 33) := hK.row _ _ _ (by decide) R9.out
  replace R10 : Hid (Row W1 b10 (vB z) 33) := hK.row _ _ _ (by decide) R10.out
  replace R16 : Hid (Row W1 b16 LA 25) := hK.row _ _ _ (by decide) R16.out
  have HG : Hid (Led U W1 S 34 t a B5 A2) := hG
  clear hG hK HX Tx Tz
  obtain ⟨b21, hb21⟩ : ∃ b, b = W1.heap.size := ⟨_, rfl⟩
  have HBb21 : Hid (b21 = W1.heap.size) := hb21
  clear hb21
  go_upto_region 25 with (first
    | (refine wpList_allocW rfl rfl ?_; intro XL q1 q2 q3; have QL : Hid (Row XL _ zW 25) := q1; have BL : Hid (Below _ _ XL) := q2; clear q1 q2 q3; simp only [Act.put, List.setIfInBounds_toArray, List.set_cons_zero, List.set_cons_succ])
    | (refine wpList_storeL rfl 25 (.tmp 21) (.tmp 144) rfl W1.heap.size L0 zW 25 rfl rfl QL.out HL0N.out HL0I.out HL0O.out ?_; intro YL q1 q2; have HYL : Hid (YL = _) := q1; have RYL : Hid (Row YL W1.heap.size L0 25) := q2; clear q1 q2; simp only [Act.put]))
  rw [← HBb21.out] at RYL HYL
  rw [← HBb21.out]
  have cb : Below W1.heap.size W1 YL := by rw [HYL.out]; exact below_setCells BL.out (by rw [HBb21.out]; exact Nat.le_refl _) _
  replace R6 : Hid (Row YL b6 LA 25) := Row.below R6.out cb R6.out.lt
  replace R7 : Hid (Row YL b7 LB 25) := Row.below R7.out cb R7.out.lt
  replace R8 : Hid (Row YL b8 (vB x) 33) := Row.below R8.out cb R8.out.lt
  replace R9 : Hid (Row YL b9 (vB y) 33) := Row.below R9.out cb R9.out.lt
  replace R10 : Hid (Row YL b10 (vB z) 33) := Row.below R10.out cb R10.out.lt
  replace R16 : Hid (Row YL b16 LA 25) := Row.below R16.out cb R16.out.lt
  replace HG : Hid (Led U YL S 34 t a B5 A2) := HG.out.be cb
  clear cb HYL BL HBb21
  have R21 : Hid (Row YL b21 L0 25) := RYL.out
  clear RYL QL
  have T16 : Hid (YL.rangeAt b16 0 LA) := R16.out.all
  have T6 : Hid (YL.rangeAt b6 0 LA) := R6.out.all
  have T7 : Hid (YL.rangeAt b7 0 LB) := R7.out.all
  have T21 : Hid (YL.rangeAt b21 0 L0) := R21.out.all
  have T8 : Hid (YL.rangeAt b8 0 (vB x)) := R8.out.all
  have HX : Hid _ := KB2.out U S YL HG.out
  clear HG KB2 R16 R6 R7 R21 R10
  go_wp2_with (first
    | (refine wpList_load_w rfl 25 (.tmp 16) rfl b16 0 rfl LA _ T16.out Tryd.underlying25 rfl HLAI.out ?_; simp only [Act.put, List.setIfInBounds_toArray, List.set_cons_zero, List.set_cons_succ])
    | (refine wpList_load_w rfl 25 (.tmp 6) rfl b6 0 rfl LA _ T6.out Tryd.underlying25 rfl HLAI.out ?_; simp only [Act.put, List.setIfInBounds_toArray, List.set_cons_zero, List.set_cons_succ])
    | (refine wpList_load_w rfl 25 (.tmp 21) rfl b21 0 rfl L0 _ T21.out Tryd.underlying25 rfl HL0I.out ?_; simp only [Act.put, List.setIfInBounds_toArray, List.set_cons_zero, List.set_cons_succ])
    | (refine wpList_load_w rfl 25 (.tmp 7) rfl b7 0 rfl LB _ T7.out Tryd.underlying25 rfl HLBI.out ?_; simp only [Act.put, List.setIfInBounds_toArray, List.set_cons_zero, List.set_cons_succ])
    | (refine wpList_load_w rfl 33 (.tmp 8) rfl b8 0 rfl (vB x) _ T8.out Tryd.underlying33 rfl HxI.out ?_; simp only [Act.put, List.setIfInBounds_toArray, List.set_cons_zero, List.set_cons_succ])
    | (refine wpList_bld rfl 25 #[] rfl #[] rfl L0 HB0.out ?_; simp only [Act.put, List.setIfInBounds_toArray, List.set_cons_zero, List.set_cons_succ])
    | (refine wpList_neqWg rfl (.tmp 153) (.tmp 154) _ rfl a a HAB.out.1 HAB.out.1 (by rw [← HLAE.out]; rfl) (by rw [← HLAE.out]; rfl) false (by simp) ?_; simp only [Act.put, List.setIfInBounds_toArray, List.set_cons_zero, List.set_cons_succ])
    | (refine wpList_neqWg rfl (.tmp 170) (.tmp 171) _ rfl 0 0 (by decide) (by decide) (by rw [← HL0E.out]; rfl) (by rw [← HL0E.out]; rfl) false (by simp) ?_; simp only [Act.put, List.setIfInBounds_toArray, List.set_cons_zero, List.set_cons_succ])
    | (refine wpList_eqlWg rfl (.tmp 176) (.tmp 177) _ rfl b 0 HAB.out.2 (by decide) (by rw [← HLBE.out]; rfl) (by rw [← HL0E.out]; rfl) _ HEB.out ?_; simp only [Act.put, List.setIfInBounds_toArray, List.set_cons_zero, List.set_cons_succ]))
  refine Calls.mono HX.out ?_
  rintro e W2 ⟨rfl, hG, hK⟩
  replace R8 : Hid (Row W2 b8 (vB x) 33) := hK.row _ _ _ (by decide) R8.out
  replace R9 : Hid (Row W2 b9 (vB y) 33) := hK.row _ _ _ (by decide) R9.out
  have HG : Hid (Led U W2 S 35 t a B5 A2) := hG
  clear hG hK HX T16 T6 T7 T21 T8
  obtain ⟨b23, hb23⟩ : ∃ b, b = W2.heap.size := ⟨_, rfl⟩
  have HBb23 : Hid (b23 = W2.heap.size) := hb23
  clear hb23
  go_upto_region 30 with (first
    | (refine wpList_allocW rfl rfl ?_; intro XC q1 q2 q3; have QC : Hid (Row XC _ zW 25) := q1; have BC : Hid (Below _ _ XC) := q2; clear q1 q2 q3; simp only [Act.put, List.setIfInBounds_toArray, List.set_cons_zero, List.set_cons_succ])
    | (refine wpList_storeL rfl 25 (.tmp 23) (.tmp 193) rfl W2.heap.size LC zW 25 rfl rfl QC.out HLCN.out HLCI.out HLCO.out ?_; intro YC q1 q2; have HYC : Hid (YC = _) := q1; have RYC : Hid (Row YC W2.heap.size LC 25) := q2; clear q1 q2; simp only [Act.put]))
  rw [← HBb23.out] at RYC HYC
  rw [← HBb23.out]
  have cb : Below W2.heap.size W2 YC := by rw [HYC.out]; exact below_setCells BC.out (by rw [HBb23.out]; exact Nat.le_refl _) _
  replace R8 : Hid (Row YC b8 (vB x) 33) := Row.below R8.out cb R8.out.lt
  replace R9 : Hid (Row YC b9 (vB y) 33) := Row.below R9.out cb R9.out.lt
  replace HG : Hid (Led U YC S 35 t a B5 A2) := HG.out.be cb
  clear cb HYC BC HBb23
  have R23 : Hid (Row YC b23 LC 25) := RYC.out
  clear RYC QC
  have HX : Hid _ := KB3.out U S YC HG.out
  have Ty : Hid (YC.rangeAt b9 0 (vB y)) := R9.out.all
  clear HG KB3
  go_wp2_with (first
    | (refine wpList_load_w rfl 33 (.tmp 9) rfl b9 0 rfl (vB y) _ Ty.out Tryd.underlying33 rfl HyI.out ?_; simp only [Act.put, List.setIfInBounds_toArray, List.set_cons_zero, List.set_cons_succ]))
  refine Calls.mono HX.out ?_
  rintro e W3 ⟨rfl, hG, hK⟩
  replace R8 : Hid (Row W3 b8 (vB x) 33) := hK.row _ _ _ (by decide) R8.out
  replace R9 : Hid (Row W3 b9 (vB y) 33) := hK.row _ _ _ (by decide) R9.out
  replace R23 : Hid (Row W3 b23 LC 25) := hK.row _ _ _ (by decide) R23.out
  have HG : Hid (Led U W3 S 36 t a B5 A2) := hG
  clear hG hK HX Ty
  obtain ⟨b25, hb25⟩ : ∃ b, b = W3.heap.size := ⟨_, rfl⟩
  have HBb25 : Hid (b25 = W3.heap.size) := hb25
  clear hb25
  go_upto_region 31 with (first
    | (refine wpList_allocW rfl rfl ?_; intro XD q1 q2 q3; have QD : Hid (Row XD _ zW 25) := q1; have BD : Hid (Below _ _ XD) := q2; clear q1 q2 q3; simp only [Act.put, List.setIfInBounds_toArray, List.set_cons_zero, List.set_cons_succ])
    | (refine wpList_storeL rfl 25 (.tmp 25) (.tmp 200) rfl W3.heap.size LD zW 25 rfl rfl QD.out HLDN.out HLDI.out HLDO.out ?_; intro YD q1 q2; have HYD : Hid (YD = _) := q1; have RYD : Hid (Row YD W3.heap.size LD 25) := q2; clear q1 q2; simp only [Act.put]))
  rw [← HBb25.out] at RYD HYD
  rw [← HBb25.out]
  have cb : Below W3.heap.size W3 YD := by rw [HYD.out]; exact below_setCells BD.out (by rw [HBb25.out]; exact Nat.le_refl _) _
  replace R8 : Hid (Row YD b8 (vB x) 33) := Row.below R8.out cb R8.out.lt
  replace R9 : Hid (Row YD b9 (vB y) 33) := Row.below R9.out cb R9.out.lt
  replace R23 : Hid (Row YD b23 LC 25) := Row.below R23.out cb R23.out.lt
  replace HG : Hid (Led U YD S 36 t a B5 A2) := HG.out.be cb
  clear cb HYD BD HBb25
  have R25 : Hid (Row YD b25 LD 25) := RYD.out
  clear RYD QD
  have HX : Hid _ := KU1.out U S YD HG.out
  have Tx : Hid (YD.rangeAt b8 0 (vB x)) := R8.out.all
  have Tc : Hid (YD.rangeAt b23 0 LC) := R23.out.all
  clear HG KU1
  go_wp2_with (first
    | (refine wpList_load_w rfl 33 (.tmp 8) rfl b8 0 rfl (vB x) _ Tx.out Tryd.underlying33 rfl HxI.out ?_; simp only [Act.put, List.setIfInBounds_toArray, List.set_cons_zero, List.set_cons_succ])
    | (refine wpList_load_w rfl 25 (.tmp 23) rfl b23 0 rfl LC _ Tc.out Tryd.underlying25 rfl HLCI.out ?_; simp only [Act.put, List.setIfInBounds_toArray, List.set_cons_zero, List.set_cons_succ]))
  refine Calls.mono HX.out ?_
  rintro e W4 ⟨rfl, hG, hK⟩
  replace R8 : Hid (Row W4 b8 (vB x) 33) := hK.row _ _ _ (by decide) R8.out
  replace R9 : Hid (Row W4 b9 (vB y) 33) := hK.row _ _ _ (by decide) R9.out
  replace R23 : Hid (Row W4 b23 LC 25) := hK.row _ _ _ (by decide) R23.out
  replace R25 : Hid (Row W4 b25 LD 25) := hK.row _ _ _ (by decide) R25.out
  have HG : Hid (Led U W4 S 40 t 0 B6 A2) := hG
  clear hG hK HX Tx Tc
  have Tx2 : Hid (W4.rangeAt b8 0 (vB x)) := R8.out.all
  have Ty2 : Hid (W4.rangeAt b9 0 (vB y)) := R9.out.all
  have HX : Hid _ := KTO.out U S W4 HG.out
  clear HG KTO
  go_wp2_with (first
    | (refine wpList_load_w rfl 33 (.tmp 8) rfl b8 0 rfl (vB x) _ Tx2.out Tryd.underlying33 rfl HxI.out ?_; simp only [Act.put, List.setIfInBounds_toArray, List.set_cons_zero, List.set_cons_succ])
    | (refine wpList_load_w rfl 33 (.tmp 9) rfl b9 0 rfl (vB y) _ Ty2.out Tryd.underlying33 rfl HyI.out ?_; simp only [Act.put, List.setIfInBounds_toArray, List.set_cons_zero, List.set_cons_succ])
    | (refine wpList_neqA rfl (.tmp 207) (.tmp 208) _ rfl x y Hx.out Hy.out rfl rfl _ HEX.out ?_; simp only [Act.put, List.setIfInBounds_toArray, List.set_cons_zero, List.set_cons_succ]))
  refine Calls.mono HX.out ?_
  rintro e W6 ⟨rfl, hG, hK⟩
  replace R8 : Hid (Row W6 b8 (vB x) 33) := hK.row _ _ _ (by decide) R8.out
  replace R9 : Hid (Row W6 b9 (vB y) 33) := hK.row _ _ _ (by decide) R9.out
  replace R23 : Hid (Row W6 b23 LC 25) := hK.row _ _ _ (by decide) R23.out
  replace R25 : Hid (Row W6 b25 LD 25) := hK.row _ _ _ (by decide) R25.out
  have HG : Hid (Led U W6 S (40 + 1) t 0 B6 A2) := hG
  clear hG hK HX 
  obtain ⟨b29, hb29⟩ : ∃ b, b = W6.heap.size := ⟨_, rfl⟩
  have HBb29 : Hid (b29 = W6.heap.size) := hb29
  clear hb29
  go_upto_region 36 with (first
    | (refine wpList_allocK rfl rfl ?_; intro XT q1 q2 q3; have QT : Hid (Row XT _ zK 44) := q1; have BT : Hid (Below _ _ XT) := q2; clear q1 q2 q3; simp only [Act.put, List.setIfInBounds_toArray, List.set_cons_zero, List.set_cons_succ])
    | (refine wpList_storeL rfl 44 (.tmp 29) (.tmp 219) rfl W6.heap.size LT zK 44 rfl rfl QT.out HLTN.out HLTI.out HLTO.out ?_; intro YT q1 q2; have HYT : Hid (YT = _) := q1; have RYT : Hid (Row YT W6.heap.size LT 44) := q2; clear q1 q2; simp only [Act.put]))
  rw [← HBb29.out] at RYT HYT
  rw [← HBb29.out]
  have cb : Below W6.heap.size W6 YT := by rw [HYT.out]; exact below_setCells BT.out (by rw [HBb29.out]; exact Nat.le_refl _) _
  replace HG : Hid (Led U YT S (40 + 1) t 0 B6 A2) := HG.out.be cb
  clear cb HYT BT HBb29
  have T29 : Hid (YT.rangeAt b29 0 LT) := RYT.out.all
  have BZ : Hid (Below w.heap.size w YT) := BU.out.trans (HG.out.bel.mono BU.out.size)
  clear HG BU RYT QT
  go_wp2_with (first
    | (refine wpList_load_w rfl 44 (.tmp 29) rfl b29 0 rfl LT _ T29.out Tryd.underlying44 rfl HLTI.out ?_; simp only [Act.put, List.setIfInBounds_toArray, List.set_cons_zero, List.set_cons_succ])
    | (refine wpList_bld rfl 44 #[(0, .const (.bool true))] rfl #[(0, .bool true)] rfl LT HBT.out ?_; simp only [Act.put, List.setIfInBounds_toArray, List.set_cons_zero, List.set_cons_succ])
    | (refine wpList_cmpKw rfl .eql (.tmp 240) (.tmp 241) _ rfl LT LT rfl rfl true HTT.out ?_; simp only [Act.put, List.setIfInBounds_toArray, List.set_cons_zero, List.set_cons_succ]))
  go_ret
  exact ⟨rfl, BZ.out⟩
set_option maxRecDepth 100000 in
set_option maxHeartbeats 4000000 in
theorem giv_zd (cs : List Value) (hcl : cs.length = 10) (z0 : Int) (h1 : -9223372036854775808 ≤ z0) (h2 : z0 ≤ 9223372036854775807) (hc0 : cs[0]? = some (.int .i64 z0)) (g o n cap : Nat) (hn : 3 ≤ n) (hc1 : cs[1]? = some (.slice (some ⟨g, o, none⟩) n cap)) (a b : Nat) (ha : a < 2 ^ 256) (hb : b < 2 ^ 256) (hcA : (cs.drop 2).take 4 = wq a) (hcB : (cs.drop 6).take 4 = wq b) (x y z : List (BitVec 8)) (hx : x.length = 20) (hy : y.length = 20) (hz : z.length = 20) (hab : b ≤ a) (hb0 : b = 0) (hxy : x ≠ y) (w : World) (hX : w.rangeAt g o (vB x)) (hY : w.rangeAt g (o + 20) (vB y)) (hZ : w.rangeAt g (o + 40) (vB z)) :
    Calls Tryd.prog 3 #[.agg cs.toArray] w fun e w' => e = .returned (.bool true) ∧ Below w.heap.size w w' := by
  obtain ⟨t, ht, hpk⟩ := pk_nat z0
  have HP : Hid (∀ W, Calls Tryd.prog 6 #[.int .i64 z0, .int .i64 64] W fun e w' => e = .returned (.int .i64 (t : Int)) ∧ w' = W) := fun W => by rw [← hpk]; exact pick8 z0 64 (by decide) h1 h2 (by decide) W
  have HC0 : Hid (cs[0]? = some (.int .i64 z0)) := hc0
  have HC1 : Hid (cs[1]? = some (.slice (some ⟨g, o, none⟩) n cap)) := hc1
  obtain ⟨LA, hLA⟩ : ∃ L : List Value, L = wq a := ⟨_, rfl⟩
  obtain ⟨LB, hLB⟩ : ∃ L : List Value, L = wq b := ⟨_, rfl⟩
  have HLAE : Hid (LA = wq a) := hLA
  have HLAI : Hid ((Tryd.prog.info? 25).map (·.size) = some LA.length) := by show _ = _; rw [hLA]; exact info_wq _
  have HLAJ : Hid ((Tryd.prog.info? 25).map (·.size) = some LA.toArray.size) := by show _ = _; rw [List.size_toArray, hLA]; exact info_wq _
  have HLAN : Hid (LA.length = zW.length) := by show _ = _; rw [hLA]; exact wq_len _
  have HLAO : Hid (LA.toArray.all (·.oneCell') = true) := by show _ = true; rw [hLA]; exact wq_one _
  have HLBE : Hid (LB = wq b) := hLB
  have HLBI : Hid ((Tryd.prog.info? 25).map (·.size) = some LB.length) := by show _ = _; rw [hLB]; exact info_wq _
  have HLBJ : Hid ((Tryd.prog.info? 25).map (·.size) = some LB.toArray.size) := by show _ = _; rw [List.size_toArray, hLB]; exact info_wq _
  have HLBN : Hid (LB.length = zW.length) := by show _ = _; rw [hLB]; exact wq_len _
  have HLBO : Hid (LB.toArray.all (·.oneCell') = true) := by show _ = true; rw [hLB]; exact wq_one _
  have HCA : Hid ((cs.drop 2).take 4 = LA) := by show _ = _; rw [hLA]; exact hcA
  have HCB : Hid ((cs.drop 6).take 4 = LB) := by show _ = _; rw [hLB]; exact hcB
  have HCI : Hid ((Tryd.prog.info? 27).map (·.size) = some cs.length) := by show _ = _; rw [hcl]; kernel_rfl
  have Hx : Hid (x.length = 20) := hx
  have HxI : Hid ((Tryd.prog.info? 33).map (·.size) = some (vB x).length) := info_adr Hx.out
  have HxN : Hid ((vB x).length = zA.length) := by show _ = _; rw [vB_length, Hx.out]; rfl
  have HxO : Hid ((vB x).toArray.all (·.oneCell') = true) := ad_one
  have Hy : Hid (y.length = 20) := hy
  have HyI : Hid ((Tryd.prog.info? 33).map (·.size) = some (vB y).length) := info_adr Hy.out
  have HyN : Hid ((vB y).length = zA.length) := by show _ = _; rw [vB_length, Hy.out]; rfl
  have HyO : Hid ((vB y).toArray.all (·.oneCell') = true) := ad_one
  have Hz : Hid (z.length = 20) := hz
  have HzI : Hid ((Tryd.prog.info? 33).map (·.size) = some (vB z).length) := info_adr Hz.out
  have HzN : Hid ((vB z).length = zA.length) := by show _ = _; rw [vB_length, Hz.out]; rfl
  have HzO : Hid ((vB z).toArray.all (·.oneCell') = true) := ad_one
  have HX0 : Hid (w.rangeAt g o (vB x)) := hX
  have HY0 : Hid (w.rangeAt g (o + 20) (vB y)) := hY
  have HZ0 : Hid (w.rangeAt g (o + 40) (vB z)) := hZ
  have hn3 : ¬ ((n : Int) < 3) := by omega
  have HN : Hid (3 ≤ n) := hn
  have HAB : Hid (a < 2 ^ 256 ∧ b < 2 ^ 256) := ⟨ha, hb⟩
  obtain ⟨A0, hA0⟩ : ∃ A : List (BitVec 8) → List (BitVec 8) → Nat, A = fun _ _ => 0 := ⟨_, rfl⟩
  obtain ⟨B0, hB0⟩ : ∃ B : List (BitVec 8) → Nat, B = fun _ => 0 := ⟨_, rfl⟩
  obtain ⟨B1, hB1⟩ : ∃ B, B = sB B0 x (B0 x + a) := ⟨_, rfl⟩
  have g0 : ∀ u, B0 u = 0 := fun u => by rw [hB0]
  have g1x : B1 x = a := by rw [hB1, sB_same, g0, Nat.zero_add]
  have KRG : Hid (∀ U S W, Lg U W S 0 (fun _ => []) → Calls Tryd.prog 7 #[.pointer (some ⟨S, 0, none⟩), .int .i64 (t : Int)] W fun e w' => e = .returned (.int .i64 0) ∧ Led U w' S 2 t 0 B0 A0 ∧ Kp W w') := fun U S W hW => by rw [hA0, hB0]; exact regL U S 0 t (by decide) ht W hW
  have KMI : Hid (∀ U S W, Led U W S 2 t 0 B0 A0 → Calls Tryd.prog 8 #[.pointer (some ⟨S, 0, none⟩), .int .i64 (t : Int), .agg (vB x).toArray, .agg LA.toArray] W fun e w' => e = .returned (.int .i64 0) ∧ Led U w' S 6 t a B1 A0 ∧ Kp W w') := fun U S W hW => by have q := mntL U S 2 t 0 B0 A0 (by decide) ht a (by decide) ha x hx (by rw [g0]; decide) (by omega) (by rw [g0]; omega) LA hLA W hW; rw [Nat.zero_add, ← hB1] at q; exact q
  obtain ⟨E, hE⟩ : ∃ E, E = cmpR a b := ⟨_, rfl⟩
  have hE0 : ¬ (E < 0) := by rw [hE]; unfold cmpR; split <;> (try split) <;> omega
  have HCM : Hid (∀ W, Calls Tryd.prog 10 #[.agg LA.toArray, .agg LB.toArray] W fun e w' => e = .returned (.int .i64 E) ∧ Below W.heap.size W w') := fun W => by rw [hLA, hLB, hE]; exact refCmp_any a b ha hb W
  obtain ⟨B2, hB2⟩ : ∃ B, B = mB B1 x y b := ⟨_, rfl⟩
  obtain ⟨B3, hB3⟩ : ∃ B, B = mB B2 y x b := ⟨_, rfl⟩
  obtain ⟨A1, hA1⟩ : ∃ A, A = sA A0 x z b := ⟨_, rfl⟩
  obtain ⟨B5, hB5⟩ : ∃ B, B = mB B3 x y b := ⟨_, rfl⟩
  obtain ⟨A2, hA2⟩ : ∃ A, A = sA A1 x z (A1 x z - b) := ⟨_, rfl⟩
  have a0 : ∀ u v, A0 u v = 0 := fun u v => by rw [hA0]
  have a1 : A1 x z = b := by rw [hA1, sA_same]
  have a2 : A2 x z = 0 := by rw [hA2, sA_same, a1, Nat.sub_self]
  have hyx : y ≠ x := Ne.symm hxy
  have g1y : B1 y = 0 := by rw [hB1, sB_other _ _ _ _ hyx, g0]
  have g2x : B2 x = a - b := by rw [hB2, mB_fr _ _ _ _ hxy, g1x]
  have g2y : B2 y = b := by rw [hB2, mB_to _ _ _ _ hxy, g1y, Nat.zero_add]
  have g3x : B3 x = a := by rw [hB3, mB_to _ _ _ _ hyx, g2x]; omega
  have g3y : B3 y = 0 := by rw [hB3, mB_fr _ _ _ _ hyx, g2y, Nat.sub_self]
  have g5x : B5 x = a - b := by rw [hB5, mB_fr _ _ _ _ hxy, g3x]
  have g5y : B5 y = b := by rw [hB5, mB_to _ _ _ _ hxy, g3y, Nat.zero_add]
  obtain ⟨cv, hcv⟩ : ∃ c, c = a - b := ⟨_, rfl⟩
  obtain ⟨dv, hdv⟩ : ∃ d, d = b := ⟨_, rfl⟩
  have e1 : b ≤ B2 y := by rw [g2y]; exact Nat.le_refl _
  have e2 : a - cv = dv := by omega
  have hcl2 : cv < 2 ^ 256 := by omega
  have hdl : dv < 2 ^ 256 := by omega
  have b5x : B5 x = cv := by rw [g5x, hcv]
  have b5y : B5 y = dv := by rw [g5y, hdv]
  obtain ⟨B6, hB6⟩ : ∃ B, B = sB B5 x (B5 x - cv) := ⟨_, rfl⟩
  obtain ⟨LC, hLC⟩ : ∃ L : List Value, L = wq cv := ⟨_, rfl⟩
  have HLCE : Hid (LC = wq cv) := hLC
  have HLCI : Hid ((Tryd.prog.info? 25).map (·.size) = some LC.length) := by show _ = _; rw [hLC]; exact info_wq _
  have HLCJ : Hid ((Tryd.prog.info? 25).map (·.size) = some LC.toArray.size) := by show _ = _; rw [List.size_toArray, hLC]; exact info_wq _
  have HLCN : Hid (LC.length = zW.length) := by show _ = _; rw [hLC]; exact wq_len _
  have HLCO : Hid (LC.toArray.all (·.oneCell') = true) := by show _ = true; rw [hLC]; exact wq_one _
  obtain ⟨LD, hLD⟩ : ∃ L : List Value, L = wq dv := ⟨_, rfl⟩
  have HLDE : Hid (LD = wq dv) := hLD
  have HLDI : Hid ((Tryd.prog.info? 25).map (·.size) = some LD.length) := by show _ = _; rw [hLD]; exact info_wq _
  have HLDJ : Hid ((Tryd.prog.info? 25).map (·.size) = some LD.toArray.size) := by show _ = _; rw [List.size_toArray, hLD]; exact info_wq _
  have HLDN : Hid (LD.length = zW.length) := by show _ = _; rw [hLD]; exact wq_len _
  have HLDO : Hid (LD.toArray.all (·.oneCell') = true) := by show _ = true; rw [hLD]; exact wq_one _
  obtain ⟨L0, hL0⟩ : ∃ L : List Value, L = wq 0 := ⟨_, rfl⟩
  have HL0E : Hid (L0 = wq 0) := hL0
  have HL0I : Hid ((Tryd.prog.info? 25).map (·.size) = some L0.length) := by show _ = _; rw [hL0]; exact info_wq _
  have HL0J : Hid ((Tryd.prog.info? 25).map (·.size) = some L0.toArray.size) := by show _ = _; rw [List.size_toArray, hL0]; exact info_wq _
  have HL0N : Hid (L0.length = zW.length) := by show _ = _; rw [hL0]; exact wq_len _
  have HL0O : Hid (L0.toArray.all (·.oneCell') = true) := by show _ = true; rw [hL0]; exact wq_one _
  obtain ⟨LT, hLT⟩ : ∃ L : List Value, L = tkl true false 0 := ⟨_, rfl⟩
  have HLTE : Hid (LT = tkl true false 0) := hLT
  have HLTI : Hid ((Tryd.prog.info? 44).map (·.size) = some LT.length) := by show _ = _; rw [hLT]; exact info_tkl _ _ _
  have HLTJ : Hid ((Tryd.prog.info? 44).map (·.size) = some LT.toArray.size) := by show _ = _; rw [List.size_toArray, hLT]; exact info_tkl _ _ _
  have HLTN : Hid (LT.length = zK.length) := by show _ = _; rw [hLT]; exact tkl_len _ _ _
  have HLTO : Hid (LT.toArray.all (·.oneCell') = true) := by show _ = true; rw [hLT]; exact tkl_one _ _ _
  have KM1 : Hid (∀ U S W, Led U W S 6 t a B1 A0 → Calls Tryd.prog 9 #[.pointer (some ⟨S, 0, none⟩), .int .i64 (t : Int), .agg (vB x).toArray, .agg (vB y).toArray, .agg LB.toArray] W fun e w' => e = .returned (.int .i64 0) ∧ Led U w' S 11 t a B2 A0 ∧ Kp W w') := fun U S W hW => by rw [hB2]; exact movL U S 6 t a B1 A0 (by decide) ht ha x y hx hy b hb (by rw [g1x]; exact ha) (by rw [g1y]; omega) (by rw [g1x]; exact hab) (fun q => by rw [g1y]; omega) LB hLB W hW
  have KM2 : Hid (∀ U S W, Led U W S 11 t a B2 A0 → Calls Tryd.prog 9 #[.pointer (some ⟨S, 0, none⟩), .int .i64 (t : Int), .agg (vB y).toArray, .agg (vB x).toArray, .agg LB.toArray] W fun e w' => e = .returned (.int .i64 0) ∧ Led U w' S 16 t a B3 A0 ∧ Kp W w') := fun U S W hW => by rw [hB3]; exact movL U S 11 t a B2 A0 (by decide) ht ha y x hy hx b hb (by rw [g2y]; omega) (by rw [g2x]; omega) e1 (fun q => by rw [g2x]; omega) LB hLB W hW
  have KB1 : Hid (∀ U S W, Led U W S 16 t a B3 A0 → Calls Tryd.prog 11 #[.pointer (some ⟨S, 0, none⟩), .int .i64 (t : Int), .agg (vB x).toArray] W fun e w' => e = .returned (.tuple #[.agg LA.toArray, .int .i64 0]) ∧ Led U w' S 17 t a B3 A0 ∧ Kp W w') := fun U S W hW => balL U S 16 t a B3 A0 (by decide) ht x hx a g3x ha LA hLA W hW
  have KP1 : Hid (∀ U S W, Led U W S 17 t a B3 A0 → Calls Tryd.prog 12 #[.pointer (some ⟨S, 0, none⟩), .int .i64 (t : Int), .agg (vB z).toArray, .agg (vB x).toArray, .agg (vB y).toArray, .agg LB.toArray] W fun e w' => e = .returned (.int .i64 0) ∧ Led U w' S 24 t a B3 A0 ∧ Kp W w') := fun U S W hW => by
    refine Calls.mono (pulL U S 17 t a B3 A0 (by decide) ht ha z x y hz hx hy b hb (by rw [a0]; decide) (by rw [hb0]; exact Nat.zero_le _) (by rw [g3x]; exact ha) (by rw [g3y]; omega) (by rw [g3x]; exact hab) (fun q => by rw [g3y]; omega) LB hLB W hW) ?_
    rintro e w' ⟨r, hL, hK⟩
    exact ⟨r, hL.of (fun u => by rw [hb0]; exact (mB_zero B3 x y u).symm) (fun u v => by rw [hb0, Nat.sub_zero]; exact (sA_id A0 x z u v).symm), hK⟩
  have KAL : Hid (∀ U S W, Led U W S 24 t a B3 A0 → Calls Tryd.prog 13 #[.pointer (some ⟨S, 0, none⟩), .int .i64 (t : Int), .agg (vB x).toArray, .agg (vB z).toArray, .agg LB.toArray] W fun e w' => e = .returned (.int .i64 0) ∧ Led U w' S 26 t a B3 A1 ∧ Kp W w') := fun U S W hW => by rw [hA1]; exact alwL U S 24 t a B3 A0 (by decide) ht ha x z hx hz b hb LB hLB W hW
  have KP2 : Hid (∀ U S W, Led U W S 26 t a B3 A1 → Calls Tryd.prog 12 #[.pointer (some ⟨S, 0, none⟩), .int .i64 (t : Int), .agg (vB z).toArray, .agg (vB x).toArray, .agg (vB y).toArray, .agg LB.toArray] W fun e w' => e = .returned (.int .i64 0) ∧ Led U w' S 33 t a B5 A2 ∧ Kp W w') := fun U S W hW => by rw [hB5, hA2]; exact pulL U S 26 t a B3 A1 (by decide) ht ha z x y hz hx hy b hb (by rw [a1]; exact hb) (by rw [a1]; exact Nat.le_refl _) (by rw [g3x]; exact ha) (by rw [g3y]; omega) (by rw [g3x]; exact hab) (fun q => by rw [g3y]; omega) LB hLB W hW
  have KAD : Hid (∀ U S W, Led U W S 33 t a B5 A2 → Calls Tryd.prog 14 #[.pointer (some ⟨S, 0, none⟩), .int .i64 (t : Int), .agg (vB x).toArray, .agg (vB z).toArray] W fun e w' => e = .returned (.tuple #[.agg L0.toArray, .int .i64 0]) ∧ Led U w' S 34 t a B5 A2 ∧ Kp W w') := fun U S W hW => aldL U S 33 t a B5 A2 (by decide) ht x z hx hz 0 a2 (by decide) L0 hL0 W hW
  have KB2 : Hid (∀ U S W, Led U W S 34 t a B5 A2 → Calls Tryd.prog 11 #[.pointer (some ⟨S, 0, none⟩), .int .i64 (t : Int), .agg (vB x).toArray] W fun e w' => e = .returned (.tuple #[.agg LC.toArray, .int .i64 0]) ∧ Led U w' S 35 t a B5 A2 ∧ Kp W w') := fun U S W hW => balL U S 34 t a B5 A2 (by decide) ht x hx cv b5x hcl2 LC hLC W hW
  have KB3 : Hid (∀ U S W, Led U W S 35 t a B5 A2 → Calls Tryd.prog 11 #[.pointer (some ⟨S, 0, none⟩), .int .i64 (t : Int), .agg (vB y).toArray] W fun e w' => e = .returned (.tuple #[.agg LD.toArray, .int .i64 0]) ∧ Led U w' S 36 t a B5 A2 ∧ Kp W w') := fun U S W hW => balL U S 35 t a B5 A2 (by decide) ht y hy dv b5y hdl LD hLD W hW
  have KU1 : Hid (∀ U S W, Led U W S 36 t a B5 A2 → Calls Tryd.prog 15 #[.pointer (some ⟨S, 0, none⟩), .int .i64 (t : Int), .agg (vB x).toArray, .agg LC.toArray] W fun e w' => e = .returned (.int .i64 0) ∧ Led U w' S 40 t dv B6 A2 ∧ Kp W w') := fun U S W hW => by have q := brnL U S 36 t a B5 A2 (by decide) ht cv ha hcl2 x hx (by rw [b5x]; exact hcl2) (by omega) (by rw [b5x]; exact Nat.le_refl _) LC hLC W hW; rw [e2, ← hB6] at q; exact q
  have g6y : B6 y = dv := by rw [hB6, sB_other _ _ _ _ hyx, b5y]
  obtain ⟨B7, hB7⟩ : ∃ B, B = sB B6 y (B6 y - dv) := ⟨_, rfl⟩
  have KU2 : Hid (∀ U S W, Led U W S 40 t dv B6 A2 → Calls Tryd.prog 15 #[.pointer (some ⟨S, 0, none⟩), .int .i64 (t : Int), .agg (vB y).toArray, .agg LD.toArray] W fun e w' => e = .returned (.int .i64 0) ∧ Led U w' S 44 t 0 B7 A2 ∧ Kp W w') := fun U S W hW => by have q := brnL U S 40 t dv B6 A2 (by decide) ht dv hdl hdl y hy (by rw [g6y]; exact hdl) (Nat.le_refl _) (by rw [g6y]; exact Nat.le_refl _) LD hLD W hW; rw [Nat.sub_self, ← hB7] at q; exact q
  have KTO : Hid (∀ U S W, Led U W S 44 t 0 B7 A2 → Calls Tryd.prog 16 #[.pointer (some ⟨S, 0, none⟩), .int .i64 (t : Int)] W fun e w' => e = .returned (.tuple #[.agg LT.toArray, .int .i64 0]) ∧ Led U w' S (44 + 1) t 0 B7 A2 ∧ Kp W w') := fun U S W hW => tokL U S 44 t 0 B7 A2 (by decide) ht (by decide) LT hLT W hW
  have HB0 : Hid (∀ w, (Instr.build 25 #[]).run Tryd.prog w = .ok (.agg L0.toArray) w) := fun w => by rw [hL0]; exact build_w0 w
  have HBT : Hid (∀ w, (Instr.build 44 #[(0, .bool true)]).run Tryd.prog w = .ok (.agg LT.toArray) w) := fun w => by rw [hLT]; exact build_tokT w
  have HTT : Hid (∀ w, (binOp .eql 44 (.agg LT.toArray) (.agg LT.toArray)).run Tryd.prog w = .ok (.bool true) w) := fun w => by rw [hLT]; exact tok_tt w
  have HEB : Hid (decide (b = 0) = true) := decide_eq_true hb0
  have HEX : Hid ((!decide (x = y)) = true) := by rw [decide_eq_false hxy]; rfl
  clear ht hpk h1 h2 hc0 hc1 hcA hcB hcl hLA hLB hn ha hb hx hy hz hX hY hZ hA0 hB0 hB1 g0 g1x hab hE hB2 hB3 hA1 hB5 hA2 a0 a1 a2 g1y g2x g2y g3x g3y g5x g5y hcv hdv e1 e2 hcl2 hdl b5x b5y hB6 hLC hLD hL0 hLT hb0 hxy hyx g6y hB7
  go_enter Tryd.func3, Tryd.ntmps3
  go_wp2_with (refine wpList_boxG 27 rfl (.tmp 0) rfl cs rfl ?_; intro X1 q1 q2 q3; have R1 : Hid (Row X1 _ cs 27) := q1; have BX1 : Hid (Below _ _ X1) := q2; clear q1 q2 q3; simp only [Act.put, List.setIfInBounds_toArray, List.set_cons_zero, List.set_cons_succ])
  obtain ⟨b1, hb1⟩ : ∃ b, b = w.heap.size := ⟨_, rfl⟩
  replace R1 : Hid (Row X1 b1 cs 27) := by rw [hb1]; exact R1.out
  rw [← hb1]
  clear hb1
  refine Calls.mono (known_any X1) ?_
  rintro e U ⟨rfl, hB⟩
  replace R1 : Hid (Row U b1 cs 27) := Row.below R1.out hB R1.out.lt
  have BU : Hid (Below w.heap.size w U) := BX1.out.trans (hB.mono BX1.out.size)
  clear hB BX1
  go_wp2_with fail
  refine Calls.mono (over_nil U) ?_
  rintro e V ⟨S, rfl, hG⟩
  replace R1 : Hid (Row V b1 cs 27) := Row.below R1.out hG.bel R1.out.lt
  have HG : Hid (Lg U V S 0 (fun _ => [])) := hG
  have c0 := R1.out.cell 0 _ HC0.out
  clear hG
  go_wp2_with fail
  refine Calls.mono (HP.out V) ?_
  rintro e Vx ⟨rfl, hqq⟩
  obtain rfl := hqq.symm
  have SA1 : Hid (V.rangeAt b1 2 LA) := by show World.rangeAt _ _ _ _; rw [← HCA.out]; exact sub_range R1.out 2 4
  clear HP c0
  obtain ⟨b6, hb6⟩ : ∃ b, b = V.heap.size := ⟨_, rfl⟩
  have HBb6 : Hid (b6 = V.heap.size) := hb6
  clear hb6
  go_upto_region 5 with (first
    | (refine wpList_load_w rfl 25 (.tmp 36) rfl b1 2 rfl LA _ SA1.out Tryd.underlying25 rfl HLAI.out ?_; simp only [Act.put, List.setIfInBounds_toArray, List.set_cons_zero, List.set_cons_succ])
    | (refine wpList_allocW rfl rfl ?_; intro XA q1 q2 q3; have QA : Hid (Row XA _ zW 25) := q1; have BA : Hid (Below _ _ XA) := q2; clear q1 q2 q3; simp only [Act.put, List.setIfInBounds_toArray, List.set_cons_zero, List.set_cons_succ])
    | (refine wpList_storeL rfl 25 (.tmp 6) (.tmp 37) rfl V.heap.size LA zW 25 rfl rfl QA.out HLAN.out HLAI.out HLAO.out ?_; intro YA q1 q2; have HYA : Hid (YA = _) := q1; have RYA : Hid (Row YA V.heap.size LA 25) := q2; clear q1 q2; simp only [Act.put]))
  rw [← HBb6.out] at RYA HYA
  rw [← HBb6.out]
  have cb : Below V.heap.size V YA := by rw [HYA.out]; exact below_setCells BA.out (by rw [HBb6.out]; exact Nat.le_refl _) _
  replace R1 : Hid (Row YA b1 cs 27) := Row.below R1.out cb R1.out.lt
  replace HG : Hid (Lg U YA S 0 (fun _ => [])) := HG.out.be cb
  clear cb HYA BA HBb6
  have R6 : Hid (Row YA b6 LA 25) := RYA.out
  have SB1 : Hid (YA.rangeAt b1 6 LB) := by show World.rangeAt _ _ _ _; rw [← HCB.out]; exact sub_range R1.out 6 4
  clear RYA QA SA1
  obtain ⟨b7, hb7⟩ : ∃ b, b = YA.heap.size := ⟨_, rfl⟩
  have HBb7 : Hid (b7 = YA.heap.size) := hb7
  clear hb7
  go_upto_region 6 with (first
    | (refine wpList_load_w rfl 25 (.tmp 38) rfl b1 6 rfl LB _ SB1.out Tryd.underlying25 rfl HLBI.out ?_; simp only [Act.put, List.setIfInBounds_toArray, List.set_cons_zero, List.set_cons_succ])
    | (refine wpList_allocW rfl rfl ?_; intro XB q1 q2 q3; have QB : Hid (Row XB _ zW 25) := q1; have BB : Hid (Below _ _ XB) := q2; clear q1 q2 q3; simp only [Act.put, List.setIfInBounds_toArray, List.set_cons_zero, List.set_cons_succ])
    | (refine wpList_storeL rfl 25 (.tmp 7) (.tmp 39) rfl YA.heap.size LB zW 25 rfl rfl QB.out HLBN.out HLBI.out HLBO.out ?_; intro YB q1 q2; have HYB : Hid (YB = _) := q1; have RYB : Hid (Row YB YA.heap.size LB 25) := q2; clear q1 q2; simp only [Act.put]))
  rw [← HBb7.out] at RYB HYB
  rw [← HBb7.out]
  have cb : Below YA.heap.size YA YB := by rw [HYB.out]; exact below_setCells BB.out (by rw [HBb7.out]; exact Nat.le_refl _) _
  replace R1 : Hid (Row YB b1 cs 27) := Row.below R1.out cb R1.out.lt
  replace R6 : Hid (Row YB b6 LA 25) := Row.below R6.out cb R6.out.lt
  replace HG : Hid (Lg U YB S 0 (fun _ => [])) := HG.out.be cb
  clear cb HYB BB HBb7
  have R7 : Hid (Row YB b7 LB 25) := RYB.out
  have c1 := R1.out.cell 1 _ HC1.out
  clear RYB QB SB1
  have Sx : Hid (YB.rangeAt g o (vB x)) := rng_be HX0.out (BU.out.trans (HG.out.bel.mono BU.out.size)) (Nat.le_refl _)
  obtain ⟨b8, hb8⟩ : ∃ b, b = YB.heap.size := ⟨_, rfl⟩
  have HBb8 : Hid (b8 = YB.heap.size) := hb8
  clear hb8
  go_upto_region 9 with (first
    | (refine wpList_ix_a rfl (.tmp 54) (.const (.int .i64 0)) rfl g o n cap 0 o (by omega) 0 rfl rfl rfl (by have := HN.out; omega) ?_; simp only [Act.put, List.setIfInBounds_toArray, List.set_cons_zero, List.set_cons_succ])
    | (refine wpList_load_w rfl 33 (.tmp 55) rfl g o rfl (vB x) _ Sx.out Tryd.underlying33 rfl HxI.out ?_; simp only [Act.put, List.setIfInBounds_toArray, List.set_cons_zero, List.set_cons_succ])
    | (refine wpList_allocA rfl rfl ?_; intro XYX q1 q2 q3; have QYX : Hid (Row XYX _ zA 33) := q1; have BYX : Hid (Below _ _ XYX) := q2; clear q1 q2 q3; simp only [Act.put, List.setIfInBounds_toArray, List.set_cons_zero, List.set_cons_succ])
    | (refine wpList_storeL rfl 33 (.tmp 8) (.tmp 56) rfl YB.heap.size (vB x) zA 33 rfl rfl QYX.out HxN.out HxI.out HxO.out ?_; intro YX q1 q2; have HYX : Hid (YX = _) := q1; have RYX : Hid (Row YX YB.heap.size (vB x) 33) := q2; clear q1 q2; simp only [Act.put]))
  rw [← HBb8.out] at RYX HYX
  rw [← HBb8.out]
  have cb : Below YB.heap.size YB YX := by rw [HYX.out]; exact below_setCells BYX.out (by rw [HBb8.out]; exact Nat.le_refl _) _
  replace R1 : Hid (Row YX b1 cs 27) := Row.below R1.out cb R1.out.lt
  replace R6 : Hid (Row YX b6 LA 25) := Row.below R6.out cb R6.out.lt
  replace R7 : Hid (Row YX b7 LB 25) := Row.below R7.out cb R7.out.lt
  replace HG : Hid (Lg U YX S 0 (fun _ => [])) := HG.out.be cb
  clear cb HYX BYX HBb8
  have R8 : Hid (Row YX b8 (vB x) 33) := RYX.out
  clear RYX QYX Sx c1
  have c1 := R1.out.cell 1 _ HC1.out
  have Sy : Hid (YX.rangeAt g (o + 20) (vB y)) := rng_be HY0.out (BU.out.trans (HG.out.bel.mono BU.out.size)) (Nat.le_refl _)
  obtain ⟨b9, hb9⟩ : ∃ b, b = YX.heap.size := ⟨_, rfl⟩
  have HBb9 : Hid (b9 = YX.heap.size) := hb9
  clear hb9
  go_upto_region 10 with (first
    | (refine wpList_ix_a rfl (.tmp 58) (.const (.int .i64 1)) rfl g o n cap 1 (o + 20) (by omega) 1 rfl rfl rfl (by have := HN.out; omega) ?_; simp only [Act.put, List.setIfInBounds_toArray, List.set_cons_zero, List.set_cons_succ])
    | (refine wpList_load_w rfl 33 (.tmp 59) rfl g (o + 20) rfl (vB y) _ Sy.out Tryd.underlying33 rfl HyI.out ?_; simp only [Act.put, List.setIfInBounds_toArray, List.set_cons_zero, List.set_cons_succ])
    | (refine wpList_allocA rfl rfl ?_; intro XYY q1 q2 q3; have QYY : Hid (Row XYY _ zA 33) := q1; have BYY : Hid (Below _ _ XYY) := q2; clear q1 q2 q3; simp only [Act.put, List.setIfInBounds_toArray, List.set_cons_zero, List.set_cons_succ])
    | (refine wpList_storeL rfl 33 (.tmp 9) (.tmp 60) rfl YX.heap.size (vB y) zA 33 rfl rfl QYY.out HyN.out HyI.out HyO.out ?_; intro YY q1 q2; have HYY : Hid (YY = _) := q1; have RYY : Hid (Row YY YX.heap.size (vB y) 33) := q2; clear q1 q2; simp only [Act.put]))
  rw [← HBb9.out] at RYY HYY
  rw [← HBb9.out]
  have cb : Below YX.heap.size YX YY := by rw [HYY.out]; exact below_setCells BYY.out (by rw [HBb9.out]; exact Nat.le_refl _) _
  replace R1 : Hid (Row YY b1 cs 27) := Row.below R1.out cb R1.out.lt
  replace R6 : Hid (Row YY b6 LA 25) := Row.below R6.out cb R6.out.lt
  replace R7 : Hid (Row YY b7 LB 25) := Row.below R7.out cb R7.out.lt
  replace R8 : Hid (Row YY b8 (vB x) 33) := Row.below R8.out cb R8.out.lt
  replace HG : Hid (Lg U YY S 0 (fun _ => [])) := HG.out.be cb
  clear cb HYY BYY HBb9
  have R9 : Hid (Row YY b9 (vB y) 33) := RYY.out
  clear RYY QYY Sy c1
  have c1 := R1.out.cell 1 _ HC1.out
  have Sz : Hid (YY.rangeAt g (o + 40) (vB z)) := rng_be HZ0.out (BU.out.trans (HG.out.bel.mono BU.out.size)) (Nat.le_refl _)
  obtain ⟨b10, hb10⟩ : ∃ b, b = YY.heap.size := ⟨_, rfl⟩
  have HBb10 : Hid (b10 = YY.heap.size) := hb10
  clear hb10
  go_upto_region 11 with (first
    | (refine wpList_ix_a rfl (.tmp 62) (.const (.int .i64 2)) rfl g o n cap 2 (o + 40) (by omega) 2 rfl rfl rfl (by have := HN.out; omega) ?_; simp only [Act.put, List.setIfInBounds_toArray, List.set_cons_zero, List.set_cons_succ])
    | (refine wpList_load_w rfl 33 (.tmp 63) rfl g (o + 40) rfl (vB z) _ Sz.out Tryd.underlying33 rfl HzI.out ?_; simp only [Act.put, List.setIfInBounds_toArray, List.set_cons_zero, List.set_cons_succ])
    | (refine wpList_allocA rfl rfl ?_; intro XYZ q1 q2 q3; have QYZ : Hid (Row XYZ _ zA 33) := q1; have BYZ : Hid (Below _ _ XYZ) := q2; clear q1 q2 q3; simp only [Act.put, List.setIfInBounds_toArray, List.set_cons_zero, List.set_cons_succ])
    | (refine wpList_storeL rfl 33 (.tmp 10) (.tmp 64) rfl YY.heap.size (vB z) zA 33 rfl rfl QYZ.out HzN.out HzI.out HzO.out ?_; intro YZ q1 q2; have HYZ : Hid (YZ = _) := q1; have RYZ : Hid (Row YZ YY.heap.size (vB z) 33) := q2; clear q1 q2; simp only [Act.put]))
  rw [← HBb10.out] at RYZ HYZ
  rw [← HBb10.out]
  have cb : Below YY.heap.size YY YZ := by rw [HYZ.out]; exact below_setCells BYZ.out (by rw [HBb10.out]; exact Nat.le_refl _) _
  replace R1 : Hid (Row YZ b1 cs 27) := Row.below R1.out cb R1.out.lt
  replace R6 : Hid (Row YZ b6 LA 25) := Row.below R6.out cb R6.out.lt
  replace R7 : Hid (Row YZ b7 LB 25) := Row.below R7.out cb R7.out.lt
  replace R8 : Hid (Row YZ b8 (vB x) 33) := Row.below R8.out cb R8.out.lt
  replace R9 : Hid (Row YZ b9 (vB y) 33) := Row.below R9.out cb R9.out.lt
  replace HG : Hid (Lg U YZ S 0 (fun _ => [])) := HG.out.be cb
  clear cb HYZ BYZ HBb10
  have R10 : Hid (Row YZ b10 (vB z) 33) := RYZ.out
  clear RYZ QYZ Sz c1
  clear R1
  have HX : Hid _ := KRG.out U S YZ HG.out
  clear HG KRG
  go_wp2_with fail
  refine Calls.mono HX.out ?_
  rintro e V1 ⟨rfl, hG, hK⟩
  replace R6 : Hid (Row V1 b6 LA 25) := hK.row _ _ _ (by decide) R6.out
  replace R7 : Hid (Row V1 b7 LB 25) := hK.row _ _ _ (by decide) R7.out
  replace R8 : Hid (Row V1 b8 (vB x) 33) := hK.row _ _ _ (by decide) R8.out
  replace R9 : Hid (Row V1 b9 (vB y) 33) := hK.row _ _ _ (by decide) R9.out
  replace R10 : Hid (Row V1 b10 (vB z) 33) := hK.row _ _ _ (by decide) R10.out
  have HG : Hid (Led U V1 S 2 t 0 B0 A0) := hG
  clear hG hK HX 
  have HX : Hid _ := KMI.out U S V1 HG.out
  have Tx : Hid (V1.rangeAt b8 0 (vB x)) := R8.out.all
  have Ta : Hid (V1.rangeAt b6 0 LA) := R6.out.all
  clear HG KMI
  go_wp2_with (first
    | (refine wpList_load_w rfl 33 (.tmp 8) rfl b8 0 rfl (vB x) _ Tx.out Tryd.underlying33 rfl HxI.out ?_; simp only [Act.put, List.setIfInBounds_toArray, List.set_cons_zero, List.set_cons_succ])
    | (refine wpList_load_w rfl 25 (.tmp 6) rfl b6 0 rfl LA _ Ta.out Tryd.underlying25 rfl HLAI.out ?_; simp only [Act.put, List.setIfInBounds_toArray, List.set_cons_zero, List.set_cons_succ]))
  refine Calls.mono HX.out ?_
  rintro e V2 ⟨rfl, hG, hK⟩
  replace R6 : Hid (Row V2 b6 LA 25) := hK.row _ _ _ (by decide) R6.out
  replace R7 : Hid (Row V2 b7 LB 25) := hK.row _ _ _ (by decide) R7.out
  replace R8 : Hid (Row V2 b8 (vB x) 33) := hK.row _ _ _ (by decide) R8.out
  replace R9 : Hid (Row V2 b9 (vB y) 33) := hK.row _ _ _ (by decide) R9.out
  replace R10 : Hid (Row V2 b10 (vB z) 33) := hK.row _ _ _ (by decide) R10.out
  have HG : Hid (Led U V2 S 6 t a B1 A0) := hG
  clear hG hK HX Tx Ta
  have HX : Hid _ := KM1.out U S V2 HG.out
  have Tx : Hid (V2.rangeAt b8 0 (vB x)) := R8.out.all
  have Ty : Hid (V2.rangeAt b9 0 (vB y)) := R9.out.all
  have Tb : Hid (V2.rangeAt b7 0 LB) := R7.out.all
  clear HG KM1
  go_wp2_with (first
    | (refine wpList_load_w rfl 33 (.tmp 8) rfl b8 0 rfl (vB x) _ Tx.out Tryd.underlying33 rfl HxI.out ?_; simp only [Act.put, List.setIfInBounds_toArray, List.set_cons_zero, List.set_cons_succ])
    | (refine wpList_load_w rfl 33 (.tmp 9) rfl b9 0 rfl (vB y) _ Ty.out Tryd.underlying33 rfl HyI.out ?_; simp only [Act.put, List.setIfInBounds_toArray, List.set_cons_zero, List.set_cons_succ])
    | (refine wpList_load_w rfl 25 (.tmp 7) rfl b7 0 rfl LB _ Tb.out Tryd.underlying25 rfl HLBI.out ?_; simp only [Act.put, List.setIfInBounds_toArray, List.set_cons_zero, List.set_cons_succ]))
  refine Calls.mono HX.out ?_
  rintro e V3 ⟨rfl, hG, hK⟩
  replace R6 : Hid (Row V3 b6 LA 25) := hK.row _ _ _ (by decide) R6.out
  replace R7 : Hid (Row V3 b7 LB 25) := hK.row _ _ _ (by decide) R7.out
  replace R8 : Hid (Row V3 b8 (vB x) 33) := hK.row _ _ _ (by decide) R8.out
  replace R9 : Hid (Row V3 b9 (vB y) 33) := hK.row _ _ _ (by decide) R9.out
  replace R10 : Hid (Row V3 b10 (vB z) 33) := hK.row _ _ _ (by decide) R10.out
  have HG : Hid (Led U V3 S 11 t a B2 A0) := hG
  clear hG hK HX Tx Ty Tb
  have Ta : Hid (V3.rangeAt b6 0 LA) := R6.out.all
  have Tb : Hid (V3.rangeAt b7 0 LB) := R7.out.all
  go_wp2_with (first
    | (refine wpList_load_w rfl 25 (.tmp 6) rfl b6 0 rfl LA _ Ta.out Tryd.underlying25 rfl HLAI.out ?_; simp only [Act.put, List.setIfInBounds_toArray, List.set_cons_zero, List.set_cons_succ])
    | (refine wpList_load_w rfl 25 (.tmp 7) rfl b7 0 rfl LB _ Tb.out Tryd.underlying25 rfl HLBI.out ?_; simp only [Act.put, List.setIfInBounds_toArray, List.set_cons_zero, List.set_cons_succ]))
  refine Calls.mono (HCM.out V3) ?_
  rintro e V4 ⟨rfl, hB⟩
  replace R6 : Hid (Row V4 b6 LA 25) := Row.below R6.out hB R6.out.lt
  replace R7 : Hid (Row V4 b7 LB 25) := Row.below R7.out hB R7.out.lt
  replace R8 : Hid (Row V4 b8 (vB x) 33) := Row.below R8.out hB R8.out.lt
  replace R9 : Hid (Row V4 b9 (vB y) 33) := Row.below R9.out hB R9.out.lt
  replace R10 : Hid (Row V4 b10 (vB z) 33) := Row.below R10.out hB R10.out.lt
  replace HG : Hid (Led U V4 S 11 t a B2 A0) := HG.out.be hB
  clear hB Ta Tb HCM
  have HX : Hid _ := KM2.out U S V4 HG.out
  have Ty : Hid (V4.rangeAt b9 0 (vB y)) := R9.out.all
  have Tx : Hid (V4.rangeAt b8 0 (vB x)) := R8.out.all
  have Tb : Hid (V4.rangeAt b7 0 LB) := R7.out.all
  clear HG KM2
  go_wp2_with (first
    | (refine wpList_load_w rfl 33 (.tmp 9) rfl b9 0 rfl (vB y) _ Ty.out Tryd.underlying33 rfl HyI.out ?_; simp only [Act.put, List.setIfInBounds_toArray, List.set_cons_zero, List.set_cons_succ])
    | (refine wpList_load_w rfl 33 (.tmp 8) rfl b8 0 rfl (vB x) _ Tx.out Tryd.underlying33 rfl HxI.out ?_; simp only [Act.put, List.setIfInBounds_toArray, List.set_cons_zero, List.set_cons_succ])
    | (refine wpList_load_w rfl 25 (.tmp 7) rfl b7 0 rfl LB _ Tb.out Tryd.underlying25 rfl HLBI.out ?_; simp only [Act.put, List.setIfInBounds_toArray, List.set_cons_zero, List.set_cons_succ]))
  refine Calls.mono HX.out ?_
  rintro e V5 ⟨rfl, hG, hK⟩
  replace R6 : Hid (Row V5 b6 LA 25) := hK.row _ _ _ (by decide) R6.out
  replace R7 : Hid (Row V5 b7 LB 25) := hK.row _ _ _ (by decide) R7.out
  replace R8 : Hid (Row V5 b8 (vB x) 33) := hK.row _ _ _ (by decide) R8.out
  replace R9 : Hid (Row V5 b9 (vB y) 33) := hK.row _ _ _ (by decide) R9.out
  replace R10 : Hid (Row V5 b10 (vB z) 33) := hK.row _ _ _ (by decide) R10.out
  have HG : Hid (Led U V5 S 16 t a B3 A0) := hG
  clear hG hK HX Ty Tx Tb
  have HX : Hid _ := KB1.out U S V5 HG.out
  have Tx : Hid (V5.rangeAt b8 0 (vB x)) := R8.out.all
  clear HG KB1
  go_wp2_with (first
    | (refine wpList_load_w rfl 33 (.tmp 8) rfl b8 0 rfl (vB x) _ Tx.out Tryd.underlying33 rfl HxI.out ?_; simp only [Act.put, List.setIfInBounds_toArray, List.set_cons_zero, List.set_cons_succ]))
  refine Calls.mono HX.out ?_
  rintro e V6 ⟨rfl, hG, hK⟩
  replace R6 : Hid (Row V6 b6 LA 25) := hK.row _ _ _ (by decide) R6.out
  replace R7 : Hid (Row V6 b7 LB 25) := hK.row _ _ _ (by decide) R7.out
  replace R8 : Hid (Row V6 b8 (vB x) 33) := hK.row _ _ _ (by decide) R8.out
  replace R9 : Hid (Row V6 b9 (vB y) 33) := hK.row _ _ _ (by decide) R9.out
  replace R10 : Hid (Row V6 b10 (vB z) 33) := hK.row _ _ _ (by decide) R10.out
  have HG : Hid (Led U V6 S 17 t a B3 A0) := hG
  clear hG hK HX Tx
  obtain ⟨b16, hb16⟩ : ∃ b, b = V6.heap.size := ⟨_, rfl⟩
  have HBb16 : Hid (b16 = V6.heap.size) := hb16
  clear hb16
  go_upto_region 21 with (first
    | (refine wpList_allocW rfl rfl ?_; intro XP q1 q2 q3; have QP : Hid (Row XP _ zW 25) := q1; have BP : Hid (Below _ _ XP) := q2; clear q1 q2 q3; simp only [Act.put, List.setIfInBounds_toArray, List.set_cons_zero, List.set_cons_succ])
    | (refine wpList_storeL rfl 25 (.tmp 16) (.tmp 116) rfl V6.heap.size LA zW 25 rfl rfl QP.out HLAN.out HLAI.out HLAO.out ?_; intro YP q1 q2; have HYP : Hid (YP = _) := q1; have RYP : Hid (Row YP V6.heap.size LA 25) := q2; clear q1 q2; simp only [Act.put]))
  rw [← HBb16.out] at RYP HYP
  rw [← HBb16.out]
  have cb : Below V6.heap.size V6 YP := by rw [HYP.out]; exact below_setCells BP.out (by rw [HBb16.out]; exact Nat.le_refl _) _
  replace R6 : Hid (Row YP b6 LA 25) := Row.below R6.out cb R6.out.lt
  replace R7 : Hid (Row YP b7 LB 25) := Row.below R7.out cb R7.out.lt
  replace R8 : Hid (Row YP b8 (vB x) 33) := Row.below R8.out cb R8.out.lt
  replace R9 : Hid (Row YP b9 (vB y) 33) := Row.below R9.out cb R9.out.lt
  replace R10 : Hid (Row YP b10 (vB z) 33) := Row.below R10.out cb R10.out.lt
  replace HG : Hid (Led U YP S 17 t a B3 A0) := HG.out.be cb
  clear cb HYP BP HBb16
  have R16 : Hid (Row YP b16 LA 25) := RYP.out
  clear RYP QP
  have HX : Hid _ := KP1.out U S YP HG.out
  have Tz : Hid (YP.rangeAt b10 0 (vB z)) := R10.out.all
  have Tx : Hid (YP.rangeAt b8 0 (vB x)) := R8.out.all
  have Ty : Hid (YP.rangeAt b9 0 (vB y)) := R9.out.all
  have Tb : Hid (YP.rangeAt b7 0 LB) := R7.out.all
  clear HG KP1
  go_wp2_with (first
    | (refine wpList_load_w rfl 33 (.tmp 10) rfl b10 0 rfl (vB z) _ Tz.out Tryd.underlying33 rfl HzI.out ?_; simp only [Act.put, List.setIfInBounds_toArray, List.set_cons_zero, List.set_cons_succ])
    | (refine wpList_load_w rfl 33 (.tmp 8) rfl b8 0 rfl (vB x) _ Tx.out Tryd.underlying33 rfl HxI.out ?_; simp only [Act.put, List.setIfInBounds_toArray, List.set_cons_zero, List.set_cons_succ])
    | (refine wpList_load_w rfl 33 (.tmp 9) rfl b9 0 rfl (vB y) _ Ty.out Tryd.underlying33 rfl HyI.out ?_; simp only [Act.put, List.setIfInBounds_toArray, List.set_cons_zero, List.set_cons_succ])
    | (refine wpList_load_w rfl 25 (.tmp 7) rfl b7 0 rfl LB _ Tb.out Tryd.underlying25 rfl HLBI.out ?_; simp only [Act.put, List.setIfInBounds_toArray, List.set_cons_zero, List.set_cons_succ]))
  refine Calls.mono HX.out ?_
  rintro e V7 ⟨rfl, hG, hK⟩
  replace R6 : Hid (Row V7 b6 LA 25) := hK.row _ _ _ (by decide) R6.out
  replace R7 : Hid (Row V7 b7 LB 25) := hK.row _ _ _ (by decide) R7.out
  replace R8 : Hid (Row V7 b8 (vB x) 33) := hK.row _ _ _ (by decide) R8.out
  replace R9 : Hid (Row V7 b9 (vB y) 33) := hK.row _ _ _ (by decide) R9.out
  replace R10 : Hid (Row V7 b10 (vB z) 33) := hK.row _ _ _ (by decide) R10.out
  replace R16 : Hid (Row V7 b16 LA 25) := hK.row _ _ _ (by decide) R16.out
  have HG : Hid (Led U V7 S 24 t a B3 A0) := hG
  clear hG hK HX Tz Tx Ty Tb
  have HX : Hid _ := KAL.out U S V7 HG.out
  have Tx : Hid (V7.rangeAt b8 0 (vB x)) := R8.out.all
  have Tz : Hid (V7.rangeAt b10 0 (vB z)) := R10.out.all
  have Tb : Hid (V7.rangeAt b7 0 LB) := R7.out.all
  clear HG KAL
  go_wp2_with (first
    | (refine wpList_load_w rfl 33 (.tmp 8) rfl b8 0 rfl (vB x) _ Tx.out Tryd.underlying33 rfl HxI.out ?_; simp only [Act.put, List.setIfInBounds_toArray, List.set_cons_zero, List.set_cons_succ])
    | (refine wpList_load_w rfl 33 (.tmp 10) rfl b10 0 rfl (vB z) _ Tz.out Tryd.underlying33 rfl HzI.out ?_; simp only [Act.put, List.setIfInBounds_toArray, List.set_cons_zero, List.set_cons_succ])
    | (refine wpList_load_w rfl 25 (.tmp 7) rfl b7 0 rfl LB _ Tb.out Tryd.underlying25 rfl HLBI.out ?_; simp only [Act.put, List.setIfInBounds_toArray, List.set_cons_zero, List.set_cons_succ]))
  refine Calls.mono HX.out ?_
  rintro e V8 ⟨rfl, hG, hK⟩
  replace R6 : Hid (Row V8 b6 LA 25) := hK.row _ _ _ (by decide) R6.out
  replace R7 : Hid (Row V8 b7 LB 25) := hK.row _ _ _ (by decide) R7.out
  replace R8 : Hid (Row V8 b8 (vB x) 33) := hK.row _ _ _ (by decide) R8.out
  replace R9 : Hid (Row V8 b9 (vB y) 33) := hK.row _ _ _ (by decide) R9.out
  replace R10 : Hid (Row V8 b10 (vB z) 33) := hK.row _ _ _ (by decide) R10.out
  replace R16 : Hid (Row V8 b16 LA 25) := hK.row _ _ _ (by decide) R16.out
  have HG : Hid (Led U V8 S 26 t a B3 A1) := hG
  clear hG hK HX Tx Tz Tb
  have HX : Hid _ := KP2.out U S V8 HG.out
  have Tz : Hid (V8.rangeAt b10 0 (vB z)) := R10.out.all
  have Tx : Hid (V8.rangeAt b8 0 (vB x)) := R8.out.all
  have Ty : Hid (V8.rangeAt b9 0 (vB y)) := R9.out.all
  have Tb : Hid (V8.rangeAt b7 0 LB) := R7.out.all
  clear HG KP2
  go_wp2_with (first
    | (refine wpList_load_w rfl 33 (.tmp 10) rfl b10 0 rfl (vB z) _ Tz.out Tryd.underlying33 rfl HzI.out ?_; simp only [Act.put, List.setIfInBounds_toArray, List.set_cons_zero, List.set_cons_succ])
    | (refine wpList_load_w rfl 33 (.tmp 8) rfl b8 0 rfl (vB x) _ Tx.out Tryd.underlying33 rfl HxI.out ?_; simp only [Act.put, List.setIfInBounds_toArray, List.set_cons_zero, List.set_cons_succ])
    | (refine wpList_load_w rfl 33 (.tmp 9) rfl b9 0 rfl (vB y) _ Ty.out Tryd.underlying33 rfl HyI.out ?_; simp only [Act.put, List.setIfInBounds_toArray, List.set_cons_zero, List.set_cons_succ])
    | (refine wpList_load_w rfl 25 (.tmp 7) rfl b7 0 rfl LB _ Tb.out Tryd.underlying25 rfl HLBI.out ?_; simp only [Act.put, List.setIfInBounds_toArray, List.set_cons_zero, List.set_cons_succ]))
  refine Calls.mono HX.out ?_
  rintro e V9 ⟨rfl, hG, hK⟩
  replace R6 : Hid (Row V9 b6 LA 25) := hK.row _ _ _ (by decide) R6.out
  replace R7 : Hid (Row V9 b7 LB 25) := hK.row _ _ _ (by decide) R7.out
  replace R8 : Hid (Row V9 b8 (vB x) 33) := hK.row _ _ _ (by decide) R8.out
  replace R9 : Hid (Row V9 b9 (vB y) 33) := hK.row _ _ _ (by decide) R9.out
  replace R10 : Hid (Row V9 b10 (vB z) 33) := hK.row _ _ _ (by decide) R10.out
  replace R16 : Hid (Row V9 b16 LA 25) := hK.row _ _ _ (by decide) R16.out
  have HG : Hid (Led U V9 S 33 t a B5 A2) := hG
  clear hG hK HX Tz Tx Ty Tb
  have HX : Hid _ := KAD.out U S V9 HG.out
  have Tx : Hid (V9.rangeAt b8 0 (vB x)) := R8.out.all
  have Tz : Hid (V9.rangeAt b10 0 (vB z)) := R10.out.all
  clear HG KAD
  go_wp2_with (first
    | (refine wpList_load_w rfl 33 (.tmp 8) rfl b8 0 rfl (vB x) _ Tx.out Tryd.underlying33 rfl HxI.out ?_; simp only [Act.put, List.setIfInBounds_toArray, List.set_cons_zero, List.set_cons_succ])
    | (refine wpList_load_w rfl 33 (.tmp 10) rfl b10 0 rfl (vB z) _ Tz.out Tryd.underlying33 rfl HzI.out ?_; simp only [Act.put, List.setIfInBounds_toArray, List.set_cons_zero, List.set_cons_succ]))
  refine Calls.mono HX.out ?_
  rintro e W1 ⟨rfl, hG, hK⟩
  replace R6 : Hid (Row W1 b6 LA 25) := hK.row _ _ _ (by decide) R6.out
  replace R7 : Hid (Row W1 b7 LB 25) := hK.row _ _ _ (by decide) R7.out
  replace R8 : Hid (Row W1 b8 (vB x) 33) := hK.row _ _ _ (by decide) R8.out
  replace R9 : Hid (Row W1 b9 (vB y) 33) := hK.row _ _ _ (by decide) R9.out
  replace R10 : Hid (Row W1 b10 (vB z) 33) := hK.row _ _ _ (by decide) R10.out
  replace R16 : Hid (Row W1 b16 LA 25) := hK.row _ _ _ (by decide) R16.out
  have HG : Hid (Led U W1 S 34 t a B5 A2) := hG
  clear hG hK HX Tx Tz
  obtain ⟨b21, hb21⟩ : ∃ b, b = W1.heap.size := ⟨_, rfl⟩
  have HBb21 : Hid (b21 = W1.heap.size) := hb21
  clear hb21
  go_upto_region 25 with (first
    | (refine wpList_allocW rfl rfl ?_; intro XL q1 q2 q3; have QL : Hid (Row XL _ zW 25) := q1; have BL : Hid (Below _ _ XL) := q2; clear q1 q2 q3; simp only [Act.put, List.setIfInBounds_toArray, List.set_cons_zero, List.set_cons_succ])
    | (refine wpList_storeL rfl 25 (.tmp 21) (.tmp 144) rfl W1.heap.size L0 zW 25 rfl rfl QL.out HL0N.out HL0I.out HL0O.out ?_; intro YL q1 q2; have HYL : Hid (YL = _) := q1; have RYL : Hid (Row YL W1.heap.size L0 25) := q2; clear q1 q2; simp only [Act.put]))
  rw [← HBb21.out] at RYL HYL
  rw [← HBb21.out]
  have cb : Below W1.heap.size W1 YL := by rw [HYL.out]; exact below_setCells BL.out (by rw [HBb21.out]; exact Nat.le_refl _) _
  replace R6 : Hid (Row YL b6 LA 25) := Row.below R6.out cb R6.out.lt
  replace R7 : Hid (Row YL b7 LB 25) := Row.below R7.out cb R7.out.lt
  replace R8 : Hid (Row YL b8 (vB x) 33) := Row.below R8.out cb R8.out.lt
  replace R9 : Hid (Row YL b9 (vB y) 33) := Row.below R9.out cb R9.out.lt
  replace R10 : Hid (Row YL b10 (vB z) 33) := Row.below R10.out cb R10.out.lt
  replace R16 : Hid (Row YL b16 LA 25) := Row.below R16.out cb R16.out.lt
  replace HG : Hid (Led U YL S 34 t a B5 A2) := HG.out.be cb
  clear cb HYL BL HBb21
  have R21 : Hid (Row YL b21 L0 25) := RYL.out
  clear RYL QL
  have T16 : Hid (YL.rangeAt b16 0 LA) := R16.out.all
  have T6 : Hid (YL.rangeAt b6 0 LA) := R6.out.all
  have T7 : Hid (YL.rangeAt b7 0 LB) := R7.out.all
  have T21 : Hid (YL.rangeAt b21 0 L0) := R21.out.all
  have T8 : Hid (YL.rangeAt b8 0 (vB x)) := R8.out.all
  have HX : Hid _ := KB2.out U S YL HG.out
  clear HG KB2 R16 R6 R7 R21 R10
  go_wp2_with (first
    | (refine wpList_load_w rfl 25 (.tmp 16) rfl b16 0 rfl LA _ T16.out Tryd.underlying25 rfl HLAI.out ?_; simp only [Act.put, List.setIfInBounds_toArray, List.set_cons_zero, List.set_cons_succ])
    | (refine wpList_load_w rfl 25 (.tmp 6) rfl b6 0 rfl LA _ T6.out Tryd.underlying25 rfl HLAI.out ?_; simp only [Act.put, List.setIfInBounds_toArray, List.set_cons_zero, List.set_cons_succ])
    | (refine wpList_load_w rfl 25 (.tmp 21) rfl b21 0 rfl L0 _ T21.out Tryd.underlying25 rfl HL0I.out ?_; simp only [Act.put, List.setIfInBounds_toArray, List.set_cons_zero, List.set_cons_succ])
    | (refine wpList_load_w rfl 25 (.tmp 7) rfl b7 0 rfl LB _ T7.out Tryd.underlying25 rfl HLBI.out ?_; simp only [Act.put, List.setIfInBounds_toArray, List.set_cons_zero, List.set_cons_succ])
    | (refine wpList_load_w rfl 33 (.tmp 8) rfl b8 0 rfl (vB x) _ T8.out Tryd.underlying33 rfl HxI.out ?_; simp only [Act.put, List.setIfInBounds_toArray, List.set_cons_zero, List.set_cons_succ])
    | (refine wpList_bld rfl 25 #[] rfl #[] rfl L0 HB0.out ?_; simp only [Act.put, List.setIfInBounds_toArray, List.set_cons_zero, List.set_cons_succ])
    | (refine wpList_neqWg rfl (.tmp 153) (.tmp 154) _ rfl a a HAB.out.1 HAB.out.1 (by rw [← HLAE.out]; rfl) (by rw [← HLAE.out]; rfl) false (by simp) ?_; simp only [Act.put, List.setIfInBounds_toArray, List.set_cons_zero, List.set_cons_succ])
    | (refine wpList_neqWg rfl (.tmp 170) (.tmp 171) _ rfl 0 0 (by decide) (by decide) (by rw [← HL0E.out]; rfl) (by rw [← HL0E.out]; rfl) false (by simp) ?_; simp only [Act.put, List.setIfInBounds_toArray, List.set_cons_zero, List.set_cons_succ])
    | (refine wpList_eqlWg rfl (.tmp 176) (.tmp 177) _ rfl b 0 HAB.out.2 (by decide) (by rw [← HLBE.out]; rfl) (by rw [← HL0E.out]; rfl) _ HEB.out ?_; simp only [Act.put, List.setIfInBounds_toArray, List.set_cons_zero, List.set_cons_succ]))
  refine Calls.mono HX.out ?_
  rintro e W2 ⟨rfl, hG, hK⟩
  replace R8 : Hid (Row W2 b8 (vB x) 33) := hK.row _ _ _ (by decide) R8.out
  replace R9 : Hid (Row W2 b9 (vB y) 33) := hK.row _ _ _ (by decide) R9.out
  have HG : Hid (Led U W2 S 35 t a B5 A2) := hG
  clear hG hK HX T16 T6 T7 T21 T8
  obtain ⟨b23, hb23⟩ : ∃ b, b = W2.heap.size := ⟨_, rfl⟩
  have HBb23 : Hid (b23 = W2.heap.size) := hb23
  clear hb23
  go_upto_region 30 with (first
    | (refine wpList_allocW rfl rfl ?_; intro XC q1 q2 q3; have QC : Hid (Row XC _ zW 25) := q1; have BC : Hid (Below _ _ XC) := q2; clear q1 q2 q3; simp only [Act.put, List.setIfInBounds_toArray, List.set_cons_zero, List.set_cons_succ])
    | (refine wpList_storeL rfl 25 (.tmp 23) (.tmp 193) rfl W2.heap.size LC zW 25 rfl rfl QC.out HLCN.out HLCI.out HLCO.out ?_; intro YC q1 q2; have HYC : Hid (YC = _) := q1; have RYC : Hid (Row YC W2.heap.size LC 25) := q2; clear q1 q2; simp only [Act.put]))
  rw [← HBb23.out] at RYC HYC
  rw [← HBb23.out]
  have cb : Below W2.heap.size W2 YC := by rw [HYC.out]; exact below_setCells BC.out (by rw [HBb23.out]; exact Nat.le_refl _) _
  replace R8 : Hid (Row YC b8 (vB x) 33) := Row.below R8.out cb R8.out.lt
  replace R9 : Hid (Row YC b9 (vB y) 33) := Row.below R9.out cb R9.out.lt
  replace HG : Hid (Led U YC S 35 t a B5 A2) := HG.out.be cb
  clear cb HYC BC HBb23
  have R23 : Hid (Row YC b23 LC 25) := RYC.out
  clear RYC QC
  have HX : Hid _ := KB3.out U S YC HG.out
  have Ty : Hid (YC.rangeAt b9 0 (vB y)) := R9.out.all
  clear HG KB3
  go_wp2_with (first
    | (refine wpList_load_w rfl 33 (.tmp 9) rfl b9 0 rfl (vB y) _ Ty.out Tryd.underlying33 rfl HyI.out ?_; simp only [Act.put, List.setIfInBounds_toArray, List.set_cons_zero, List.set_cons_succ]))
  refine Calls.mono HX.out ?_
  rintro e W3 ⟨rfl, hG, hK⟩
  replace R8 : Hid (Row W3 b8 (vB x) 33) := hK.row _ _ _ (by decide) R8.out
  replace R9 : Hid (Row W3 b9 (vB y) 33) := hK.row _ _ _ (by decide) R9.out
  replace R23 : Hid (Row W3 b23 LC 25) := hK.row _ _ _ (by decide) R23.out
  have HG : Hid (Led U W3 S 36 t a B5 A2) := hG
  clear hG hK HX Ty
  obtain ⟨b25, hb25⟩ : ∃ b, b = W3.heap.size := ⟨_, rfl⟩
  have HBb25 : Hid (b25 = W3.heap.size) := hb25
  clear hb25
  go_upto_region 31 with (first
    | (refine wpList_allocW rfl rfl ?_; intro XD q1 q2 q3; have QD : Hid (Row XD _ zW 25) := q1; have BD : Hid (Below _ _ XD) := q2; clear q1 q2 q3; simp only [Act.put, List.setIfInBounds_toArray, List.set_cons_zero, List.set_cons_succ])
    | (refine wpList_storeL rfl 25 (.tmp 25) (.tmp 200) rfl W3.heap.size LD zW 25 rfl rfl QD.out HLDN.out HLDI.out HLDO.out ?_; intro YD q1 q2; have HYD : Hid (YD = _) := q1; have RYD : Hid (Row YD W3.heap.size LD 25) := q2; clear q1 q2; simp only [Act.put]))
  rw [← HBb25.out] at RYD HYD
  rw [← HBb25.out]
  have cb : Below W3.heap.size W3 YD := by rw [HYD.out]; exact below_setCells BD.out (by rw [HBb25.out]; exact Nat.le_refl _) _
  replace R8 : Hid (Row YD b8 (vB x) 33) := Row.below R8.out cb R8.out.lt
  replace R9 : Hid (Row YD b9 (vB y) 33) := Row.below R9.out cb R9.out.lt
  replace R23 : Hid (Row YD b23 LC 25) := Row.below R23.out cb R23.out.lt
  replace HG : Hid (Led U YD S 36 t a B5 A2) := HG.out.be cb
  clear cb HYD BD HBb25
  have R25 : Hid (Row YD b25 LD 25) := RYD.out
  clear RYD QD
  have HX : Hid _ := KU1.out U S YD HG.out
  have Tx : Hid (YD.rangeAt b8 0 (vB x)) := R8.out.all
  have Tc : Hid (YD.rangeAt b23 0 LC) := R23.out.all
  clear HG KU1
  go_wp2_with (first
    | (refine wpList_load_w rfl 33 (.tmp 8) rfl b8 0 rfl (vB x) _ Tx.out Tryd.underlying33 rfl HxI.out ?_; simp only [Act.put, List.setIfInBounds_toArray, List.set_cons_zero, List.set_cons_succ])
    | (refine wpList_load_w rfl 25 (.tmp 23) rfl b23 0 rfl LC _ Tc.out Tryd.underlying25 rfl HLCI.out ?_; simp only [Act.put, List.setIfInBounds_toArray, List.set_cons_zero, List.set_cons_succ]))
  refine Calls.mono HX.out ?_
  rintro e W4 ⟨rfl, hG, hK⟩
  replace R8 : Hid (Row W4 b8 (vB x) 33) := hK.row _ _ _ (by decide) R8.out
  replace R9 : Hid (Row W4 b9 (vB y) 33) := hK.row _ _ _ (by decide) R9.out
  replace R23 : Hid (Row W4 b23 LC 25) := hK.row _ _ _ (by decide) R23.out
  replace R25 : Hid (Row W4 b25 LD 25) := hK.row _ _ _ (by decide) R25.out
  have HG : Hid (Led U W4 S 40 t dv B6 A2) := hG
  clear hG hK HX Tx Tc
  have Tx2 : Hid (W4.rangeAt b8 0 (vB x)) := R8.out.all
  have Ty2 : Hid (W4.rangeAt b9 0 (vB y)) := R9.out.all
  have HX : Hid _ := KU2.out U S W4 HG.out
  have Td : Hid (W4.rangeAt b25 0 LD) := R25.out.all
  clear HG KU2
  go_wp2_with (first
    | (refine wpList_load_w rfl 25 (.tmp 25) rfl b25 0 rfl LD _ Td.out Tryd.underlying25 rfl HLDI.out ?_; simp only [Act.put, List.setIfInBounds_toArray, List.set_cons_zero, List.set_cons_succ])
    | (refine wpList_load_w rfl 33 (.tmp 8) rfl b8 0 rfl (vB x) _ Tx2.out Tryd.underlying33 rfl HxI.out ?_; simp only [Act.put, List.setIfInBounds_toArray, List.set_cons_zero, List.set_cons_succ])
    | (refine wpList_load_w rfl 33 (.tmp 9) rfl b9 0 rfl (vB y) _ Ty2.out Tryd.underlying33 rfl HyI.out ?_; simp only [Act.put, List.setIfInBounds_toArray, List.set_cons_zero, List.set_cons_succ])
    | (refine wpList_neqA rfl (.tmp 207) (.tmp 208) _ rfl x y Hx.out Hy.out rfl rfl _ HEX.out ?_; simp only [Act.put, List.setIfInBounds_toArray, List.set_cons_zero, List.set_cons_succ]))
  refine Calls.mono HX.out ?_
  rintro e W5 ⟨rfl, hG, hK⟩
  replace R8 : Hid (Row W5 b8 (vB x) 33) := hK.row _ _ _ (by decide) R8.out
  replace R9 : Hid (Row W5 b9 (vB y) 33) := hK.row _ _ _ (by decide) R9.out
  replace R23 : Hid (Row W5 b23 LC 25) := hK.row _ _ _ (by decide) R23.out
  replace R25 : Hid (Row W5 b25 LD 25) := hK.row _ _ _ (by decide) R25.out
  have HG : Hid (Led U W5 S 44 t 0 B7 A2) := hG
  clear hG hK HX Td
  have HX : Hid _ := KTO.out U S W5 HG.out
  clear HG KTO
  go_wp2_with fail
  refine Calls.mono HX.out ?_
  rintro e W6 ⟨rfl, hG, hK⟩
  replace R8 : Hid (Row W6 b8 (vB x) 33) := hK.row _ _ _ (by decide) R8.out
  replace R9 : Hid (Row W6 b9 (vB y) 33) := hK.row _ _ _ (by decide) R9.out
  replace R23 : Hid (Row W6 b23 LC 25) := hK.row _ _ _ (by decide) R23.out
  replace R25 : Hid (Row W6 b25 LD 25) := hK.row _ _ _ (by decide) R25.out
  have HG : Hid (Led U W6 S (44 + 1) t 0 B7 A2) := hG
  clear hG hK HX 
  obtain ⟨b29, hb29⟩ : ∃ b, b = W6.heap.size := ⟨_, rfl⟩
  have HBb29 : Hid (b29 = W6.heap.size) := hb29
  clear hb29
  go_upto_region 36 with (first
    | (refine wpList_allocK rfl rfl ?_; intro XT q1 q2 q3; have QT : Hid (Row XT _ zK 44) := q1; have BT : Hid (Below _ _ XT) := q2; clear q1 q2 q3; simp only [Act.put, List.setIfInBounds_toArray, List.set_cons_zero, List.set_cons_succ])
    | (refine wpList_storeL rfl 44 (.tmp 29) (.tmp 219) rfl W6.heap.size LT zK 44 rfl rfl QT.out HLTN.out HLTI.out HLTO.out ?_; intro YT q1 q2; have HYT : Hid (YT = _) := q1; have RYT : Hid (Row YT W6.heap.size LT 44) := q2; clear q1 q2; simp only [Act.put]))
  rw [← HBb29.out] at RYT HYT
  rw [← HBb29.out]
  have cb : Below W6.heap.size W6 YT := by rw [HYT.out]; exact below_setCells BT.out (by rw [HBb29.out]; exact Nat.le_refl _) _
  replace HG : Hid (Led U YT S (44 + 1) t 0 B7 A2) := HG.out.be cb
  clear cb HYT BT HBb29
  have T29 : Hid (YT.rangeAt b29 0 LT) := RYT.out.all
  have BZ : Hid (Below w.heap.size w YT) := BU.out.trans (HG.out.bel.mono BU.out.size)
  clear HG BU RYT QT
  go_wp2_with (first
    | (refine wpList_load_w rfl 44 (.tmp 29) rfl b29 0 rfl LT _ T29.out Tryd.underlying44 rfl HLTI.out ?_; simp only [Act.put, List.setIfInBounds_toArray, List.set_cons_zero, List.set_cons_succ])
    | (refine wpList_bld rfl 44 #[(0, .const (.bool true))] rfl #[(0, .bool true)] rfl LT HBT.out ?_; simp only [Act.put, List.setIfInBounds_toArray, List.set_cons_zero, List.set_cons_succ])
    | (refine wpList_cmpKw rfl .eql (.tmp 240) (.tmp 241) _ rfl LT LT rfl rfl true HTT.out ?_; simp only [Act.put, List.setIfInBounds_toArray, List.set_cons_zero, List.set_cons_succ]))
  go_ret
  exact ⟨rfl, BZ.out⟩

end Go.Proofs.YtelioddogdcdoaaDoor
