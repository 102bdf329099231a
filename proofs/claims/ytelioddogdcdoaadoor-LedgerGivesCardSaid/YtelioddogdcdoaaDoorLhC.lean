/-
  open, running, paused, readToken.
-/
import Derived.Test.YtelioddogdcdoaaDoorLhB
namespace Go.Proofs.YtelioddogdcdoaaDoor
open Go Go.RowKit Go.Maps
open Sha
open Wd

set_option maxRecDepth 100000 in
theorem open_t (S t : Nat) (ht : t < 64) (LP : List Value) (hLP : LP = pgl S t) (w : World) : Calls Tryd.prog 32 #[.pointer (some ⟨S, 0, none⟩), .int .i64 (t : Int)] w fun e w' => e = .returned (.tuple #[.agg LP.toArray, .int .i64 0]) ∧ Below w.heap.size w w' := by
  have h1 : ¬ ((t : Int) < 0) := by omega
  have h2 : ¬ ((64 : Int) ≤ (t : Int)) := by omega
  have h3 : (t : Int) < 64 := by omega
  have hw : IntKind.u8.wrap (t : Int) = (t : Int) := by rw [IntKind.wrap_u8]; omega
  have HL : Hid (LP = pgl S t) := hLP
  clear hLP ht
  go_enter Tryd.func32, Tryd.ntmps32
  go_wp2
  exact bodyPost_ret (results_rowS_tmp Tryd.results32 _ _ w.heap.size 58 (pgl S t) (.int .i64 0) rfl rfl (Row.new' rfl rfl) Tryd.underlying58 (info_pgl S t)) rfl ⟨by rw [HL.out], (Below.refl _ _).alloc (Nat.le_refl _) _⟩
set_option maxRecDepth 100000 in
set_option maxHeartbeats 4000000 in
theorem run_g (th pa : Bool) (a : Nat) (LT LQ : List Value) (hLT : LT = tkl th pa a) (hLQ : LQ = tkl true false a) (w : World) : Calls Tryd.prog 22 #[.agg LT.toArray] w fun e w' => e = .returned (.agg LQ.toArray) ∧ Below w.heap.size w w' := by
  obtain ⟨LA, hLA⟩ : ∃ L : List Value, L = wq a := ⟨_, rfl⟩
  have HLTE : Hid (LT = tkl th pa a) := hLT
  have HLTI : Hid ((Tryd.prog.info? 44).map (·.size) = some LT.length) := by show _ = _; rw [hLT]; exact info_tkl _ _ _
  have HLTJ : Hid ((Tryd.prog.info? 44).map (·.size) = some LT.toArray.size) := by show _ = _; rw [List.size_toArray, hLT]; exact info_tkl _ _ _
  have HLTN : Hid (LT.length = zK.length) := by show _ = _; rw [hLT]; exact tkl_len _ _ _
  have HLTO : Hid (LT.toArray.all (·.oneCell') = true) := by show _ = true; rw [hLT]; exact tkl_one _ _ _
  have HLQE : Hid (LQ = tkl true false a) := hLQ
  have HLQI : Hid ((Tryd.prog.info? 44).map (·.size) = some LQ.length) := by show _ = _; rw [hLQ]; exact info_tkl _ _ _
  have HLQJ : Hid ((Tryd.prog.info? 44).map (·.size) = some LQ.toArray.size) := by show _ = _; rw [List.size_toArray, hLQ]; exact info_tkl _ _ _
  have HLQN : Hid (LQ.length = zK.length) := by show _ = _; rw [hLQ]; exact tkl_len _ _ _
  have HLQO : Hid (LQ.toArray.all (·.oneCell') = true) := by show _ = true; rw [hLQ]; exact tkl_one _ _ _
  have HLAE : Hid (LA = wq a) := hLA
  have HLAI : Hid ((Tryd.prog.info? 25).map (·.size) = some LA.length) := by show _ = _; rw [hLA]; exact info_wq _
  have HLAJ : Hid ((Tryd.prog.info? 25).map (·.size) = some LA.toArray.size) := by show _ = _; rw [List.size_toArray, hLA]; exact info_wq _
  have HLAN : Hid (LA.length = zW.length) := by show _ = _; rw [hLA]; exact wq_len _
  have HLAO : Hid (LA.toArray.all (·.oneCell') = true) := by show _ = true; rw [hLA]; exact wq_one _
  have HBL : Hid (∀ w, (Instr.build 44 #[(0, .bool true), (2, .agg LA.toArray)]).run Tryd.prog w = .ok (.agg LQ.toArray) w) := fun w => by rw [hLA, hLQ]; exact build_run a w
  clear hLT hLQ hLA
  go_enter Tryd.func22, Tryd.ntmps22
  go_upto_region 1 with (first
    | (refine wpList_boxG 44 rfl (.tmp 0) rfl LT rfl ?_; intro X0 q1 q2 q3; have Q0 : Hid (Row X0 _ LT 44) := q1; have B0 : Hid (Below _ _ X0) := q2; clear q1 q2 q3; simp only [Act.put, List.setIfInBounds_toArray, List.set_cons_zero, List.set_cons_succ])
    | (refine wpList_allocK rfl rfl ?_; intro X1 q1 q2 q3; have Q1 : Hid (Row X1 _ zK 44) := q1; have B1 : Hid (Below _ _ X1) := q2; clear q1 q2 q3; simp only [Act.put, List.setIfInBounds_toArray, List.set_cons_zero, List.set_cons_succ]))
  obtain ⟨b1, hb1⟩ : ∃ b, b = w.heap.size := ⟨_, rfl⟩
  obtain ⟨b2, hb2⟩ : ∃ b, b = X0.heap.size := ⟨_, rfl⟩
  have c00 := B0.out
  have c01 := c00.trans (B1.out.mono c00.size)
  have c11 := B1.out
  have R1 : Hid (Row X1 b1 LT 44) := by rw [hb1]; exact Row.below Q0.out c11 Q0.out.lt
  have HWb1 : Hid (w.heap.size ≤ b1) := by show _ ≤ _; rw [hb1]; exact Nat.le_refl _
  have R2 : Hid (Row X1 b2 zK 44) := by rw [hb2]; exact Q1.out
  have HWb2 : Hid (w.heap.size ≤ b2) := by show _ ≤ _; rw [hb2]; exact c00.size
  have Nb1b2 : Hid (b1 ≠ b2) := by show _ ≠ _; have := Q0.out.lt; rw [hb1, hb2]; omega
  have BX : Hid (Below w.heap.size w X1) := c01
  rw [← hb1, ← hb2]
  clear hb1 hb2 c00 c01 c11 Q0 B0 Q1 B1
  have RA : Hid (X1.rangeAt b1 2 LA) := by show World.rangeAt _ _ _ _; rw [HLAE.out]; have q := R1.out; rw [HLTE.out] at q; exact tkl_am q
  go_wp2_with (first
    | (refine wpList_load_w rfl 25 (.tmp 3) rfl b1 2 rfl LA _ RA.out Tryd.underlying25 rfl HLAI.out ?_; simp only [Act.put, List.setIfInBounds_toArray, List.set_cons_zero, List.set_cons_succ])
    | (refine wpList_bld rfl 44 #[(0, .const (.bool true)), (2, .tmp 4)] rfl #[(0, .bool true), (2, .agg LA.toArray)] rfl LQ HBL.out ?_; simp only [Act.put, List.setIfInBounds_toArray, List.set_cons_zero, List.set_cons_succ])
    | (refine wpList_storeL rfl 44 (.tmp 2) (.tmp 5) rfl b2 LQ zK 44 rfl rfl R2.out HLQN.out HLQI.out HLQO.out ?_; intro Y q1 q2; have HY : Hid (Y = _) := q1; have RY : Hid (Row Y b2 LQ 44) := q2; clear q1 q2; simp only [Act.put]))
  exact bodyPost_ret (results_rowS Tryd.results22 _ _ b2 44 LQ rfl RY.out Tryd.underlying44 HLQI.out) rfl ⟨rfl, by rw [HY.out]; exact below_setCells BX.out HWb2.out _⟩
set_option maxRecDepth 100000 in
set_option maxHeartbeats 4000000 in
theorem pau_g (th pa : Bool) (a : Nat) (LT LQ : List Value) (hLT : LT = tkl th pa a) (hLQ : LQ = tkl true true a) (w : World) : Calls Tryd.prog 44 #[.agg LT.toArray] w fun e w' => e = .returned (.agg LQ.toArray) ∧ Below w.heap.size w w' := by
  obtain ⟨LA, hLA⟩ : ∃ L : List Value, L = wq a := ⟨_, rfl⟩
  have HLTE : Hid (LT = tkl th pa a) := hLT
  have HLTI : Hid ((Tryd.prog.info? 44).map (·.size) = some LT.length) := by show _ = _; rw [hLT]; exact info_tkl _ _ _
  have HLTJ : Hid ((Tryd.prog.info? 44).map (·.size) = some LT.toArray.size) := by show _ = _; rw [List.size_toArray, hLT]; exact info_tkl _ _ _
  have HLTN : Hid (LT.length = zK.length) := by show _ = _; rw [hLT]; exact tkl_len _ _ _
  have HLTO : Hid (LT.toArray.all (·.oneCell') = true) := by show _ = true; rw [hLT]; exact tkl_one _ _ _
  have HLQE : Hid (LQ = tkl true true a) := hLQ
  have HLQI : Hid ((Tryd.prog.info? 44).map (·.size) = some LQ.length) := by show _ = _; rw [hLQ]; exact info_tkl _ _ _
  have HLQJ : Hid ((Tryd.prog.info? 44).map (·.size) = some LQ.toArray.size) := by show _ = _; rw [List.size_toArray, hLQ]; exact info_tkl _ _ _
  have HLQN : Hid (LQ.length = zK.length) := by show _ = _; rw [hLQ]; exact tkl_len _ _ _
  have HLQO : Hid (LQ.toArray.all (·.oneCell') = true) := by show _ = true; rw [hLQ]; exact tkl_one _ _ _
  have HLAE : Hid (LA = wq a) := hLA
  have HLAI : Hid ((Tryd.prog.info? 25).map (·.size) = some LA.length) := by show _ = _; rw [hLA]; exact info_wq _
  have HLAJ : Hid ((Tryd.prog.info? 25).map (·.size) = some LA.toArray.size) := by show _ = _; rw [List.size_toArray, hLA]; exact info_wq _
  have HLAN : Hid (LA.length = zW.length) := by show _ = _; rw [hLA]; exact wq_len _
  have HLAO : Hid (LA.toArray.all (·.oneCell') = true) := by show _ = true; rw [hLA]; exact wq_one _
  have HBL : Hid (∀ w, (Instr.build 44 #[(0, .bool true), (1, .bool true), (2, .agg LA.toArray)]).run Tryd.prog w = .ok (.agg LQ.toArray) w) := fun w => by rw [hLA, hLQ]; exact build_pau a w
  clear hLT hLQ hLA
  go_enter Tryd.func44, Tryd.ntmps44
  go_upto_region 1 with (first
    | (refine wpList_boxG 44 rfl (.tmp 0) rfl LT rfl ?_; intro X0 q1 q2 q3; have Q0 : Hid (Row X0 _ LT 44) := q1; have B0 : Hid (Below _ _ X0) := q2; clear q1 q2 q3; simp only [Act.put, List.setIfInBounds_toArray, List.set_cons_zero, List.set_cons_succ])
    | (refine wpList_allocK rfl rfl ?_; intro X1 q1 q2 q3; have Q1 : Hid (Row X1 _ zK 44) := q1; have B1 : Hid (Below _ _ X1) := q2; clear q1 q2 q3; simp only [Act.put, List.setIfInBounds_toArray, List.set_cons_zero, List.set_cons_succ]))
  obtain ⟨b1, hb1⟩ : ∃ b, b = w.heap.size := ⟨_, rfl⟩
  obtain ⟨b2, hb2⟩ : ∃ b, b = X0.heap.size := ⟨_, rfl⟩
  have c00 := B0.out
  have c01 := c00.trans (B1.out.mono c00.size)
  have c11 := B1.out
  have R1 : Hid (Row X1 b1 LT 44) := by rw [hb1]; exact Row.below Q0.out c11 Q0.out.lt
  have HWb1 : Hid (w.heap.size ≤ b1) := by show _ ≤ _; rw [hb1]; exact Nat.le_refl _
  have R2 : Hid (Row X1 b2 zK 44) := by rw [hb2]; exact Q1.out
  have HWb2 : Hid (w.heap.size ≤ b2) := by show _ ≤ _; rw [hb2]; exact c00.size
  have Nb1b2 : Hid (b1 ≠ b2) := by show _ ≠ _; have := Q0.out.lt; rw [hb1, hb2]; omega
  have BX : Hid (Below w.heap.size w X1) := c01
  rw [← hb1, ← hb2]
  clear hb1 hb2 c00 c01 c11 Q0 B0 Q1 B1
  have RA : Hid (X1.rangeAt b1 2 LA) := by show World.rangeAt _ _ _ _; rw [HLAE.out]; have q := R1.out; rw [HLTE.out] at q; exact tkl_am q
  go_wp2_with (first
    | (refine wpList_load_w rfl 25 (.tmp 3) rfl b1 2 rfl LA _ RA.out Tryd.underlying25 rfl HLAI.out ?_; simp only [Act.put, List.setIfInBounds_toArray, List.set_cons_zero, List.set_cons_succ])
    | (refine wpList_bld rfl 44 #[(0, .const (.bool true)), (1, .const (.bool true)), (2, .tmp 4)] rfl #[(0, .bool true), (1, .bool true), (2, .agg LA.toArray)] rfl LQ HBL.out ?_; simp only [Act.put, List.setIfInBounds_toArray, List.set_cons_zero, List.set_cons_succ])
    | (refine wpList_storeL rfl 44 (.tmp 2) (.tmp 5) rfl b2 LQ zK 44 rfl rfl R2.out HLQN.out HLQI.out HLQO.out ?_; intro Y q1 q2; have HY : Hid (Y = _) := q1; have RY : Hid (Row Y b2 LQ 44) := q2; clear q1 q2; simp only [Act.put]))
  exact bodyPost_ret (results_rowS Tryd.results44 _ _ b2 44 LQ rfl RY.out Tryd.underlying44 HLQI.out) rfl ⟨rfl, by rw [HY.out]; exact below_setCells BX.out HWb2.out _⟩
set_option maxRecDepth 100000 in
theorem rtok0 (A : Option Addr) (cap : Nat) (LT : List Value) (hLT : LT = tkl false false 0) (w : World) : Calls Tryd.prog 41 #[.slice A 0 cap] w fun e w' => e = .returned (.tuple #[.agg LT.toArray, .int .i64 0]) ∧ Below w.heap.size w w' := by
  have HL : Hid (LT = zK) := by rw [hLT]; exact tkl_zK
  clear hLT
  go_enter Tryd.func41, Tryd.ntmps41
  go_wp2
  exact bodyPost_ret (results_rowS_tmp Tryd.results41 _ _ w.heap.size 44 zK (.int .i64 0) rfl rfl (Row.new' rfl rfl) Tryd.underlying44 (by kernel_rfl)) rfl ⟨by rw [HL.out], (Below.refl _ _).alloc (Nat.le_refl _) _⟩
set_option maxRecDepth 100000 in
set_option maxHeartbeats 4000000 in
theorem rtokR (a : Nat) (ha : a < 2 ^ 256) (g cap : Nat) (hc : 33 ≤ cap) (LT : List Value) (hLT : LT = tkl true false a) (w : World) (hr : w.rangeAt g 0 (vB (1#8 :: wB a))) : Calls Tryd.prog 41 #[.slice (some ⟨g, 0, none⟩) 33 cap] w fun e w' => e = .returned (.tuple #[.agg LT.toArray, .int .i64 0]) ∧ Below w.heap.size w w' := by
  obtain ⟨LA, hLA⟩ : ∃ L : List Value, L = wq a := ⟨_, rfl⟩
  obtain ⟨LU, hLU⟩ : ∃ L : List Value, L = tkl false false a := ⟨_, rfl⟩
  have HLTE : Hid (LT = tkl true false a) := hLT
  have HLTI : Hid ((Tryd.prog.info? 44).map (·.size) = some LT.length) := by show _ = _; rw [hLT]; exact info_tkl _ _ _
  have HLTJ : Hid ((Tryd.prog.info? 44).map (·.size) = some LT.toArray.size) := by show _ = _; rw [List.size_toArray, hLT]; exact info_tkl _ _ _
  have HLTN : Hid (LT.length = zK.length) := by show _ = _; rw [hLT]; exact tkl_len _ _ _
  have HLTO : Hid (LT.toArray.all (·.oneCell') = true) := by show _ = true; rw [hLT]; exact tkl_one _ _ _
  have HLUE : Hid (LU = tkl false false a) := hLU
  have HLUI : Hid ((Tryd.prog.info? 44).map (·.size) = some LU.length) := by show _ = _; rw [hLU]; exact info_tkl _ _ _
  have HLUJ : Hid ((Tryd.prog.info? 44).map (·.size) = some LU.toArray.size) := by show _ = _; rw [List.size_toArray, hLU]; exact info_tkl _ _ _
  have HLUN : Hid (LU.length = zK.length) := by show _ = _; rw [hLU]; exact tkl_len _ _ _
  have HLUO : Hid (LU.toArray.all (·.oneCell') = true) := by show _ = true; rw [hLU]; exact tkl_one _ _ _
  have HLAE : Hid (LA = wq a) := hLA
  have HLAI : Hid ((Tryd.prog.info? 25).map (·.size) = some LA.length) := by show _ = _; rw [hLA]; exact info_wq _
  have HLAJ : Hid ((Tryd.prog.info? 25).map (·.size) = some LA.toArray.size) := by show _ = _; rw [List.size_toArray, hLA]; exact info_wq _
  have HLAN : Hid (LA.length = zW.length) := by show _ = _; rw [hLA]; exact wq_len _
  have HLAO : Hid (LA.toArray.all (·.oneCell') = true) := by show _ = true; rw [hLA]; exact wq_one _
  have HBL : Hid (∀ w, (Instr.build 44 #[(2, .agg LA.toArray)]).run Tryd.prog w = .ok (.agg LU.toArray) w) := fun w => by rw [hLA, hLU]; exact build_sup a w
  have HRU : Hid (∀ W, Calls Tryd.prog 22 #[.agg LU.toArray] W fun e w' => e = .returned (.agg LT.toArray) ∧ Below W.heap.size W w') := fun W => run_g false false a LU LT hLU hLT W
  have HR : Hid (w.rangeAt g 0 (vB (1#8 :: wB a))) := hr
  have HRD : Hid (∀ W, Below w.heap.size w W → Calls Tryd.prog 48 #[.slice (some ⟨g, 1, none⟩) 32 (cap - 1)] W fun e w' => e = .returned (.tuple #[.agg LA.toArray, .int .i64 0]) ∧ Below W.heap.size W w') := fun W hB => by
    rw [hLA]
    exact readG W a ha g 1 (cap - 1) (fun j u hj => by
      have := range_be hr hB (j + 1) u hj
      rwa [show 0 + (j + 1) = 1 + j by omega] at this)
  clear hLT hLU hLA hr ha
  go_enter Tryd.func41, Tryd.ntmps41
  go_wp2_with (refine wpList_allocK rfl rfl ?_; intro X2 q1 q2 q3; have R2 : Hid (Row X2 _ zK 44) := q1; have B2 : Hid (Below _ _ X2) := q2; clear q1 q2 q3; simp only [Act.put, List.setIfInBounds_toArray, List.set_cons_zero, List.set_cons_succ])
  obtain ⟨b2, hb2⟩ : ∃ b, b = w.heap.size := ⟨_, rfl⟩
  replace R2 : Hid (Row X2 b2 zK 44) := by rw [hb2]; exact R2.out
  have HW2 : Hid (w.heap.size ≤ b2) := by show _ ≤ _; rw [hb2]; exact Nat.le_refl _
  have BB : Hid (Below w.heap.size w X2) := B2.out
  rw [← hb2]
  clear hb2 B2
  refine Calls.mono (HRD.out X2 BB.out) ?_
  rintro e V ⟨rfl, hB⟩
  replace R2 : Hid (Row V b2 zK 44) := Row.below R2.out hB R2.out.lt
  replace BB : Hid (Below w.heap.size w V) := BB.out.trans (hB.mono BB.out.size)
  clear hB HRD
  obtain ⟨b4, hb4⟩ : ∃ b, b = V.heap.size := ⟨_, rfl⟩
  have HBb4 : Hid (b4 = V.heap.size) := hb4
  clear hb4
  go_upto_region 6 with (first
    | (refine wpList_allocW rfl rfl ?_; intro XY4 q1 q2 q3; have QY4 : Hid (Row XY4 _ zW 25) := q1; have BY4 : Hid (Below _ _ XY4) := q2; clear q1 q2 q3; simp only [Act.put, List.setIfInBounds_toArray, List.set_cons_zero, List.set_cons_succ])
    | (refine wpList_storeL rfl 25 (.tmp 4) (.tmp 15) rfl V.heap.size LA zW 25 rfl rfl QY4.out HLAN.out HLAI.out HLAO.out ?_; intro Y4 q1 q2; have HY4 : Hid (Y4 = _) := q1; have RY4 : Hid (Row Y4 V.heap.size LA 25) := q2; clear q1 q2; simp only [Act.put]))
  rw [← HBb4.out] at RY4 HY4
  rw [← HBb4.out]
  have cb : Below V.heap.size V Y4 := by rw [HY4.out]; exact below_setCells BY4.out (by rw [HBb4.out]; exact Nat.le_refl _) _
  have Nb2b4 : Hid (b2 ≠ b4) := by show _ ≠ _; have := R2.out.lt; rw [HBb4.out]; omega
  replace R2 : Hid (Row Y4 b2 zK 44) := Row.below R2.out cb R2.out.lt
  have BC : Hid (Below w.heap.size w Y4) := BB.out.trans (cb.mono BB.out.size)
  have Rb4 : Hid (Row Y4 b4 LA 25) := RY4.out
  clear cb HY4 BY4 QY4 RY4 HBb4
  replace BB : Hid (Below w.heap.size w Y4) := BC.out
  have S4 : Hid (Y4.rangeAt b4 0 LA) := Rb4.out.all
  clear BC
  obtain ⟨b6, hb6⟩ : ∃ b, b = Y4.heap.size := ⟨_, rfl⟩
  have HBb6 : Hid (b6 = Y4.heap.size) := hb6
  clear hb6
  go_upto_region 7 with (first
    | (refine wpList_allocK rfl rfl ?_; intro XY6 q1 q2 q3; have QY6 : Hid (Row XY6 _ zK 44) := q1; have BY6 : Hid (Below _ _ XY6) := q2; clear q1 q2 q3; simp only [Act.put, List.setIfInBounds_toArray, List.set_cons_zero, List.set_cons_succ])
    | (refine wpList_storeL rfl 44 (.tmp 6) (.tmp 21) rfl Y4.heap.size LU zK 44 rfl rfl QY6.out HLUN.out HLUI.out HLUO.out ?_; intro Y6 q1 q2; have HY6 : Hid (Y6 = _) := q1; have RY6 : Hid (Row Y6 Y4.heap.size LU 44) := q2; clear q1 q2; simp only [Act.put])
    | (refine wpList_load_w rfl 25 (.tmp 4) rfl b4 0 rfl LA _ S4.out Tryd.underlying25 rfl HLAI.out ?_; simp only [Act.put, List.setIfInBounds_toArray, List.set_cons_zero, List.set_cons_succ])
    | (refine wpList_bld rfl 44 #[(2, .tmp 20)] rfl #[(2, .agg LA.toArray)] rfl LU HBL.out ?_; simp only [Act.put, List.setIfInBounds_toArray, List.set_cons_zero, List.set_cons_succ]))
  rw [← HBb6.out] at RY6 HY6
  rw [← HBb6.out]
  have cb : Below Y4.heap.size Y4 Y6 := by rw [HY6.out]; exact below_setCells BY6.out (by rw [HBb6.out]; exact Nat.le_refl _) _
  have Nb2b6 : Hid (b2 ≠ b6) := by show _ ≠ _; have := R2.out.lt; rw [HBb6.out]; omega
  replace R2 : Hid (Row Y6 b2 zK 44) := Row.below R2.out cb R2.out.lt
  have BC : Hid (Below w.heap.size w Y6) := BB.out.trans (cb.mono BB.out.size)
  have Rb6 : Hid (Row Y6 b6 LU 44) := RY6.out
  clear cb HY6 BY6 QY6 RY6 HBb6
  replace BB : Hid (Below w.heap.size w Y6) := BC.out
  clear BC
  have S6 : Hid (Y6.rangeAt b6 0 LU) := Rb6.out.all
  have c0 : Y6.cell? ⟨g, 0, none⟩ = some (.int .u8 1) := range_be HR.out BB.out 0 _ rfl
  go_wp2_with (refine wpList_load_w rfl 44 (.tmp 6) rfl b6 0 rfl LU _ S6.out Tryd.underlying44 rfl HLUI.out ?_; simp only [Act.put, List.setIfInBounds_toArray, List.set_cons_zero, List.set_cons_succ])
  refine Calls.mono (HRU.out Y6) ?_
  rintro e V2 ⟨rfl, hB⟩
  replace R2 : Hid (Row V2 b2 zK 44) := Row.below R2.out hB R2.out.lt
  replace BB : Hid (Below w.heap.size w V2) := BB.out.trans (hB.mono BB.out.size)
  clear hB c0 S6
  go_wp2_with (refine wpList_storeL rfl 44 (.tmp 2) (.tmp 28) rfl b2 LT zK 44 rfl rfl R2.out HLTN.out HLTI.out HLTO.out ?_; intro Y q1 q2; have HY : Hid (Y = _) := q1; have RY : Hid (Row Y b2 LT 44) := q2; clear q1 q2; simp only [Act.put])
  exact bodyPost_ret (results_rowS_tmp Tryd.results41 _ _ b2 44 LT (.int .i64 0) rfl rfl RY.out Tryd.underlying44 HLTI.out) rfl ⟨rfl, by rw [HY.out]; exact below_setCells BB.out HW2.out _⟩
set_option maxRecDepth 100000 in
set_option maxHeartbeats 4000000 in
theorem rtokP (a : Nat) (ha : a < 2 ^ 256) (g cap : Nat) (hc : 33 ≤ cap) (LT : List Value) (hLT : LT = tkl true true a) (w : World) (hr : w.rangeAt g 0 (vB (3#8 :: wB a))) : Calls Tryd.prog 41 #[.slice (some ⟨g, 0, none⟩) 33 cap] w fun e w' => e = .returned (.tuple #[.agg LT.toArray, .int .i64 0]) ∧ Below w.heap.size w w' := by
  obtain ⟨LA, hLA⟩ : ∃ L : List Value, L = wq a := ⟨_, rfl⟩
  obtain ⟨LU, hLU⟩ : ∃ L : List Value, L = tkl false false a := ⟨_, rfl⟩
  have HLTE : Hid (LT = tkl true true a) := hLT
  have HLTI : Hid ((Tryd.prog.info? 44).map (·.size) = some LT.length) := by show _ = _; rw [hLT]; exact info_tkl _ _ _
  have HLTJ : Hid ((Tryd.prog.info? 44).map (·.size) = some LT.toArray.size) := by show _ = _; rw [List.size_toArray, hLT]; exact info_tkl _ _ _
  have HLTN : Hid (LT.length = zK.length) := by show _ = _; rw [hLT]; exact tkl_len _ _ _
  have HLTO : Hid (LT.toArray.all (·.oneCell') = true) := by show _ = true; rw [hLT]; exact tkl_one _ _ _
  have HLUE : Hid (LU = tkl false false a) := hLU
  have HLUI : Hid ((Tryd.prog.info? 44).map (·.size) = some LU.length) := by show _ = _; rw [hLU]; exact info_tkl _ _ _
  have HLUJ : Hid ((Tryd.prog.info? 44).map (·.size) = some LU.toArray.size) := by show _ = _; rw [List.size_toArray, hLU]; exact info_tkl _ _ _
  have HLUN : Hid (LU.length = zK.length) := by show _ = _; rw [hLU]; exact tkl_len _ _ _
  have HLUO : Hid (LU.toArray.all (·.oneCell') = true) := by show _ = true; rw [hLU]; exact tkl_one _ _ _
  have HLAE : Hid (LA = wq a) := hLA
  have HLAI : Hid ((Tryd.prog.info? 25).map (·.size) = some LA.length) := by show _ = _; rw [hLA]; exact info_wq _
  have HLAJ : Hid ((Tryd.prog.info? 25).map (·.size) = some LA.toArray.size) := by show _ = _; rw [List.size_toArray, hLA]; exact info_wq _
  have HLAN : Hid (LA.length = zW.length) := by show _ = _; rw [hLA]; exact wq_len _
  have HLAO : Hid (LA.toArray.all (·.oneCell') = true) := by show _ = true; rw [hLA]; exact wq_one _
  have HBL : Hid (∀ w, (Instr.build 44 #[(2, .agg LA.toArray)]).run Tryd.prog w = .ok (.agg LU.toArray) w) := fun w => by rw [hLA, hLU]; exact build_sup a w
  have HRU : Hid (∀ W, Calls Tryd.prog 44 #[.agg LU.toArray] W fun e w' => e = .returned (.agg LT.toArray) ∧ Below W.heap.size W w') := fun W => pau_g false false a LU LT hLU hLT W
  have HR : Hid (w.rangeAt g 0 (vB (3#8 :: wB a))) := hr
  have HRD : Hid (∀ W, Below w.heap.size w W → Calls Tryd.prog 48 #[.slice (some ⟨g, 1, none⟩) 32 (cap - 1)] W fun e w' => e = .returned (.tuple #[.agg LA.toArray, .int .i64 0]) ∧ Below W.heap.size W w') := fun W hB => by
    rw [hLA]
    exact readG W a ha g 1 (cap - 1) (fun j u hj => by
      have := range_be hr hB (j + 1) u hj
      rwa [show 0 + (j + 1) = 1 + j by omega] at this)
  clear hLT hLU hLA hr ha
  go_enter Tryd.func41, Tryd.ntmps41
  go_wp2_with (refine wpList_allocK rfl rfl ?_; intro X2 q1 q2 q3; have R2 : Hid (Row X2 _ zK 44) := q1; have B2 : Hid (Below _ _ X2) := q2; clear q1 q2 q3; simp only [Act.put, List.setIfInBounds_toArray, List.set_cons_zero, List.set_cons_succ])
  obtain ⟨b2, hb2⟩ : ∃ b, b = w.heap.size := ⟨_, rfl⟩
  replace R2 : Hid (Row X2 b2 zK 44) := by rw [hb2]; exact R2.out
  have HW2 : Hid (w.heap.size ≤ b2) := by show _ ≤ _; rw [hb2]; exact Nat.le_refl _
  have BB : Hid (Below w.heap.size w X2) := B2.out
  rw [← hb2]
  clear hb2 B2
  refine Calls.mono (HRD.out X2 BB.out) ?_
  rintro e V ⟨rfl, hB⟩
  replace R2 : Hid (Row V b2 zK 44) := Row.below R2.out hB R2.out.lt
  replace BB : Hid (Below w.heap.size w V) := BB.out.trans (hB.mono BB.out.size)
  clear hB HRD
  obtain ⟨b4, hb4⟩ : ∃ b, b = V.heap.size := ⟨_, rfl⟩
  have HBb4 : Hid (b4 = V.heap.size) := hb4
  clear hb4
  go_upto_region 6 with (first
    | (refine wpList_allocW rfl rfl ?_; intro XY4 q1 q2 q3; have QY4 : Hid (Row XY4 _ zW 25) := q1; have BY4 : Hid (Below _ _ XY4) := q2; clear q1 q2 q3; simp only [Act.put, List.setIfInBounds_toArray, List.set_cons_zero, List.set_cons_succ])
    | (refine wpList_storeL rfl 25 (.tmp 4) (.tmp 15) rfl V.heap.size LA zW 25 rfl rfl QY4.out HLAN.out HLAI.out HLAO.out ?_; intro Y4 q1 q2; have HY4 : Hid (Y4 = _) := q1; have RY4 : Hid (Row Y4 V.heap.size LA 25) := q2; clear q1 q2; simp only [Act.put]))
  rw [← HBb4.out] at RY4 HY4
  rw [← HBb4.out]
  have cb : Below V.heap.size V Y4 := by rw [HY4.out]; exact below_setCells BY4.out (by rw [HBb4.out]; exact Nat.le_refl _) _
  have Nb2b4 : Hid (b2 ≠ b4) := by show _ ≠ _; have := R2.out.lt; rw [HBb4.out]; omega
  replace R2 : Hid (Row Y4 b2 zK 44) := Row.below R2.out cb R2.out.lt
  have BC : Hid (Below w.heap.size w Y4) := BB.out.trans (cb.mono BB.out.size)
  have Rb4 : Hid (Row Y4 b4 LA 25) := RY4.out
  clear cb HY4 BY4 QY4 RY4 HBb4
  replace BB : Hid (Below w.heap.size w Y4) := BC.out
  have S4 : Hid (Y4.rangeAt b4 0 LA) := Rb4.out.all
  clear BC
  obtain ⟨b6, hb6⟩ : ∃ b, b = Y4.heap.size := ⟨_, rfl⟩
  have HBb6 : Hid (b6 = Y4.heap.size) := hb6
  clear hb6
  go_upto_region 7 with (first
    | (refine wpList_allocK rfl rfl ?_; intro XY6 q1 q2 q3; have QY6 : Hid (Row XY6 _ zK 44) := q1; have BY6 : Hid (Below _ _ XY6) := q2; clear q1 q2 q3; simp only [Act.put, List.setIfInBounds_toArray, List.set_cons_zero, List.set_cons_succ])
    | (refine wpList_storeL rfl 44 (.tmp 6) (.tmp 21) rfl Y4.heap.size LU zK 44 rfl rfl QY6.out HLUN.out HLUI.out HLUO.out ?_; intro Y6 q1 q2; have HY6 : Hid (Y6 = _) := q1; have RY6 : Hid (Row Y6 Y4.heap.size LU 44) := q2; clear q1 q2; simp only [Act.put])
    | (refine wpList_load_w rfl 25 (.tmp 4) rfl b4 0 rfl LA _ S4.out Tryd.underlying25 rfl HLAI.out ?_; simp only [Act.put, List.setIfInBounds_toArray, List.set_cons_zero, List.set_cons_succ])
    | (refine wpList_bld rfl 44 #[(2, .tmp 20)] rfl #[(2, .agg LA.toArray)] rfl LU HBL.out ?_; simp only [Act.put, List.setIfInBounds_toArray, List.set_cons_zero, List.set_cons_succ]))
  rw [← HBb6.out] at RY6 HY6
  rw [← HBb6.out]
  have cb : Below Y4.heap.size Y4 Y6 := by rw [HY6.out]; exact below_setCells BY6.out (by rw [HBb6.out]; exact Nat.le_refl _) _
  have Nb2b6 : Hid (b2 ≠ b6) := by show _ ≠ _; have := R2.out.lt; rw [HBb6.out]; omega
  replace R2 : Hid (Row Y6 b2 zK 44) := Row.below R2.out cb R2.out.lt
  have BC : Hid (Below w.heap.size w Y6) := BB.out.trans (cb.mono BB.out.size)
  have Rb6 : Hid (Row Y6 b6 LU 44) := RY6.out
  clear cb HY6 BY6 QY6 RY6 HBb6
  replace BB : Hid (Below w.heap.size w Y6) := BC.out
  clear BC
  have S6 : Hid (Y6.rangeAt b6 0 LU) := Rb6.out.all
  have c0 : Y6.cell? ⟨g, 0, none⟩ = some (.int .u8 3) := range_be HR.out BB.out 0 _ rfl
  go_wp2_with (refine wpList_load_w rfl 44 (.tmp 6) rfl b6 0 rfl LU _ S6.out Tryd.underlying44 rfl HLUI.out ?_; simp only [Act.put, List.setIfInBounds_toArray, List.set_cons_zero, List.set_cons_succ])
  refine Calls.mono (HRU.out Y6) ?_
  rintro e V2 ⟨rfl, hB⟩
  replace R2 : Hid (Row V2 b2 zK 44) := Row.below R2.out hB R2.out.lt
  replace BB : Hid (Below w.heap.size w V2) := BB.out.trans (hB.mono BB.out.size)
  clear hB c0 S6
  go_wp2_with (refine wpList_storeL rfl 44 (.tmp 2) (.tmp 32) rfl b2 LT zK 44 rfl rfl R2.out HLTN.out HLTI.out HLTO.out ?_; intro Y q1 q2; have HY : Hid (Y = _) := q1; have RY : Hid (Row Y b2 LT 44) := q2; clear q1 q2; simp only [Act.put])
  exact bodyPost_ret (results_rowS_tmp Tryd.results41 _ _ b2 44 LT (.int .i64 0) rfl rfl RY.out Tryd.underlying44 HLTI.out) rfl ⟨rfl, by rw [HY.out]; exact below_setCells BB.out HW2.out _⟩

end Go.Proofs.YtelioddogdcdoaaDoor
