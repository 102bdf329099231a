/-
  calls without a state.
-/
import Derived.Test.YtojmhmnpidhfjaaDoorLgF
namespace Go.Proofs.YtojmhmnpidhfjaaDoor
open Go Go.RowKit Go.Maps
open Sha
open Wd


set_option maxRecDepth 100000 in
set_option maxHeartbeats 1000000 in
theorem ask_nil (tk : Int) (w : World) : Calls Tryd.prog 24 #[.pointer none, .int .i64 tk] w fun e w' => e = .returned (.tuple #[.agg #[.pointer none, .int .u8 0], .agg #[.bool false, .bool false, .int .u64 0, .int .u64 0, .int .u64 0, .int .u64 0], .int .i64 1]) ∧ Below w.heap.size w w' := by
  obtain ⟨LZ, hLZ⟩ : ∃ L : List Value, L = [.bool false, .bool false, .int .u64 0, .int .u64 0, .int .u64 0, .int .u64 0] := ⟨_, rfl⟩
  obtain ⟨LQ, hLQ⟩ : ∃ L : List Value, L = [.pointer none, .int .u8 0] := ⟨_, rfl⟩
  obtain ⟨W1, hW1, r4, r5, b1⟩ : ∃ W, W = (w.alloc (Obj.cells #[.pointer none, .int .u8 0] 61)).alloc (Obj.cells #[.bool false, .bool false, .int .u64 0, .int .u64 0, .int .u64 0, .int .u64 0] 33) ∧ Row W w.heap.size LQ 61 ∧ Row W (w.heap.size + 1) LZ 33 ∧ Below w.heap.size w W := ⟨_, rfl, (Row.new' rfl (by rw [hLQ])).alloc _, Row.new' (by simp) (by rw [hLZ]), ((Below.refl _ _).alloc (Nat.le_refl _) _).alloc (by simp) _⟩
  have HW : Hid (W1 = _) := hW1
  have R4 : Hid (Row W1 w.heap.size LQ 61) := r4
  have R5 : Hid (Row W1 (w.heap.size + 1) LZ 33) := r5
  have HB : Hid (Below w.heap.size w W1) := b1
  have HLE : Hid (LZ = [.bool false, .bool false, .int .u64 0, .int .u64 0, .int .u64 0, .int .u64 0]) := hLZ
  have HLN : Hid (LZ.length = 6) := by rw [hLZ]; rfl
  have HLO : Hid (LZ.toArray.all (·.oneCell') = true) := tok_one hLZ
  have HLI : Hid ((Tryd.prog.info? 33).map (·.size) = some LZ.length) := by rw [HLN.out]; exact info_tok
  have HLJ : Hid ((Tryd.prog.info? 33).map (·.size) = some LZ.toArray.size) := by show _ = _; rw [List.size_toArray, HLN.out]; exact info_tok
  have HPE : Hid (LQ = [.pointer none, .int .u8 0]) := hLQ
  have HPN : Hid (LQ.length = 2) := by rw [hLQ]; rfl
  have HPO : Hid (LQ.toArray.all (·.oneCell') = true) := by show _ = true; rw [hLQ, ← Array.all_toList]; rfl
  have HPI : Hid ((Tryd.prog.info? 61).map (·.size) = some LQ.length) := by rw [HPN.out]; exact info_pg
  have HPJ : Hid ((Tryd.prog.info? 61).map (·.size) = some LQ.toArray.size) := by show _ = _; rw [List.size_toArray, HPN.out]; exact info_pg
  clear hW1 r4 r5 b1 hLZ hLQ
  go_enter Tryd.func24, Tryd.ntmps24
  go_upto_region 1 with fail
  rw [← HW.out]
  clear HW
  go_wp2_with fail
  refine Calls.mono (open_nil tk W1) ?_
  rintro e V1 ⟨rfl, hB⟩
  obtain ⟨X, hX, bX⟩ : ∃ X, X = V1.alloc (Obj.cells #[.pointer none, .int .u8 0] 61) ∧ Below V1.heap.size V1 X := ⟨_, rfl, (Below.refl _ _).alloc (Nat.le_refl _) _⟩
  have hBX := hB.trans (bX.mono hB.size)
  have r4 := Row.below R4.out hBX R4.out.lt
  have r5 := Row.below R5.out hBX R5.out.lt
  have HX : Hid (X = _) := hX
  have H4 : Hid (X.there w.heap.size 0 LQ.toArray.size) := Row.there r4 0 _ (by rw [List.size_toArray]; exact Nat.le_of_eq (Nat.zero_add _))
  have r4' := Row.over r4 (vs := LQ) rfl
  have r5' := Row.setCells_other r5 w.heap.size 0 LQ (by omega)
  have H5 : Hid ((X.setCells w.heap.size 0 LQ).there (w.heap.size + 1) 0 LZ.toArray.size) := Row.there r5' 0 _ (by rw [List.size_toArray]; exact Nat.le_of_eq (Nat.zero_add _))
  have F4 : Hid (Row ((X.setCells w.heap.size 0 LQ).setCells (w.heap.size + 1) 0 LZ) w.heap.size LQ 61) := Row.setCells_other r4' _ _ _ (by omega)
  have F5 : Hid (Row ((X.setCells w.heap.size 0 LQ).setCells (w.heap.size + 1) 0 LZ) (w.heap.size + 1) LZ 33) := Row.over r5' (vs := LZ) rfl
  replace HB : Hid (Below w.heap.size w X) := HB.out.trans (hBX.mono HB.out.size)
  replace HB : Hid (Below w.heap.size w ((X.setCells w.heap.size 0 LQ).setCells (w.heap.size + 1) 0 LZ)) := below_setCells (below_setCells HB.out (Nat.le_refl _) _) (Nat.le_succ _) _
  have eQ := HPE.out
  have eZ := HLE.out
  clear hB hX bX hBX r4 r5 r4' r5' R4 R5
  go_upto_region 3 with fail
  rw [← HX.out]
  clear HX
  go_wp2_with (first
    | (refine wpList_store_mid rfl 61 (.tmp 4) (.tmp 19) rfl w.heap.size 0 LQ.toArray rfl (by rw [HPE.out]; rfl) H4.out HPJ.out HPO.out ?_; simp only [Act.put]; change wpList _ _ _ _ _ (World.setCells X w.heap.size 0 LQ))
    | (refine wpList_store_mid rfl 33 (.tmp 5) (.tmp 20) rfl (w.heap.size + 1) 0 LZ.toArray rfl (by rw [HLE.out]; rfl) H5.out HLJ.out HLO.out ?_; simp only [Act.put]; change wpList _ _ _ _ _ (World.setCells (World.setCells X w.heap.size 0 LQ) (w.heap.size + 1) 0 LZ)))
  exact bodyPost_ret (results_rowSS_tmp Tryd.results24 _ _ w.heap.size (w.heap.size + 1) 61 33 LQ LZ (.int .i64 1) rfl rfl rfl F4.out F5.out Tryd.underlying61 Tryd.underlying33 HPI.out HLI.out) rfl ⟨by rw [HPE.out, HLE.out], HB.out⟩

set_option maxRecDepth 100000 in
set_option maxHeartbeats 1000000 in
theorem arun_nil (tk : Int) (w : World) : Calls Tryd.prog 27 #[.pointer none, .int .i64 tk] w fun e w' => e = .returned (.tuple #[.agg #[.pointer none, .int .u8 0], .agg #[.bool false, .bool false, .int .u64 0, .int .u64 0, .int .u64 0, .int .u64 0], .int .i64 1]) ∧ Below w.heap.size w w' := by
  obtain ⟨LZ, hLZ⟩ : ∃ L : List Value, L = [.bool false, .bool false, .int .u64 0, .int .u64 0, .int .u64 0, .int .u64 0] := ⟨_, rfl⟩
  obtain ⟨LQ, hLQ⟩ : ∃ L : List Value, L = [.pointer none, .int .u8 0] := ⟨_, rfl⟩
  obtain ⟨W1, hW1, r4, r5, b1⟩ : ∃ W, W = (w.alloc (Obj.cells #[.pointer none, .int .u8 0] 61)).alloc (Obj.cells #[.bool false, .bool false, .int .u64 0, .int .u64 0, .int .u64 0, .int .u64 0] 33) ∧ Row W w.heap.size LQ 61 ∧ Row W (w.heap.size + 1) LZ 33 ∧ Below w.heap.size w W := ⟨_, rfl, (Row.new' rfl (by rw [hLQ])).alloc _, Row.new' (by simp) (by rw [hLZ]), ((Below.refl _ _).alloc (Nat.le_refl _) _).alloc (by simp) _⟩
  have HW : Hid (W1 = _) := hW1
  have R4 : Hid (Row W1 w.heap.size LQ 61) := r4
  have R5 : Hid (Row W1 (w.heap.size + 1) LZ 33) := r5
  have HB : Hid (Below w.heap.size w W1) := b1
  have HLE : Hid (LZ = [.bool false, .bool false, .int .u64 0, .int .u64 0, .int .u64 0, .int .u64 0]) := hLZ
  have HLN : Hid (LZ.length = 6) := by rw [hLZ]; rfl
  have HLO : Hid (LZ.toArray.all (·.oneCell') = true) := tok_one hLZ
  have HLI : Hid ((Tryd.prog.info? 33).map (·.size) = some LZ.length) := by rw [HLN.out]; exact info_tok
  have HLJ : Hid ((Tryd.prog.info? 33).map (·.size) = some LZ.toArray.size) := by show _ = _; rw [List.size_toArray, HLN.out]; exact info_tok
  have HPE : Hid (LQ = [.pointer none, .int .u8 0]) := hLQ
  have HPN : Hid (LQ.length = 2) := by rw [hLQ]; rfl
  have HPO : Hid (LQ.toArray.all (·.oneCell') = true) := by show _ = true; rw [hLQ, ← Array.all_toList]; rfl
  have HPI : Hid ((Tryd.prog.info? 61).map (·.size) = some LQ.length) := by rw [HPN.out]; exact info_pg
  have HPJ : Hid ((Tryd.prog.info? 61).map (·.size) = some LQ.toArray.size) := by show _ = _; rw [List.size_toArray, HPN.out]; exact info_pg
  clear hW1 r4 r5 b1 hLZ hLQ
  go_enter Tryd.func27, Tryd.ntmps27
  go_upto_region 1 with fail
  rw [← HW.out]
  clear HW
  go_wp2_with fail
  refine Calls.mono (ask_nil tk W1) ?_
  rintro e V1 ⟨rfl, hB⟩
  obtain ⟨X, hX, bX⟩ : ∃ X, X = (V1.alloc (Obj.cells #[.pointer none, .int .u8 0] 61)).alloc (Obj.cells #[.bool false, .bool false, .int .u64 0, .int .u64 0, .int .u64 0, .int .u64 0] 33) ∧ Below V1.heap.size V1 X := ⟨_, rfl, ((Below.refl _ _).alloc (Nat.le_refl _) _).alloc (by simp) _⟩
  have hBX := hB.trans (bX.mono hB.size)
  have r4 := Row.below R4.out hBX R4.out.lt
  have r5 := Row.below R5.out hBX R5.out.lt
  have HX : Hid (X = _) := hX
  have H4 : Hid (X.there w.heap.size 0 LQ.toArray.size) := Row.there r4 0 _ (by rw [List.size_toArray]; exact Nat.le_of_eq (Nat.zero_add _))
  have r4' := Row.over r4 (vs := LQ) rfl
  have r5' := Row.setCells_other r5 w.heap.size 0 LQ (by omega)
  have H5 : Hid ((X.setCells w.heap.size 0 LQ).there (w.heap.size + 1) 0 LZ.toArray.size) := Row.there r5' 0 _ (by rw [List.size_toArray]; exact Nat.le_of_eq (Nat.zero_add _))
  have F4 : Hid (Row ((X.setCells w.heap.size 0 LQ).setCells (w.heap.size + 1) 0 LZ) w.heap.size LQ 61) := Row.setCells_other r4' _ _ _ (by omega)
  have F5 : Hid (Row ((X.setCells w.heap.size 0 LQ).setCells (w.heap.size + 1) 0 LZ) (w.heap.size + 1) LZ 33) := Row.over r5' (vs := LZ) rfl
  replace HB : Hid (Below w.heap.size w X) := HB.out.trans (hBX.mono HB.out.size)
  replace HB : Hid (Below w.heap.size w ((X.setCells w.heap.size 0 LQ).setCells (w.heap.size + 1) 0 LZ)) := below_setCells (below_setCells HB.out (Nat.le_refl _) _) (Nat.le_succ _) _
  have eQ := HPE.out
  have eZ := HLE.out
  clear hB hX bX hBX r4 r5 r4' r5' R4 R5
  go_upto_region 3 with fail
  rw [← HX.out]
  clear HX
  go_wp2_with (first
    | (refine wpList_store_mid rfl 61 (.tmp 4) (.tmp 20) rfl w.heap.size 0 LQ.toArray rfl (by rw [HPE.out]; rfl) H4.out HPJ.out HPO.out ?_; simp only [Act.put]; change wpList _ _ _ _ _ (World.setCells X w.heap.size 0 LQ))
    | (refine wpList_store_mid rfl 33 (.tmp 5) (.tmp 21) rfl (w.heap.size + 1) 0 LZ.toArray rfl (by rw [HLE.out]; rfl) H5.out HLJ.out HLO.out ?_; simp only [Act.put]; change wpList _ _ _ _ _ (World.setCells (World.setCells X w.heap.size 0 LQ) (w.heap.size + 1) 0 LZ)))
  exact bodyPost_ret (results_rowSS_tmp Tryd.results27 _ _ w.heap.size (w.heap.size + 1) 61 33 LQ LZ (.int .i64 1) rfl rfl rfl F4.out F5.out Tryd.underlying61 Tryd.underlying33 HPI.out HLI.out) rfl ⟨by rw [HPE.out, HLE.out], HB.out⟩

set_option maxRecDepth 100000 in
theorem register_nil (tk : Int) (w : World) : Calls Tryd.prog 8 #[.pointer none, .int .i64 tk] w fun e w' => e = .returned (.int .i64 1) ∧ Below w.heap.size w w' := by
  go_enter Tryd.func8, Tryd.ntmps8
  go_wp2_with fail
  refine Calls.mono (ask_nil tk _) ?_
  rintro e V ⟨rfl, hB⟩
  have e0 : Below w.heap.size w w := Below.refl _ _
  have HB : Hid (Below w.heap.size w V) := e0.trans (hB.mono e0.size)
  clear hB e0
  go_wp2_with fail
  go_ret
  exact ⟨rfl, (HB.out.alloc HB.out.size _).alloc (HB.out.alloc HB.out.size _).size _⟩

set_option maxRecDepth 100000 in
theorem pause_nil (tk : Int) (w : World) : Calls Tryd.prog 13 #[.pointer none, .int .i64 tk] w fun e w' => e = .returned (.int .i64 1) ∧ Below w.heap.size w w' := by
  go_enter Tryd.func13, Tryd.ntmps13
  go_wp2_with fail
  refine Calls.mono (arun_nil tk _) ?_
  rintro e V ⟨rfl, hB⟩
  have e0 : Below w.heap.size w w := Below.refl _ _
  have HB : Hid (Below w.heap.size w V) := e0.trans (hB.mono e0.size)
  clear hB e0
  go_wp2_with fail
  go_ret
  exact ⟨rfl, (HB.out.alloc HB.out.size _).alloc (HB.out.alloc HB.out.size _).size _⟩

set_option maxRecDepth 100000 in
theorem resume_nil (tk : Int) (w : World) : Calls Tryd.prog 14 #[.pointer none, .int .i64 tk] w fun e w' => e = .returned (.int .i64 1) ∧ Below w.heap.size w w' := by
  go_enter Tryd.func14, Tryd.ntmps14
  go_wp2_with fail
  refine Calls.mono (ask_nil tk _) ?_
  rintro e V ⟨rfl, hB⟩
  have e0 : Below w.heap.size w w := Below.refl _ _
  have HB : Hid (Below w.heap.size w V) := e0.trans (hB.mono e0.size)
  clear hB e0
  go_wp2_with fail
  go_ret
  exact ⟨rfl, (HB.out.alloc HB.out.size _).alloc (HB.out.alloc HB.out.size _).size _⟩

set_option maxRecDepth 100000 in
theorem mint_nil (tk : Int) (ws : Array Value) (ns : Array Value) (w : World) : Calls Tryd.prog 9 #[.pointer none, .int .i64 tk, .agg ws, .agg ns] w fun e w' => e = .returned (.int .i64 1) ∧ Below w.heap.size w w' := by
  go_enter Tryd.func9, Tryd.ntmps9
  go_wp2_with fail
  refine Calls.mono (arun_nil tk _) ?_
  rintro e V ⟨rfl, hB⟩
  have e0 : Below w.heap.size w w := Below.refl _ _
  have e1 := e0.alloc e0.size (Obj.cells ws 23)
  have e2 := e1.alloc e1.size (Obj.cells ns 26)
  have HB : Hid (Below w.heap.size w V) := e2.trans (hB.mono e2.size)
  clear hB e0 e1 e2
  go_wp2_with fail
  go_ret
  exact ⟨rfl, (HB.out.alloc HB.out.size _).alloc (HB.out.alloc HB.out.size _).size _⟩

set_option maxRecDepth 100000 in
theorem burn_nil (tk : Int) (ws : Array Value) (ns : Array Value) (w : World) : Calls Tryd.prog 15 #[.pointer none, .int .i64 tk, .agg ws, .agg ns] w fun e w' => e = .returned (.int .i64 1) ∧ Below w.heap.size w w' := by
  go_enter Tryd.func15, Tryd.ntmps15
  go_wp2_with fail
  refine Calls.mono (arun_nil tk _) ?_
  rintro e V ⟨rfl, hB⟩
  have e0 : Below w.heap.size w w := Below.refl _ _
  have e1 := e0.alloc e0.size (Obj.cells ws 23)
  have e2 := e1.alloc e1.size (Obj.cells ns 26)
  have HB : Hid (Below w.heap.size w V) := e2.trans (hB.mono e2.size)
  clear hB e0 e1 e2
  go_wp2_with fail
  go_ret
  exact ⟨rfl, (HB.out.alloc HB.out.size _).alloc (HB.out.alloc HB.out.size _).size _⟩

set_option maxRecDepth 100000 in
theorem move_nil (tk : Int) (ws : Array Value) (xs : Array Value) (ns : Array Value) (w : World) : Calls Tryd.prog 10 #[.pointer none, .int .i64 tk, .agg ws, .agg xs, .agg ns] w fun e w' => e = .returned (.int .i64 1) ∧ Below w.heap.size w w' := by
  go_enter Tryd.func10, Tryd.ntmps10
  go_wp2_with fail
  refine Calls.mono (arun_nil tk _) ?_
  rintro e V ⟨rfl, hB⟩
  have e0 : Below w.heap.size w w := Below.refl _ _
  have e1 := e0.alloc e0.size (Obj.cells ws 23)
  have e2 := e1.alloc e1.size (Obj.cells xs 23)
  have e3 := e2.alloc e2.size (Obj.cells ns 26)
  have HB : Hid (Below w.heap.size w V) := e3.trans (hB.mono e3.size)
  clear hB e0 e1 e2 e3
  go_wp2_with fail
  go_ret
  exact ⟨rfl, (HB.out.alloc HB.out.size _).alloc (HB.out.alloc HB.out.size _).size _⟩

set_option maxRecDepth 100000 in
theorem allow_nil (tk : Int) (ws : Array Value) (xs : Array Value) (ns : Array Value) (w : World) : Calls Tryd.prog 16 #[.pointer none, .int .i64 tk, .agg ws, .agg xs, .agg ns] w fun e w' => e = .returned (.int .i64 1) ∧ Below w.heap.size w w' := by
  go_enter Tryd.func16, Tryd.ntmps16
  go_wp2_with fail
  refine Calls.mono (ask_nil tk _) ?_
  rintro e V ⟨rfl, hB⟩
  have e0 : Below w.heap.size w w := Below.refl _ _
  have e1 := e0.alloc e0.size (Obj.cells ws 23)
  have e2 := e1.alloc e1.size (Obj.cells xs 23)
  have e3 := e2.alloc e2.size (Obj.cells ns 26)
  have HB : Hid (Below w.heap.size w V) := e3.trans (hB.mono e3.size)
  clear hB e0 e1 e2 e3
  go_wp2_with fail
  go_ret
  exact ⟨rfl, (HB.out.alloc HB.out.size _).alloc (HB.out.alloc HB.out.size _).size _⟩

set_option maxRecDepth 100000 in
theorem pull_nil (tk : Int) (ws : Array Value) (xs : Array Value) (ys : Array Value) (ns : Array Value) (w : World) : Calls Tryd.prog 17 #[.pointer none, .int .i64 tk, .agg ws, .agg xs, .agg ys, .agg ns] w fun e w' => e = .returned (.int .i64 1) ∧ Below w.heap.size w w' := by
  go_enter Tryd.func17, Tryd.ntmps17
  go_wp2_with fail
  refine Calls.mono (arun_nil tk _) ?_
  rintro e V ⟨rfl, hB⟩
  have e0 : Below w.heap.size w w := Below.refl _ _
  have e1 := e0.alloc e0.size (Obj.cells ws 23)
  have e2 := e1.alloc e1.size (Obj.cells xs 23)
  have e3 := e2.alloc e2.size (Obj.cells ys 23)
  have e4 := e3.alloc e3.size (Obj.cells ns 26)
  have HB : Hid (Below w.heap.size w V) := e4.trans (hB.mono e4.size)
  clear hB e0 e1 e2 e3 e4
  go_wp2_with fail
  go_ret
  exact ⟨rfl, (HB.out.alloc HB.out.size _).alloc (HB.out.alloc HB.out.size _).size _⟩

end Go.Proofs.YtojmhmnpidhfjaaDoor
