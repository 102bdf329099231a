/-
  Token, Balance, Allowed without a state.
-/
import Derived.Test.YtojmhmnpidhfjaaDoorLgN
namespace Go.Proofs.YtojmhmnpidhfjaaDoor
open Go Go.RowKit Go.Maps
open Sha
open Wd

theorem info_wide4 : (Tryd.prog.info? 26).map (·.size) = some 4 := by kernel_rfl
theorem results_rowA_tmp {P : Program} {fn : Func} {p q : Tmp} {ty e : TypeId} {k : Nat} (h : fn.results = #[.cell p ty, .tmp q]) (tmps : Array Value) (w : World) (g : Nat) (t : TypeId) (cs : List Value) (v : Value)
    (hp : tmps.getD p undef = .pointer (some ⟨g, 0, none⟩)) (hv : tmps.getD q undef = v) (hg : Row w g cs t) (hu : P.underlying ty = some (.array k e)) (hi : (P.info? ty).map (·.size) = some cs.length) :
    (results fn tmps).run P w = .ok (.tuple #[.agg cs.toArray, v]) w := by
  have hp' : tmps[p]?.getD undef = .pointer (some ⟨g, 0, none⟩) := by simpa using hp
  have hv' : tmps[q]?.getD undef = v := by simpa using hv
  have hr := run_loadVar_row (P := P) w g t ty cs.toArray (0, 0) (.array k e) hg hu rfl (by simp [hi])
  simp [results, h, hp', hv', asAddr, hr]

set_option maxRecDepth 100000 in
set_option maxHeartbeats 1000000 in
theorem token_nil (tk : Int) (w : World) : Calls Tryd.prog 12 #[.pointer none, .int .i64 tk] w fun e w' => e = .returned (.tuple #[.agg #[.bool false, .bool false, .int .u64 0, .int .u64 0, .int .u64 0, .int .u64 0], .int .i64 1]) ∧ Below w.heap.size w w' := by
  obtain ⟨LZ, hLZ⟩ : ∃ L : List Value, L = [.bool false, .bool false, .int .u64 0, .int .u64 0, .int .u64 0, .int .u64 0] := ⟨_, rfl⟩
  have e0 : Below w.heap.size w w := Below.refl _ _
  have e1 := e0.alloc e0.size (Obj.cells #[.bool false, .bool false, .int .u64 0, .int .u64 0, .int .u64 0, .int .u64 0] 33)
  obtain ⟨W1, hW1, r4, b1⟩ : ∃ W, W = w.alloc (Obj.cells #[.bool false, .bool false, .int .u64 0, .int .u64 0, .int .u64 0, .int .u64 0] 33) ∧ Row W w.heap.size LZ 33 ∧ Below w.heap.size w W := ⟨_, rfl, Row.new' (by simp) (by rw [hLZ]), e1⟩
  have HW : Hid (W1 = _) := hW1
  have R4 : Hid (Row W1 w.heap.size LZ 33) := r4
  have HB : Hid (Below w.heap.size w W1) := b1
  have HLE : Hid (LZ = [.bool false, .bool false, .int .u64 0, .int .u64 0, .int .u64 0, .int .u64 0]) := hLZ
  have HLO : Hid (LZ.toArray.all (·.oneCell') = true) := by show _ = true; rw [hLZ, ← Array.all_toList]; rfl
  have HLI : Hid ((Tryd.prog.info? 33).map (·.size) = some LZ.length) := by rw [hLZ]; exact info_tok
  have HLJ : Hid ((Tryd.prog.info? 33).map (·.size) = some LZ.toArray.size) := by show _ = _; rw [List.size_toArray, hLZ]; exact info_tok
  clear hW1 r4 b1 hLZ e0 e1
  go_enter Tryd.func12, Tryd.ntmps12
  go_upto_region 1 with fail
  rw [← HW.out]
  clear HW
  go_wp2_with fail
  refine Calls.mono (ask_nil tk W1) ?_
  rintro e V1 ⟨rfl, hB⟩
  have c0 : Below V1.heap.size V1 V1 := Below.refl _ _
  have c1 := c0.alloc c0.size (Obj.cells #[.pointer none, .int .u8 0] 61)
  have c2 := c1.alloc c1.size (Obj.cells #[.bool false, .bool false, .int .u64 0, .int .u64 0, .int .u64 0, .int .u64 0] 33)
  obtain ⟨X, hX, bX⟩ : ∃ X, X = ((V1.alloc (Obj.cells #[.pointer none, .int .u8 0] 61)).alloc (Obj.cells #[.bool false, .bool false, .int .u64 0, .int .u64 0, .int .u64 0, .int .u64 0] 33)) ∧ Below V1.heap.size V1 X := ⟨_, rfl, c2⟩
  have hBX := hB.trans (bX.mono hB.size)
  have r4 := Row.below R4.out hBX R4.out.lt
  have HX : Hid (X = _) := hX
  have H4 : Hid (X.there w.heap.size 0 LZ.toArray.size) := Row.there r4 0 _ (by rw [List.size_toArray]; exact Nat.le_of_eq (Nat.zero_add _))
  have F4 : Hid (Row (X.setCells w.heap.size 0 LZ) w.heap.size LZ 33) := Row.over r4 (vs := LZ) rfl
  replace HB : Hid (Below w.heap.size w X) := HB.out.trans (hBX.mono HB.out.size)
  replace HB : Hid (Below w.heap.size w (X.setCells w.heap.size 0 LZ)) := below_setCells HB.out (by omega) _
  clear hB bX hBX r4 R4 c0 c1 c2
  rw [hX] at H4
  go_wp2_with (refine wpList_store_mid rfl 33 (.tmp 4) (.tmp 16) rfl w.heap.size 0 LZ.toArray rfl (by rw [HLE.out]; rfl) H4.out HLJ.out HLO.out ?_; simp only [Act.put]; change wpList _ _ _ _ _ (World.setCells ((V1.alloc (Obj.cells #[.pointer none, .int .u8 0] 61)).alloc (Obj.cells #[.bool false, .bool false, .int .u64 0, .int .u64 0, .int .u64 0, .int .u64 0] 33)) w.heap.size 0 LZ); rw [← HX.out])
  exact bodyPost_ret (results_rowS_tmp Tryd.results12 _ _ w.heap.size 33 LZ (.int .i64 1) rfl rfl F4.out Tryd.underlying33 HLI.out) rfl ⟨by rw [HLE.out], HB.out⟩

set_option maxRecDepth 100000 in
set_option maxHeartbeats 1000000 in
theorem balance_nil (tk : Int) (ws : Array Value) (w : World) : Calls Tryd.prog 11 #[.pointer none, .int .i64 tk, .agg ws] w fun e w' => e = .returned (.tuple #[.agg #[.int .u64 0, .int .u64 0, .int .u64 0, .int .u64 0], .int .i64 1]) ∧ Below w.heap.size w w' := by
  obtain ⟨LZ, hLZ⟩ : ∃ L : List Value, L = [.int .u64 0, .int .u64 0, .int .u64 0, .int .u64 0] := ⟨_, rfl⟩
  have e0 : Below w.heap.size w w := Below.refl _ _
  have e1 := e0.alloc e0.size (Obj.cells ws 23)
  have e2 := e1.alloc e1.size (Obj.cells #[.int .u64 0, .int .u64 0, .int .u64 0, .int .u64 0] 26)
  obtain ⟨W1, hW1, r4, b1⟩ : ∃ W, W = (w.alloc (Obj.cells ws 23)).alloc (Obj.cells #[.int .u64 0, .int .u64 0, .int .u64 0, .int .u64 0] 26) ∧ Row W (w.heap.size + 1) LZ 26 ∧ Below w.heap.size w W := ⟨_, rfl, Row.new' (by simp) (by rw [hLZ]), e2⟩
  have HW : Hid (W1 = _) := hW1
  have R4 : Hid (Row W1 (w.heap.size + 1) LZ 26) := r4
  have HB : Hid (Below w.heap.size w W1) := b1
  have HLE : Hid (LZ = [.int .u64 0, .int .u64 0, .int .u64 0, .int .u64 0]) := hLZ
  have HLO : Hid (LZ.toArray.all (·.oneCell') = true) := by show _ = true; rw [hLZ, ← Array.all_toList]; rfl
  have HLI : Hid ((Tryd.prog.info? 26).map (·.size) = some LZ.length) := by rw [hLZ]; exact info_wide4
  have HLJ : Hid ((Tryd.prog.info? 26).map (·.size) = some LZ.toArray.size) := by show _ = _; rw [List.size_toArray, hLZ]; exact info_wide4
  clear hW1 r4 b1 hLZ e0 e1 e2
  go_enter Tryd.func11, Tryd.ntmps11
  go_upto_region 1 with fail
  rw [← HW.out]
  clear HW
  go_wp2_with fail
  refine Calls.mono (open_nil tk W1) ?_
  rintro e V1 ⟨rfl, hB⟩
  have c0 : Below V1.heap.size V1 V1 := Below.refl _ _
  have c1 := c0.alloc c0.size (Obj.cells #[.pointer none, .int .u8 0] 61)
  obtain ⟨X, hX, bX⟩ : ∃ X, X = (V1.alloc (Obj.cells #[.pointer none, .int .u8 0] 61)) ∧ Below V1.heap.size V1 X := ⟨_, rfl, c1⟩
  have hBX := hB.trans (bX.mono hB.size)
  have r4 := Row.below R4.out hBX R4.out.lt
  have HX : Hid (X = _) := hX
  have H4 : Hid (X.there (w.heap.size + 1) 0 LZ.toArray.size) := Row.there r4 0 _ (by rw [List.size_toArray]; exact Nat.le_of_eq (Nat.zero_add _))
  have F4 : Hid (Row (X.setCells (w.heap.size + 1) 0 LZ) (w.heap.size + 1) LZ 26) := Row.over r4 (vs := LZ) rfl
  replace HB : Hid (Below w.heap.size w X) := HB.out.trans (hBX.mono HB.out.size)
  replace HB : Hid (Below w.heap.size w (X.setCells (w.heap.size + 1) 0 LZ)) := below_setCells HB.out (by omega) _
  clear hB bX hBX r4 R4 c0 c1
  rw [hX] at H4
  go_wp2_with (refine wpList_store_mid rfl 26 (.tmp 6) (.tmp 18) rfl (w.heap.size + 1) 0 LZ.toArray rfl (by rw [HLE.out]; rfl) H4.out HLJ.out HLO.out ?_; simp only [Act.put]; change wpList _ _ _ _ _ (World.setCells (V1.alloc (Obj.cells #[.pointer none, .int .u8 0] 61)) (w.heap.size + 1) 0 LZ); rw [← HX.out])
  exact bodyPost_ret (results_rowA_tmp Tryd.results11 _ _ (w.heap.size + 1) 26 LZ (.int .i64 1) rfl rfl F4.out Tryd.underlying26 HLI.out) rfl ⟨by rw [HLE.out], HB.out⟩

set_option maxRecDepth 100000 in
set_option maxHeartbeats 1000000 in
theorem allowed_nil (tk : Int) (ws : Array Value) (xs : Array Value) (w : World) : Calls Tryd.prog 18 #[.pointer none, .int .i64 tk, .agg ws, .agg xs] w fun e w' => e = .returned (.tuple #[.agg #[.int .u64 0, .int .u64 0, .int .u64 0, .int .u64 0], .int .i64 1]) ∧ Below w.heap.size w w' := by
  obtain ⟨LZ, hLZ⟩ : ∃ L : List Value, L = [.int .u64 0, .int .u64 0, .int .u64 0, .int .u64 0] := ⟨_, rfl⟩
  have e0 : Below w.heap.size w w := Below.refl _ _
  have e1 := e0.alloc e0.size (Obj.cells ws 23)
  have e2 := e1.alloc e1.size (Obj.cells xs 23)
  have e3 := e2.alloc e2.size (Obj.cells #[.int .u64 0, .int .u64 0, .int .u64 0, .int .u64 0] 26)
  obtain ⟨W1, hW1, r4, b1⟩ : ∃ W, W = ((w.alloc (Obj.cells ws 23)).alloc (Obj.cells xs 23)).alloc (Obj.cells #[.int .u64 0, .int .u64 0, .int .u64 0, .int .u64 0] 26) ∧ Row W (w.heap.size + 2) LZ 26 ∧ Below w.heap.size w W := ⟨_, rfl, Row.new' (by simp) (by rw [hLZ]), e3⟩
  have HW : Hid (W1 = _) := hW1
  have R4 : Hid (Row W1 (w.heap.size + 2) LZ 26) := r4
  have HB : Hid (Below w.heap.size w W1) := b1
  have HLE : Hid (LZ = [.int .u64 0, .int .u64 0, .int .u64 0, .int .u64 0]) := hLZ
  have HLO : Hid (LZ.toArray.all (·.oneCell') = true) := by show _ = true; rw [hLZ, ← Array.all_toList]; rfl
  have HLI : Hid ((Tryd.prog.info? 26).map (·.size) = some LZ.length) := by rw [hLZ]; exact info_wide4
  have HLJ : Hid ((Tryd.prog.info? 26).map (·.size) = some LZ.toArray.size) := by show _ = _; rw [List.size_toArray, hLZ]; exact info_wide4
  clear hW1 r4 b1 hLZ e0 e1 e2 e3
  go_enter Tryd.func18, Tryd.ntmps18
  go_upto_region 1 with fail
  rw [← HW.out]
  clear HW
  go_wp2_with fail
  refine Calls.mono (open_nil tk W1) ?_
  rintro e V1 ⟨rfl, hB⟩
  have c0 : Below V1.heap.size V1 V1 := Below.refl _ _
  have c1 := c0.alloc c0.size (Obj.cells #[.pointer none, .int .u8 0] 61)
  obtain ⟨X, hX, bX⟩ : ∃ X, X = (V1.alloc (Obj.cells #[.pointer none, .int .u8 0] 61)) ∧ Below V1.heap.size V1 X := ⟨_, rfl, c1⟩
  have hBX := hB.trans (bX.mono hB.size)
  have r4 := Row.below R4.out hBX R4.out.lt
  have HX : Hid (X = _) := hX
  have H4 : Hid (X.there (w.heap.size + 2) 0 LZ.toArray.size) := Row.there r4 0 _ (by rw [List.size_toArray]; exact Nat.le_of_eq (Nat.zero_add _))
  have F4 : Hid (Row (X.setCells (w.heap.size + 2) 0 LZ) (w.heap.size + 2) LZ 26) := Row.over r4 (vs := LZ) rfl
  replace HB : Hid (Below w.heap.size w X) := HB.out.trans (hBX.mono HB.out.size)
  replace HB : Hid (Below w.heap.size w (X.setCells (w.heap.size + 2) 0 LZ)) := below_setCells HB.out (by omega) _
  clear hB bX hBX r4 R4 c0 c1
  rw [hX] at H4
  go_wp2_with (refine wpList_store_mid rfl 26 (.tmp 8) (.tmp 20) rfl (w.heap.size + 2) 0 LZ.toArray rfl (by rw [HLE.out]; rfl) H4.out HLJ.out HLO.out ?_; simp only [Act.put]; change wpList _ _ _ _ _ (World.setCells (V1.alloc (Obj.cells #[.pointer none, .int .u8 0] 61)) (w.heap.size + 2) 0 LZ); rw [← HX.out])
  exact bodyPost_ret (results_rowA_tmp Tryd.results18 _ _ (w.heap.size + 2) 26 LZ (.int .i64 1) rfl rfl F4.out Tryd.underlying26 HLI.out) rfl ⟨by rw [HLE.out], HB.out⟩

end Go.Proofs.YtojmhmnpidhfjaaDoor
