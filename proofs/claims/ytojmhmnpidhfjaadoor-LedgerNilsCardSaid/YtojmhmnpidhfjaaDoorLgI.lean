/-
  amount.
-/
import Derived.Test.YtojmhmnpidhfjaaDoorLgG
import Derived.Test.YtojmhmnpidhfjaaDoorLgM
namespace Go.Proofs.YtojmhmnpidhfjaaDoor
open Go Go.RowKit Go.Maps
open Sha
open Wd


set_option maxRecDepth 100000 in
set_option maxHeartbeats 1000000 in
theorem amount_none (w0 : World) (S q : Nat) (f : ByteArray → List (BitVec 8)) (hq : q < 1000000) (s : ByteArray) (hs : isK s.size = true) (hd : f s = []) (w : World) (h : Lg w0 w S q f) :
    Calls Tryd.prog 35 #[.agg #[.pointer (some ⟨S, 0, none⟩), .int .u8 5], .string s] w fun e w' => e = .returned (.tuple #[.agg (sm 0), .int .i64 0]) ∧ Lg w0 w' S (q + 1) f ∧ Kp w w' := by
  obtain ⟨LZ, hLZ⟩ : ∃ L : List Value, L = [.int .u64 0, .int .u64 0, .int .u64 0, .int .u64 0] := ⟨_, rfl⟩
  obtain ⟨LR, hLR⟩ : ∃ L : List Value, L = [.int .u64 0, .int .u64 0, .int .u64 0, .int .u64 0] := ⟨_, rfl⟩
  obtain ⟨W1, hW1, rp, rz, b1⟩ : ∃ W, W = (w.alloc (Obj.cells #[.pointer (some ⟨S, 0, none⟩), .int .u8 5] 61)).alloc (Obj.cells #[.int .u64 0, .int .u64 0, .int .u64 0, .int .u64 0] 26) ∧ Row W w.heap.size [.pointer (some ⟨S, 0, none⟩), .int .u8 5] 61 ∧ Row W (w.heap.size + 1) LZ 26 ∧ Below w.heap.size w W := ⟨_, rfl, (Row.new' rfl rfl).alloc _, Row.new' (by simp) (by rw [hLZ]), ((Below.refl _ _).alloc (Nat.le_refl _) _).alloc (by simp) _⟩
  have HW : Hid (W1 = _) := hW1
  have RZ : Hid (Row W1 (w.heap.size + 1) LZ 26) := rz
  have HG : Hid (Lg w0 W1 S q f) := h.be b1
  have HK : Hid (Kp w W1) := Kp.of_below b1
  have HW0 : Hid (w0.heap.size ≤ w.heap.size) := h.bel.size
  have HQ : Hid (q < 1000000) := hq
  have HS : Hid (isK s.size = true) := hs
  have HD : Hid (f s = []) := hd
  have HZN : Hid (LZ.length = 4) := by rw [hLZ]; rfl
  have HLE : Hid (LR = [.int .u64 0, .int .u64 0, .int .u64 0, .int .u64 0]) := hLR
  have HLN : Hid (LR.length = 4) := by rw [hLR]; rfl
  have HLO : Hid (LR.toArray.all (·.oneCell') = true) := by show _ = true; rw [hLR, ← Array.all_toList]; rfl
  have HLI : Hid ((Tryd.prog.info? 26).map (·.size) = some LR.length) := by rw [HLN.out]; exact info_wide4
  have HLJ : Hid ((Tryd.prog.info? 26).map (·.size) = some LR.toArray.size) := by show _ = _; rw [List.size_toArray, HLN.out]; exact info_wide4
  have x0 := rp.cell 0 _ rfl
  clear hW1 rp rz b1 h hq hs hd hLZ hLR
  go_enter Tryd.func35, Tryd.ntmps35
  go_upto_region 1 with fail
  rw [← HW.out]
  clear HW
  go_wp2_with fail
  refine Calls.mono (get_lg w0 S q f HQ.out s HS.out 0 [] HD.out rfl W1 HG.out) ?_
  rintro e V ⟨A, cap, rfl, hb, hni, hG, hK⟩
  replace RZ : Hid (Row V (w.heap.size + 1) LZ 26) := hK.row _ _ _ (by decide) RZ.out
  replace HG : Hid (Lg w0 V S (q + 1) f) := hG
  replace HK : Hid (Kp w V) := HK.out.trans hK
  have HBW : Hid (Bw V (.slice A 0 cap) []) := hb
  clear hb hni hG hK x0
  have HTH : Hid (V.there (w.heap.size + 1) 0 LR.toArray.size) := Row.there RZ.out 0 _ (by rw [List.size_toArray, HLN.out, HZN.out]; decide)
  have HF : Hid (Row (V.setCells (w.heap.size + 1) 0 LR) (w.heap.size + 1) LR 26) := Row.over RZ.out (by rw [HLN.out, HZN.out])
  have FG : Hid (Lg w0 (V.setCells (w.heap.size + 1) 0 LR) S (q + 1) f) := HG.out.kept RZ.out (by decide) (by decide) (by decide) (by decide) (fun k hk => heap_sets _ _ _ _ _ hk) (below_setCells HG.out.bel (Nat.le_succ_of_le HW0.out) _)
  have FK : Hid (Kp w (V.setCells (w.heap.size + 1) 0 LR)) := Kp.kept (w.heap.size + 1) (Nat.le_succ _) HK.out (fun k hk => heap_sets _ _ _ _ _ hk) (below_setCells (Below.refl 0 V) (Nat.zero_le _) _).size
  go_wp2_with (first
    | (refine wpList_load_w rfl 26 (.tmp 8) rfl 0 0 rfl LR _ HF.out.all Tryd.underlying26 rfl HLI.out ?_; simp only [Act.put, List.setIfInBounds_toArray, List.set_cons_zero, List.set_cons_succ])
    | (refine wpList_store_mid rfl 26 (.tmp 4) (.tmp 23) rfl (w.heap.size + 1) 0 LR.toArray rfl (by first | rfl | (rw [HLE.out]; rfl)) HTH.out HLJ.out HLO.out ?_; simp only [Act.put]; change wpList _ _ _ _ _ (World.setCells V (w.heap.size + 1) 0 LR)))
  exact bodyPost_ret (results_rowA_tmp Tryd.results35 _ _ (w.heap.size + 1) 26 LR (.int .i64 0) rfl rfl HF.out Tryd.underlying26 HLI.out) rfl ⟨by rw [HLE.out], FG.out, FK.out⟩

set_option maxRecDepth 100000 in
set_option maxHeartbeats 1000000 in
theorem amount_some (w0 : World) (S q : Nat) (f : ByteArray → List (BitVec 8)) (hq : q < 1000000) (s : ByteArray) (hs : isK s.size = true) (n : Nat) (hn : n < 1000000) (hn0 : n ≠ 0) (hd : f s = wB n) (w : World) (h : Lg w0 w S q f) :
    Calls Tryd.prog 35 #[.agg #[.pointer (some ⟨S, 0, none⟩), .int .u8 5], .string s] w fun e w' => e = .returned (.tuple #[.agg (sm (n : Int)), .int .i64 0]) ∧ Lg w0 w' S (q + 1) f ∧ Kp w w' := by
  obtain ⟨LZ, hLZ⟩ : ∃ L : List Value, L = [.int .u64 0, .int .u64 0, .int .u64 0, .int .u64 0] := ⟨_, rfl⟩
  obtain ⟨LR, hLR⟩ : ∃ L : List Value, L = [.int .u64 (n : Int), .int .u64 0, .int .u64 0, .int .u64 0] := ⟨_, rfl⟩
  obtain ⟨W1, hW1, rp, rz, b1⟩ : ∃ W, W = (w.alloc (Obj.cells #[.pointer (some ⟨S, 0, none⟩), .int .u8 5] 61)).alloc (Obj.cells #[.int .u64 0, .int .u64 0, .int .u64 0, .int .u64 0] 26) ∧ Row W w.heap.size [.pointer (some ⟨S, 0, none⟩), .int .u8 5] 61 ∧ Row W (w.heap.size + 1) LZ 26 ∧ Below w.heap.size w W := ⟨_, rfl, (Row.new' rfl rfl).alloc _, Row.new' (by simp) (by rw [hLZ]), ((Below.refl _ _).alloc (Nat.le_refl _) _).alloc (by simp) _⟩
  have HW : Hid (W1 = _) := hW1
  have RZ : Hid (Row W1 (w.heap.size + 1) LZ 26) := rz
  have HG : Hid (Lg w0 W1 S q f) := h.be b1
  have HK : Hid (Kp w W1) := Kp.of_below b1
  have HW0 : Hid (w0.heap.size ≤ w.heap.size) := h.bel.size
  have HQ : Hid (q < 1000000) := hq
  have HS : Hid (isK s.size = true) := hs
  have HD : Hid (f s = (wB n)) := hd
  have HZN : Hid (LZ.length = 4) := by rw [hLZ]; rfl
  have HLE : Hid (LR = [.int .u64 (n : Int), .int .u64 0, .int .u64 0, .int .u64 0]) := hLR
  have HLN : Hid (LR.length = 4) := by rw [hLR]; rfl
  have HLO : Hid (LR.toArray.all (·.oneCell') = true) := by show _ = true; rw [hLR, ← Array.all_toList]; rfl
  have HLI : Hid ((Tryd.prog.info? 26).map (·.size) = some LR.length) := by rw [HLN.out]; exact info_wide4
  have HLJ : Hid ((Tryd.prog.info? 26).map (·.size) = some LR.toArray.size) := by show _ = _; rw [List.size_toArray, HLN.out]; exact info_wide4
  have x0 := rp.cell 0 _ rfl
  clear hW1 rp rz b1 h hq hs hd hLZ hLR
  go_enter Tryd.func35, Tryd.ntmps35
  go_upto_region 1 with fail
  rw [← HW.out]
  clear HW
  go_wp2_with fail
  refine Calls.mono (get_lg w0 S q f HQ.out s HS.out 32 (wB n) HD.out (wB_len n) W1 HG.out) ?_
  rintro e V ⟨A, cap, rfl, hb, hni, hG, hK⟩
  replace RZ : Hid (Row V (w.heap.size + 1) LZ 26) := hK.row _ _ _ (by decide) RZ.out
  replace HG : Hid (Lg w0 V S (q + 1) f) := hG
  replace HK : Hid (Kp w V) := HK.out.trans hK
  have HBW : Hid (Bw V (.slice A 32 cap) (wB n)) := hb
  clear hb hni hG hK x0
  have HRD : Hid _ := readS n hn A cap V (Bw.sl HBW.out)
  go_wp2_with fail
  refine Calls.mono HRD.out ?_
  rintro e V2 ⟨rfl, hB⟩
  obtain ⟨p8, hp8⟩ : ∃ p, p = V2.heap.size := ⟨_, rfl⟩
  obtain ⟨X, hX, r8, bX⟩ : ∃ X, X = V2.alloc (Obj.cells #[.int .u64 (n : Int), .int .u64 0, .int .u64 0, .int .u64 0] 26) ∧ Row X p8 LR 26 ∧ Below V2.heap.size V2 X := ⟨_, rfl, Row.new' hp8 (by rw [HLE.out]), (Below.refl _ _).alloc (Nat.le_refl _) _⟩
  have hBX := hB.trans (bX.mono hB.size)
  have HX : Hid (X = _) := hX
  have HP8 : Hid (p8 = V2.heap.size) := hp8
  have HR8 : Hid (X.rangeAt p8 0 LR) := r8.all
  replace RZ : Hid (Row X (w.heap.size + 1) LZ 26) := Row.below RZ.out hBX RZ.out.lt
  replace HG : Hid (Lg w0 X S (q + 1) f) := HG.out.be hBX
  replace HK : Hid (Kp w X) := HK.out.trans (Kp.of_below hBX)
  clear hB hX r8 bX hBX hp8 HRD HBW
  go_upto_region 5 with fail
  rw [← HX.out, ← HP8.out]
  clear HX HP8
  have HZ : Hid _ := zeroS n hn false (decide_eq_false hn0) X
  go_wp2_with (refine wpList_load_w rfl 26 (.tmp 8) rfl p8 0 rfl LR _ HR8.out Tryd.underlying26 rfl HLI.out ?_; simp only [Act.put, List.setIfInBounds_toArray, List.set_cons_zero, List.set_cons_succ]; (try rw [HLE.out]))
  refine Calls.mono HZ.out ?_
  rintro e V3 ⟨rfl, hB⟩
  replace RZ : Hid (Row V3 (w.heap.size + 1) LZ 26) := Row.below RZ.out hB RZ.out.lt
  replace HG : Hid (Lg w0 V3 S (q + 1) f) := HG.out.be hB
  replace HK : Hid (Kp w V3) := HK.out.trans (Kp.of_below hB)
  replace HR8 : Hid (V3.rangeAt p8 0 LR) := range_be HR8.out hB
  clear hB HZ
  have HTH : Hid (V3.there (w.heap.size + 1) 0 LR.toArray.size) := Row.there RZ.out 0 _ (by rw [List.size_toArray, HLN.out, HZN.out]; decide)
  have HF : Hid (Row (V3.setCells (w.heap.size + 1) 0 LR) (w.heap.size + 1) LR 26) := Row.over RZ.out (by rw [HLN.out, HZN.out])
  have FG : Hid (Lg w0 (V3.setCells (w.heap.size + 1) 0 LR) S (q + 1) f) := HG.out.kept RZ.out (by decide) (by decide) (by decide) (by decide) (fun k hk => heap_sets _ _ _ _ _ hk) (below_setCells HG.out.bel (Nat.le_succ_of_le HW0.out) _)
  have FK : Hid (Kp w (V3.setCells (w.heap.size + 1) 0 LR)) := Kp.kept (w.heap.size + 1) (Nat.le_succ _) HK.out (fun k hk => heap_sets _ _ _ _ _ hk) (below_setCells (Below.refl 0 V3) (Nat.zero_le _) _).size
  go_wp2_with (first
    | (refine wpList_load_w rfl 26 (.tmp 8) rfl p8 0 rfl LR _ HR8.out Tryd.underlying26 rfl HLI.out ?_; simp only [Act.put, List.setIfInBounds_toArray, List.set_cons_zero, List.set_cons_succ])
    | (refine wpList_store_mid rfl 26 (.tmp 4) (.tmp 37) rfl (w.heap.size + 1) 0 LR.toArray rfl (by first | rfl | (rw [HLE.out]; rfl)) HTH.out HLJ.out HLO.out ?_; simp only [Act.put]; change wpList _ _ _ _ _ (World.setCells V3 (w.heap.size + 1) 0 LR)))
  exact bodyPost_ret (results_rowA_tmp Tryd.results35 _ _ (w.heap.size + 1) 26 LR (.int .i64 0) rfl rfl HF.out Tryd.underlying26 HLI.out) rfl ⟨by rw [HLE.out], FG.out, FK.out⟩

end Go.Proofs.YtojmhmnpidhfjaaDoor
