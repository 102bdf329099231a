/-
  The law SparseLeaves: its walk.
-/
import Derived.Test.YtfdgdmehgbmnkaaDoorSpU
namespace Go.Proofs.YtfdgdmehgbmnkaaDoor
open Go Go.RowKit
open Sha

theorem fill_oneS (c cells : Array Value) (hc : c.size = 64) (hn : cells.size = 64) : Instr.fill (fun i => some (i * 64, 64)) cells [(0, .agg c)] = some c := fill_one 64 (by decide) c cells hc hn
theorem info_all_b : (Tryd.prog.info? 59).map (fun i => (i.size, i.bytes)) = some (64, 64) := by kernel_rfl
theorem info_zero_b : ((Tryd.prog.info? 59).bind (·.zero)).map (·.cells.size) = some 64 := by kernel_rfl
theorem info_b_open : ∃ ie z, Tryd.prog.info? 59 = some ie ∧ ie.zero = some z ∧ ie.size = 64 ∧ ie.bytes = 64 ∧ z.cells.size = 64 := by
  have i1 := info_all_b
  have i2 := info_zero_b
  cases hi : Tryd.prog.info? 59 with
  | none => rw [hi] at i1; cases i1
  | some ie =>
    rw [hi] at i1 i2
    cases hz : ie.zero with
    | none => simp [hz] at i2
    | some z =>
      have i3 : ie.size = 64 ∧ ie.bytes = 64 := by simpa using i1
      exact ⟨ie, z, rfl, hz, i3.1, i3.2, by simpa [hz] using i2⟩
theorem wp_build_b1 {Q : Exit → Act → World → Prop} {o : Oper} {a : Act} {w : World} {K : Act → World → Prop} (x : Operand) (ho : o.op = .buildSlice 35 1 #[(0, x)]) (r : List (BitVec 8)) (hr : r.length = 64) (hx : a.eval x = .agg (vB r).toArray)
    (h : K (a.put o.dst (.slice (some ⟨w.heap.size, 0, none⟩) 1 1)) (w.alloc (.cells (vB r).toArray 59))) : Oper.wp Tryd.prog o a w K Q := by
  obtain ⟨ie, z, h1, h2, h3, _, h4⟩ := info_b_open
  refine wp_buildSlice 35 59 1 _ ho _ ie z Tryd.underlying35 h1 h2 (by rw [h3]; decide) (by rw [h3]; decide) ?_ h
  rw [show (Array.map (fun (p : Nat × Operand) => match p with | (i, x) => (i, a.eval x)) #[(0, x)]).toList = [(0, a.eval x)] by simp, hx, h3]
  exact fill_oneS _ _ (by simp [vB_length, hr]) (by simp)
theorem putAll_one (u v : List (BitVec 8)) : putAll [(u, v)] = sgl u v := Tr.put_stop (t := .nil) rfl 256
set_option maxRecDepth 100000 in
set_option maxHeartbeats 4000000 in

theorem leaves_walk (u v : List (BitVec 8)) (hu : u.length = 32) (hv : v.length = 32) (w : World) (hG : Given w) : Calls Tryd.prog 4 #[.agg (vB u).toArray, .agg (vB v).toArray] w fun e w' => e = .returned (.bool true) ∧ Below w.heap.size w w' := by
  obtain ⟨T, hT⟩ : ∃ T, T = putAll [(u, v)] := ⟨_, rfl⟩
  obtain ⟨dd, hdd⟩ : ∃ dd, dd = (sgl u v).dg := ⟨_, rfl⟩
  obtain ⟨E, hE⟩ : ∃ E : Int, E = if v = zd then 50 else 0 := ⟨_, rfl⟩
  have HTD : Hid (T.dg = dd) := by show _ = _; rw [hT, hdd, putAll_one]
  have HDL : Hid (dd.length = 32) := by rw [hdd]; exact Tr.dg_len _
  have HSD : Hid ((vB dd).toArray.size = 32) := by show _ = _; rw [List.size_toArray, vB_length, HDL.out]
  have HID : Hid ((Tryd.prog.info? 29).map (·.size) = some (vB dd).length) := by show _ = _; rw [vB_length, HDL.out]; exact info_dig
  have HIU : Hid ((Tryd.prog.info? 29).map (·.size) = some (vB u).length) := by show _ = _; rw [vB_length, hu]; exact info_dig
  have HIV : Hid ((Tryd.prog.info? 29).map (·.size) = some (vB v).length) := by show _ = _; rw [vB_length, hv]; exact info_dig
  have HUL : Hid (u.length = 32) := hu
  have HVL : Hid (v.length = 32) := hv
  have HKN : Hid (∀ W, Below w.heap.size w W → Calls Tryd.prog 8 #[] W fun e w' => e = .returned (.bool true) ∧ Below W.heap.size W w') := fun W k => known_any W (hG.cub.below k hG.cub.lt)
  have HLF : Hid (∀ W, Below w.heap.size w W → Calls Tryd.prog 25 #[.agg (vB u).toArray, .agg (vB v).toArray] W fun e w' => e = .returned (.tuple #[.agg (vB dd).toArray, .int .i64 E]) ∧ Below W.heap.size W w') := fun W k => by rw [hdd, hE]; exact leaf_s u v hu hv W (hG.cub.below k hG.cub.lt)
  have HRF : Hid (∀ W, Below w.heap.size w W → Calls Tryd.prog 26 #[.agg (vB u).toArray, .agg (vB v).toArray] W fun e w' => e = .returned (.tuple #[.agg (vB dd).toArray, .int .i64 E]) ∧ Below W.heap.size W w') := fun W k => by rw [hdd, hE]; exact rleaf_s u v hu hv W (hG.low k)
  have HMD : Hid (∀ W ab, Below w.heap.size w W → Row W ab (vB (u ++ v)) 59 → Calls Tryd.prog 27 #[.slice (some ⟨ab, 0, none⟩) 1 1] W fun e w' => e = .returned (pt W.heap.size) ∧ MapAt w' W.heap.size T ∧ Below W.heap.size W w') := fun W ab k r => by
    rw [hT]
    exact made_any [(u, v)] (fun p hp => by obtain rfl := List.mem_singleton.1 hp; exact ⟨hu, hv⟩) 1 rfl (by decide) ab 0 1 W (fun X kX => by have h1 := (Row.below r kX r.lt).all; rw [show kvs [(u, v)] = vB (u ++ v) by simp [kvs]]; exact h1) (hG.cub.below k hG.cub.lt)
  have bA : Below w.heap.size w ((w.alloc (Obj.cells (vB u).toArray 29)).alloc (Obj.cells (vB v).toArray 29)) := ((Below.refl _ _).alloc (Nat.le_refl _) _).alloc (by simp) _
  have ru : Row ((w.alloc (Obj.cells (vB u).toArray 29)).alloc (Obj.cells (vB v).toArray 29)) w.heap.size (vB u) 29 := (Row.new w (vB u) _).alloc _
  have rv : Row ((w.alloc (Obj.cells (vB u).toArray 29)).alloc (Obj.cells (vB v).toArray 29)) (w.heap.size + 1) (vB v) 29 := Row.new' (by simp) rfl
  clear hdd hE hG hu hv hT
  go_enter Tryd.func4, Tryd.ntmps4
  go_upto_region 1 with fail
  obtain ⟨b0, hb0⟩ : ∃ b, b = w.heap.size := ⟨_, rfl⟩
  obtain ⟨b1, hb1⟩ : ∃ b, b = w.heap.size + 1 := ⟨_, rfl⟩
  obtain ⟨w1, hw1⟩ : ∃ X, X = (w.alloc (Obj.cells (vB u).toArray 29)).alloc (Obj.cells (vB v).toArray 29) := ⟨_, rfl⟩
  rw [← hb0] at ru
  rw [← hb1] at rv
  rw [← hw1] at bA ru rv
  have HU : Hid (∀ W, Below w1.heap.size w1 W → Row W b0 (vB u) 29) := fun W k => Row.below ru k ru.lt
  have HV : Hid (∀ W, Below w1.heap.size w1 W → Row W b1 (vB v) 29) := fun W k => Row.below rv k rv.lt
  have HB1 : Hid (Below w.heap.size w w1) := bA
  try rw [← hw1]
  try rw [← hb1]
  try rw [← hb0]
  clear hw1 hb0 hb1 ru rv bA
  go_upto_region 2 with (go_at_call 8; refine Calls.mono (HKN.out _ HB1.out) ?_; rintro e X1 ⟨rfl, q⟩; have BX1 : Hid (Below w1.heap.size w1 X1) := q; clear q)
  go_upto_region 3 with (first
    | (refine wpList_load_w rfl 29 (.tmp 2) rfl b0 0 rfl (vB u) _ (HU.out _ BX1.out).all Tryd.underlying29 rfl HIU.out ?_; simp only [Act.put, List.setIfInBounds_toArray, List.set_cons_zero, List.set_cons_succ])
    | (refine wpList_load_w rfl 29 (.tmp 3) rfl b1 0 rfl (vB v) _ (HV.out _ BX1.out).all Tryd.underlying29 rfl HIV.out ?_; simp only [Act.put, List.setIfInBounds_toArray, List.set_cons_zero, List.set_cons_succ])
    | (go_at_call 25; refine Calls.mono (HLF.out _ (HB1.out.trans (BX1.out.mono HB1.out.size))) ?_; rintro e X2 ⟨rfl, q⟩; have BX2 : Hid (Below w1.heap.size w1 X2) := BX1.out.trans (q.mono BX1.out.size); clear q)
    | (refine wpList_store_mid rfl 29 (.tmp 6) (.tmp 16) rfl X2.heap.size 0 (vB dd).toArray rfl rfl ((Row.new' (w := X2) (cs := vB (List.replicate 32 0#8)) rfl rfl).there 0 _ (by rw [HSD.out]; exact Nat.le_refl _)) (by rw [HSD.out]; exact info_dig) (all_oneCell_toArray (vB_one _)) ?_; simp only [Act.put]))
  obtain ⟨p6, hp6⟩ : ∃ b, b = X2.heap.size := ⟨_, rfl⟩
  obtain ⟨V2, hV2⟩ : ∃ Y, Y = (X2.alloc (Obj.cells #[.int .u8 0, .int .u8 0, .int .u8 0, .int .u8 0, .int .u8 0, .int .u8 0, .int .u8 0, .int .u8 0, .int .u8 0, .int .u8 0, .int .u8 0, .int .u8 0, .int .u8 0, .int .u8 0, .int .u8 0, .int .u8 0, .int .u8 0, .int .u8 0, .int .u8 0, .int .u8 0, .int .u8 0, .int .u8 0, .int .u8 0, .int .u8 0, .int .u8 0, .int .u8 0, .int .u8 0, .int .u8 0, .int .u8 0, .int .u8 0, .int .u8 0, .int .u8 0] 29)).setCells X2.heap.size 0 (vB dd) := ⟨_, rfl⟩
  have kV2 : Below X2.heap.size X2 V2 := by rw [hV2]; exact below_setCells ((Below.refl _ _).alloc (Nat.le_refl _) _) (Nat.le_refl _) _
  have Rp6 : Hid (Row V2 p6 (vB dd) 29) := by rw [hV2, hp6]; exact (Row.new' (w := X2) (cs := vB (List.replicate 32 0#8)) rfl rfl).over (by rw [show (vB dd).length = 32 from HSD.out]; rfl)
  have BV2 : Hid (Below w1.heap.size w1 V2) := BX2.out.trans (kV2.mono BX2.out.size)
  rw [← hV2, ← hp6]
  clear hV2 hp6 kV2 BX1 BX2
  go_upto_region 4 with (first
    | (refine wpList_load_w rfl 29 (.tmp 2) rfl b0 0 rfl (vB u) _ (HU.out _ BV2.out).all Tryd.underlying29 rfl HIU.out ?_; simp only [Act.put, List.setIfInBounds_toArray, List.set_cons_zero, List.set_cons_succ])
    | (refine wpList_load_w rfl 29 (.tmp 3) rfl b1 0 rfl (vB v) _ (HV.out _ BV2.out).all Tryd.underlying29 rfl HIV.out ?_; simp only [Act.put, List.setIfInBounds_toArray, List.set_cons_zero, List.set_cons_succ])
    | (go_at_call 26; refine Calls.mono (HRF.out _ (HB1.out.trans (BV2.out.mono HB1.out.size))) ?_; rintro e X3 ⟨rfl, q⟩; have BX3 : Hid (Below w1.heap.size w1 X3) := BV2.out.trans (q.mono BV2.out.size); have RX6 : Hid (Row X3 p6 (vB dd) 29) := Row.below Rp6.out q Rp6.out.lt; clear q)
    | (refine wpList_store_mid rfl 29 (.tmp 8) (.tmp 22) rfl X3.heap.size 0 (vB dd).toArray rfl rfl ((Row.new' (w := X3) (cs := vB (List.replicate 32 0#8)) rfl rfl).there 0 _ (by rw [HSD.out]; exact Nat.le_refl _)) (by rw [HSD.out]; exact info_dig) (all_oneCell_toArray (vB_one _)) ?_; simp only [Act.put]))
  obtain ⟨p8, hp8⟩ : ∃ b, b = X3.heap.size := ⟨_, rfl⟩
  obtain ⟨V3, hV3⟩ : ∃ Y, Y = (X3.alloc (Obj.cells #[.int .u8 0, .int .u8 0, .int .u8 0, .int .u8 0, .int .u8 0, .int .u8 0, .int .u8 0, .int .u8 0, .int .u8 0, .int .u8 0, .int .u8 0, .int .u8 0, .int .u8 0, .int .u8 0, .int .u8 0, .int .u8 0, .int .u8 0, .int .u8 0, .int .u8 0, .int .u8 0, .int .u8 0, .int .u8 0, .int .u8 0, .int .u8 0, .int .u8 0, .int .u8 0, .int .u8 0, .int .u8 0, .int .u8 0, .int .u8 0, .int .u8 0, .int .u8 0] 29)).setCells X3.heap.size 0 (vB dd) := ⟨_, rfl⟩
  have kV3 : Below X3.heap.size X3 V3 := by rw [hV3]; exact below_setCells ((Below.refl _ _).alloc (Nat.le_refl _) _) (Nat.le_refl _) _
  have Rp8 : Hid (Row V3 p8 (vB dd) 29) := by rw [hV3, hp8]; exact (Row.new' (w := X3) (cs := vB (List.replicate 32 0#8)) rfl rfl).over (by rw [show (vB dd).length = 32 from HSD.out]; rfl)
  have BV3 : Hid (Below w1.heap.size w1 V3) := BX3.out.trans (kV3.mono BX3.out.size)
  have RV6 : Hid (Row V3 p6 (vB dd) 29) := Row.below RX6.out kV3 RX6.out.lt
  rw [← hV3, ← hp8]
  clear hV3 hp8 kV3 BV2 BX3 RX6 Rp6
  go_upto_region 5 with (first
    | (refine wpList_load_w rfl 29 (.tmp 2) rfl b0 0 rfl (vB u) _ (HU.out _ BV3.out).all Tryd.underlying29 rfl HIU.out ?_; simp only [Act.put, List.setIfInBounds_toArray, List.set_cons_zero, List.set_cons_succ])
    | (refine wpList_load_w rfl 29 (.tmp 3) rfl b1 0 rfl (vB v) _ (HV.out _ BV3.out).all Tryd.underlying29 rfl HIV.out ?_; simp only [Act.put, List.setIfInBounds_toArray, List.set_cons_zero, List.set_cons_succ])
    | (refine wpList_plain rfl fun _ hK => wp_buildB rfl HUL.out HVL.out rfl rfl (hK _ _ ?_); simp only [Act.put, List.setIfInBounds_toArray, List.set_cons_zero, List.set_cons_succ])
    | (refine wpList_plain rfl fun _ hK => wp_build_b1 (.tmp 26) rfl (u ++ v) (by rw [List.length_append, HUL.out, HVL.out]) rfl (hK _ _ ?_); have BX4 : Hid (Below V3.heap.size V3 (V3.alloc (Obj.cells (vB (u ++ v)).toArray 59))) := (Below.refl _ _).alloc (Nat.le_refl _) _; have RX4 : Hid (Row (V3.alloc (Obj.cells (vB (u ++ v)).toArray 59)) V3.heap.size (vB (u ++ v)) 59) := Row.new' rfl rfl; simp only [Act.put, List.setIfInBounds_toArray, List.set_cons_zero, List.set_cons_succ])
    | (go_at_call 27; refine Calls.mono (HMD.out _ _ (HB1.out.trans ((BV3.out.trans (BX4.out.mono BV3.out.size)).mono HB1.out.size)) RX4.out) ?_; rintro e Z2 ⟨rfl, q1, q⟩; have BZ : Hid (Below V3.heap.size V3 Z2) := BX4.out.trans (q.mono BX4.out.size); have MZ : Hid (MapAt Z2 _ T) := q1; clear q q1))
  obtain ⟨b, hb⟩ : ∃ b, b = V3.heap.size + 1 := ⟨_, rfl⟩
  have MB : Hid (MapAt Z2 b T) := by
    have e : (V3.alloc (Obj.cells (vB (u ++ v)).toArray 59)).heap.size = V3.heap.size + 1 := by simp
    have := MZ.out
    rwa [e, ← hb] at this
  rw [← hb]
  clear hb MZ
  go_upto_region 7 with fail
  have r6 := Row.below RV6.out BZ.out RV6.out.lt
  have r8 := Row.below Rp8.out BZ.out Rp8.out.lt
  have hM := MB.out
  have hb1 := Below.refl Z2.heap.size Z2
  have HBW : Hid (Below w.heap.size w Z2) := HB1.out.trans ((BV3.out.trans (BZ.out.mono BV3.out.size)).mono HB1.out.size)
  clear RV6 Rp8 MB BZ BV3 HB1 HKN HLF HRF HMD HU HV RX4 BX4
  refine wp_named fun a0 ha0 => ?_
  have hsz : a0.tmps.size = 48 := by rw [ha0]; rfl
  have zs5 : a0.eval (.tmp 5) = .bool true := by rw [ha0]; rfl
  have zs6 : a0.eval (.tmp 6) = .pointer (some ⟨p6, 0, none⟩) := by rw [ha0]; rfl
  have zs7 : a0.eval (.tmp 7) = .int .i64 E := by rw [ha0]; rfl
  have zs8 : a0.eval (.tmp 8) = .pointer (some ⟨p8, 0, none⟩) := by rw [ha0]; rfl
  have zs9 : a0.eval (.tmp 9) = .int .i64 E := by rw [ha0]; rfl
  have zs10 : a0.eval (.tmp 10) = .pointer (some ⟨b, 0, none⟩) := by rw [ha0]; rfl
  obtain ⟨D, hD⟩ : ∃ D : List (Tmp × SP), D = [(31, SP.is (.bool true)), (32, SP.is (.bool true)), (33, SP.is (.agg (vB dd).toArray)), (34, SP.is (.agg (vB dd).toArray)), (35, SP.is (.bool true)), (36, SP.is (.bool true)), (37, SP.is (.bool true)), (38, SP.is (.int .i64 E)), (39, SP.is (.int .i64 E)), (40, SP.is (.bool true)), (41, SP.is (.bool true)), (42, SP.is (.bool true)), (43, SP.is (.pointer (some ⟨b, 0, none⟩))), (44, SP.is (.agg (vB dd).toArray)), (45, SP.is (.agg (vB dd).toArray)), (46, SP.is (.bool true)), (47, SP.is (.bool true)), (4, SP.is (.bool true))] := ⟨_, rfl⟩
  refine wp_region_down (by kernel_rfl) (fun listed ac W => listed.size = 18 ∧ Fp D a0 listed ac W ∧ Below Z2.heap.size Z2 W ∧ Row W p6 ((vB dd)) 29 ∧ Row W p8 ((vB dd)) 29 ∧ MapAt W b T) ?_ ?_ ?_
  · exact ⟨by simp, Fp.start D a0 _ _, Below.drew hb1, Row.drew r6, Row.drew r8, hM.below (Below.drew (Below.refl _ _))⟩
  · clear ha0 hb1 r6 r8 hM 
    intro listed ac W k hI hdn hk
    obtain ⟨hl, hF, hb1, r6, r8, hM⟩ := hI
    have hk1 : k < 18 := List.mem_range.1 (List.mem_filter.1 hk).1
    have hl2 : ∀ j, (listed.setIfInBounds j true).size = 18 := fun j => by rw [Array.size_setIfInBounds]; exact hl
    rcases (show k = 0 ∨ k = 1 ∨ k = 2 ∨ k = 3 ∨ k = 4 ∨ k = 5 ∨ k = 6 ∨ k = 7 ∨ k = 8 ∨ k = 9 ∨ k = 10 ∨ k = 11 ∨ k = 12 ∨ k = 13 ∨ k = 14 ∨ k = 15 ∨ k = 16 ∨ k = 17 by omega) with rfl | rfl | rfl | rfl | rfl | rfl | rfl | rfl | rfl | rfl | rfl | rfl | rfl | rfl | rfl | rfl | rfl | rfl
    · have hk3 := hk
      exact wpOp_plain rfl rfl (wp_move_v (ac.eval (.tmp 5)) rfl rfl ⟨hl2 0, (hF.put 0 31 (SP.is (.bool true)) (ac.eval (.tmp 5)) (by rw [hD]; rfl) (((hF.keep 5 (by rw [hD]; rfl)).trans zs5)) (by rw [hD]; rfl) (by rw [hsz]; decide) (by rw [hl]; decide)), hb1, r6, r8, hM⟩)
    · have hk3 := hk
      exact wpOp_plain rfl rfl (wp_move_v (ac.eval (.tmp 31)) rfl rfl ⟨hl2 1, (hF.put 1 32 (SP.is (.bool true)) (ac.eval (.tmp 31)) (by rw [hD]; rfl) ((hF.done 0 (31, SP.is (.bool true)) (by rw [hD]; rfl) (ready_dep hk 0 (by kernel_rfl)))) (by rw [hD]; rfl) (by rw [hsz]; decide) (by rw [hl]; decide)), hb1, r6, r8, hM⟩)
    · have hk3 := hk
      exact wpOp_wanted rfl (wanted_g (g := 1) (b := true) rfl rfl (hF.done 1 (32, SP.is (.bool true)) (by rw [hD]; rfl) (ready_dep hk 1 (by kernel_rfl))) (by rw [hF.size, hsz]; decide)) (wp_load_mid 29 (.tmp 6) rfl p6 0 ((hF.keep 6 (by rw [hD]; rfl)).trans zs6) ((vB dd)) _ r6.all Tryd.underlying29 rfl HID.out ⟨hl2 2, (hF.put 2 33 (SP.is (.agg (vB dd).toArray)) (.agg (vB dd).toArray) (by rw [hD]; rfl) rfl (by rw [hD]; rfl) (by rw [hsz]; decide) (by rw [hl]; decide)), hb1, r6, r8, hM⟩)
    · have hk3 := hk
      exact wpOp_wanted rfl (wanted_g (g := 1) (b := true) rfl rfl (hF.done 1 (32, SP.is (.bool true)) (by rw [hD]; rfl) (ready_dep hk 1 (by kernel_rfl))) (by rw [hF.size, hsz]; decide)) (wp_load_mid 29 (.tmp 8) rfl p8 0 ((hF.keep 8 (by rw [hD]; rfl)).trans zs8) ((vB dd)) _ r8.all Tryd.underlying29 rfl HID.out ⟨hl2 3, (hF.put 3 34 (SP.is (.agg (vB dd).toArray)) (.agg (vB dd).toArray) (by rw [hD]; rfl) rfl (by rw [hD]; rfl) (by rw [hsz]; decide) (by rw [hl]; decide)), hb1, r6, r8, hM⟩)
    · have hk3 := hk
      have e1 := (hF.done 2 (33, SP.is (.agg (vB dd).toArray)) (by rw [hD]; rfl) (ready_dep hk 2 (by kernel_rfl)))
      have e2 := (hF.done 3 (34, SP.is (.agg (vB dd).toArray)) (by rw [hD]; rfl) (ready_dep hk 3 (by kernel_rfl)))
      exact wpOp_wanted rfl (wanted_g (g := 1) (b := true) rfl rfl (hF.done 1 (32, SP.is (.bool true)) (by rw [hD]; rfl) (ready_dep hk 1 (by kernel_rfl))) (by rw [hF.size, hsz]; decide)) (wp_eqlS (.tmp 33) (.tmp 34) _ rfl dd dd HDL.out HDL.out e1 e2 true (decide_eq_true rfl) ⟨hl2 4, (hF.put 4 35 (SP.is (.bool true)) (.bool true) (by rw [hD]; rfl) rfl (by rw [hD]; rfl) (by rw [hsz]; decide) (by rw [hl]; decide)), hb1, r6, r8, hM⟩)
    · have hk3 := hk
      have e1 := (hF.done 1 (32, SP.is (.bool true)) (by rw [hD]; rfl) (ready_dep hk 1 (by kernel_rfl)))
      have e2 := (hF.done 4 (35, SP.is (.bool true)) (by rw [hD]; rfl) (ready_dep hk 4 (by kernel_rfl)))
      exact wpOp_plain rfl rfl (wp_pick_v (.bool true) rfl e1 e2 ⟨hl2 5, (hF.put 5 36 (SP.is (.bool true)) (.bool true) (by rw [hD]; rfl) rfl (by rw [hD]; rfl) (by rw [hsz]; decide) (by rw [hl]; decide)), hb1, r6, r8, hM⟩)
    · have hk3 := hk
      exact wpOp_plain rfl rfl (wp_move_v (ac.eval (.tmp 36)) rfl rfl ⟨hl2 6, (hF.put 6 37 (SP.is (.bool true)) (ac.eval (.tmp 36)) (by rw [hD]; rfl) ((hF.done 5 (36, SP.is (.bool true)) (by rw [hD]; rfl) (ready_dep hk 5 (by kernel_rfl)))) (by rw [hD]; rfl) (by rw [hsz]; decide) (by rw [hl]; decide)), hb1, r6, r8, hM⟩)
    · have hk3 := hk
      exact wpOp_wanted rfl (wanted_g (g := 6) (b := true) rfl rfl (hF.done 6 (37, SP.is (.bool true)) (by rw [hD]; rfl) (ready_dep hk 6 (by kernel_rfl))) (by rw [hF.size, hsz]; decide)) (wp_move_v (ac.eval (.tmp 7)) rfl rfl ⟨hl2 7, (hF.put 7 38 (SP.is (.int .i64 E)) (ac.eval (.tmp 7)) (by rw [hD]; rfl) (((hF.keep 7 (by rw [hD]; rfl)).trans zs7)) (by rw [hD]; rfl) (by rw [hsz]; decide) (by rw [hl]; decide)), hb1, r6, r8, hM⟩)
    · have hk3 := hk
      exact wpOp_wanted rfl (wanted_g (g := 6) (b := true) rfl rfl (hF.done 6 (37, SP.is (.bool true)) (by rw [hD]; rfl) (ready_dep hk 6 (by kernel_rfl))) (by rw [hF.size, hsz]; decide)) (wp_move_v (ac.eval (.tmp 9)) rfl rfl ⟨hl2 8, (hF.put 8 39 (SP.is (.int .i64 E)) (ac.eval (.tmp 9)) (by rw [hD]; rfl) (((hF.keep 9 (by rw [hD]; rfl)).trans zs9)) (by rw [hD]; rfl) (by rw [hsz]; decide) (by rw [hl]; decide)), hb1, r6, r8, hM⟩)
    · have hk3 := hk
      have e1 := (hF.done 7 (38, SP.is (.int .i64 E)) (by rw [hD]; rfl) (ready_dep hk 7 (by kernel_rfl)))
      have e2 := (hF.done 8 (39, SP.is (.int .i64 E)) (by rw [hD]; rfl) (ready_dep hk 8 (by kernel_rfl)))
      exact wpOp_wanted rfl (wanted_g (g := 6) (b := true) rfl rfl (hF.done 6 (37, SP.is (.bool true)) (by rw [hD]; rfl) (ready_dep hk 6 (by kernel_rfl))) (by rw [hF.size, hsz]; decide)) (wp_eqint_v rfl e1 e2 (by simp) ⟨hl2 9, (hF.put 9 40 (SP.is (.bool true)) (.bool true) (by rw [hD]; rfl) rfl (by rw [hD]; rfl) (by rw [hsz]; decide) (by rw [hl]; decide)), hb1, r6, r8, hM⟩)
    · have hk3 := hk
      have e1 := (hF.done 6 (37, SP.is (.bool true)) (by rw [hD]; rfl) (ready_dep hk 6 (by kernel_rfl)))
      have e2 := (hF.done 9 (40, SP.is (.bool true)) (by rw [hD]; rfl) (ready_dep hk 9 (by kernel_rfl)))
      exact wpOp_plain rfl rfl (wp_pick_v (.bool true) rfl e1 e2 ⟨hl2 10, (hF.put 10 41 (SP.is (.bool true)) (.bool true) (by rw [hD]; rfl) rfl (by rw [hD]; rfl) (by rw [hsz]; decide) (by rw [hl]; decide)), hb1, r6, r8, hM⟩)
    · have hk3 := hk
      exact wpOp_plain rfl rfl (wp_move_v (ac.eval (.tmp 41)) rfl rfl ⟨hl2 11, (hF.put 11 42 (SP.is (.bool true)) (ac.eval (.tmp 41)) (by rw [hD]; rfl) ((hF.done 10 (41, SP.is (.bool true)) (by rw [hD]; rfl) (ready_dep hk 10 (by kernel_rfl)))) (by rw [hD]; rfl) (by rw [hsz]; decide) (by rw [hl]; decide)), hb1, r6, r8, hM⟩)
    · have hk3 := hk
      exact wpOp_wanted rfl (wanted_g (g := 11) (b := true) rfl rfl (hF.done 11 (42, SP.is (.bool true)) (by rw [hD]; rfl) (ready_dep hk 11 (by kernel_rfl))) (by rw [hF.size, hsz]; decide)) (wp_move_v (ac.eval (.tmp 10)) rfl rfl ⟨hl2 12, (hF.put 12 43 (SP.is (.pointer (some ⟨b, 0, none⟩))) (ac.eval (.tmp 10)) (by rw [hD]; rfl) (((hF.keep 10 (by rw [hD]; rfl)).trans zs10)) (by rw [hD]; rfl) (by rw [hsz]; decide) (by rw [hl]; decide)), hb1, r6, r8, hM⟩)
    · have hk3 := hk
      have ea := (hF.done 12 (43, SP.is (.pointer (some ⟨b, 0, none⟩))) (by rw [hD]; rfl) (ready_dep hk 12 (by kernel_rfl)))
      refine wpOp_wanted rfl (wanted_g (g := 11) (b := true) rfl rfl (hF.done 11 (42, SP.is (.bool true)) (by rw [hD]; rfl) (ready_dep hk 11 (by kernel_rfl))) (by rw [hF.size, hsz]; decide)) (wp_fcall_v 17 #[pt b] rfl rfl (by show [ac.eval (.tmp 43)] = _; rw [show ac.eval (.tmp 43) = _ from ea]) (by go_simp) ((root_d T b W hM dd HTD.out).mono ?_))
      rintro e W2 ⟨rfl, hB⟩
      exact ⟨_, rfl, hl2 13, ((hF.world hB).put 13 44 (SP.is (.agg (vB dd).toArray)) (.agg (vB dd).toArray) (by rw [hD]; rfl) rfl (by rw [hD]; rfl) (by rw [hsz]; decide) (by rw [hl]; decide)), hb1.trans (hB.mono hb1.size), Row.below r6 hB (Row.lt r6), Row.below r8 hB (Row.lt r8), hM.below hB⟩
    · have hk3 := hk
      exact wpOp_wanted rfl (wanted_g (g := 11) (b := true) rfl rfl (hF.done 11 (42, SP.is (.bool true)) (by rw [hD]; rfl) (ready_dep hk 11 (by kernel_rfl))) (by rw [hF.size, hsz]; decide)) (wp_load_mid 29 (.tmp 6) rfl p6 0 ((hF.keep 6 (by rw [hD]; rfl)).trans zs6) ((vB dd)) _ r6.all Tryd.underlying29 rfl HID.out ⟨hl2 14, (hF.put 14 45 (SP.is (.agg (vB dd).toArray)) (.agg (vB dd).toArray) (by rw [hD]; rfl) rfl (by rw [hD]; rfl) (by rw [hsz]; decide) (by rw [hl]; decide)), hb1, r6, r8, hM⟩)
    · have hk3 := hk
      have e1 := (hF.done 13 (44, SP.is (.agg (vB dd).toArray)) (by rw [hD]; rfl) (ready_dep hk 13 (by kernel_rfl)))
      have e2 := (hF.done 14 (45, SP.is (.agg (vB dd).toArray)) (by rw [hD]; rfl) (ready_dep hk 14 (by kernel_rfl)))
      exact wpOp_wanted rfl (wanted_g (g := 11) (b := true) rfl rfl (hF.done 11 (42, SP.is (.bool true)) (by rw [hD]; rfl) (ready_dep hk 11 (by kernel_rfl))) (by rw [hF.size, hsz]; decide)) (wp_eqlS (.tmp 44) (.tmp 45) _ rfl dd dd HDL.out HDL.out e1 e2 true (decide_eq_true rfl) ⟨hl2 15, (hF.put 15 46 (SP.is (.bool true)) (.bool true) (by rw [hD]; rfl) rfl (by rw [hD]; rfl) (by rw [hsz]; decide) (by rw [hl]; decide)), hb1, r6, r8, hM⟩)
    · have hk3 := hk
      have e1 := (hF.done 11 (42, SP.is (.bool true)) (by rw [hD]; rfl) (ready_dep hk 11 (by kernel_rfl)))
      have e2 := (hF.done 15 (46, SP.is (.bool true)) (by rw [hD]; rfl) (ready_dep hk 15 (by kernel_rfl)))
      exact wpOp_plain rfl rfl (wp_pick_v (.bool true) rfl e1 e2 ⟨hl2 16, (hF.put 16 47 (SP.is (.bool true)) (.bool true) (by rw [hD]; rfl) rfl (by rw [hD]; rfl) (by rw [hsz]; decide) (by rw [hl]; decide)), hb1, r6, r8, hM⟩)
    · have hk3 := hk
      exact wpOp_plain rfl rfl (wp_assign_v (ac.eval (.tmp 47)) rfl rfl ⟨hl2 17, (hF.put 17 4 (SP.is (.bool true)) (ac.eval (.tmp 47)) (by rw [hD]; rfl) ((hF.done 16 (47, SP.is (.bool true)) (by rw [hD]; rfl) (ready_dep hk 16 (by kernel_rfl)))) (by rw [hD]; rfl) (by rw [hsz]; decide) (by rw [hl]; decide)), hb1, r6, r8, hM⟩)
  · clear hb1 r6 r8 hM 
    intro listed ac W hI hr
    obtain ⟨hl, hF, hb1, r6, r8, hM⟩ := hI
    have hall := all_listed (by kernel_rfl) hl hr
    have h31 : ac.eval (.tmp 31) = .bool true := hF.done 0 (31, SP.is (.bool true)) (by rw [hD]; rfl) (hall 0 (by decide))
    have h32 : ac.eval (.tmp 32) = .bool true := hF.done 1 (32, SP.is (.bool true)) (by rw [hD]; rfl) (hall 1 (by decide))
    have h33 : ac.eval (.tmp 33) = .agg (vB dd).toArray := hF.done 2 (33, SP.is (.agg (vB dd).toArray)) (by rw [hD]; rfl) (hall 2 (by decide))
    have h34 : ac.eval (.tmp 34) = .agg (vB dd).toArray := hF.done 3 (34, SP.is (.agg (vB dd).toArray)) (by rw [hD]; rfl) (hall 3 (by decide))
    have h35 : ac.eval (.tmp 35) = .bool true := hF.done 4 (35, SP.is (.bool true)) (by rw [hD]; rfl) (hall 4 (by decide))
    have h36 : ac.eval (.tmp 36) = .bool true := hF.done 5 (36, SP.is (.bool true)) (by rw [hD]; rfl) (hall 5 (by decide))
    have h37 : ac.eval (.tmp 37) = .bool true := hF.done 6 (37, SP.is (.bool true)) (by rw [hD]; rfl) (hall 6 (by decide))
    have h38 : ac.eval (.tmp 38) = .int .i64 E := hF.done 7 (38, SP.is (.int .i64 E)) (by rw [hD]; rfl) (hall 7 (by decide))
    have h39 : ac.eval (.tmp 39) = .int .i64 E := hF.done 8 (39, SP.is (.int .i64 E)) (by rw [hD]; rfl) (hall 8 (by decide))
    have h40 : ac.eval (.tmp 40) = .bool true := hF.done 9 (40, SP.is (.bool true)) (by rw [hD]; rfl) (hall 9 (by decide))
    have h41 : ac.eval (.tmp 41) = .bool true := hF.done 10 (41, SP.is (.bool true)) (by rw [hD]; rfl) (hall 10 (by decide))
    have h42 : ac.eval (.tmp 42) = .bool true := hF.done 11 (42, SP.is (.bool true)) (by rw [hD]; rfl) (hall 11 (by decide))
    have h43 : ac.eval (.tmp 43) = .pointer (some ⟨b, 0, none⟩) := hF.done 12 (43, SP.is (.pointer (some ⟨b, 0, none⟩))) (by rw [hD]; rfl) (hall 12 (by decide))
    have h44 : ac.eval (.tmp 44) = .agg (vB dd).toArray := hF.done 13 (44, SP.is (.agg (vB dd).toArray)) (by rw [hD]; rfl) (hall 13 (by decide))
    have h45 : ac.eval (.tmp 45) = .agg (vB dd).toArray := hF.done 14 (45, SP.is (.agg (vB dd).toArray)) (by rw [hD]; rfl) (hall 14 (by decide))
    have h46 : ac.eval (.tmp 46) = .bool true := hF.done 15 (46, SP.is (.bool true)) (by rw [hD]; rfl) (hall 15 (by decide))
    have h47 : ac.eval (.tmp 47) = .bool true := hF.done 16 (47, SP.is (.bool true)) (by rw [hD]; rfl) (hall 16 (by decide))
    have h4 : ac.eval (.tmp 4) = .bool true := hF.done 17 (4, SP.is (.bool true)) (by rw [hD]; rfl) (hall 17 (by decide))
    have ea := hF.lay [(31, .bool true), (32, .bool true), (33, .agg (vB dd).toArray), (34, .agg (vB dd).toArray), (35, .bool true), (36, .bool true), (37, .bool true), (38, .int .i64 E), (39, .int .i64 E), (40, .bool true), (41, .bool true), (42, .bool true), (43, .pointer (some ⟨b, 0, none⟩)), (44, .agg (vB dd).toArray), (45, .agg (vB dd).toArray), (46, .bool true), (47, .bool true), (4, .bool true)] (by rw [hD, hsz]; rfl) (by simp only [List.forall_mem_cons, List.not_mem_nil, false_implies, implies_true, and_true]; exact ⟨h31, h32, h33, h34, h35, h36, h37, h38, h39, h40, h41, h42, h43, h44, h45, h46, h47, h4⟩)
    rw [ha0] at ea
    simp only [List.foldl_cons, List.foldl_nil, List.setIfInBounds_toArray, List.set_cons_zero, List.set_cons_succ] at ea
    clear hF hall hr hl hD  zs5 zs6 zs7 zs8 zs9 zs10 ha0 hsz h31 h32 h33 h34 h35 h36 h37 h38 h39 h40 h41 h42 h43 h44 h45 h46 h47 h4
    subst ea
    go_wp2_with fail
    go_ret
    exact ⟨rfl, HBW.out.trans (hb1.mono HBW.out.size)⟩

end Go.Proofs.YtfdgdmehgbmnkaaDoor
