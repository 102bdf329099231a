/-
  Lists of digests in memory; cutLast.
-/
import Derived.Test.YtbfahgdienppoaaGreatDoorTLs

namespace Go.Proofs.YtbfahgdienppoaaGreatDoor
open Go Go.RowKit
open Sha

set_option maxRecDepth 100000 in
set_option maxHeartbeats 1000000 in
theorem root_nil (A : Option Addr) (cap : Nat) (dd : List (BitVec 8)) (hd : dd = dig []) (w : World) (hK : Tab w 2) :
    Calls Tryz.prog 41 #[.slice A 0 cap] w fun e w' => e = .returned (.agg (vB dd).toArray) ∧ Below w.heap.size w w' := by
  have HD : Hid (dd = dig []) := hd
  have HDL : Hid (dd.length = 32) := by rw [hd]; exact dig_length _
  have hi5 : (Tryz.prog.info? 53).map (·.size) = some (vB dd).toArray.size := by rw [info_dig]; simp [vB_length, HDL.out]
  clear hd
  go_enter Tryz.func41, Tryz.ntmps41
  go_wp2_with (first
    | (go_at_call 65; refine (sum_any [] dd HD.out (by decide) _ _ (hK.below ((Below.refl _ _).alloc (Nat.le_refl _) _) hK.lt) (.inl ⟨rfl, _, _, rfl⟩)).mono ?_; rintro e w2 ⟨rfl, hB2⟩)
    | (refine wpList_store_mid rfl 53 (.tmp 2) (.tmp 8) rfl w.heap.size 0 (vB dd).toArray rfl rfl (Row.there (Row.below (Row.new' (cs := vB (List.replicate 32 0#8)) rfl rfl) hB2 (by simp)) 0 _ (by simp [vB_length, HDL.out])) hi5 (all_oneCell_toArray (vB_one dd)) ?_))
  have q0 : Row w2 w.heap.size (vB (List.replicate 32 0#8)) 53 := Row.below (Row.new' rfl rfl) hB2 (by simp)
  have nf := q0.over (vs := vB dd) (by rw [vB_length, HDL.out]; rfl)
  have nB := below_setCells (((Below.refl _ _).alloc (Nat.le_refl _) _).trans (hB2.mono (by simp))) (b := w.heap.size) (o := 0) (Nat.le_refl _) (vB dd)
  exact bodyPost_ret (results_row Tryz.results41 _ _ w.heap.size 53 (vB dd) rfl nf Tryz.underlying53 info_dig (by rw [vB_length, HDL.out])) rfl ⟨rfl, nB⟩

set_option maxRecDepth 100000 in
set_option maxHeartbeats 1000000 in
theorem root_one (d dd : List (BitVec 8)) (hd : dd = dig ([0#8] ++ d)) (hlen : d.length < 1152921504606846975) (b o cap : Nat) (v : Value) (w : World) (hK : Tab w 2) (hc : w.cell? ⟨b, o, none⟩ = some v) (hv : SlAtT w v d) :
    Calls Tryz.prog 41 #[.slice (some ⟨b, o, none⟩) 1 cap] w fun e w' => e = .returned (.agg (vB dd).toArray) ∧ Below w.heap.size w w' := by
  have HD : Hid (dd = dig ([0#8] ++ d)) := hd
  have HDL : Hid (dd.length = 32) := by rw [hd]; exact dig_length _
  have hi5 : (Tryz.prog.info? 53).map (·.size) = some (vB dd).toArray.size := by rw [info_dig]; simp [vB_length, HDL.out]
  have gk : (w.alloc (Obj.cells #[.int .u8 0, .int .u8 0, .int .u8 0, .int .u8 0, .int .u8 0, .int .u8 0, .int .u8 0, .int .u8 0, .int .u8 0, .int .u8 0, .int .u8 0, .int .u8 0, .int .u8 0, .int .u8 0, .int .u8 0, .int .u8 0, .int .u8 0, .int .u8 0, .int .u8 0, .int .u8 0, .int .u8 0, .int .u8 0, .int .u8 0, .int .u8 0, .int .u8 0, .int .u8 0, .int .u8 0, .int .u8 0, .int .u8 0, .int .u8 0, .int .u8 0, .int .u8 0] 53)).cell? ⟨b, o, none⟩ = some v := (Below.cell ((Below.refl w.heap.size w).alloc (Nat.le_refl _) _) (p := ⟨b, o, none⟩) (World.block_lt_of_cell? w _ hc)).trans hc
  have HV : Hid (SlAtT w v d) := hv
  clear hd hv hc
  go_enter Tryz.func41, Tryz.ntmps41
  go_wp2_with (first
    | (go_at_call 46; refine (leaf_any d dd HD.out hlen v _ (hK.below ((Below.refl _ _).alloc (Nat.le_refl _) _) hK.lt) (HV.out.below ((Below.refl _ _).alloc (Nat.le_refl _) _) (Nat.le_refl _))).mono ?_; rintro e w2 ⟨rfl, hB2⟩)
    | (refine wpList_store_mid rfl 53 (.tmp 2) (.tmp 14) rfl w.heap.size 0 (vB dd).toArray rfl rfl (Row.there (Row.below (Row.new' (cs := vB (List.replicate 32 0#8)) rfl rfl) hB2 (by simp)) 0 _ (by simp [vB_length, HDL.out])) hi5 (all_oneCell_toArray (vB_one dd)) ?_))
  have q0 : Row w2 w.heap.size (vB (List.replicate 32 0#8)) 53 := Row.below (Row.new' rfl rfl) hB2 (by simp)
  have nf := q0.over (vs := vB dd) (by rw [vB_length, HDL.out]; rfl)
  have nB := below_setCells (((Below.refl _ _).alloc (Nat.le_refl _) _).trans (hB2.mono (by simp))) (b := w.heap.size) (o := 0) (Nat.le_refl _) (vB dd)
  exact bodyPost_ret (results_row Tryz.results41 _ _ w.heap.size 53 (vB dd) rfl nf Tryz.underlying53 info_dig (by rw [vB_length, HDL.out])) rfl ⟨rfl, nB⟩

set_option maxRecDepth 100000 in
set_option maxHeartbeats 4000000 in
theorem root_step (n k : Nat) (h2 : 2 ≤ n) (hn : n < 4611686018427387904) (hk : fpart n = k) (l r dd : List (BitVec 8)) (hl0 : l.length = 32) (hr0 : r.length = 32) (hd : dd = dig ([1#8] ++ (l ++ r))) (b o cap : Nat) (hc : n ≤ cap) (w : World) (hK : Tab w 2)
    (hL : ∀ W, Below w.heap.size w W → Calls Tryz.prog 41 #[.slice (some ⟨b, o, none⟩) k cap] W fun e w' => e = .returned (.agg (vB l).toArray) ∧ Below W.heap.size W w')
    (hR : ∀ W, Below w.heap.size w W → Calls Tryz.prog 41 #[.slice (some ⟨b, o + k, none⟩) (n - k) (cap - k)] W fun e w' => e = .returned (.agg (vB r).toArray) ∧ Below W.heap.size W w') :
    Calls Tryz.prog 41 #[.slice (some ⟨b, o, none⟩) n cap] w fun e w' => e = .returned (.agg (vB dd).toArray) ∧ Below w.heap.size w w' := by
  have HD : Hid (dd = dig ([1#8] ++ (l ++ r))) := hd
  have HDL : Hid (dd.length = 32) := by rw [hd]; exact dig_length _
  have HI5 : Hid ((Tryz.prog.info? 53).map (·.size) = some (vB dd).toArray.size) := by show _ = _; rw [info_dig]; simp [vB_length, HDL.out]
  have HL : Hid (∀ W, _ → _) := hL
  have HR : Hid (∀ W, _ → _) := hR
  have HL0 : Hid (l.length = 32) := hl0
  have HR0 : Hid (r.length = 32) := hr0
  have HKL : Hid (∀ W, Below w.heap.size w W → Tab W 2) := fun W hB => hK.below hB hK.lt
  have HKN : Hid (k < n) := by show _ < _; rw [← hk]; exact (fpart_bounds n h2 hn).1
  have HC : Hid (n ≤ cap) := hc
  have HF : Hid (∀ w, _) := fun w => first_any n h2 hn w
  rw [hk] at HF
  have n0 : ¬ (n : Int) = 0 := by omega
  have n1 : ¬ (n : Int) = 1 := by omega
  clear hd hl0 hr0 hL hR hK hk h2 hn hc
  have hb1 : Below w.heap.size w (w.alloc (Obj.cells (vB (List.replicate 32 0#8)).toArray 53)) := (Below.refl _ _).alloc (Nat.le_refl _) _
  have r0 : Row (w.alloc (Obj.cells (vB (List.replicate 32 0#8)).toArray 53)) w.heap.size (vB (List.replicate 32 0#8)) 53 := Row.new' rfl rfl
  go_enter Tryz.func41, Tryz.ntmps41
  go_wp2_with (go_at_call 66; refine (HF.out _).mono ?_; rintro e w2 ⟨rfl, rfl⟩)
  refine wp_named fun a0 ha0 => ?_
  have hsz : a0.tmps.size = 27 := by rw [ha0]; rfl
  have s0 : a0.eval (.tmp 0) = .slice (some ⟨b, o, none⟩) n cap := by rw [ha0]; rfl
  have s3 : a0.eval (.tmp 3) = .int .i64 (k : Int) := by rw [ha0]; rfl
  have s2 : a0.eval (.tmp 2) = .pointer (some ⟨w.heap.size, 0, none⟩) := by rw [ha0]; rfl
  obtain ⟨D, hD⟩ : ∃ D : List (Tmp × SP), D = [(18, SP.is (.slice (some ⟨b, o, none⟩) n cap)), (19, SP.is (.int .i64 (k : Int))), (20, SP.is (.slice (some ⟨b, o, none⟩) k cap)), (21, SP.is (.agg (vB l).toArray)), (22, SP.is (.slice (some ⟨b, o, none⟩) n cap)), (23, SP.is (.int .i64 (k : Int))), (24, SP.is (.slice (some ⟨b, o + k, none⟩) (n - k) (cap - k))), (25, SP.is (.agg (vB r).toArray)), (26, SP.is (.agg (vB dd).toArray)), (1000, SP.any)] := ⟨_, rfl⟩
  refine wp_region_down (by kernel_rfl) (fun listed ac W => listed.size = 10 ∧ Fp D a0 listed ac W ∧ Below w.heap.size w W ∧ Row W w.heap.size (if listed.getD 9 false = true then (vB dd) else vB (List.replicate 32 0#8)) 53) ?_ ?_ ?_
  · exact ⟨by simp, Fp.start D a0 _ _, Below.drew hb1, (by rw [if_neg (fun h => start_no h)]; exact Row.drew r0)⟩
  · clear ha0 hb1 r0 
    intro listed ac W k hI hdn hk
    obtain ⟨hl, hF, hb1, r0⟩ := hI
    have hk1 : k < 10 := List.mem_range.1 (List.mem_filter.1 hk).1
    have hl2 : ∀ j, (listed.setIfInBounds j true).size = 10 := fun j => by rw [Array.size_setIfInBounds]; exact hl
    rcases (show k = 0 ∨ k = 1 ∨ k = 2 ∨ k = 3 ∨ k = 4 ∨ k = 5 ∨ k = 6 ∨ k = 7 ∨ k = 8 ∨ k = 9 by omega) with rfl | rfl | rfl | rfl | rfl | rfl | rfl | rfl | rfl | rfl
    · have hk3 := hk
      exact wpOp_plain rfl rfl (wp_move_v (ac.eval (.tmp 0)) rfl rfl ⟨hl2 0, (hF.put 0 18 (SP.is (.slice (some ⟨b, o, none⟩) n cap)) (ac.eval (.tmp 0)) (by rw [hD]; rfl) (((hF.keep 0 (by rw [hD]; rfl)).trans s0)) (by rw [hD]; rfl) (by rw [hsz]; decide) (by rw [hl]; decide)), hb1, (by rw [getD_set _ _ _ (by decide)]; exact r0)⟩)
    · have hk3 := hk
      exact wpOp_plain rfl rfl (wp_move_v (ac.eval (.tmp 3)) rfl rfl ⟨hl2 1, (hF.put 1 19 (SP.is (.int .i64 (k : Int))) (ac.eval (.tmp 3)) (by rw [hD]; rfl) (((hF.keep 3 (by rw [hD]; rfl)).trans s3)) (by rw [hD]; rfl) (by rw [hsz]; decide) (by rw [hl]; decide)), hb1, (by rw [getD_set _ _ _ (by decide)]; exact r0)⟩)
    · have hk3 := hk
      have ea := (hF.done 0 (18, SP.is (.slice (some ⟨b, o, none⟩) n cap)) (by rw [hD]; rfl) (ready_dep hk 0 (by kernel_rfl)))
      have eb := (hF.done 1 (19, SP.is (.int .i64 (k : Int))) (by rw [hD]; rfl) (ready_dep hk 1 (by kernel_rfl)))
      exact wpOp_plain rfl rfl (wp_slice_to 58 46 (.tmp 18) (.tmp 19) b o n cap k rfl ea eb (Nat.le_trans (Nat.le_of_lt HKN.out) HC.out) Tryz.underlying58 info_slbT ⟨hl2 2, (hF.put 2 20 (SP.is (.slice (some ⟨b, o, none⟩) k cap)) (.slice (some ⟨b, o, none⟩) k cap) (by rw [hD]; rfl) rfl (by rw [hD]; rfl) (by rw [hsz]; decide) (by rw [hl]; decide)), hb1, (by rw [getD_set _ _ _ (by decide)]; exact r0)⟩)
    · have hk3 := hk
      have ea := (hF.done 2 (20, SP.is (.slice (some ⟨b, o, none⟩) k cap)) (by rw [hD]; rfl) (ready_dep hk 2 (by kernel_rfl)))
      refine wpOp_plain rfl rfl (wp_fcall_v 41 #[.slice (some ⟨b, o, none⟩) k cap] rfl rfl (by show [ac.eval (.tmp 20)] = _; rw [show ac.eval (.tmp 20) = _ from ea]) (by go_simp) ((HL.out W hb1).mono ?_))
      rintro e W2 ⟨rfl, hB⟩
      exact ⟨_, rfl, hl2 3, ((hF.world hB).put 3 21 (SP.is (.agg (vB l).toArray)) (.agg (vB l).toArray) (by rw [hD]; rfl) rfl (by rw [hD]; rfl) (by rw [hsz]; decide) (by rw [hl]; decide)), hb1.trans (hB.mono hb1.size), (by rw [getD_set _ _ _ (by decide)]; exact Row.below r0 hB (Row.lt r0))⟩
    · have hk3 := hk
      exact wpOp_plain rfl rfl (wp_move_v (ac.eval (.tmp 0)) rfl rfl ⟨hl2 4, (hF.put 4 22 (SP.is (.slice (some ⟨b, o, none⟩) n cap)) (ac.eval (.tmp 0)) (by rw [hD]; rfl) (((hF.keep 0 (by rw [hD]; rfl)).trans s0)) (by rw [hD]; rfl) (by rw [hsz]; decide) (by rw [hl]; decide)), hb1, (by rw [getD_set _ _ _ (by decide)]; exact r0)⟩)
    · have hk3 := hk
      exact wpOp_plain rfl rfl (wp_move_v (ac.eval (.tmp 3)) rfl rfl ⟨hl2 5, (hF.put 5 23 (SP.is (.int .i64 (k : Int))) (ac.eval (.tmp 3)) (by rw [hD]; rfl) (((hF.keep 3 (by rw [hD]; rfl)).trans s3)) (by rw [hD]; rfl) (by rw [hsz]; decide) (by rw [hl]; decide)), hb1, (by rw [getD_set _ _ _ (by decide)]; exact r0)⟩)
    · have hk3 := hk
      have ea := (hF.done 4 (22, SP.is (.slice (some ⟨b, o, none⟩) n cap)) (by rw [hD]; rfl) (ready_dep hk 4 (by kernel_rfl)))
      have eb := (hF.done 5 (23, SP.is (.int .i64 (k : Int))) (by rw [hD]; rfl) (ready_dep hk 5 (by kernel_rfl)))
      exact wpOp_plain rfl rfl (wp_slice_on 58 46 (.tmp 22) (.tmp 23) b o n cap k rfl ea eb (Nat.le_of_lt HKN.out) (Nat.lt_of_lt_of_le HKN.out HC.out) Tryz.underlying58 info_slbT ⟨hl2 6, (hF.put 6 24 (SP.is (.slice (some ⟨b, o + k, none⟩) (n - k) (cap - k))) (.slice (some ⟨b, o + k, none⟩) (n - k) (cap - k)) (by rw [hD]; rfl) rfl (by rw [hD]; rfl) (by rw [hsz]; decide) (by rw [hl]; decide)), hb1, (by rw [getD_set _ _ _ (by decide)]; exact r0)⟩)
    · have hk3 := hk
      have ea := (hF.done 6 (24, SP.is (.slice (some ⟨b, o + k, none⟩) (n - k) (cap - k))) (by rw [hD]; rfl) (ready_dep hk 6 (by kernel_rfl)))
      refine wpOp_plain rfl rfl (wp_fcall_v 41 #[.slice (some ⟨b, o + k, none⟩) (n - k) (cap - k)] rfl rfl (by show [ac.eval (.tmp 24)] = _; rw [show ac.eval (.tmp 24) = _ from ea]) (by go_simp) ((HR.out W hb1).mono ?_))
      rintro e W2 ⟨rfl, hB⟩
      exact ⟨_, rfl, hl2 7, ((hF.world hB).put 7 25 (SP.is (.agg (vB r).toArray)) (.agg (vB r).toArray) (by rw [hD]; rfl) rfl (by rw [hD]; rfl) (by rw [hsz]; decide) (by rw [hl]; decide)), hb1.trans (hB.mono hb1.size), (by rw [getD_set _ _ _ (by decide)]; exact Row.below r0 hB (Row.lt r0))⟩
    · have hk3 := hk
      have ea := (hF.done 3 (21, SP.is (.agg (vB l).toArray)) (by rw [hD]; rfl) (ready_dep hk 3 (by kernel_rfl)))
      have eb := (hF.done 7 (25, SP.is (.agg (vB r).toArray)) (by rw [hD]; rfl) (ready_dep hk 7 (by kernel_rfl)))
      refine wpOp_plain rfl rfl (wp_fcall_v 48 #[.agg (vB l).toArray, .agg (vB r).toArray] rfl rfl (by show [ac.eval (.tmp 21), ac.eval (.tmp 25)] = _; rw [show ac.eval (.tmp 21) = _ from ea, show ac.eval (.tmp 25) = _ from eb]) (by go_simp) ((node_any l r dd HL0.out HR0.out HD.out W (HKL.out W hb1)).mono ?_))
      rintro e W2 ⟨rfl, hB⟩
      exact ⟨_, rfl, hl2 8, ((hF.world hB).put 8 26 (SP.is (.agg (vB dd).toArray)) (.agg (vB dd).toArray) (by rw [hD]; rfl) rfl (by rw [hD]; rfl) (by rw [hsz]; decide) (by rw [hl]; decide)), hb1.trans (hB.mono hb1.size), (by rw [getD_set _ _ _ (by decide)]; exact Row.below r0 hB (Row.lt r0))⟩
    · have hk3 := hk
      have hno : ¬ listed.getD 9 false = true := not_yet hk
      rw [if_neg hno] at r0
      have T := r0.there 0 (vB dd).toArray.size (by simp [vB_length, HDL.out])
      have fin := r0.over (vs := (vB dd)) (by rw [vB_length, HDL.out]; rfl)
      have hT : Fp D a0 listed ac (W.setCells w.heap.size 0 (vB dd)) := hF.turn (by rw [hD]; simp only [List.forall_mem_cons, List.not_mem_nil, false_implies, implies_true, and_true]; exact ⟨fun _ h => h, fun _ h => h, fun _ h => h, fun _ h => h, fun _ h => h, fun _ h => h, fun _ h => h, fun _ h => h, fun _ h => h, fun _ h => h⟩)
      exact wpOp_plain rfl rfl (wp_store_mid 53 (.tmp 2) (.tmp 26) rfl w.heap.size 0 (vB dd).toArray ((hF.keep 2 (by rw [hD]; rfl)).trans s2) (hF.done 8 (26, SP.is (.agg (vB dd).toArray)) (by rw [hD]; rfl) (ready_dep hk 8 (by kernel_rfl))) T HI5.out (all_oneCell_toArray (vB_one dd)) ⟨hl2 9, (hT.skip 9 1000 (by rw [hD]; rfl) (by rw [hl]; decide)), below_setCells hb1 (by omega) _, (by rw [if_pos (getD_same (by rw [hl]; decide))]; exact fin)⟩)
  · clear hb1 r0 
    intro listed ac W hI hr
    obtain ⟨hl, hF, hb1, r0⟩ := hI
    have hall := all_listed (by kernel_rfl) hl hr
    rw [if_pos (hall 9 (by decide))] at r0
    have h18 : ac.eval (.tmp 18) = .slice (some ⟨b, o, none⟩) n cap := hF.done 0 (18, SP.is (.slice (some ⟨b, o, none⟩) n cap)) (by rw [hD]; rfl) (hall 0 (by decide))
    have h19 : ac.eval (.tmp 19) = .int .i64 (k : Int) := hF.done 1 (19, SP.is (.int .i64 (k : Int))) (by rw [hD]; rfl) (hall 1 (by decide))
    have h20 : ac.eval (.tmp 20) = .slice (some ⟨b, o, none⟩) k cap := hF.done 2 (20, SP.is (.slice (some ⟨b, o, none⟩) k cap)) (by rw [hD]; rfl) (hall 2 (by decide))
    have h21 : ac.eval (.tmp 21) = .agg (vB l).toArray := hF.done 3 (21, SP.is (.agg (vB l).toArray)) (by rw [hD]; rfl) (hall 3 (by decide))
    have h22 : ac.eval (.tmp 22) = .slice (some ⟨b, o, none⟩) n cap := hF.done 4 (22, SP.is (.slice (some ⟨b, o, none⟩) n cap)) (by rw [hD]; rfl) (hall 4 (by decide))
    have h23 : ac.eval (.tmp 23) = .int .i64 (k : Int) := hF.done 5 (23, SP.is (.int .i64 (k : Int))) (by rw [hD]; rfl) (hall 5 (by decide))
    have h24 : ac.eval (.tmp 24) = .slice (some ⟨b, o + k, none⟩) (n - k) (cap - k) := hF.done 6 (24, SP.is (.slice (some ⟨b, o + k, none⟩) (n - k) (cap - k))) (by rw [hD]; rfl) (hall 6 (by decide))
    have h25 : ac.eval (.tmp 25) = .agg (vB r).toArray := hF.done 7 (25, SP.is (.agg (vB r).toArray)) (by rw [hD]; rfl) (hall 7 (by decide))
    have h26 : ac.eval (.tmp 26) = .agg (vB dd).toArray := hF.done 8 (26, SP.is (.agg (vB dd).toArray)) (by rw [hD]; rfl) (hall 8 (by decide))
    have ea := hF.lay [(18, .slice (some ⟨b, o, none⟩) n cap), (19, .int .i64 (k : Int)), (20, .slice (some ⟨b, o, none⟩) k cap), (21, .agg (vB l).toArray), (22, .slice (some ⟨b, o, none⟩) n cap), (23, .int .i64 (k : Int)), (24, .slice (some ⟨b, o + k, none⟩) (n - k) (cap - k)), (25, .agg (vB r).toArray), (26, .agg (vB dd).toArray)] (by rw [hD, hsz]; rfl) (by simp only [List.forall_mem_cons, List.not_mem_nil, false_implies, implies_true, and_true]; exact ⟨h18, h19, h20, h21, h22, h23, h24, h25, h26⟩)
    rw [ha0] at ea
    simp only [List.foldl_cons, List.foldl_nil, List.setIfInBounds_toArray, List.set_cons_zero, List.set_cons_succ] at ea
    clear hF hall hr hl hD  s0 s3 s2 ha0 hsz h18 h19 h20 h21 h22 h23 h24 h25 h26
    subst ea
    go_wp2_with fail
    exact bodyPost_ret (results_row Tryz.results41 _ _ w.heap.size 53 (vB dd) rfl r0 Tryz.underlying53 info_dig (by rw [vB_length, HDL.out])) rfl ⟨rfl, hb1⟩

/-- Root of any list of leaves. -/
theorem root_any (n : Nat) : ∀ (ps : List (List (BitVec 8))), ps.length = n → n < 4611686018427387904 → (∀ i, i < ps.length → (ps.getD i []).length < 1152921504606846975) → ∀ (dd : List (BitVec 8)), dd = rt ps → ∀ (b o cap : Nat), n ≤ cap → ∀ w : World, Tab w 2 → LsAt w b o ps →
    Calls Tryz.prog 41 #[.slice (some ⟨b, o, none⟩) n cap] w fun e w' => e = .returned (.agg (vB dd).toArray) ∧ Below w.heap.size w w' := by
  induction n using Nat.strongRecOn with
  | ind n ih =>
    intro ps hn hlt hm dd hd b o cap hc w hK hv
    subst hd
    rcases (show n = 0 ∨ n = 1 ∨ 2 ≤ n by omega) with rfl | rfl | h2
    · rw [rt_nil ps hn]
      exact root_nil _ _ _ rfl w hK
    · rw [rt_one ps hn]
      obtain ⟨vs, h1, h3, h4⟩ := hv
      have hx : vs[0]? = some (vs.getD 0 undef) := by rw [List.getD_eq_getElem?_getD, List.getElem?_eq_getElem (show 0 < vs.length by omega)]; rfl
      exact root_one (ps.getD 0 []) _ rfl (hm 0 (by omega)) b o cap (vs.getD 0 undef) w hK (h3 0 _ hx) (h4 0 (by omega))
    · have hb := fpart_bounds n h2 hlt
      have hp := fpart_pos n
      rw [rt_many ps (by omega) (by omega), hn]
      generalize hk : fpart n = k at *
      have t1 : (ps.take k).length = k := by rw [List.length_take]; omega
      have t2 : (ps.drop k).length = n - k := by rw [List.length_drop]; omega
      refine root_step n k h2 hlt hk _ _ _ (rt_length _) (rt_length _) rfl b o cap hc w hK (fun W hB => ?_) (fun W hB => ?_)
      · refine ih k hb.1 (ps.take k) t1 (by omega) (fun i hi => ?_) _ rfl b o cap (by omega) W (hK.below hB hK.lt) ((hv.below hB).take k)
        have hi2 : i < k := by omega
        have e2 : (ps.take k).getD i [] = ps.getD i [] := by simp [List.getD_eq_getElem?_getD, hi2]
        rw [e2]
        exact hm i (by omega)
      · refine ih (n - k) (by omega) (ps.drop k) t2 (by omega) (fun i hi => ?_) _ rfl b (o + k) (cap - k) (by omega) W (hK.below hB hK.lt) ((hv.below hB).drop k)
        have e2 : (ps.drop k).getD i [] = ps.getD (k + i) [] := by simp [List.getD_eq_getElem?_getD, List.getElem?_drop]
        rw [e2]
        exact hm (k + i) (by omega)

end Go.Proofs.YtbfahgdienppoaaGreatDoor

namespace Go.Proofs.YtbfahgdienppoaaGreatDoor
open Go Go.RowKit
open Sha

/-- How many digests a path has, by fuel. -/
def plF : Nat → Nat → Nat → Nat
  | 0, _, _ => 0
  | f + 1, n, i => if n = 1 then 0 else if i < fpart n then plF f (fpart n) i + 1 else plF f (n - fpart n) (i - fpart n) + 1
/-- How many digests the path of leaf i of n has. -/
def pl (n i : Nat) : Nat := plF n n i
theorem plF_fuel : ∀ (f g n i : Nat), 1 ≤ n → n ≤ f → n ≤ g → n < 4611686018427387904 → plF f n i = plF g n i
  | 0, _, _, _, h1, h, _, _ => by omega
  | _ + 1, 0, _, _, h1, _, h, _ => by omega
  | f + 1, g + 1, n, i, h1, hf, hg, hl => by
    unfold plF
    split
    · rfl
    · have hb := fpart_bounds n (by omega) hl
      have hp := fpart_pos n
      rw [plF_fuel f g (fpart n) i (by omega) (by omega) (by omega) (by omega), plF_fuel f g (n - fpart n) (i - fpart n) (by omega) (by omega) (by omega) (by omega)]
theorem pl_one (i : Nat) : pl 1 i = 0 := rfl
theorem pl_many (n i : Nat) (h2 : 2 ≤ n) (hl : n < 4611686018427387904) : pl n i = if i < fpart n then pl (fpart n) i + 1 else pl (n - fpart n) (i - fpart n) + 1 := by
  have hb := fpart_bounds n h2 hl
  have hp := fpart_pos n
  have e : pl n i = plF (n + 1) n i := plF_fuel _ _ n i (by omega) (Nat.le_refl _) (by omega) hl
  rw [e]
  unfold plF
  rw [if_neg (by omega), plF_fuel n (fpart n) (fpart n) i (by omega) (by omega) (Nat.le_refl _) (by omega), plF_fuel n (n - fpart n) (n - fpart n) (i - fpart n) (by omega) (by omega) (Nat.le_refl _) (by omega)]
  rfl
theorem pl_left (n i : Nat) (h2 : 2 ≤ n) (hl : n < 4611686018427387904) (h : i < fpart n) : pl n i = pl (fpart n) i + 1 := by rw [pl_many n i h2 hl, if_pos h]
theorem pl_right (n i : Nat) (h2 : 2 ≤ n) (hl : n < 4611686018427387904) (h : ¬ i < fpart n) : pl n i = pl (n - fpart n) (i - fpart n) + 1 := by rw [pl_many n i h2 hl, if_neg h]
theorem pl_lt (n : Nat) : ∀ i, 1 ≤ n → n < 4611686018427387904 → pl n i < n := by
  induction n using Nat.strongRecOn with
  | ind n ih =>
    intro i h1 hl
    by_cases e : n = 1
    · subst e; rw [pl_one]; omega
    · have hb := fpart_bounds n (by omega) hl
      have hp := fpart_pos n
      have := ih (fpart n) (by omega) i (by omega) (by omega)
      have := ih (n - fpart n) (by omega) (i - fpart n) (by omega) (by omega)
      rw [pl_many n i (by omega) hl]
      split <;> omega

set_option maxRecDepth 100000 in
set_option maxHeartbeats 1000000 in
theorem plen_one (i : Int) (w : World) :
    Calls Tryz.prog 68 #[.int .i64 1, .int .i64 i] w fun e w' => e = .returned (.int .i64 0) ∧ w' = w := by
  go_enter Tryz.func68, Tryz.ntmps68
  go_wp2_with fail
  go_ret
  exact ⟨rfl, rfl⟩
set_option maxRecDepth 100000 in
set_option maxHeartbeats 1000000 in
theorem plen_left (n i k p : Nat) (h2 : 2 ≤ n) (hn : n < 4611686018427387904) (hk : fpart n = k) (hi : i < k) (hp : p < 4611686018427387904) (w : World)
    (hR : Calls Tryz.prog 68 #[.int .i64 (k : Int), .int .i64 (i : Int)] w fun e w' => e = .returned (.int .i64 (p : Int)) ∧ w' = w) :
    Calls Tryz.prog 68 #[.int .i64 (n : Int), .int .i64 (i : Int)] w fun e w' => e = .returned (.int .i64 ((p + 1 : Nat) : Int)) ∧ w' = w := by
  have HF : Hid (∀ w, _) := fun w => first_any n h2 hn w
  rw [hk] at HF
  have HR : Hid (Calls _ _ _ _ _) := hR
  have n1 : ¬ (n : Int) = 1 := by omega
  have c1 : (i : Int) < (k : Int) := by omega
  clear hk hR h2
  go_enter Tryz.func68, Tryz.ntmps68
  go_wp2_with (first
    | (go_at_call 66; refine (HF.out w).mono ?_; rintro e w ⟨rfl, rfl⟩)
    | (go_at_call 68; refine HR.out.mono ?_; rintro e w ⟨rfl, rfl⟩))
  go_ret
  exact ⟨rfl, rfl⟩
set_option maxRecDepth 100000 in
set_option maxHeartbeats 1000000 in
theorem plen_right (n i k p : Nat) (h2 : 2 ≤ n) (hn : n < 4611686018427387904) (hk : fpart n = k) (hi : ¬ i < k) (hin : i < n) (hp : p < 4611686018427387904) (w : World)
    (hR : Calls Tryz.prog 68 #[.int .i64 ((n - k : Nat) : Int), .int .i64 ((i - k : Nat) : Int)] w fun e w' => e = .returned (.int .i64 (p : Int)) ∧ w' = w) :
    Calls Tryz.prog 68 #[.int .i64 (n : Int), .int .i64 (i : Int)] w fun e w' => e = .returned (.int .i64 ((p + 1 : Nat) : Int)) ∧ w' = w := by
  have HF : Hid (∀ w, _) := fun w => first_any n h2 hn w
  rw [hk] at HF
  have hkn : k ≤ i := by omega
  have HR : Hid (Calls _ _ _ _ _) := hR
  have n1 : ¬ (n : Int) = 1 := by omega
  have c1 : ¬ (i : Int) < (k : Int) := by omega
  have e1 : (n : Int) - (k : Int) = ((n - k : Nat) : Int) := by omega
  have e2 : (i : Int) - (k : Int) = ((i - k : Nat) : Int) := by omega
  clear hk hR h2
  go_enter Tryz.func68, Tryz.ntmps68
  go_wp2_with (first
    | (go_at_call 66; refine (HF.out w).mono ?_; rintro e w ⟨rfl, rfl⟩)
    | (go_at_call 68; refine HR.out.mono ?_; rintro e w ⟨rfl, rfl⟩))
  go_ret
  exact ⟨rfl, rfl⟩
/-- pathLen of any leaf of any size. -/
theorem plen_any (n : Nat) : ∀ (i : Nat), i < n → n < 4611686018427387904 → ∀ w : World,
    Calls Tryz.prog 68 #[.int .i64 (n : Int), .int .i64 (i : Int)] w fun e w' => e = .returned (.int .i64 (pl n i : Int)) ∧ w' = w := by
  induction n using Nat.strongRecOn with
  | ind n ih =>
    intro i hi hl w
    by_cases e : n = 1
    · subst e; exact plen_one _ w
    · have hb := fpart_bounds n (by omega) hl
      have hp := fpart_pos n
      by_cases hk : i < fpart n
      · rw [pl_left n i (by omega) hl hk]
        have := pl_lt (fpart n) i (by omega) (by omega)
        exact plen_left n i (fpart n) _ (by omega) hl rfl hk (by omega) w (ih (fpart n) hb.1 i hk (by omega) w)
      · rw [pl_right n i (by omega) hl hk]
        have := pl_lt (n - fpart n) (i - fpart n) (by omega) (by omega)
        exact plen_right n i (fpart n) _ (by omega) hl rfl hk hi (by omega) w (ih (n - fpart n) (by omega) (i - fpart n) (by omega) (by omega) w)

end Go.Proofs.YtbfahgdienppoaaGreatDoor

namespace Go.Proofs.YtbfahgdienppoaaGreatDoor
open Go Go.RowKit
open Sha

section
variable {P : Program} {Q : Exit → Act → World → Prop} {o : Oper} {a : Act} {w : World} {K : Act → World → Prop}
theorem wp_slice_3 (t e : TypeId) (x z m : Operand) (b f n cap k : Nat) (ho : o.op = .slice t x none (some z) (some m)) (hx : a.eval x = .slice (some ⟨b, f, none⟩) n cap) (hz : a.eval z = .int .i64 (k : Int)) (hm : a.eval m = .int .i64 (k : Int)) (hk : k ≤ cap)
    (hu : P.underlying t = some (.slice e)) {s : Nat} (hs : (P.info? e).map (·.size) = some s) (h : K (a.put o.dst (.slice (some ⟨b, f, none⟩) k k)) w) : Oper.wp P o a w K Q := by
  cases hq : P.info? e with
  | none => simp [hq] at hs
  | some i =>
    have hr : (Instr.sliceAt t (.slice (some ⟨b, f, none⟩) n cap) none (some (.int .i64 (k : Int))) (some (.int .i64 (k : Int)))).run P w = .ok (.slice (some ⟨b, f, none⟩) k k) w := by
      simp [Instr.sliceAt, Instr.slice, run_underlying hu, Instr.sliceBounds, Instr.sliceBound, asIntOf, sizeOf, typeInfo, hq, hk, Addr.add_mid]
    unfold Oper.wp execOp
    simp only [ho, hx, hz, hm, Option.map_some, Option.map_none, Sem.run_bind, hr, Result.andThen_ok, Sem.run_pure, Oper.upon_value]
    exact h
theorem wp_index_s (T e : TypeId) {x y : Operand} (ho : o.op = .indexAddr T x y) (b f n c t s : Nat) (hx : a.eval x = .slice (some ⟨b, f, none⟩) n c) (hy : a.eval y = .int .i64 (t : Int)) (ht : t < n)
    (hu : P.underlying T = some (.slice e)) (hs : (P.info? e).map (·.size) = some s) (h : K (a.put o.dst (.pointer (some ⟨b, f + t * s, none⟩))) w) : Oper.wp P o a w K Q := by
  refine wp_pure (v := .pointer (some ⟨b, f + t * s, none⟩)) ?_ h
  have hr : (Instr.indexAt T (.slice (some ⟨b, f, none⟩) n c) (.int .i64 (t : Int))).run P w = .ok (.pointer (some ⟨b, f + t * s, none⟩)) w := by
    cases hi : P.info? e with
    | none => rw [hi] at hs; cases hs
    | some ie =>
      rw [hi] at hs
      have h4 : ie.size = s := by simpa using hs
      simp [Instr.indexAt, run_underlying hu, asIntOf, ht, sizeOf, typeInfo, hi, h4, Addr.add_mid]
  unfold execOp
  simp only [ho, hx, hy, Sem.run_bind, hr, Result.andThen_ok]
  rfl
end
theorem results_tmp_row {P : Program} {fn : Func} {p q : Tmp} {ty : TypeId} {n : Nat} {e : TypeId} (h : fn.results = #[.tmp q, .cell p ty]) (tmps : Array Value) (w : World) (g : Nat) (t : TypeId) (cs : List Value) (v : Value)
    (hp : tmps.getD p undef = .pointer (some ⟨g, 0, none⟩)) (hv : tmps.getD q undef = v) (hg : Row w g cs t) (hu : P.underlying ty = some (.array n e)) (hi : (P.info? ty).map (·.size) = some n) (hl : cs.length = n) :
    (results fn tmps).run P w = .ok (.tuple #[v, .agg cs.toArray]) w := by
  have hp' : tmps[p]?.getD undef = .pointer (some ⟨g, 0, none⟩) := by simpa using hp
  have hv' : tmps[q]?.getD undef = v := by simpa using hv
  have hr := run_loadVar_row (P := P) w g t ty cs.toArray (0, 0) (.array n e) hg hu rfl (by simp [hi, hl])
  simp [results, h, hp', hv', asAddr, hr]

set_option maxRecDepth 100000 in
set_option maxHeartbeats 4000000 in
theorem cut_any (n cap b o : Nat) (l : List (BitVec 8)) (hl0 : l.length = 32) (hc : n + 1 ≤ cap) (hn : n < 4611686018427387904) (w : World) (hr : w.rangeAt b (o + n * 32) (vB l)) :
    Calls Tryz.prog 91 #[.slice (some ⟨b, o, none⟩) (n + 1) cap] w fun e w' => e = .returned (.tuple #[.slice (some ⟨b, o, none⟩) n n, .agg (vB l).toArray]) ∧ Below w.heap.size w w' := by
  have HL0 : Hid (l.length = 32) := hl0
  have HI5 : Hid ((Tryz.prog.info? 53).map (·.size) = some (vB l).toArray.size) := by show _ = _; rw [info_dig]; simp [vB_length, hl0]
  have HIL : Hid ((Tryz.prog.info? 53).map (·.size) = some (vB l).length) := by show _ = _; rw [info_dig]; simp [vB_length, hl0]
  have HR : Hid (∀ W, Below w.heap.size w W → W.rangeAt b (o + n * 32) (vB l)) := fun W hB => range_below hr hB (Nat.le_refl _)
  have HC : Hid (n ≤ cap) := (by omega : n ≤ cap)
  have e1 : ((n + 1 : Nat) : Int) - 1 = (n : Int) := by omega
  clear hr hl0 hc
  have hb1 : Below w.heap.size w (w.alloc (Obj.cells (vB (List.replicate 32 0#8)).toArray 53)) := (Below.refl _ _).alloc (Nat.le_refl _) _
  have r0 : Row (w.alloc (Obj.cells (vB (List.replicate 32 0#8)).toArray 53)) w.heap.size (vB (List.replicate 32 0#8)) 53 := Row.new' rfl rfl
  go_enter Tryz.func91, Tryz.ntmps91
  go_wp2_with fail
  refine wp_named fun a0 ha0 => ?_
  have hsz : a0.tmps.size = 16 := by rw [ha0]; rfl
  have s0 : a0.eval (.tmp 0) = .slice (some ⟨b, o, none⟩) (n + 1) cap := by rw [ha0]; rfl
  have s4 : a0.eval (.tmp 4) = .int .i64 (n : Int) := by rw [ha0]; rfl
  have s3 : a0.eval (.tmp 3) = .pointer (some ⟨w.heap.size, 0, none⟩) := by rw [ha0]; rfl
  obtain ⟨D, hD⟩ : ∃ D : List (Tmp × SP), D = [(8, SP.is (.slice (some ⟨b, o, none⟩) (n + 1) cap)), (9, SP.is (.int .i64 (n : Int))), (10, SP.is (.int .i64 (n : Int))), (11, SP.is (.slice (some ⟨b, o, none⟩) n n)), (12, SP.is (.slice (some ⟨b, o, none⟩) (n + 1) cap)), (13, SP.is (.int .i64 (n : Int))), (14, SP.is (.pointer (some ⟨b, o + n * 32, none⟩))), (15, SP.is (.agg (vB l).toArray)), (2, SP.is (.slice (some ⟨b, o, none⟩) n n)), (1000, SP.any)] := ⟨_, rfl⟩
  refine wp_region_down (by kernel_rfl) (fun listed ac W => listed.size = 10 ∧ Fp D a0 listed ac W ∧ Below w.heap.size w W ∧ Row W w.heap.size (if listed.getD 9 false = true then (vB l) else vB (List.replicate 32 0#8)) 53) ?_ ?_ ?_
  · exact ⟨by simp, Fp.start D a0 _ _, Below.drew hb1, (by rw [if_neg (fun h => start_no h)]; exact Row.drew r0)⟩
  · clear ha0 hb1 r0 
    intro listed ac W k hI hdn hk
    obtain ⟨hl, hF, hb1, r0⟩ := hI
    have hk1 : k < 10 := List.mem_range.1 (List.mem_filter.1 hk).1
    have hl2 : ∀ j, (listed.setIfInBounds j true).size = 10 := fun j => by rw [Array.size_setIfInBounds]; exact hl
    rcases (show k = 0 ∨ k = 1 ∨ k = 2 ∨ k = 3 ∨ k = 4 ∨ k = 5 ∨ k = 6 ∨ k = 7 ∨ k = 8 ∨ k = 9 by omega) with rfl | rfl | rfl | rfl | rfl | rfl | rfl | rfl | rfl | rfl
    · have hk3 := hk
      exact wpOp_plain rfl rfl (wp_move_v (ac.eval (.tmp 0)) rfl rfl ⟨hl2 0, (hF.put 0 8 (SP.is (.slice (some ⟨b, o, none⟩) (n + 1) cap)) (ac.eval (.tmp 0)) (by rw [hD]; rfl) (((hF.keep 0 (by rw [hD]; rfl)).trans s0)) (by rw [hD]; rfl) (by rw [hsz]; decide) (by rw [hl]; decide)), hb1, (by rw [getD_set _ _ _ (by decide)]; exact r0)⟩)
    · have hk3 := hk
      exact wpOp_plain rfl rfl (wp_move_v (ac.eval (.tmp 4)) rfl rfl ⟨hl2 1, (hF.put 1 9 (SP.is (.int .i64 (n : Int))) (ac.eval (.tmp 4)) (by rw [hD]; rfl) (((hF.keep 4 (by rw [hD]; rfl)).trans s4)) (by rw [hD]; rfl) (by rw [hsz]; decide) (by rw [hl]; decide)), hb1, (by rw [getD_set _ _ _ (by decide)]; exact r0)⟩)
    · have hk3 := hk
      exact wpOp_plain rfl rfl (wp_move_v (ac.eval (.tmp 4)) rfl rfl ⟨hl2 2, (hF.put 2 10 (SP.is (.int .i64 (n : Int))) (ac.eval (.tmp 4)) (by rw [hD]; rfl) (((hF.keep 4 (by rw [hD]; rfl)).trans s4)) (by rw [hD]; rfl) (by rw [hsz]; decide) (by rw [hl]; decide)), hb1, (by rw [getD_set _ _ _ (by decide)]; exact r0)⟩)
    · have hk3 := hk
      have ea := (hF.done 0 (8, SP.is (.slice (some ⟨b, o, none⟩) (n + 1) cap)) (by rw [hD]; rfl) (ready_dep hk 0 (by kernel_rfl)))
      have eb := (hF.done 1 (9, SP.is (.int .i64 (n : Int))) (by rw [hD]; rfl) (ready_dep hk 1 (by kernel_rfl)))
      have ec := (hF.done 2 (10, SP.is (.int .i64 (n : Int))) (by rw [hD]; rfl) (ready_dep hk 2 (by kernel_rfl)))
      exact wpOp_plain rfl rfl (wp_slice_3 63 53 (.tmp 8) (.tmp 9) (.tmp 10) b o (n + 1) cap n rfl ea eb ec HC.out Tryz.underlying63 info_dig ⟨hl2 3, (hF.put 3 11 (SP.is (.slice (some ⟨b, o, none⟩) n n)) (.slice (some ⟨b, o, none⟩) n n) (by rw [hD]; rfl) rfl (by rw [hD]; rfl) (by rw [hsz]; decide) (by rw [hl]; decide)), hb1, (by rw [getD_set _ _ _ (by decide)]; exact r0)⟩)
    · have hk3 := hk
      exact wpOp_plain rfl rfl (wp_move_v (ac.eval (.tmp 0)) rfl rfl ⟨hl2 4, (hF.put 4 12 (SP.is (.slice (some ⟨b, o, none⟩) (n + 1) cap)) (ac.eval (.tmp 0)) (by rw [hD]; rfl) (((hF.keep 0 (by rw [hD]; rfl)).trans s0)) (by rw [hD]; rfl) (by rw [hsz]; decide) (by rw [hl]; decide)), hb1, (by rw [getD_set _ _ _ (by decide)]; exact r0)⟩)
    · have hk3 := hk
      exact wpOp_plain rfl rfl (wp_move_v (ac.eval (.tmp 4)) rfl rfl ⟨hl2 5, (hF.put 5 13 (SP.is (.int .i64 (n : Int))) (ac.eval (.tmp 4)) (by rw [hD]; rfl) (((hF.keep 4 (by rw [hD]; rfl)).trans s4)) (by rw [hD]; rfl) (by rw [hsz]; decide) (by rw [hl]; decide)), hb1, (by rw [getD_set _ _ _ (by decide)]; exact r0)⟩)
    · have hk3 := hk
      have ea := (hF.done 4 (12, SP.is (.slice (some ⟨b, o, none⟩) (n + 1) cap)) (by rw [hD]; rfl) (ready_dep hk 4 (by kernel_rfl)))
      have eb := (hF.done 5 (13, SP.is (.int .i64 (n : Int))) (by rw [hD]; rfl) (ready_dep hk 5 (by kernel_rfl)))
      exact wpOp_plain rfl rfl (wp_index_s 63 53 rfl b o (n + 1) cap n 32 ea eb (Nat.lt_succ_self n) Tryz.underlying63 info_dig ⟨hl2 6, (hF.put 6 14 (SP.is (.pointer (some ⟨b, o + n * 32, none⟩))) (.pointer (some ⟨b, o + n * 32, none⟩)) (by rw [hD]; rfl) rfl (by rw [hD]; rfl) (by rw [hsz]; decide) (by rw [hl]; decide)), hb1, (by rw [getD_set _ _ _ (by decide)]; exact r0)⟩)
    · have hk3 := hk
      have ea := (hF.done 6 (14, SP.is (.pointer (some ⟨b, o + n * 32, none⟩))) (by rw [hD]; rfl) (ready_dep hk 6 (by kernel_rfl)))
      exact wpOp_plain rfl rfl (wp_load_mid 53 (.tmp 14) rfl b (o + n * 32) ea (vB l) _ (HR.out W hb1) Tryz.underlying53 rfl HIL.out ⟨hl2 7, (hF.put 7 15 (SP.is (.agg (vB l).toArray)) (.agg (vB l).toArray) (by rw [hD]; rfl) rfl (by rw [hD]; rfl) (by rw [hsz]; decide) (by rw [hl]; decide)), hb1, (by rw [getD_set _ _ _ (by decide)]; exact r0)⟩)
    · have hk3 := hk
      exact wpOp_plain rfl rfl (wp_assign_v (ac.eval (.tmp 11)) rfl rfl ⟨hl2 8, (hF.put 8 2 (SP.is (.slice (some ⟨b, o, none⟩) n n)) (ac.eval (.tmp 11)) (by rw [hD]; rfl) ((hF.done 3 (11, SP.is (.slice (some ⟨b, o, none⟩) n n)) (by rw [hD]; rfl) (ready_dep hk 3 (by kernel_rfl)))) (by rw [hD]; rfl) (by rw [hsz]; decide) (by rw [hl]; decide)), hb1, (by rw [getD_set _ _ _ (by decide)]; exact r0)⟩)
    · have hk3 := hk
      have hno : ¬ listed.getD 9 false = true := not_yet hk
      rw [if_neg hno] at r0
      have T := r0.there 0 (vB l).toArray.size (by simp [vB_length, HL0.out])
      have fin := r0.over (vs := (vB l)) (by rw [vB_length, HL0.out]; rfl)
      have hT : Fp D a0 listed ac (W.setCells w.heap.size 0 (vB l)) := hF.turn (by rw [hD]; simp only [List.forall_mem_cons, List.not_mem_nil, false_implies, implies_true, and_true]; exact ⟨fun _ h => h, fun _ h => h, fun _ h => h, fun _ h => h, fun _ h => h, fun _ h => h, fun _ h => h, fun _ h => h, fun _ h => h, fun _ h => h⟩)
      exact wpOp_plain rfl rfl (wp_store_mid 53 (.tmp 3) (.tmp 15) rfl w.heap.size 0 (vB l).toArray ((hF.keep 3 (by rw [hD]; rfl)).trans s3) (hF.done 7 (15, SP.is (.agg (vB l).toArray)) (by rw [hD]; rfl) (ready_dep hk 7 (by kernel_rfl))) T HI5.out (all_oneCell_toArray (vB_one l)) ⟨hl2 9, (hT.skip 9 1000 (by rw [hD]; rfl) (by rw [hl]; decide)), below_setCells hb1 (by omega) _, (by rw [if_pos (getD_same (by rw [hl]; decide))]; exact fin)⟩)
  · clear hb1 r0 
    intro listed ac W hI hr
    obtain ⟨hl, hF, hb1, r0⟩ := hI
    have hall := all_listed (by kernel_rfl) hl hr
    rw [if_pos (hall 9 (by decide))] at r0
    have h8 : ac.eval (.tmp 8) = .slice (some ⟨b, o, none⟩) (n + 1) cap := hF.done 0 (8, SP.is (.slice (some ⟨b, o, none⟩) (n + 1) cap)) (by rw [hD]; rfl) (hall 0 (by decide))
    have h9 : ac.eval (.tmp 9) = .int .i64 (n : Int) := hF.done 1 (9, SP.is (.int .i64 (n : Int))) (by rw [hD]; rfl) (hall 1 (by decide))
    have h10 : ac.eval (.tmp 10) = .int .i64 (n : Int) := hF.done 2 (10, SP.is (.int .i64 (n : Int))) (by rw [hD]; rfl) (hall 2 (by decide))
    have h11 : ac.eval (.tmp 11) = .slice (some ⟨b, o, none⟩) n n := hF.done 3 (11, SP.is (.slice (some ⟨b, o, none⟩) n n)) (by rw [hD]; rfl) (hall 3 (by decide))
    have h12 : ac.eval (.tmp 12) = .slice (some ⟨b, o, none⟩) (n + 1) cap := hF.done 4 (12, SP.is (.slice (some ⟨b, o, none⟩) (n + 1) cap)) (by rw [hD]; rfl) (hall 4 (by decide))
    have h13 : ac.eval (.tmp 13) = .int .i64 (n : Int) := hF.done 5 (13, SP.is (.int .i64 (n : Int))) (by rw [hD]; rfl) (hall 5 (by decide))
    have h14 : ac.eval (.tmp 14) = .pointer (some ⟨b, o + n * 32, none⟩) := hF.done 6 (14, SP.is (.pointer (some ⟨b, o + n * 32, none⟩))) (by rw [hD]; rfl) (hall 6 (by decide))
    have h15 : ac.eval (.tmp 15) = .agg (vB l).toArray := hF.done 7 (15, SP.is (.agg (vB l).toArray)) (by rw [hD]; rfl) (hall 7 (by decide))
    have h2 : ac.eval (.tmp 2) = .slice (some ⟨b, o, none⟩) n n := hF.done 8 (2, SP.is (.slice (some ⟨b, o, none⟩) n n)) (by rw [hD]; rfl) (hall 8 (by decide))
    have ea := hF.lay [(8, .slice (some ⟨b, o, none⟩) (n + 1) cap), (9, .int .i64 (n : Int)), (10, .int .i64 (n : Int)), (11, .slice (some ⟨b, o, none⟩) n n), (12, .slice (some ⟨b, o, none⟩) (n + 1) cap), (13, .int .i64 (n : Int)), (14, .pointer (some ⟨b, o + n * 32, none⟩)), (15, .agg (vB l).toArray), (2, .slice (some ⟨b, o, none⟩) n n)] (by rw [hD, hsz]; rfl) (by simp only [List.forall_mem_cons, List.not_mem_nil, false_implies, implies_true, and_true]; exact ⟨h8, h9, h10, h11, h12, h13, h14, h15, h2⟩)
    rw [ha0] at ea
    simp only [List.foldl_cons, List.foldl_nil, List.setIfInBounds_toArray, List.set_cons_zero, List.set_cons_succ] at ea
    clear hF hall hr hl hD  s0 s4 s3 ha0 hsz h8 h9 h10 h11 h12 h13 h14 h15 h2
    subst ea
    go_wp2_with fail
    exact bodyPost_ret (results_tmp_row Tryz.results91 _ _ w.heap.size 53 (vB l) _ rfl rfl r0 Tryz.underlying53 info_dig (by rw [vB_length, HL0.out])) rfl ⟨rfl, hb1⟩

end Go.Proofs.YtbfahgdienppoaaGreatDoor
