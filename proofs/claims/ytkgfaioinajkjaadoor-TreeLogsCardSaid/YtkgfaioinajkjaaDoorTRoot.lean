/-
  Root.
-/
import Derived.Test.YtkgfaioinajkjaaDoorTLs
namespace Go.Proofs.YtkgfaioinajkjaaDoor
open Go Go.RowKit
open Sha

set_option maxRecDepth 100000 in
set_option maxHeartbeats 1000000 in
theorem root_nil (A : Option Addr) (cap : Nat) (dd : List (BitVec 8)) (hd : dd = dig []) (w : World) (hK : Tab w 4) :
    Calls Tryd.prog 23 #[.slice A 0 cap] w fun e w' => e = .returned (.agg (vB dd).toArray) ∧ Below w.heap.size w w' := by
  have HD : Hid (dd = dig []) := hd
  have HDL : Hid (dd.length = 32) := by rw [hd]; exact dig_length _
  have hi5 : (Tryd.prog.info? 42).map (·.size) = some (vB dd).toArray.size := by rw [info_dig]; simp [vB_length, HDL.out]
  clear hd
  go_enter Tryd.func23, Tryd.ntmps23
  go_wp2_with (first
    | (go_at_call 36; refine (sum_any [] dd HD.out (by decide) _ _ (hK.below ((Below.refl _ _).alloc (Nat.le_refl _) _) hK.lt) (.inl ⟨rfl, _, _, rfl⟩)).mono ?_; rintro e w2 ⟨rfl, hB2⟩)
    | (refine wpList_store_mid rfl 42 (.tmp 2) (.tmp 8) rfl w.heap.size 0 (vB dd).toArray rfl rfl (Row.there (Row.below (Row.new' (cs := vB (List.replicate 32 0#8)) rfl rfl) hB2 (by simp)) 0 _ (by simp [vB_length, HDL.out])) hi5 (all_oneCell_toArray (vB_one dd)) ?_))
  have q0 : Row w2 w.heap.size (vB (List.replicate 32 0#8)) 42 := Row.below (Row.new' rfl rfl) hB2 (by simp)
  have nf := q0.over (vs := vB dd) (by rw [vB_length, HDL.out]; rfl)
  have nB := below_setCells (((Below.refl _ _).alloc (Nat.le_refl _) _).trans (hB2.mono (by simp))) (b := w.heap.size) (o := 0) (Nat.le_refl _) (vB dd)
  exact bodyPost_ret (results_row Tryd.results23 _ _ w.heap.size 42 (vB dd) rfl nf Tryd.underlying42 info_dig (by rw [vB_length, HDL.out])) rfl ⟨rfl, nB⟩

set_option maxRecDepth 100000 in
set_option maxHeartbeats 1000000 in
theorem root_one (d dd : List (BitVec 8)) (hd : dd = dig ([0#8] ++ d)) (hlen : d.length < 1152921504606846975) (b o cap : Nat) (v : Value) (w : World) (hK : Tab w 4) (hc : w.cell? ⟨b, o, none⟩ = some v) (hv : SlAt w v d) :
    Calls Tryd.prog 23 #[.slice (some ⟨b, o, none⟩) 1 cap] w fun e w' => e = .returned (.agg (vB dd).toArray) ∧ Below w.heap.size w w' := by
  have HD : Hid (dd = dig ([0#8] ++ d)) := hd
  have HDL : Hid (dd.length = 32) := by rw [hd]; exact dig_length _
  have hi5 : (Tryd.prog.info? 42).map (·.size) = some (vB dd).toArray.size := by rw [info_dig]; simp [vB_length, HDL.out]
  have gk : (w.alloc (Obj.cells #[.int .u8 0, .int .u8 0, .int .u8 0, .int .u8 0, .int .u8 0, .int .u8 0, .int .u8 0, .int .u8 0, .int .u8 0, .int .u8 0, .int .u8 0, .int .u8 0, .int .u8 0, .int .u8 0, .int .u8 0, .int .u8 0, .int .u8 0, .int .u8 0, .int .u8 0, .int .u8 0, .int .u8 0, .int .u8 0, .int .u8 0, .int .u8 0, .int .u8 0, .int .u8 0, .int .u8 0, .int .u8 0, .int .u8 0, .int .u8 0, .int .u8 0, .int .u8 0] 42)).cell? ⟨b, o, none⟩ = some v := (Below.cell ((Below.refl w.heap.size w).alloc (Nat.le_refl _) _) (p := ⟨b, o, none⟩) (World.block_lt_of_cell? w _ hc)).trans hc
  have HV : Hid (SlAt w v d) := hv
  clear hd hv hc
  go_enter Tryd.func23, Tryd.ntmps23
  go_wp2_with (first
    | (go_at_call 25; refine (leaf_any d dd HD.out hlen v _ (hK.below ((Below.refl _ _).alloc (Nat.le_refl _) _) hK.lt) (HV.out.below ((Below.refl _ _).alloc (Nat.le_refl _) _) (Nat.le_refl _))).mono ?_; rintro e w2 ⟨rfl, hB2⟩)
    | (refine wpList_store_mid rfl 42 (.tmp 2) (.tmp 14) rfl w.heap.size 0 (vB dd).toArray rfl rfl (Row.there (Row.below (Row.new' (cs := vB (List.replicate 32 0#8)) rfl rfl) hB2 (by simp)) 0 _ (by simp [vB_length, HDL.out])) hi5 (all_oneCell_toArray (vB_one dd)) ?_))
  have q0 : Row w2 w.heap.size (vB (List.replicate 32 0#8)) 42 := Row.below (Row.new' rfl rfl) hB2 (by simp)
  have nf := q0.over (vs := vB dd) (by rw [vB_length, HDL.out]; rfl)
  have nB := below_setCells (((Below.refl _ _).alloc (Nat.le_refl _) _).trans (hB2.mono (by simp))) (b := w.heap.size) (o := 0) (Nat.le_refl _) (vB dd)
  exact bodyPost_ret (results_row Tryd.results23 _ _ w.heap.size 42 (vB dd) rfl nf Tryd.underlying42 info_dig (by rw [vB_length, HDL.out])) rfl ⟨rfl, nB⟩

set_option maxRecDepth 100000 in
set_option maxHeartbeats 4000000 in
theorem root_step (n k : Nat) (h2 : 2 ≤ n) (hn : n < 4611686018427387904) (hk : fpart n = k) (l r dd : List (BitVec 8)) (hl0 : l.length = 32) (hr0 : r.length = 32) (hd : dd = dig ([1#8] ++ (l ++ r))) (b o cap : Nat) (hc : n ≤ cap) (w : World) (hK : Tab w 4)
    (hL : ∀ W, Below w.heap.size w W → Calls Tryd.prog 23 #[.slice (some ⟨b, o, none⟩) k cap] W fun e w' => e = .returned (.agg (vB l).toArray) ∧ Below W.heap.size W w')
    (hR : ∀ W, Below w.heap.size w W → Calls Tryd.prog 23 #[.slice (some ⟨b, o + k, none⟩) (n - k) (cap - k)] W fun e w' => e = .returned (.agg (vB r).toArray) ∧ Below W.heap.size W w') :
    Calls Tryd.prog 23 #[.slice (some ⟨b, o, none⟩) n cap] w fun e w' => e = .returned (.agg (vB dd).toArray) ∧ Below w.heap.size w w' := by
  have HD : Hid (dd = dig ([1#8] ++ (l ++ r))) := hd
  have HDL : Hid (dd.length = 32) := by rw [hd]; exact dig_length _
  have HI5 : Hid ((Tryd.prog.info? 42).map (·.size) = some (vB dd).toArray.size) := by show _ = _; rw [info_dig]; simp [vB_length, HDL.out]
  have HL : Hid (∀ W, _ → _) := hL
  have HR : Hid (∀ W, _ → _) := hR
  have HL0 : Hid (l.length = 32) := hl0
  have HR0 : Hid (r.length = 32) := hr0
  have HKL : Hid (∀ W, Below w.heap.size w W → Tab W 4) := fun W hB => hK.below hB hK.lt
  have HKN : Hid (k < n) := by show _ < _; rw [← hk]; exact (fpart_bounds n h2 hn).1
  have HC : Hid (n ≤ cap) := hc
  have HF : Hid (∀ w, _) := fun w => first_any n h2 hn w
  rw [hk] at HF
  have n0 : ¬ (n : Int) = 0 := by omega
  have n1 : ¬ (n : Int) = 1 := by omega
  clear hd hl0 hr0 hL hR hK hk h2 hn hc
  have hb1 : Below w.heap.size w (w.alloc (Obj.cells (vB (List.replicate 32 0#8)).toArray 42)) := (Below.refl _ _).alloc (Nat.le_refl _) _
  have r0 : Row (w.alloc (Obj.cells (vB (List.replicate 32 0#8)).toArray 42)) w.heap.size (vB (List.replicate 32 0#8)) 42 := Row.new' rfl rfl
  go_enter Tryd.func23, Tryd.ntmps23
  go_wp2_with (go_at_call 37; refine (HF.out _).mono ?_; rintro e w2 ⟨rfl, rfl⟩)
  refine wp_named fun a0 ha0 => ?_
  have hsz : a0.tmps.size = 27 := by rw [ha0]; rfl
  have s0 : a0.eval (.tmp 0) = .slice (some ⟨b, o, none⟩) n cap := by rw [ha0]; rfl
  have s3 : a0.eval (.tmp 3) = .int .i64 (k : Int) := by rw [ha0]; rfl
  have s2 : a0.eval (.tmp 2) = .pointer (some ⟨w.heap.size, 0, none⟩) := by rw [ha0]; rfl
  obtain ⟨D, hD⟩ : ∃ D : List (Tmp × SP), D = [(18, SP.is (.slice (some ⟨b, o, none⟩) n cap)), (19, SP.is (.int .i64 (k : Int))), (20, SP.is (.slice (some ⟨b, o, none⟩) k cap)), (21, SP.is (.agg (vB l).toArray)), (22, SP.is (.slice (some ⟨b, o, none⟩) n cap)), (23, SP.is (.int .i64 (k : Int))), (24, SP.is (.slice (some ⟨b, o + k, none⟩) (n - k) (cap - k))), (25, SP.is (.agg (vB r).toArray)), (26, SP.is (.agg (vB dd).toArray)), (1000, SP.any)] := ⟨_, rfl⟩
  refine wp_region_down (by kernel_rfl) (fun listed ac W => listed.size = 10 ∧ Fp D a0 listed ac W ∧ Below w.heap.size w W ∧ Row W w.heap.size (if listed.getD 9 false = true then (vB dd) else vB (List.replicate 32 0#8)) 42) ?_ ?_ ?_
  · exact ⟨by simp, Fp.start D a0 _ _, Below.drew hb1, (by rw [if_neg (fun h => start_no h)]; exact Row.drew r0)⟩
  · clear ha0 hb1 r0 
    intro listed ac W k hI hdn hk
    obtain ⟨hl, hF, hb1, r0⟩ := hI
    have hk1 : k < 10 := List.mem_range.1 (List.mem_filter.1 hk).1
    have hl2 : ∀ j, (listed.setIfInBounds j true).size = 10 := fun j => by rw [Array.size_setIfInBounds]; exact hl
    rcases (show k = 0 ∨ k = 1 ∨ k = 2 ∨ k = 3 ∨ k = 4 ∨ k = 5 ∨ k = 6 ∨ k = 7 ∨ k = 8 ∨ k = 9 by omega) with rfl | rfl | rfl | rfl | rfl | rfl | rfl | rfl | rfl | rfl
    · have hk3 := hk
      exact wpOp_plain rfl rfl (wp_move_v (ac.eval (.tmp 0)) rfl rfl ⟨hl2 0, (hF.put 0 18 (SP.is (.slice (some ⟨b, o, none⟩) n cap)) (ac.eval (.tmp 0)) (by rw [hD]; rfl) (((hF.keep 0 (by rw [hD]; rfl)).trans s0)) (by rw [hD]; rfl) (by rw [hsz]; decide) (by rw [hl]; decide)), hb1, (by rw [getD_set _ _ _ (by decide)]; exact r0)⟩)
    · have hk3 := hk
      exact wpOp_plain rfl rfl (wp_move_v (ac.eval (.tmp 3)) rfl rfl ⟨hl2 1, (hF.put 1 19 (SP.is (.int .i64 (k : Int))) (ac.eval (.tmp 3)) (by rw [hD]; rfl) (((hF.keep 3 (by rw [hD]; rfl)).trans s3)) (by rw [hD]; rfl) (by rw [hsz]; decide) (by rw [hl]; decide)), hb1, (by rw [getD_set _ _ _ (by decide)]; exact r0)⟩)
    · have hk3 := hk
      have ea := (hF.done 0 (18, SP.is (.slice (some ⟨b, o, none⟩) n cap)) (by rw [hD]; rfl) (ready_dep hk 0 (by kernel_rfl)))
      have eb := (hF.done 1 (19, SP.is (.int .i64 (k : Int))) (by rw [hD]; rfl) (ready_dep hk 1 (by kernel_rfl)))
      exact wpOp_plain rfl rfl (wp_slice_to 54 31 (.tmp 18) (.tmp 19) b o n cap k rfl ea eb (Nat.le_trans (Nat.le_of_lt HKN.out) HC.out) Tryd.underlying54 info_slb ⟨hl2 2, (hF.put 2 20 (SP.is (.slice (some ⟨b, o, none⟩) k cap)) (.slice (some ⟨b, o, none⟩) k cap) (by rw [hD]; rfl) rfl (by rw [hD]; rfl) (by rw [hsz]; decide) (by rw [hl]; decide)), hb1, (by rw [getD_set _ _ _ (by decide)]; exact r0)⟩)
    · have hk3 := hk
      have ea := (hF.done 2 (20, SP.is (.slice (some ⟨b, o, none⟩) k cap)) (by rw [hD]; rfl) (ready_dep hk 2 (by kernel_rfl)))
      refine wpOp_plain rfl rfl (wp_fcall_v 23 #[.slice (some ⟨b, o, none⟩) k cap] rfl rfl (by show [ac.eval (.tmp 20)] = _; rw [show ac.eval (.tmp 20) = _ from ea]) (by go_simp) ((HL.out W hb1).mono ?_))
      rintro e W2 ⟨rfl, hB⟩
      exact ⟨_, rfl, hl2 3, ((hF.world hB).put 3 21 (SP.is (.agg (vB l).toArray)) (.agg (vB l).toArray) (by rw [hD]; rfl) rfl (by rw [hD]; rfl) (by rw [hsz]; decide) (by rw [hl]; decide)), hb1.trans (hB.mono hb1.size), (by rw [getD_set _ _ _ (by decide)]; exact Row.below r0 hB (Row.lt r0))⟩
    · have hk3 := hk
      exact wpOp_plain rfl rfl (wp_move_v (ac.eval (.tmp 0)) rfl rfl ⟨hl2 4, (hF.put 4 22 (SP.is (.slice (some ⟨b, o, none⟩) n cap)) (ac.eval (.tmp 0)) (by rw [hD]; rfl) (((hF.keep 0 (by rw [hD]; rfl)).trans s0)) (by rw [hD]; rfl) (by rw [hsz]; decide) (by rw [hl]; decide)), hb1, (by rw [getD_set _ _ _ (by decide)]; exact r0)⟩)
    · have hk3 := hk
      exact wpOp_plain rfl rfl (wp_move_v (ac.eval (.tmp 3)) rfl rfl ⟨hl2 5, (hF.put 5 23 (SP.is (.int .i64 (k : Int))) (ac.eval (.tmp 3)) (by rw [hD]; rfl) (((hF.keep 3 (by rw [hD]; rfl)).trans s3)) (by rw [hD]; rfl) (by rw [hsz]; decide) (by rw [hl]; decide)), hb1, (by rw [getD_set _ _ _ (by decide)]; exact r0)⟩)
    · have hk3 := hk
      have ea := (hF.done 4 (22, SP.is (.slice (some ⟨b, o, none⟩) n cap)) (by rw [hD]; rfl) (ready_dep hk 4 (by kernel_rfl)))
      have eb := (hF.done 5 (23, SP.is (.int .i64 (k : Int))) (by rw [hD]; rfl) (ready_dep hk 5 (by kernel_rfl)))
      exact wpOp_plain rfl rfl (wp_slice_on 54 31 (.tmp 22) (.tmp 23) b o n cap k rfl ea eb (Nat.le_of_lt HKN.out) (Nat.lt_of_lt_of_le HKN.out HC.out) Tryd.underlying54 info_slb ⟨hl2 6, (hF.put 6 24 (SP.is (.slice (some ⟨b, o + k, none⟩) (n - k) (cap - k))) (.slice (some ⟨b, o + k, none⟩) (n - k) (cap - k)) (by rw [hD]; rfl) rfl (by rw [hD]; rfl) (by rw [hsz]; decide) (by rw [hl]; decide)), hb1, (by rw [getD_set _ _ _ (by decide)]; exact r0)⟩)
    · have hk3 := hk
      have ea := (hF.done 6 (24, SP.is (.slice (some ⟨b, o + k, none⟩) (n - k) (cap - k))) (by rw [hD]; rfl) (ready_dep hk 6 (by kernel_rfl)))
      refine wpOp_plain rfl rfl (wp_fcall_v 23 #[.slice (some ⟨b, o + k, none⟩) (n - k) (cap - k)] rfl rfl (by show [ac.eval (.tmp 24)] = _; rw [show ac.eval (.tmp 24) = _ from ea]) (by go_simp) ((HR.out W hb1).mono ?_))
      rintro e W2 ⟨rfl, hB⟩
      exact ⟨_, rfl, hl2 7, ((hF.world hB).put 7 25 (SP.is (.agg (vB r).toArray)) (.agg (vB r).toArray) (by rw [hD]; rfl) rfl (by rw [hD]; rfl) (by rw [hsz]; decide) (by rw [hl]; decide)), hb1.trans (hB.mono hb1.size), (by rw [getD_set _ _ _ (by decide)]; exact Row.below r0 hB (Row.lt r0))⟩
    · have hk3 := hk
      have ea := (hF.done 3 (21, SP.is (.agg (vB l).toArray)) (by rw [hD]; rfl) (ready_dep hk 3 (by kernel_rfl)))
      have eb := (hF.done 7 (25, SP.is (.agg (vB r).toArray)) (by rw [hD]; rfl) (ready_dep hk 7 (by kernel_rfl)))
      refine wpOp_plain rfl rfl (wp_fcall_v 27 #[.agg (vB l).toArray, .agg (vB r).toArray] rfl rfl (by show [ac.eval (.tmp 21), ac.eval (.tmp 25)] = _; rw [show ac.eval (.tmp 21) = _ from ea, show ac.eval (.tmp 25) = _ from eb]) (by go_simp) ((node_any l r dd HL0.out HR0.out HD.out W (HKL.out W hb1)).mono ?_))
      rintro e W2 ⟨rfl, hB⟩
      exact ⟨_, rfl, hl2 8, ((hF.world hB).put 8 26 (SP.is (.agg (vB dd).toArray)) (.agg (vB dd).toArray) (by rw [hD]; rfl) rfl (by rw [hD]; rfl) (by rw [hsz]; decide) (by rw [hl]; decide)), hb1.trans (hB.mono hb1.size), (by rw [getD_set _ _ _ (by decide)]; exact Row.below r0 hB (Row.lt r0))⟩
    · have hk3 := hk
      have hno : ¬ listed.getD 9 false = true := not_yet hk
      rw [if_neg hno] at r0
      have T := r0.there 0 (vB dd).toArray.size (by simp [vB_length, HDL.out])
      have fin := r0.over (vs := (vB dd)) (by rw [vB_length, HDL.out]; rfl)
      have hT : Fp D a0 listed ac (W.setCells w.heap.size 0 (vB dd)) := hF.turn (by rw [hD]; simp only [List.forall_mem_cons, List.not_mem_nil, false_implies, implies_true, and_true]; exact ⟨fun _ h => h, fun _ h => h, fun _ h => h, fun _ h => h, fun _ h => h, fun _ h => h, fun _ h => h, fun _ h => h, fun _ h => h, fun _ h => h⟩)
      exact wpOp_plain rfl rfl (wp_store_mid 42 (.tmp 2) (.tmp 26) rfl w.heap.size 0 (vB dd).toArray ((hF.keep 2 (by rw [hD]; rfl)).trans s2) (hF.done 8 (26, SP.is (.agg (vB dd).toArray)) (by rw [hD]; rfl) (ready_dep hk 8 (by kernel_rfl))) T HI5.out (all_oneCell_toArray (vB_one dd)) ⟨hl2 9, (hT.skip 9 1000 (by rw [hD]; rfl) (by rw [hl]; decide)), below_setCells hb1 (by omega) _, (by rw [if_pos (getD_same (by rw [hl]; decide))]; exact fin)⟩)
  · clear hb1 r0 
    intro listed ac W hI hr
    obtain ⟨hl, hF, hb1, r0⟩ := hI
    have hall := all_listed (by kernel_rfl) hl hr
    rw [if_pos (hall 9 (by decide))] at r0
    have h18 : ac.eval (.tmp 18) = .slice (some ⟨b, o, none⟩) n cap := hF.done 0 (18, SP.is (.slice (some ⟨b, o, none⟩) n cap)) (by rw [hD]; rfl) (hall 0 (by decide))
    have h19 : ac.eval (.tmp 19) = .int .i64 (k : Int) := hF.done 1 (19, SP.is (.int .i64 (k : Int))) (by rw [hD]; rfl) (hall 1 (by decide))
    have h20 : ac.eval (.tmp 20) = .slice (some ⟨b, o, none⟩) k cap := hF.done 2 (20, SP.is (.slice (some ⟨b, o, none⟩) k cap)) (by rw [hD]; rfl) (hall 2 (by decide))
    have h21 : ac.eval (.tmp 21) = .agg (vB l).toArray := hF.done 3 (21, SP.is (.agg (vB l).toArray)) (by rw [hD]; rfl) (hall 3 (by decide))
    have h22 : ac.eval (.tmp 22) = .slice (some ⟨b, o, none⟩) n cap := hF.done 4 (22, SP.is (.slice (some ⟨b, o, none⟩) n cap)) (by rw [hD]; rfl) (hall 4 (by decide))
    have h23 : ac.eval (.tmp 23) = .int .i64 (k : Int) := hF.done 5 (23, SP.is (.int .i64 (k : Int))) (by rw [hD]; rfl) (hall 5 (by decide))
    have h24 : ac.eval (.tmp 24) = .slice (some ⟨b, o + k, none⟩) (n - k) (cap - k) := hF.done 6 (24, SP.is (.slice (some ⟨b, o + k, none⟩) (n - k) (cap - k))) (by rw [hD]; rfl) (hall 6 (by decide))
    have h25 : ac.eval (.tmp 25) = .agg (vB r).toArray := hF.done 7 (25, SP.is (.agg (vB r).toArray)) (by rw [hD]; rfl) (hall 7 (by decide))
    have h26 : ac.eval (.tmp 26) = .agg (vB dd).toArray := hF.done 8 (26, SP.is (.agg (vB dd).toArray)) (by rw [hD]; rfl) (hall 8 (by decide))
    have ea := hF.lay [(18, .slice (some ⟨b, o, none⟩) n cap), (19, .int .i64 (k : Int)), (20, .slice (some ⟨b, o, none⟩) k cap), (21, .agg (vB l).toArray), (22, .slice (some ⟨b, o, none⟩) n cap), (23, .int .i64 (k : Int)), (24, .slice (some ⟨b, o + k, none⟩) (n - k) (cap - k)), (25, .agg (vB r).toArray), (26, .agg (vB dd).toArray)] (by rw [hD, hsz]; rfl) (by simp only [List.forall_mem_cons, List.not_mem_nil, false_implies, implies_true, and_true]; exact ⟨h18, h19, h20, h21, h22, h23, h24, h25, h26⟩)
    rw [ha0] at ea
    simp only [List.foldl_cons, List.foldl_nil, List.setIfInBounds_toArray, List.set_cons_zero, List.set_cons_succ] at ea
    clear hF hall hr hl hD  s0 s3 s2 ha0 hsz h18 h19 h20 h21 h22 h23 h24 h25 h26
    subst ea
    go_wp2_with fail
    exact bodyPost_ret (results_row Tryd.results23 _ _ w.heap.size 42 (vB dd) rfl r0 Tryd.underlying42 info_dig (by rw [vB_length, HDL.out])) rfl ⟨rfl, hb1⟩

/-- Root of any list of leaves. -/
theorem root_any (n : Nat) : ∀ (ps : List (List (BitVec 8))), ps.length = n → n < 4611686018427387904 → (∀ i, i < ps.length → (ps.getD i []).length < 1152921504606846975) → ∀ (dd : List (BitVec 8)), dd = rt ps → ∀ (b o cap : Nat), n ≤ cap → ∀ w : World, Tab w 4 → LsAt w b o ps →
    Calls Tryd.prog 23 #[.slice (some ⟨b, o, none⟩) n cap] w fun e w' => e = .returned (.agg (vB dd).toArray) ∧ Below w.heap.size w w' := by
  induction n using Nat.strongRecOn with
  | ind n ih =>
    intro ps hn hlt hm dd hd b o cap hc w hK hv
    subst hd
    rcases (show n = 0 ∨ n = 1 ∨ 2 ≤ n by omega) with rfl | rfl | h2
    · rw [rt_nil ps hn]
      exact root_nil _ _ _ rfl w hK
    · rw [rt_one ps hn]
      obtain ⟨vs, h1, h3, h4⟩ := hv
      have hx : vs[0]? = some (vs.getD 0 undef) := by rw [List.getD_eq_getElem?_getD, List.getElem?_eq_getElem (show 0 < vs.length by omega)]; rfl
      exact root_one (ps.getD 0 []) _ rfl (hm 0 (by omega)) b o cap (vs.getD 0 undef) w hK (h3 0 _ hx) (h4 0 (by omega))
    · have hb := fpart_bounds n h2 hlt
      have hp := fpart_pos n
      rw [rt_many ps (by omega) (by omega), hn]
      generalize hk : fpart n = k at *
      have t1 : (ps.take k).length = k := by rw [List.length_take]; omega
      have t2 : (ps.drop k).length = n - k := by rw [List.length_drop]; omega
      refine root_step n k h2 hlt hk _ _ _ (rt_length _) (rt_length _) rfl b o cap hc w hK (fun W hB => ?_) (fun W hB => ?_)
      · refine ih k hb.1 (ps.take k) t1 (by omega) (fun i hi => ?_) _ rfl b o cap (by omega) W (hK.below hB hK.lt) ((hv.below hB).take k)
        have hi2 : i < k := by omega
        have e2 : (ps.take k).getD i [] = ps.getD i [] := by simp [List.getD_eq_getElem?_getD, hi2]
        rw [e2]
        exact hm i (by omega)
      · refine ih (n - k) (by omega) (ps.drop k) t2 (by omega) (fun i hi => ?_) _ rfl b (o + k) (cap - k) (by omega) W (hK.below hB hK.lt) ((hv.below hB).drop k)
        have e2 : (ps.drop k).getD i [] = ps.getD (k + i) [] := by simp [List.getD_eq_getElem?_getD, List.getElem?_drop]
        rw [e2]
        exact hm (k + i) (by omega)

end Go.Proofs.YtkgfaioinajkjaaDoor
