/-
  sparse: the digests over one key and over two halves.
-/
import Derived.Test.YtfdgdmehgbmnkaaDoorTNode
namespace Go.Proofs.YtfdgdmehgbmnkaaDoor
open Go Go.RowKit
open Sha

theorem info_bd : (Tryd.prog.info? 59).map (·.size) = some 64 := by kernel_rfl
section
variable {o : Oper} {a : Act} {w : World} {K : Act → World → Prop} {Q : Exit → Act → World → Prop}
theorem wp_bd0 {x : Operand} (ho : o.op = .fieldAddr 59 x 0) (B : Nat) (hx : a.eval x = .pointer (some ⟨B, 0, none⟩)) (h : K (a.put o.dst (.pointer (some ⟨B, 0, none⟩))) w) : Oper.wp Tryd.prog o a w K Q := by
  unfold Oper.wp execOp
  simp only [ho, hx]
  go_simp
  exact h
theorem wp_bd1 {x : Operand} (ho : o.op = .fieldAddr 59 x 1) (B : Nat) (hx : a.eval x = .pointer (some ⟨B, 0, none⟩)) (h : K (a.put o.dst (.pointer (some ⟨B, 32, none⟩))) w) : Oper.wp Tryd.prog o a w K Q := by
  unfold Oper.wp execOp
  simp only [ho, hx]
  go_simp
  exact h
end
theorem slat_kv0 {W : World} {N : Nat} {k v : List (BitVec 8)} {t : TypeId} (h : Row W N (vB (k ++ v)) t) (hk : k.length = 32) (_hv : v.length = 32) : SlAt W (.slice (some ⟨N, 0, none⟩) 32 32) k := by
  refine .inr ⟨N, 0, 32, by rw [hk], by rw [hk]; exact Nat.le_refl _, fun i x hx => ?_⟩
  have hi : i < 32 := by have := (List.getElem?_eq_some_iff.1 hx).1; rwa [vB_length, hk] at this
  refine h.all i x ?_
  rw [vB_append, List.getElem?_append_left (by rw [vB_length, hk]; exact hi)]
  exact hx
theorem slat_kv1 {W : World} {N : Nat} {k v : List (BitVec 8)} {t : TypeId} (h : Row W N (vB (k ++ v)) t) (hk : k.length = 32) (hv : v.length = 32) : SlAt W (.slice (some ⟨N, 32, none⟩) 32 32) v := by
  refine .inr ⟨N, 32, 32, by rw [hv], by rw [hv]; exact Nat.le_refl _, fun i x hx => ?_⟩
  have := h.cell (32 + i) x (by
    rw [vB_append, List.getElem?_append_right (by rw [vB_length, hk]; omega), vB_length, hk, Nat.add_sub_cancel_left]
    exact hx)
  exact this

set_option maxRecDepth 100000 in
set_option maxHeartbeats 4000000 in
theorem two_any (l r dd : List (BitVec 8)) (hl0 : l.length = 32) (hr0 : r.length = 32) (hd : dd = dig ([3#8] ++ (l ++ r))) (w : World) (hK : Tab w 3) :
    Calls Tryd.prog 79 #[.agg (vB l).toArray, .agg (vB r).toArray] w fun e w' => e = .returned (.agg (vB dd).toArray) ∧ Below w.heap.size w w' := by
  have HD : Hid (dd = dig ([3#8] ++ (l ++ r))) := hd
  have HDL : Hid (dd.length = 32) := by rw [hd]; exact dig_length _
  have HI5 : Hid ((Tryd.prog.info? 29).map (·.size) = some (vB dd).toArray.size) := by show _ = _; rw [info_dig]; simp [vB_length, HDL.out]
  have HL : Hid (l.length = 32) := hl0
  have HR : Hid (r.length = 32) := hr0
  have HN : Hid (([3#8] : List (BitVec 8)).length + (l.length + r.length) < 1152921504606846976) := by show _ < _; rw [hl0, hr0]; decide
  have HK : Hid (Tab w 3) := hK
  have HKL : Hid (∀ W, Below w.heap.size w W → Tab W 3) := fun W hB => hK.below hB hK.lt
  clear hd hl0 hr0 hK
  have hb1 : Below w.heap.size w (((w.alloc (Obj.cells (vB l).toArray 29)).alloc (Obj.cells (vB r).toArray 29)).alloc (Obj.cells (vB (List.replicate 32 0#8)).toArray 29)) := (((Below.refl _ _).alloc (Nat.le_refl _) _).alloc (by simp) _).alloc (by simp; omega) _
  have r0 : Row (((w.alloc (Obj.cells (vB l).toArray 29)).alloc (Obj.cells (vB r).toArray 29)).alloc (Obj.cells (vB (List.replicate 32 0#8)).toArray 29)) (w.heap.size) (vB l) 29 := ((Row.new w (vB l) _).alloc _).alloc _
  have r1 : Row (((w.alloc (Obj.cells (vB l).toArray 29)).alloc (Obj.cells (vB r).toArray 29)).alloc (Obj.cells (vB (List.replicate 32 0#8)).toArray 29)) (w.heap.size + 1) (vB r) 29 := (Row.new' (by simp) rfl).alloc _
  have r2 : Row (((w.alloc (Obj.cells (vB l).toArray 29)).alloc (Obj.cells (vB r).toArray 29)).alloc (Obj.cells (vB (List.replicate 32 0#8)).toArray 29)) (w.heap.size + 2) (vB (List.replicate 32 0#8)) 29 := Row.new' (by simp) rfl
  go_enter Tryd.func79, Tryd.ntmps79
  go_wp2_with fail
  refine wp_named fun a0 ha0 => ?_
  have hsz : a0.tmps.size = 10 := by rw [ha0]; rfl
  have s2 : a0.eval (.tmp 2) = .pointer (some ⟨w.heap.size, 0, none⟩) := by rw [ha0]; rfl
  have s3 : a0.eval (.tmp 3) = .pointer (some ⟨w.heap.size + 1, 0, none⟩) := by rw [ha0]; rfl
  have s4 : a0.eval (.tmp 4) = .pointer (some ⟨w.heap.size + 2, 0, none⟩) := by rw [ha0]; rfl
  obtain ⟨D, hD⟩ : ∃ D : List (Tmp × SP), D = [(5, SP.bt (w.heap.size + 2) [3#8]), (6, SP.is (.slice (some ⟨w.heap.size, 0, none⟩) 32 32)), (7, SP.is (.slice (some ⟨w.heap.size + 1, 0, none⟩) 32 32)), (8, SP.l3 (w.heap.size + 2) [3#8] (.slice (some ⟨w.heap.size, 0, none⟩) 32 32) (.slice (some ⟨w.heap.size + 1, 0, none⟩) 32 32)), (9, SP.is (.agg (vB dd).toArray)), (1000, SP.any)] := ⟨_, rfl⟩
  refine wp_region_down (by kernel_rfl) (fun listed ac W => listed.size = 6 ∧ Fp D a0 listed ac W ∧ Below w.heap.size w W ∧ Row W w.heap.size (vB l) 29 ∧ Row W (w.heap.size + 1) (vB r) 29 ∧ Row W (w.heap.size + 2) (if listed.getD 5 false = true then (vB dd) else vB (List.replicate 32 0#8)) 29) ?_ ?_ ?_
  · exact ⟨by simp, Fp.start D a0 _ _, Below.drew hb1, Row.drew r0, Row.drew r1, (by rw [if_neg (fun h => start_no h)]; exact Row.drew r2)⟩
  · clear ha0 hb1 r0 r1 r2 
    intro listed ac W k hI hdn hk
    obtain ⟨hl, hF, hb1, r0, r1, r2⟩ := hI
    have hk1 : k < 6 := List.mem_range.1 (List.mem_filter.1 hk).1
    have hl2 : ∀ j, (listed.setIfInBounds j true).size = 6 := fun j => by rw [Array.size_setIfInBounds]; exact hl
    rcases (show k = 0 ∨ k = 1 ∨ k = 2 ∨ k = 3 ∨ k = 4 ∨ k = 5 by omega) with rfl | rfl | rfl | rfl | rfl | rfl
    · have hk3 := hk
      have hB : Below W.heap.size W (W.alloc (Obj.cells ((vB [3#8]) : List Value).toArray 5)) := (Below.refl _ _).alloc (Nat.le_refl _) _
      exact wpOp_plain rfl rfl (wp_build1 46 5 1 _ (vB [3#8]) rfl Tryd.underlying46 info_u8 zero_u8 rfl (by decide) (by decide) (fun v hv => by obtain rfl := List.mem_singleton.1 hv; rfl) rfl ⟨hl2 0, ((hF.world hB).put 0 5 (SP.bt (w.heap.size + 2) [3#8]) (.slice (some ⟨W.heap.size, 0, none⟩) 1 1) (by rw [hD]; rfl) (⟨W.heap.size, Nat.ne_of_gt (Row.lt r2), rfl, Row.new' rfl rfl⟩) (by rw [hD]; rfl) (by rw [hsz]; decide) (by rw [hl]; decide)), hb1.alloc hb1.size _, Row.alloc r0 _, Row.alloc r1 _, (by rw [getD_set _ _ _ (by decide)]; exact Row.alloc r2 _)⟩)
    · have hk3 := hk
      have e := ((hF.keep 2 (by rw [hD]; rfl)).trans s2)
      exact wpOp_plain rfl rfl (wp_slice_all 29 5 32 (.tmp 2) (w.heap.size) 0 rfl e Tryd.underlying29 info_u8 ⟨hl2 1, (hF.put 1 6 (SP.is (.slice (some ⟨w.heap.size, 0, none⟩) 32 32)) (.slice (some ⟨w.heap.size, 0, none⟩) 32 32) (by rw [hD]; rfl) rfl (by rw [hD]; rfl) (by rw [hsz]; decide) (by rw [hl]; decide)), hb1, r0, r1, (by rw [getD_set _ _ _ (by decide)]; exact r2)⟩)
    · have hk3 := hk
      have e := ((hF.keep 3 (by rw [hD]; rfl)).trans s3)
      exact wpOp_plain rfl rfl (wp_slice_all 29 5 32 (.tmp 3) (w.heap.size + 1) 0 rfl e Tryd.underlying29 info_u8 ⟨hl2 2, (hF.put 2 7 (SP.is (.slice (some ⟨w.heap.size + 1, 0, none⟩) 32 32)) (.slice (some ⟨w.heap.size + 1, 0, none⟩) 32 32) (by rw [hD]; rfl) rfl (by rw [hD]; rfl) (by rw [hsz]; decide) (by rw [hl]; decide)), hb1, r0, r1, (by rw [getD_set _ _ _ (by decide)]; exact r2)⟩)
    · have hk3 := hk
      have b5 := (hF.done 0 (5, SP.bt (w.heap.size + 2) [3#8]) (by rw [hD]; rfl) (ready_dep hk 0 (by kernel_rfl)))
      have e6 := (hF.done 1 (6, SP.is (.slice (some ⟨w.heap.size, 0, none⟩) 32 32)) (by rw [hD]; rfl) (ready_dep hk 1 (by kernel_rfl)))
      have e7 := (hF.done 2 (7, SP.is (.slice (some ⟨w.heap.size + 1, 0, none⟩) 32 32)) (by rw [hD]; rfl) (ready_dep hk 2 (by kernel_rfl)))
      have hB : Below W.heap.size W (W.alloc (Obj.cells ([ac.eval (.tmp 5), .slice (some ⟨w.heap.size, 0, none⟩) 32 32, .slice (some ⟨w.heap.size + 1, 0, none⟩) 32 32] : List Value).toArray 46)) := (Below.refl _ _).alloc (Nat.le_refl _) _
      exact wpOp_plain rfl rfl (wp_build1 74 46 3 _ [ac.eval (.tmp 5), .slice (some ⟨w.heap.size, 0, none⟩) 32 32, .slice (some ⟨w.heap.size + 1, 0, none⟩) 32 32] rfl Tryd.underlying74 info_slb zero_slb rfl (by decide) (by decide) (fun v hv => by rcases List.mem_cons.1 hv with rfl | hv; exact SP.bt_one b5; rcases List.mem_cons.1 hv with rfl | hv; rfl; obtain rfl := List.mem_singleton.1 hv; rfl) (by rw [← show ac.eval (.tmp 6) = _ from e6, ← show ac.eval (.tmp 7) = _ from e7]; rfl) ⟨hl2 3, ((hF.world hB).put 3 8 (SP.l3 (w.heap.size + 2) [3#8] (.slice (some ⟨w.heap.size, 0, none⟩) 32 32) (.slice (some ⟨w.heap.size + 1, 0, none⟩) 32 32)) (.slice (some ⟨W.heap.size, 0, none⟩) 3 3) (by rw [hD]; rfl) (⟨W.heap.size, _, Nat.ne_of_gt (Row.lt r2), rfl, Row.new' rfl rfl, (SP.bt (w.heap.size + 2) [3#8]).st _ _ _ hB b5⟩) (by rw [hD]; rfl) (by rw [hsz]; decide) (by rw [hl]; decide)), hb1.alloc hb1.size _, Row.alloc r0 _, Row.alloc r1 _, (by rw [getD_set _ _ _ (by decide)]; exact Row.alloc r2 _)⟩)
    · have hk3 := hk
      obtain ⟨N8, v0, hn8, e8, r8, b8⟩ := (hF.done 3 (8, SP.l3 (w.heap.size + 2) [3#8] (.slice (some ⟨w.heap.size, 0, none⟩) 32 32) (.slice (some ⟨w.heap.size + 1, 0, none⟩) 32 32)) (by rw [hD]; rfl) (ready_dep hk 3 (by kernel_rfl)))
      refine wpOp_plain rfl rfl (wp_fcall_v 70 #[.slice (some ⟨N8, 0, none⟩) 3 3] rfl rfl (by show [ac.eval (.tmp 8)] = _; simp only [e8]) (by go_simp) ((parts_three [3#8] l r dd HD.out v0 _ _ HN.out N8 3 W (HKL.out W hb1) (SP.bt_at b8) (slat_row r0 HL.out) (slat_row r1 HR.out) r8).mono ?_))
      rintro e W2 ⟨rfl, hB⟩
      exact ⟨_, rfl, hl2 4, ((hF.world hB).put 4 9 (SP.is (.agg (vB dd).toArray)) (.agg (vB dd).toArray) (by rw [hD]; rfl) rfl (by rw [hD]; rfl) (by rw [hsz]; decide) (by rw [hl]; decide)), hb1.trans (hB.mono hb1.size), Row.below r0 hB (Row.lt r0), Row.below r1 hB (Row.lt r1), (by rw [getD_set _ _ _ (by decide)]; exact Row.below r2 hB (Row.lt r2))⟩
    · have hk3 := hk
      have hno : ¬ listed.getD 5 false = true := not_yet hk
      rw [if_neg hno] at r2
      have T := r2.there 0 (vB dd).toArray.size (by simp [vB_length, HDL.out])
      have fin := r2.over (vs := (vB dd)) (by rw [vB_length, HDL.out]; rfl)
      have hT : Fp D a0 listed ac (W.setCells (w.heap.size + 2) 0 (vB dd)) := hF.turn (by rw [hD]; simp only [List.forall_mem_cons, List.not_mem_nil, false_implies, implies_true, and_true]; exact ⟨fun _ h => SP.bt_turn h _ _, fun _ h => h, fun _ h => h, fun _ h => SP.l3_turn h _ _, fun _ h => h, fun _ h => h⟩)
      exact wpOp_plain rfl rfl (wp_store_mid 29 (.tmp 4) (.tmp 9) rfl (w.heap.size + 2) 0 (vB dd).toArray ((hF.keep 4 (by rw [hD]; rfl)).trans s4) (hF.done 4 (9, SP.is (.agg (vB dd).toArray)) (by rw [hD]; rfl) (ready_dep hk 4 (by kernel_rfl))) T HI5.out (all_oneCell_toArray (vB_one dd)) ⟨hl2 5, (hT.skip 5 1000 (by rw [hD]; rfl) (by rw [hl]; decide)), below_setCells hb1 (by omega) _, Row.setCells_other r0 _ _ _ (by omega), Row.setCells_other r1 _ _ _ (by omega), (by rw [if_pos (getD_same (by rw [hl]; decide))]; exact fin)⟩)
  · clear hb1 r0 r1 r2 
    intro listed ac W hI hr
    obtain ⟨hl, hF, hb1, r0, r1, r2⟩ := hI
    have hall := all_listed (by kernel_rfl) hl hr
    rw [if_pos (hall 5 (by decide))] at r2
    obtain ⟨x5, h5⟩ : ∃ x, ac.eval (.tmp 5) = x := ⟨_, rfl⟩
    have h6 : ac.eval (.tmp 6) = .slice (some ⟨w.heap.size, 0, none⟩) 32 32 := hF.done 1 (6, SP.is (.slice (some ⟨w.heap.size, 0, none⟩) 32 32)) (by rw [hD]; rfl) (hall 1 (by decide))
    have h7 : ac.eval (.tmp 7) = .slice (some ⟨w.heap.size + 1, 0, none⟩) 32 32 := hF.done 2 (7, SP.is (.slice (some ⟨w.heap.size + 1, 0, none⟩) 32 32)) (by rw [hD]; rfl) (hall 2 (by decide))
    obtain ⟨x8, h8⟩ : ∃ x, ac.eval (.tmp 8) = x := ⟨_, rfl⟩
    have h9 : ac.eval (.tmp 9) = .agg (vB dd).toArray := hF.done 4 (9, SP.is (.agg (vB dd).toArray)) (by rw [hD]; rfl) (hall 4 (by decide))
    have ea := hF.lay [(5, x5), (6, .slice (some ⟨w.heap.size, 0, none⟩) 32 32), (7, .slice (some ⟨w.heap.size + 1, 0, none⟩) 32 32), (8, x8), (9, .agg (vB dd).toArray)] (by rw [hD, hsz]; rfl) (by simp only [List.forall_mem_cons, List.not_mem_nil, false_implies, implies_true, and_true]; exact ⟨h5, h6, h7, h8, h9⟩)
    rw [ha0] at ea
    simp only [List.foldl_cons, List.foldl_nil, List.setIfInBounds_toArray, List.set_cons_zero, List.set_cons_succ] at ea
    clear hF hall hr hl hD  s2 s3 s4 ha0 hsz h5 h6 h7 h8 h9
    subst ea
    go_wp2_with fail
    exact bodyPost_ret (results_row Tryd.results79 _ _ (w.heap.size + 2) 29 (vB dd) rfl r2 Tryd.underlying29 info_dig (by rw [vB_length, HDL.out])) rfl ⟨rfl, hb1⟩

set_option maxRecDepth 100000 in
set_option maxHeartbeats 4000000 in
theorem one_any (k v dd : List (BitVec 8)) (hk0 : k.length = 32) (hv0 : v.length = 32) (hd : dd = dig ([2#8] ++ (k ++ v))) (w : World) (hK : Tab w 3) :
    Calls Tryd.prog 50 #[.agg (vB (k ++ v)).toArray] w fun e w' => e = .returned (.agg (vB dd).toArray) ∧ Below w.heap.size w w' := by
  have HD : Hid (dd = dig ([2#8] ++ (k ++ v))) := hd
  have HDL : Hid (dd.length = 32) := by rw [hd]; exact dig_length _
  have HI5 : Hid ((Tryd.prog.info? 29).map (·.size) = some (vB dd).toArray.size) := by show _ = _; rw [info_dig]; simp [vB_length, HDL.out]
  have HL : Hid (k.length = 32) := hk0
  have HR : Hid (v.length = 32) := hv0
  have HN : Hid (([2#8] : List (BitVec 8)).length + (k.length + v.length) < 1152921504606846976) := by show _ < _; rw [hk0, hv0]; decide
  have HKL : Hid (∀ W, Below w.heap.size w W → Tab W 3) := fun W hB => hK.below hB hK.lt
  clear hd hk0 hv0 hK
  have hb1 : Below w.heap.size w ((w.alloc (Obj.cells (vB (k ++ v)).toArray 59)).alloc (Obj.cells (vB (List.replicate 32 0#8)).toArray 29)) := ((Below.refl _ _).alloc (Nat.le_refl _) _).alloc (by simp) _
  have r0 : Row ((w.alloc (Obj.cells (vB (k ++ v)).toArray 59)).alloc (Obj.cells (vB (List.replicate 32 0#8)).toArray 29)) (w.heap.size) (vB (k ++ v)) 59 := (Row.new w (vB (k ++ v)) _).alloc _
  have r2 : Row ((w.alloc (Obj.cells (vB (k ++ v)).toArray 59)).alloc (Obj.cells (vB (List.replicate 32 0#8)).toArray 29)) (w.heap.size + 1) (vB (List.replicate 32 0#8)) 29 := Row.new' (by simp) rfl
  go_enter Tryd.func50, Tryd.ntmps50
  go_wp2_with fail
  refine wp_named fun a0 ha0 => ?_
  have hsz : a0.tmps.size = 10 := by rw [ha0]; rfl
  have zs1 : a0.eval (.tmp 1) = .pointer (some ⟨w.heap.size, 0, none⟩) := by rw [ha0]; rfl
  have zs2 : a0.eval (.tmp 2) = .pointer (some ⟨w.heap.size + 1, 0, none⟩) := by rw [ha0]; rfl
  obtain ⟨D, hD⟩ : ∃ D : List (Tmp × SP), D = [(3, SP.bt (w.heap.size + 1) [2#8]), (4, SP.is (.pointer (some ⟨w.heap.size, 0, none⟩))), (5, SP.is (.slice (some ⟨w.heap.size, 0, none⟩) 32 32)), (6, SP.is (.pointer (some ⟨w.heap.size, 32, none⟩))), (7, SP.is (.slice (some ⟨w.heap.size, 32, none⟩) 32 32)), (8, SP.l3 (w.heap.size + 1) [2#8] (.slice (some ⟨w.heap.size, 0, none⟩) 32 32) (.slice (some ⟨w.heap.size, 32, none⟩) 32 32)), (9, SP.is (.agg (vB dd).toArray)), (1000, SP.any)] := ⟨_, rfl⟩
  refine wp_region_down (by kernel_rfl) (fun listed ac W => listed.size = 8 ∧ Fp D a0 listed ac W ∧ Below w.heap.size w W ∧ Row W w.heap.size (vB (k ++ v)) 59 ∧ Row W (w.heap.size + 1) (if listed.getD 7 false = true then (vB dd) else vB (List.replicate 32 0#8)) 29) ?_ ?_ ?_
  · exact ⟨by simp, Fp.start D a0 _ _, Below.drew hb1, Row.drew r0, (by rw [if_neg (fun h => start_no h)]; exact Row.drew r2)⟩
  · clear ha0 hb1 r0 r2 
    intro listed ac W k hI hdn hk
    obtain ⟨hl, hF, hb1, r0, r2⟩ := hI
    have hk1 : k < 8 := List.mem_range.1 (List.mem_filter.1 hk).1
    have hl2 : ∀ j, (listed.setIfInBounds j true).size = 8 := fun j => by rw [Array.size_setIfInBounds]; exact hl
    rcases (show k = 0 ∨ k = 1 ∨ k = 2 ∨ k = 3 ∨ k = 4 ∨ k = 5 ∨ k = 6 ∨ k = 7 by omega) with rfl | rfl | rfl | rfl | rfl | rfl | rfl | rfl
    · have hk3 := hk
      have hB : Below W.heap.size W (W.alloc (Obj.cells ((vB [2#8]) : List Value).toArray 5)) := (Below.refl _ _).alloc (Nat.le_refl _) _
      exact wpOp_plain rfl rfl (wp_build1 46 5 1 _ (vB [2#8]) rfl Tryd.underlying46 info_u8 zero_u8 rfl (by decide) (by decide) (fun v hv => by obtain rfl := List.mem_singleton.1 hv; rfl) rfl ⟨hl2 0, ((hF.world hB).put 0 3 (SP.bt (w.heap.size + 1) [2#8]) (.slice (some ⟨W.heap.size, 0, none⟩) 1 1) (by rw [hD]; rfl) (⟨W.heap.size, Nat.ne_of_gt (Row.lt r2), rfl, Row.new' rfl rfl⟩) (by rw [hD]; rfl) (by rw [hsz]; decide) (by rw [hl]; decide)), hb1.alloc hb1.size _, Row.alloc r0 _, (by rw [getD_set _ _ _ (by decide)]; exact Row.alloc r2 _)⟩)
    · have hk3 := hk
      have e := ((hF.keep 1 (by rw [hD]; rfl)).trans zs1)
      exact wpOp_plain rfl rfl (wp_bd0 rfl w.heap.size e ⟨hl2 1, (hF.put 1 4 (SP.is (.pointer (some ⟨w.heap.size, 0, none⟩))) (.pointer (some ⟨w.heap.size, 0, none⟩)) (by rw [hD]; rfl) rfl (by rw [hD]; rfl) (by rw [hsz]; decide) (by rw [hl]; decide)), hb1, r0, (by rw [getD_set _ _ _ (by decide)]; exact r2)⟩)
    · have hk3 := hk
      have e := (hF.done 1 (4, SP.is (.pointer (some ⟨w.heap.size, 0, none⟩))) (by rw [hD]; rfl) (ready_dep hk 1 (by kernel_rfl)))
      exact wpOp_plain rfl rfl (wp_slice_all 29 5 32 (.tmp 4) w.heap.size 0 rfl e Tryd.underlying29 info_u8 ⟨hl2 2, (hF.put 2 5 (SP.is (.slice (some ⟨w.heap.size, 0, none⟩) 32 32)) (.slice (some ⟨w.heap.size, 0, none⟩) 32 32) (by rw [hD]; rfl) rfl (by rw [hD]; rfl) (by rw [hsz]; decide) (by rw [hl]; decide)), hb1, r0, (by rw [getD_set _ _ _ (by decide)]; exact r2)⟩)
    · have hk3 := hk
      have e := ((hF.keep 1 (by rw [hD]; rfl)).trans zs1)
      exact wpOp_plain rfl rfl (wp_bd1 rfl w.heap.size e ⟨hl2 3, (hF.put 3 6 (SP.is (.pointer (some ⟨w.heap.size, 32, none⟩))) (.pointer (some ⟨w.heap.size, 32, none⟩)) (by rw [hD]; rfl) rfl (by rw [hD]; rfl) (by rw [hsz]; decide) (by rw [hl]; decide)), hb1, r0, (by rw [getD_set _ _ _ (by decide)]; exact r2)⟩)
    · have hk3 := hk
      have e := (hF.done 3 (6, SP.is (.pointer (some ⟨w.heap.size, 32, none⟩))) (by rw [hD]; rfl) (ready_dep hk 3 (by kernel_rfl)))
      exact wpOp_plain rfl rfl (wp_slice_all 29 5 32 (.tmp 6) w.heap.size 32 rfl e Tryd.underlying29 info_u8 ⟨hl2 4, (hF.put 4 7 (SP.is (.slice (some ⟨w.heap.size, 32, none⟩) 32 32)) (.slice (some ⟨w.heap.size, 32, none⟩) 32 32) (by rw [hD]; rfl) rfl (by rw [hD]; rfl) (by rw [hsz]; decide) (by rw [hl]; decide)), hb1, r0, (by rw [getD_set _ _ _ (by decide)]; exact r2)⟩)
    · have hk3 := hk
      have b5 := (hF.done 0 (3, SP.bt (w.heap.size + 1) [2#8]) (by rw [hD]; rfl) (ready_dep hk 0 (by kernel_rfl)))
      have e6 := (hF.done 2 (5, SP.is (.slice (some ⟨w.heap.size, 0, none⟩) 32 32)) (by rw [hD]; rfl) (ready_dep hk 2 (by kernel_rfl)))
      have e7 := (hF.done 4 (7, SP.is (.slice (some ⟨w.heap.size, 32, none⟩) 32 32)) (by rw [hD]; rfl) (ready_dep hk 4 (by kernel_rfl)))
      have hB : Below W.heap.size W (W.alloc (Obj.cells ([ac.eval (.tmp 3), .slice (some ⟨w.heap.size, 0, none⟩) 32 32, .slice (some ⟨w.heap.size, 32, none⟩) 32 32] : List Value).toArray 46)) := (Below.refl _ _).alloc (Nat.le_refl _) _
      exact wpOp_plain rfl rfl (wp_build1 74 46 3 _ [ac.eval (.tmp 3), .slice (some ⟨w.heap.size, 0, none⟩) 32 32, .slice (some ⟨w.heap.size, 32, none⟩) 32 32] rfl Tryd.underlying74 info_slb zero_slb rfl (by decide) (by decide) (fun v hv => by rcases List.mem_cons.1 hv with rfl | hv; exact SP.bt_one b5; rcases List.mem_cons.1 hv with rfl | hv; rfl; obtain rfl := List.mem_singleton.1 hv; rfl) (by rw [← show ac.eval (.tmp 5) = _ from e6, ← show ac.eval (.tmp 7) = _ from e7]; rfl) ⟨hl2 5, ((hF.world hB).put 5 8 (SP.l3 (w.heap.size + 1) [2#8] (.slice (some ⟨w.heap.size, 0, none⟩) 32 32) (.slice (some ⟨w.heap.size, 32, none⟩) 32 32)) (.slice (some ⟨W.heap.size, 0, none⟩) 3 3) (by rw [hD]; rfl) (⟨W.heap.size, _, Nat.ne_of_gt (Row.lt r2), rfl, Row.new' rfl rfl, (SP.bt (w.heap.size + 1) [2#8]).st _ _ _ hB b5⟩) (by rw [hD]; rfl) (by rw [hsz]; decide) (by rw [hl]; decide)), hb1.alloc hb1.size _, Row.alloc r0 _, (by rw [getD_set _ _ _ (by decide)]; exact Row.alloc r2 _)⟩)
    · have hk3 := hk
      obtain ⟨N8, v0, hn8, e8, r8, b8⟩ := (hF.done 5 (8, SP.l3 (w.heap.size + 1) [2#8] (.slice (some ⟨w.heap.size, 0, none⟩) 32 32) (.slice (some ⟨w.heap.size, 32, none⟩) 32 32)) (by rw [hD]; rfl) (ready_dep hk 5 (by kernel_rfl)))
      refine wpOp_plain rfl rfl (wp_fcall_v 70 #[.slice (some ⟨N8, 0, none⟩) 3 3] rfl rfl (by show [ac.eval (.tmp 8)] = _; simp only [e8]) (by go_simp) ((parts_three [2#8] k v dd HD.out v0 _ _ HN.out N8 3 W (HKL.out W hb1) (SP.bt_at b8) (slat_kv0 r0 HL.out HR.out) (slat_kv1 r0 HL.out HR.out) r8).mono ?_))
      rintro e W2 ⟨rfl, hB⟩
      exact ⟨_, rfl, hl2 6, ((hF.world hB).put 6 9 (SP.is (.agg (vB dd).toArray)) (.agg (vB dd).toArray) (by rw [hD]; rfl) rfl (by rw [hD]; rfl) (by rw [hsz]; decide) (by rw [hl]; decide)), hb1.trans (hB.mono hb1.size), Row.below r0 hB (Row.lt r0), (by rw [getD_set _ _ _ (by decide)]; exact Row.below r2 hB (Row.lt r2))⟩
    · have hk3 := hk
      have hno : ¬ listed.getD 7 false = true := not_yet hk
      rw [if_neg hno] at r2
      have T := r2.there 0 (vB dd).toArray.size (by simp [vB_length, HDL.out])
      have fin := r2.over (vs := (vB dd)) (by rw [vB_length, HDL.out]; rfl)
      have hT : Fp D a0 listed ac (W.setCells (w.heap.size + 1) 0 (vB dd)) := hF.turn (by rw [hD]; simp only [List.forall_mem_cons, List.not_mem_nil, false_implies, implies_true, and_true]; exact ⟨fun _ h => SP.bt_turn h _ _, fun _ h => h, fun _ h => h, fun _ h => h, fun _ h => h, fun _ h => SP.l3_turn h _ _, fun _ h => h, fun _ h => h⟩)
      exact wpOp_plain rfl rfl (wp_store_mid 29 (.tmp 2) (.tmp 9) rfl (w.heap.size + 1) 0 (vB dd).toArray ((hF.keep 2 (by rw [hD]; rfl)).trans zs2) (hF.done 6 (9, SP.is (.agg (vB dd).toArray)) (by rw [hD]; rfl) (ready_dep hk 6 (by kernel_rfl))) T HI5.out (all_oneCell_toArray (vB_one dd)) ⟨hl2 7, (hT.skip 7 1000 (by rw [hD]; rfl) (by rw [hl]; decide)), below_setCells hb1 (by omega) _, Row.setCells_other r0 _ _ _ (by omega), (by rw [if_pos (getD_same (by rw [hl]; decide))]; exact fin)⟩)
  · clear hb1 r0 r2 
    intro listed ac W hI hr
    obtain ⟨hl, hF, hb1, r0, r2⟩ := hI
    have hall := all_listed (by kernel_rfl) hl hr
    rw [if_pos (hall 7 (by decide))] at r2
    obtain ⟨x3, h3⟩ : ∃ x, ac.eval (.tmp 3) = x := ⟨_, rfl⟩
    have h4 : ac.eval (.tmp 4) = .pointer (some ⟨w.heap.size, 0, none⟩) := hF.done 1 (4, SP.is (.pointer (some ⟨w.heap.size, 0, none⟩))) (by rw [hD]; rfl) (hall 1 (by decide))
    have h5 : ac.eval (.tmp 5) = .slice (some ⟨w.heap.size, 0, none⟩) 32 32 := hF.done 2 (5, SP.is (.slice (some ⟨w.heap.size, 0, none⟩) 32 32)) (by rw [hD]; rfl) (hall 2 (by decide))
    have h6 : ac.eval (.tmp 6) = .pointer (some ⟨w.heap.size, 32, none⟩) := hF.done 3 (6, SP.is (.pointer (some ⟨w.heap.size, 32, none⟩))) (by rw [hD]; rfl) (hall 3 (by decide))
    have h7 : ac.eval (.tmp 7) = .slice (some ⟨w.heap.size, 32, none⟩) 32 32 := hF.done 4 (7, SP.is (.slice (some ⟨w.heap.size, 32, none⟩) 32 32)) (by rw [hD]; rfl) (hall 4 (by decide))
    obtain ⟨x8, h8⟩ : ∃ x, ac.eval (.tmp 8) = x := ⟨_, rfl⟩
    have h9 : ac.eval (.tmp 9) = .agg (vB dd).toArray := hF.done 6 (9, SP.is (.agg (vB dd).toArray)) (by rw [hD]; rfl) (hall 6 (by decide))
    have ea := hF.lay [(3, x3), (4, .pointer (some ⟨w.heap.size, 0, none⟩)), (5, .slice (some ⟨w.heap.size, 0, none⟩) 32 32), (6, .pointer (some ⟨w.heap.size, 32, none⟩)), (7, .slice (some ⟨w.heap.size, 32, none⟩) 32 32), (8, x8), (9, .agg (vB dd).toArray)] (by rw [hD, hsz]; rfl) (by simp only [List.forall_mem_cons, List.not_mem_nil, false_implies, implies_true, and_true]; exact ⟨h3, h4, h5, h6, h7, h8, h9⟩)
    rw [ha0] at ea
    simp only [List.foldl_cons, List.foldl_nil, List.setIfInBounds_toArray, List.set_cons_zero, List.set_cons_succ] at ea
    clear hF hall hr hl hD  zs1 zs2 ha0 hsz h3 h4 h5 h6 h7 h8 h9
    subst ea
    go_wp2_with fail
    exact bodyPost_ret (results_row Tryd.results50 _ _ (w.heap.size + 1) 29 (vB dd) rfl r2 Tryd.underlying29 info_dig (by rw [vB_length, HDL.out])) rfl ⟨rfl, hb1⟩

end Go.Proofs.YtfdgdmehgbmnkaaDoor
