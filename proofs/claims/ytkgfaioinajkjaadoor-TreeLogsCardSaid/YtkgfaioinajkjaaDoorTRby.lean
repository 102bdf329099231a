/-
  rootBy.
-/
import Derived.Test.YtkgfaioinajkjaaDoorTCut
namespace Go.Proofs.YtkgfaioinajkjaaDoor
open Go Go.RowKit
open Sha

section
variable {P : Program} {Q : Exit → Act → World → Prop} {o : Oper} {a : Act} {w : World} {K : Act → World → Prop}
theorem wp_sub_v {x y : Operand} {m n : Nat} (t yt : TypeId) (ho : o.op = .binOp .sub t x y yt) (hx : a.eval x = .int .i64 (m : Int)) (hy : a.eval y = .int .i64 (n : Int)) (hle : n ≤ m) (hm : m < 4611686018427387904) (h : K (a.put o.dst (.int .i64 ((m - n : Nat) : Int))) w) : Oper.wp P o a w K Q := by
  have e : (((m - n : Nat) : Nat) : Int) = (m : Int) - (n : Int) := by omega
  have e2 : IntKind.i64.wrap ((m : Int) - (n : Int)) = (m : Int) - (n : Int) := by
    rw [← e]
    generalize m - n = d at *
    simp [IntKind.wrap, IntKind.bits, IntKind.signed]
    omega
  rw [e] at h
  unfold Oper.wp execOp
  simp only [ho, hx, hy]
  simp [go_sem, e2]
  exact h
end

set_option maxRecDepth 100000 in
set_option maxHeartbeats 1000000 in
theorem rby_one (pv lv : Value) (i : Int) (d dd : List (BitVec 8)) (hd : dd = dig ([0#8] ++ d)) (hlen : d.length < 1152921504606846975) (w : World) (hK : Tab w 4) (hv : SlAt w lv d) :
    Calls Tryd.prog 39 #[pv, .int .i64 1, .int .i64 i, lv] w fun e w' => e = .returned (.agg (vB dd).toArray) ∧ Below w.heap.size w w' := by
  have HD : Hid (dd = dig ([0#8] ++ d)) := hd
  have HDL : Hid (dd.length = 32) := by rw [hd]; exact dig_length _
  have hi5 : (Tryd.prog.info? 42).map (·.size) = some (vB dd).toArray.size := by rw [info_dig]; simp [vB_length, HDL.out]
  have HV : Hid (SlAt w lv d) := hv
  clear hd hv
  go_enter Tryd.func39, Tryd.ntmps39
  go_wp2_with (first
    | (go_at_call 25; refine (leaf_any d dd HD.out hlen lv _ (hK.below ((Below.refl _ _).alloc (Nat.le_refl _) _) hK.lt) (HV.out.below ((Below.refl _ _).alloc (Nat.le_refl _) _) (Nat.le_refl _))).mono ?_; rintro e w2 ⟨rfl, hB2⟩)
    | (refine wpList_store_mid rfl 42 (.tmp 8) (.tmp 15) rfl w.heap.size 0 (vB dd).toArray rfl rfl (Row.there (Row.below (Row.new' (cs := vB (List.replicate 32 0#8)) rfl rfl) hB2 (by simp)) 0 _ (by simp [vB_length, HDL.out])) hi5 (all_oneCell_toArray (vB_one dd)) ?_))
  have q0 : Row w2 w.heap.size (vB (List.replicate 32 0#8)) 42 := Row.below (Row.new' rfl rfl) hB2 (by simp)
  have nf := q0.over (vs := vB dd) (by rw [vB_length, HDL.out]; rfl)
  have nB := below_setCells (((Below.refl _ _).alloc (Nat.le_refl _) _).trans (hB2.mono (by simp))) (b := w.heap.size) (o := 0) (Nat.le_refl _) (vB dd)
  exact bodyPost_ret (results_row Tryd.results39 _ _ w.heap.size 42 (vB dd) rfl nf Tryd.underlying42 info_dig (by rw [vB_length, HDL.out])) rfl ⟨rfl, nB⟩

set_option maxRecDepth 100000 in
set_option maxHeartbeats 4000000 in
theorem rby_left (n i k m cap b o : Nat) (h2 : 2 ≤ n) (hn : n < 4611686018427387904) (hin : i < n) (hk : fpart n = k) (hik : i < k) (lv : Value) (l s dd : List (BitVec 8)) (hl0 : l.length = 32) (hs0 : s.length = 32) (hd : dd = dig ([1#8] ++ (s ++ l))) (hc : m + 1 ≤ cap) (hm : m < 4611686018427387904) (w : World) (hK : Tab w 4) (hr : w.rangeAt b (o + m * 32) (vB l))
    (hS : ∀ W, Below w.heap.size w W → Calls Tryd.prog 39 #[.slice (some ⟨b, o, none⟩) m m, .int .i64 (k : Int), .int .i64 (i : Int), lv] W fun e w' => e = .returned (.agg (vB s).toArray) ∧ Below W.heap.size W w') :
    Calls Tryd.prog 39 #[.slice (some ⟨b, o, none⟩) (m + 1) cap, .int .i64 (n : Int), .int .i64 (i : Int), lv] w fun e w' => e = .returned (.agg (vB dd).toArray) ∧ Below w.heap.size w w' := by
  have HD : Hid (dd = dig ([1#8] ++ (s ++ l))) := hd
  have HDL : Hid (dd.length = 32) := by rw [hd]; exact dig_length _
  have HID : Hid ((Tryd.prog.info? 42).map (·.size) = some (vB dd).toArray.size) := by show _ = _; rw [info_dig]; simp [vB_length, HDL.out]
  have HL0 : Hid (l.length = 32) := hl0
  have HS0 : Hid (s.length = 32) := hs0
  have HI5 : Hid ((Tryd.prog.info? 42).map (·.size) = some (vB l).toArray.size) := by show _ = _; rw [info_dig]; simp [vB_length, hl0]
  have HIL : Hid ((Tryd.prog.info? 42).map (·.size) = some (vB l).length) := by show _ = _; rw [info_dig]; simp [vB_length, hl0]
  have HS : Hid (∀ W, _ → _) := hS
  have HKL : Hid (∀ W, Below w.heap.size w W → Tab W 4) := fun W hB => hK.below hB hK.lt
  have HCUT : Hid (∀ W, Below w.heap.size w W → _) := fun W hB => cut_any m cap b o l hl0 hc hm W (range_below hr hB (Nat.le_refl _))
  have HF : Hid (∀ w, _) := fun w => first_any n h2 hn w
  rw [hk] at HF
  have HKN : Hid (k ≤ n) := by show _ ≤ _; rw [← hk]; exact Nat.le_of_lt (fpart_bounds n h2 hn).1
  have n1 : ¬ (n : Int) = 1 := by omega
  have c1 : (i : Int) < (k : Int) := by omega
  have HN : Hid (n < 4611686018427387904) := hn
  have HIK : Hid (i < k) := hik
  have HIN : Hid (i < n) := hin
  clear hd hl0 hs0 hS hK hr hk h2 hn hc hm hik hin
  go_enter Tryd.func39, Tryd.ntmps39
  go_wp2_with (first
    | (go_at_call 49; refine (HCUT.out _ ((Below.refl _ _).alloc (Nat.le_refl _) _)).mono ?_; rintro e w2 ⟨rfl, hB2⟩)
    | (go_at_call 37; refine (HF.out _).mono ?_; rintro e w4 ⟨rfl, rfl⟩)
    | (refine wpList_store_mid rfl 42 (.tmp 10) (.tmp 20) rfl w2.heap.size 0 (vB l).toArray rfl rfl (Row.there (Row.new' (cs := (vB (List.replicate 32 0#8))) rfl rfl) 0 _ (by simp [vB_length, HL0.out])) HI5.out (all_oneCell_toArray (vB_one l)) ?_
       simp only [Act.put]
       have lt1 : w.heap.size < w2.heap.size := by have := hB2.size; simp at this; omega
       have r1 := Row.over (Row.new w2 (vB (List.replicate 32 0#8)) 42) (vs := vB l) (by rw [vB_length, HL0.out]; rfl)
       have r0 := Row.setCells_other (Row.alloc (Row.below (b := w.heap.size) (cs := (vB (List.replicate 32 0#8))) (t := 42) (Row.new' rfl rfl) hB2 (by simp)) (Obj.cells (vB (List.replicate 32 0#8)).toArray 42)) w2.heap.size 0 (vB l) (by omega)
       have hb1 := below_setCells ((((Below.refl w.heap.size w).alloc (Nat.le_refl _) (Obj.cells (vB (List.replicate 32 0#8)).toArray 42)).trans (hB2.mono (by simp))).alloc (by omega) (Obj.cells (vB (List.replicate 32 0#8)).toArray 42)) (b := w2.heap.size) (o := 0) (by omega) (vB l)
       change wpList _ _ _ _ _ (World.setCells (w2.alloc (Obj.cells (vB (List.replicate 32 0#8)).toArray 42)) w2.heap.size 0 (vB l))
       generalize World.setCells (w2.alloc (Obj.cells (vB (List.replicate 32 0#8)).toArray 42)) w2.heap.size 0 (vB l) = w3 at *
       clear hB2
       generalize w2.heap.size = N1 at *
       clear w2))
  refine wp_named fun a0 ha0 => ?_
  have hsz : a0.tmps.size = 44 := by rw [ha0]; rfl
  have s1 : a0.eval (.tmp 1) = .int .i64 (n : Int) := by rw [ha0]; rfl
  have s2 : a0.eval (.tmp 2) = .int .i64 (i : Int) := by rw [ha0]; rfl
  have s3 : a0.eval (.tmp 3) = lv := by rw [ha0]; rfl
  have s8 : a0.eval (.tmp 8) = .pointer (some ⟨w.heap.size, 0, none⟩) := by rw [ha0]; rfl
  have s9 : a0.eval (.tmp 9) = .slice (some ⟨b, o, none⟩) m m := by rw [ha0]; rfl
  have s10 : a0.eval (.tmp 10) = .pointer (some ⟨N1, 0, none⟩) := by rw [ha0]; rfl
  have s11 : a0.eval (.tmp 11) = .int .i64 (k : Int) := by rw [ha0]; rfl
  obtain ⟨D, hD⟩ : ∃ D : List (Tmp × SP), D = [(26, SP.is (.slice (some ⟨b, o, none⟩) m m)), (27, SP.is (.int .i64 (k : Int))), (28, SP.is (.int .i64 (i : Int))), (29, SP.is (lv)), (30, SP.is (.agg (vB s).toArray)), (31, SP.is (.agg (vB l).toArray)), (32, SP.is (.agg (vB dd).toArray)), (1000, SP.any)] := ⟨_, rfl⟩
  refine wp_region_down (by kernel_rfl) (fun listed ac W => listed.size = 8 ∧ Fp D a0 listed ac W ∧ Below w.heap.size w W ∧ Row W w.heap.size (if listed.getD 7 false = true then (vB dd) else vB (List.replicate 32 0#8)) 42 ∧ Row W N1 ((vB l)) 42) ?_ ?_ ?_
  · exact ⟨by simp, Fp.start D a0 _ _, Below.drew hb1, (by rw [if_neg (fun h => start_no h)]; exact Row.drew r0), Row.drew r1⟩
  · clear ha0 hb1 r0 r1 
    intro listed ac W k hI hdn hk
    obtain ⟨hl, hF, hb1, r0, r1⟩ := hI
    have hk1 : k < 8 := List.mem_range.1 (List.mem_filter.1 hk).1
    have hl2 : ∀ j, (listed.setIfInBounds j true).size = 8 := fun j => by rw [Array.size_setIfInBounds]; exact hl
    rcases (show k = 0 ∨ k = 1 ∨ k = 2 ∨ k = 3 ∨ k = 4 ∨ k = 5 ∨ k = 6 ∨ k = 7 by omega) with rfl | rfl | rfl | rfl | rfl | rfl | rfl | rfl
    · have hk3 := hk
      exact wpOp_plain rfl rfl (wp_move_v (ac.eval (.tmp 9)) rfl rfl ⟨hl2 0, (hF.put 0 26 (SP.is (.slice (some ⟨b, o, none⟩) m m)) (ac.eval (.tmp 9)) (by rw [hD]; rfl) (((hF.keep 9 (by rw [hD]; rfl)).trans s9)) (by rw [hD]; rfl) (by rw [hsz]; decide) (by rw [hl]; decide)), hb1, (by rw [getD_set _ _ _ (by decide)]; exact r0), r1⟩)
    · have hk3 := hk
      exact wpOp_plain rfl rfl (wp_move_v (ac.eval (.tmp 11)) rfl rfl ⟨hl2 1, (hF.put 1 27 (SP.is (.int .i64 (k : Int))) (ac.eval (.tmp 11)) (by rw [hD]; rfl) (((hF.keep 11 (by rw [hD]; rfl)).trans s11)) (by rw [hD]; rfl) (by rw [hsz]; decide) (by rw [hl]; decide)), hb1, (by rw [getD_set _ _ _ (by decide)]; exact r0), r1⟩)
    · have hk3 := hk
      exact wpOp_plain rfl rfl (wp_move_v (ac.eval (.tmp 2)) rfl rfl ⟨hl2 2, (hF.put 2 28 (SP.is (.int .i64 (i : Int))) (ac.eval (.tmp 2)) (by rw [hD]; rfl) (((hF.keep 2 (by rw [hD]; rfl)).trans s2)) (by rw [hD]; rfl) (by rw [hsz]; decide) (by rw [hl]; decide)), hb1, (by rw [getD_set _ _ _ (by decide)]; exact r0), r1⟩)
    · have hk3 := hk
      exact wpOp_plain rfl rfl (wp_move_v (ac.eval (.tmp 3)) rfl rfl ⟨hl2 3, (hF.put 3 29 (SP.is (lv)) (ac.eval (.tmp 3)) (by rw [hD]; rfl) (((hF.keep 3 (by rw [hD]; rfl)).trans s3)) (by rw [hD]; rfl) (by rw [hsz]; decide) (by rw [hl]; decide)), hb1, (by rw [getD_set _ _ _ (by decide)]; exact r0), r1⟩)
    · have hk3 := hk
      have ea := (hF.done 0 (26, SP.is (.slice (some ⟨b, o, none⟩) m m)) (by rw [hD]; rfl) (ready_dep hk 0 (by kernel_rfl)))
      have eb := (hF.done 1 (27, SP.is (.int .i64 (k : Int))) (by rw [hD]; rfl) (ready_dep hk 1 (by kernel_rfl)))
      have ec := (hF.done 2 (28, SP.is (.int .i64 (i : Int))) (by rw [hD]; rfl) (ready_dep hk 2 (by kernel_rfl)))
      have ed := (hF.done 3 (29, SP.is (lv)) (by rw [hD]; rfl) (ready_dep hk 3 (by kernel_rfl)))
      refine wpOp_plain rfl rfl (wp_fcall_v 39 #[.slice (some ⟨b, o, none⟩) m m, .int .i64 (k : Int), .int .i64 (i : Int), lv] rfl rfl (by show [ac.eval (.tmp 26), ac.eval (.tmp 27), ac.eval (.tmp 28), ac.eval (.tmp 29)] = _; rw [show ac.eval (.tmp 26) = _ from ea, show ac.eval (.tmp 27) = _ from eb, show ac.eval (.tmp 28) = _ from ec, show ac.eval (.tmp 29) = _ from ed]) (by go_simp) ((HS.out W hb1).mono ?_))
      rintro e W2 ⟨rfl, hB⟩
      exact ⟨_, rfl, hl2 4, ((hF.world hB).put 4 30 (SP.is (.agg (vB s).toArray)) (.agg (vB s).toArray) (by rw [hD]; rfl) rfl (by rw [hD]; rfl) (by rw [hsz]; decide) (by rw [hl]; decide)), hb1.trans (hB.mono hb1.size), (by rw [getD_set _ _ _ (by decide)]; exact Row.below r0 hB (Row.lt r0)), Row.below r1 hB (Row.lt r1)⟩
    · have hk3 := hk
      exact wpOp_plain rfl rfl (wp_load_mid 42 (.tmp 10) rfl N1 0 ((hF.keep 10 (by rw [hD]; rfl)).trans s10) ((vB l)) _ r1.all Tryd.underlying42 rfl HIL.out ⟨hl2 5, (hF.put 5 31 (SP.is (.agg (vB l).toArray)) (.agg (vB l).toArray) (by rw [hD]; rfl) rfl (by rw [hD]; rfl) (by rw [hsz]; decide) (by rw [hl]; decide)), hb1, (by rw [getD_set _ _ _ (by decide)]; exact r0), r1⟩)
    · have hk3 := hk
      have ea := (hF.done 4 (30, SP.is (.agg (vB s).toArray)) (by rw [hD]; rfl) (ready_dep hk 4 (by kernel_rfl)))
      have eb := (hF.done 5 (31, SP.is (.agg (vB l).toArray)) (by rw [hD]; rfl) (ready_dep hk 5 (by kernel_rfl)))
      refine wpOp_plain rfl rfl (wp_fcall_v 27 #[.agg (vB s).toArray, .agg (vB l).toArray] rfl rfl (by show [ac.eval (.tmp 30), ac.eval (.tmp 31)] = _; rw [show ac.eval (.tmp 30) = _ from ea, show ac.eval (.tmp 31) = _ from eb]) (by go_simp) ((node_any s l dd HS0.out HL0.out HD.out W (HKL.out W hb1)).mono ?_))
      rintro e W2 ⟨rfl, hB⟩
      exact ⟨_, rfl, hl2 6, ((hF.world hB).put 6 32 (SP.is (.agg (vB dd).toArray)) (.agg (vB dd).toArray) (by rw [hD]; rfl) rfl (by rw [hD]; rfl) (by rw [hsz]; decide) (by rw [hl]; decide)), hb1.trans (hB.mono hb1.size), (by rw [getD_set _ _ _ (by decide)]; exact Row.below r0 hB (Row.lt r0)), Row.below r1 hB (Row.lt r1)⟩
    · have hk3 := hk
      have hno : ¬ listed.getD 7 false = true := not_yet hk
      rw [if_neg hno] at r0
      have T := r0.there 0 (vB dd).toArray.size (by simp [vB_length, HDL.out])
      have fin := r0.over (vs := (vB dd)) (by rw [vB_length, HDL.out]; rfl)
      have hT : Fp D a0 listed ac (W.setCells w.heap.size 0 (vB dd)) := hF.turn (by rw [hD]; simp only [List.forall_mem_cons, List.not_mem_nil, false_implies, implies_true, and_true]; exact ⟨fun _ h => h, fun _ h => h, fun _ h => h, fun _ h => h, fun _ h => h, fun _ h => h, fun _ h => h, fun _ h => h⟩)
      exact wpOp_plain rfl rfl (wp_store_mid 42 (.tmp 8) (.tmp 32) rfl w.heap.size 0 (vB dd).toArray ((hF.keep 8 (by rw [hD]; rfl)).trans s8) (hF.done 6 (32, SP.is (.agg (vB dd).toArray)) (by rw [hD]; rfl) (ready_dep hk 6 (by kernel_rfl))) T HID.out (all_oneCell_toArray (vB_one dd)) ⟨hl2 7, (hT.skip 7 1000 (by rw [hD]; rfl) (by rw [hl]; decide)), below_setCells hb1 (by omega) _, (by rw [if_pos (getD_same (by rw [hl]; decide))]; exact fin), Row.setCells_other r1 _ _ _ (by omega)⟩)
  · clear hb1 r0 r1 
    intro listed ac W hI hr
    obtain ⟨hl, hF, hb1, r0, r1⟩ := hI
    have hall := all_listed (by kernel_rfl) hl hr
    rw [if_pos (hall 7 (by decide))] at r0
    have h26 : ac.eval (.tmp 26) = .slice (some ⟨b, o, none⟩) m m := hF.done 0 (26, SP.is (.slice (some ⟨b, o, none⟩) m m)) (by rw [hD]; rfl) (hall 0 (by decide))
    have h27 : ac.eval (.tmp 27) = .int .i64 (k : Int) := hF.done 1 (27, SP.is (.int .i64 (k : Int))) (by rw [hD]; rfl) (hall 1 (by decide))
    have h28 : ac.eval (.tmp 28) = .int .i64 (i : Int) := hF.done 2 (28, SP.is (.int .i64 (i : Int))) (by rw [hD]; rfl) (hall 2 (by decide))
    have h29 : ac.eval (.tmp 29) = lv := hF.done 3 (29, SP.is (lv)) (by rw [hD]; rfl) (hall 3 (by decide))
    have h30 : ac.eval (.tmp 30) = .agg (vB s).toArray := hF.done 4 (30, SP.is (.agg (vB s).toArray)) (by rw [hD]; rfl) (hall 4 (by decide))
    have h31 : ac.eval (.tmp 31) = .agg (vB l).toArray := hF.done 5 (31, SP.is (.agg (vB l).toArray)) (by rw [hD]; rfl) (hall 5 (by decide))
    have h32 : ac.eval (.tmp 32) = .agg (vB dd).toArray := hF.done 6 (32, SP.is (.agg (vB dd).toArray)) (by rw [hD]; rfl) (hall 6 (by decide))
    have ea := hF.lay [(26, .slice (some ⟨b, o, none⟩) m m), (27, .int .i64 (k : Int)), (28, .int .i64 (i : Int)), (29, lv), (30, .agg (vB s).toArray), (31, .agg (vB l).toArray), (32, .agg (vB dd).toArray)] (by rw [hD, hsz]; rfl) (by simp only [List.forall_mem_cons, List.not_mem_nil, false_implies, implies_true, and_true]; exact ⟨h26, h27, h28, h29, h30, h31, h32⟩)
    rw [ha0] at ea
    simp only [List.foldl_cons, List.foldl_nil, List.setIfInBounds_toArray, List.set_cons_zero, List.set_cons_succ] at ea
    clear hF hall hr hl hD  s1 s2 s3 s8 s9 s10 s11 ha0 hsz h26 h27 h28 h29 h30 h31 h32
    subst ea
    go_wp2_with fail
    exact bodyPost_ret (results_row Tryd.results39 _ _ w.heap.size 42 (vB dd) rfl r0 Tryd.underlying42 info_dig (by rw [vB_length, HDL.out])) rfl ⟨rfl, hb1⟩

set_option maxRecDepth 100000 in
set_option maxHeartbeats 4000000 in
theorem rby_right (n i k m cap b o : Nat) (h2 : 2 ≤ n) (hn : n < 4611686018427387904) (hin : i < n) (hk : fpart n = k) (hik : ¬ i < k) (lv : Value) (l s dd : List (BitVec 8)) (hl0 : l.length = 32) (hs0 : s.length = 32) (hd : dd = dig ([1#8] ++ (l ++ s))) (hc : m + 1 ≤ cap) (hm : m < 4611686018427387904) (w : World) (hK : Tab w 4) (hr : w.rangeAt b (o + m * 32) (vB l))
    (hS : ∀ W, Below w.heap.size w W → Calls Tryd.prog 39 #[.slice (some ⟨b, o, none⟩) m m, .int .i64 ((n - k : Nat) : Int), .int .i64 ((i - k : Nat) : Int), lv] W fun e w' => e = .returned (.agg (vB s).toArray) ∧ Below W.heap.size W w') :
    Calls Tryd.prog 39 #[.slice (some ⟨b, o, none⟩) (m + 1) cap, .int .i64 (n : Int), .int .i64 (i : Int), lv] w fun e w' => e = .returned (.agg (vB dd).toArray) ∧ Below w.heap.size w w' := by
  have HD : Hid (dd = dig ([1#8] ++ (l ++ s))) := hd
  have HDL : Hid (dd.length = 32) := by rw [hd]; exact dig_length _
  have HID : Hid ((Tryd.prog.info? 42).map (·.size) = some (vB dd).toArray.size) := by show _ = _; rw [info_dig]; simp [vB_length, HDL.out]
  have HL0 : Hid (l.length = 32) := hl0
  have HS0 : Hid (s.length = 32) := hs0
  have HI5 : Hid ((Tryd.prog.info? 42).map (·.size) = some (vB l).toArray.size) := by show _ = _; rw [info_dig]; simp [vB_length, hl0]
  have HIL : Hid ((Tryd.prog.info? 42).map (·.size) = some (vB l).length) := by show _ = _; rw [info_dig]; simp [vB_length, hl0]
  have HS : Hid (∀ W, _ → _) := hS
  have HKL : Hid (∀ W, Below w.heap.size w W → Tab W 4) := fun W hB => hK.below hB hK.lt
  have HCUT : Hid (∀ W, Below w.heap.size w W → _) := fun W hB => cut_any m cap b o l hl0 hc hm W (range_below hr hB (Nat.le_refl _))
  have HF : Hid (∀ w, _) := fun w => first_any n h2 hn w
  rw [hk] at HF
  have HKN : Hid (k ≤ n) := by show _ ≤ _; rw [← hk]; exact Nat.le_of_lt (fpart_bounds n h2 hn).1
  have n1 : ¬ (n : Int) = 1 := by omega
  have c1 : ¬ (i : Int) < (k : Int) := by omega
  have HN : Hid (n < 4611686018427387904) := hn
  have HIK : Hid (¬ i < k) := hik
  have HIN : Hid (i < n) := hin
  clear hd hl0 hs0 hS hK hr hk h2 hn hc hm hik hin
  go_enter Tryd.func39, Tryd.ntmps39
  go_wp2_with (first
    | (go_at_call 49; refine (HCUT.out _ ((Below.refl _ _).alloc (Nat.le_refl _) _)).mono ?_; rintro e w2 ⟨rfl, hB2⟩)
    | (go_at_call 37; refine (HF.out _).mono ?_; rintro e w4 ⟨rfl, rfl⟩)
    | (refine wpList_store_mid rfl 42 (.tmp 10) (.tmp 20) rfl w2.heap.size 0 (vB l).toArray rfl rfl (Row.there (Row.new' (cs := (vB (List.replicate 32 0#8))) rfl rfl) 0 _ (by simp [vB_length, HL0.out])) HI5.out (all_oneCell_toArray (vB_one l)) ?_
       simp only [Act.put]
       have lt1 : w.heap.size < w2.heap.size := by have := hB2.size; simp at this; omega
       have r1 := Row.over (Row.new w2 (vB (List.replicate 32 0#8)) 42) (vs := vB l) (by rw [vB_length, HL0.out]; rfl)
       have r0 := Row.setCells_other (Row.alloc (Row.below (b := w.heap.size) (cs := (vB (List.replicate 32 0#8))) (t := 42) (Row.new' rfl rfl) hB2 (by simp)) (Obj.cells (vB (List.replicate 32 0#8)).toArray 42)) w2.heap.size 0 (vB l) (by omega)
       have hb1 := below_setCells ((((Below.refl w.heap.size w).alloc (Nat.le_refl _) (Obj.cells (vB (List.replicate 32 0#8)).toArray 42)).trans (hB2.mono (by simp))).alloc (by omega) (Obj.cells (vB (List.replicate 32 0#8)).toArray 42)) (b := w2.heap.size) (o := 0) (by omega) (vB l)
       change wpList _ _ _ _ _ (World.setCells (w2.alloc (Obj.cells (vB (List.replicate 32 0#8)).toArray 42)) w2.heap.size 0 (vB l))
       generalize World.setCells (w2.alloc (Obj.cells (vB (List.replicate 32 0#8)).toArray 42)) w2.heap.size 0 (vB l) = w3 at *
       clear hB2
       generalize w2.heap.size = N1 at *
       clear w2))
  refine wp_named fun a0 ha0 => ?_
  have hsz : a0.tmps.size = 44 := by rw [ha0]; rfl
  have s1 : a0.eval (.tmp 1) = .int .i64 (n : Int) := by rw [ha0]; rfl
  have s2 : a0.eval (.tmp 2) = .int .i64 (i : Int) := by rw [ha0]; rfl
  have s3 : a0.eval (.tmp 3) = lv := by rw [ha0]; rfl
  have s8 : a0.eval (.tmp 8) = .pointer (some ⟨w.heap.size, 0, none⟩) := by rw [ha0]; rfl
  have s9 : a0.eval (.tmp 9) = .slice (some ⟨b, o, none⟩) m m := by rw [ha0]; rfl
  have s10 : a0.eval (.tmp 10) = .pointer (some ⟨N1, 0, none⟩) := by rw [ha0]; rfl
  have s11 : a0.eval (.tmp 11) = .int .i64 (k : Int) := by rw [ha0]; rfl
  obtain ⟨D, hD⟩ : ∃ D : List (Tmp × SP), D = [(33, SP.is (.agg (vB l).toArray)), (34, SP.is (.slice (some ⟨b, o, none⟩) m m)), (35, SP.is (.int .i64 (n : Int))), (36, SP.is (.int .i64 (k : Int))), (37, SP.is (.int .i64 ((n - k : Nat) : Int))), (38, SP.is (.int .i64 (i : Int))), (39, SP.is (.int .i64 (k : Int))), (40, SP.is (.int .i64 ((i - k : Nat) : Int))), (41, SP.is (lv)), (42, SP.is (.agg (vB s).toArray)), (43, SP.is (.agg (vB dd).toArray)), (1000, SP.any)] := ⟨_, rfl⟩
  refine wp_region_down (by kernel_rfl) (fun listed ac W => listed.size = 12 ∧ Fp D a0 listed ac W ∧ Below w.heap.size w W ∧ Row W w.heap.size (if listed.getD 11 false = true then (vB dd) else vB (List.replicate 32 0#8)) 42 ∧ Row W N1 ((vB l)) 42) ?_ ?_ ?_
  · exact ⟨by simp, Fp.start D a0 _ _, Below.drew hb1, (by rw [if_neg (fun h => start_no h)]; exact Row.drew r0), Row.drew r1⟩
  · clear ha0 hb1 r0 r1 
    intro listed ac W k hI hdn hk
    obtain ⟨hl, hF, hb1, r0, r1⟩ := hI
    have hk1 : k < 12 := List.mem_range.1 (List.mem_filter.1 hk).1
    have hl2 : ∀ j, (listed.setIfInBounds j true).size = 12 := fun j => by rw [Array.size_setIfInBounds]; exact hl
    rcases (show k = 0 ∨ k = 1 ∨ k = 2 ∨ k = 3 ∨ k = 4 ∨ k = 5 ∨ k = 6 ∨ k = 7 ∨ k = 8 ∨ k = 9 ∨ k = 10 ∨ k = 11 by omega) with rfl | rfl | rfl | rfl | rfl | rfl | rfl | rfl | rfl | rfl | rfl | rfl
    · have hk3 := hk
      exact wpOp_plain rfl rfl (wp_load_mid 42 (.tmp 10) rfl N1 0 ((hF.keep 10 (by rw [hD]; rfl)).trans s10) ((vB l)) _ r1.all Tryd.underlying42 rfl HIL.out ⟨hl2 0, (hF.put 0 33 (SP.is (.agg (vB l).toArray)) (.agg (vB l).toArray) (by rw [hD]; rfl) rfl (by rw [hD]; rfl) (by rw [hsz]; decide) (by rw [hl]; decide)), hb1, (by rw [getD_set _ _ _ (by decide)]; exact r0), r1⟩)
    · have hk3 := hk
      exact wpOp_plain rfl rfl (wp_move_v (ac.eval (.tmp 9)) rfl rfl ⟨hl2 1, (hF.put 1 34 (SP.is (.slice (some ⟨b, o, none⟩) m m)) (ac.eval (.tmp 9)) (by rw [hD]; rfl) (((hF.keep 9 (by rw [hD]; rfl)).trans s9)) (by rw [hD]; rfl) (by rw [hsz]; decide) (by rw [hl]; decide)), hb1, (by rw [getD_set _ _ _ (by decide)]; exact r0), r1⟩)
    · have hk3 := hk
      exact wpOp_plain rfl rfl (wp_move_v (ac.eval (.tmp 1)) rfl rfl ⟨hl2 2, (hF.put 2 35 (SP.is (.int .i64 (n : Int))) (ac.eval (.tmp 1)) (by rw [hD]; rfl) (((hF.keep 1 (by rw [hD]; rfl)).trans s1)) (by rw [hD]; rfl) (by rw [hsz]; decide) (by rw [hl]; decide)), hb1, (by rw [getD_set _ _ _ (by decide)]; exact r0), r1⟩)
    · have hk3 := hk
      exact wpOp_plain rfl rfl (wp_move_v (ac.eval (.tmp 11)) rfl rfl ⟨hl2 3, (hF.put 3 36 (SP.is (.int .i64 (k : Int))) (ac.eval (.tmp 11)) (by rw [hD]; rfl) (((hF.keep 11 (by rw [hD]; rfl)).trans s11)) (by rw [hD]; rfl) (by rw [hsz]; decide) (by rw [hl]; decide)), hb1, (by rw [getD_set _ _ _ (by decide)]; exact r0), r1⟩)
    · have hk3 := hk
      have ea := (hF.done 2 (35, SP.is (.int .i64 (n : Int))) (by rw [hD]; rfl) (ready_dep hk 2 (by kernel_rfl)))
      have eb := (hF.done 3 (36, SP.is (.int .i64 (k : Int))) (by rw [hD]; rfl) (ready_dep hk 3 (by kernel_rfl)))
      exact wpOp_plain rfl rfl (wp_sub_v _ _ rfl ea eb HKN.out HN.out ⟨hl2 4, (hF.put 4 37 (SP.is (.int .i64 ((n - k : Nat) : Int))) (.int .i64 ((n - k : Nat) : Int)) (by rw [hD]; rfl) rfl (by rw [hD]; rfl) (by rw [hsz]; decide) (by rw [hl]; decide)), hb1, (by rw [getD_set _ _ _ (by decide)]; exact r0), r1⟩)
    · have hk3 := hk
      exact wpOp_plain rfl rfl (wp_move_v (ac.eval (.tmp 2)) rfl rfl ⟨hl2 5, (hF.put 5 38 (SP.is (.int .i64 (i : Int))) (ac.eval (.tmp 2)) (by rw [hD]; rfl) (((hF.keep 2 (by rw [hD]; rfl)).trans s2)) (by rw [hD]; rfl) (by rw [hsz]; decide) (by rw [hl]; decide)), hb1, (by rw [getD_set _ _ _ (by decide)]; exact r0), r1⟩)
    · have hk3 := hk
      exact wpOp_plain rfl rfl (wp_move_v (ac.eval (.tmp 11)) rfl rfl ⟨hl2 6, (hF.put 6 39 (SP.is (.int .i64 (k : Int))) (ac.eval (.tmp 11)) (by rw [hD]; rfl) (((hF.keep 11 (by rw [hD]; rfl)).trans s11)) (by rw [hD]; rfl) (by rw [hsz]; decide) (by rw [hl]; decide)), hb1, (by rw [getD_set _ _ _ (by decide)]; exact r0), r1⟩)
    · have hk3 := hk
      have ea := (hF.done 5 (38, SP.is (.int .i64 (i : Int))) (by rw [hD]; rfl) (ready_dep hk 5 (by kernel_rfl)))
      have eb := (hF.done 6 (39, SP.is (.int .i64 (k : Int))) (by rw [hD]; rfl) (ready_dep hk 6 (by kernel_rfl)))
      exact wpOp_plain rfl rfl (wp_sub_v _ _ rfl ea eb (Nat.le_of_not_lt HIK.out) (Nat.lt_trans HIN.out HN.out) ⟨hl2 7, (hF.put 7 40 (SP.is (.int .i64 ((i - k : Nat) : Int))) (.int .i64 ((i - k : Nat) : Int)) (by rw [hD]; rfl) rfl (by rw [hD]; rfl) (by rw [hsz]; decide) (by rw [hl]; decide)), hb1, (by rw [getD_set _ _ _ (by decide)]; exact r0), r1⟩)
    · have hk3 := hk
      exact wpOp_plain rfl rfl (wp_move_v (ac.eval (.tmp 3)) rfl rfl ⟨hl2 8, (hF.put 8 41 (SP.is (lv)) (ac.eval (.tmp 3)) (by rw [hD]; rfl) (((hF.keep 3 (by rw [hD]; rfl)).trans s3)) (by rw [hD]; rfl) (by rw [hsz]; decide) (by rw [hl]; decide)), hb1, (by rw [getD_set _ _ _ (by decide)]; exact r0), r1⟩)
    · have hk3 := hk
      have ea := (hF.done 1 (34, SP.is (.slice (some ⟨b, o, none⟩) m m)) (by rw [hD]; rfl) (ready_dep hk 1 (by kernel_rfl)))
      have eb := (hF.done 4 (37, SP.is (.int .i64 ((n - k : Nat) : Int))) (by rw [hD]; rfl) (ready_dep hk 4 (by kernel_rfl)))
      have ec := (hF.done 7 (40, SP.is (.int .i64 ((i - k : Nat) : Int))) (by rw [hD]; rfl) (ready_dep hk 7 (by kernel_rfl)))
      have ed := (hF.done 8 (41, SP.is (lv)) (by rw [hD]; rfl) (ready_dep hk 8 (by kernel_rfl)))
      refine wpOp_plain rfl rfl (wp_fcall_v 39 #[.slice (some ⟨b, o, none⟩) m m, .int .i64 ((n - k : Nat) : Int), .int .i64 ((i - k : Nat) : Int), lv] rfl rfl (by show [ac.eval (.tmp 34), ac.eval (.tmp 37), ac.eval (.tmp 40), ac.eval (.tmp 41)] = _; rw [show ac.eval (.tmp 34) = _ from ea, show ac.eval (.tmp 37) = _ from eb, show ac.eval (.tmp 40) = _ from ec, show ac.eval (.tmp 41) = _ from ed]) (by go_simp) ((HS.out W hb1).mono ?_))
      rintro e W2 ⟨rfl, hB⟩
      exact ⟨_, rfl, hl2 9, ((hF.world hB).put 9 42 (SP.is (.agg (vB s).toArray)) (.agg (vB s).toArray) (by rw [hD]; rfl) rfl (by rw [hD]; rfl) (by rw [hsz]; decide) (by rw [hl]; decide)), hb1.trans (hB.mono hb1.size), (by rw [getD_set _ _ _ (by decide)]; exact Row.below r0 hB (Row.lt r0)), Row.below r1 hB (Row.lt r1)⟩
    · have hk3 := hk
      have ea := (hF.done 0 (33, SP.is (.agg (vB l).toArray)) (by rw [hD]; rfl) (ready_dep hk 0 (by kernel_rfl)))
      have eb := (hF.done 9 (42, SP.is (.agg (vB s).toArray)) (by rw [hD]; rfl) (ready_dep hk 9 (by kernel_rfl)))
      refine wpOp_plain rfl rfl (wp_fcall_v 27 #[.agg (vB l).toArray, .agg (vB s).toArray] rfl rfl (by show [ac.eval (.tmp 33), ac.eval (.tmp 42)] = _; rw [show ac.eval (.tmp 33) = _ from ea, show ac.eval (.tmp 42) = _ from eb]) (by go_simp) ((node_any l s dd HL0.out HS0.out HD.out W (HKL.out W hb1)).mono ?_))
      rintro e W2 ⟨rfl, hB⟩
      exact ⟨_, rfl, hl2 10, ((hF.world hB).put 10 43 (SP.is (.agg (vB dd).toArray)) (.agg (vB dd).toArray) (by rw [hD]; rfl) rfl (by rw [hD]; rfl) (by rw [hsz]; decide) (by rw [hl]; decide)), hb1.trans (hB.mono hb1.size), (by rw [getD_set _ _ _ (by decide)]; exact Row.below r0 hB (Row.lt r0)), Row.below r1 hB (Row.lt r1)⟩
    · have hk3 := hk
      have hno : ¬ listed.getD 11 false = true := not_yet hk
      rw [if_neg hno] at r0
      have T := r0.there 0 (vB dd).toArray.size (by simp [vB_length, HDL.out])
      have fin := r0.over (vs := (vB dd)) (by rw [vB_length, HDL.out]; rfl)
      have hT : Fp D a0 listed ac (W.setCells w.heap.size 0 (vB dd)) := hF.turn (by rw [hD]; simp only [List.forall_mem_cons, List.not_mem_nil, false_implies, implies_true, and_true]; exact ⟨fun _ h => h, fun _ h => h, fun _ h => h, fun _ h => h, fun _ h => h, fun _ h => h, fun _ h => h, fun _ h => h, fun _ h => h, fun _ h => h, fun _ h => h, fun _ h => h⟩)
      exact wpOp_plain rfl rfl (wp_store_mid 42 (.tmp 8) (.tmp 43) rfl w.heap.size 0 (vB dd).toArray ((hF.keep 8 (by rw [hD]; rfl)).trans s8) (hF.done 10 (43, SP.is (.agg (vB dd).toArray)) (by rw [hD]; rfl) (ready_dep hk 10 (by kernel_rfl))) T HID.out (all_oneCell_toArray (vB_one dd)) ⟨hl2 11, (hT.skip 11 1000 (by rw [hD]; rfl) (by rw [hl]; decide)), below_setCells hb1 (by omega) _, (by rw [if_pos (getD_same (by rw [hl]; decide))]; exact fin), Row.setCells_other r1 _ _ _ (by omega)⟩)
  · clear hb1 r0 r1 
    intro listed ac W hI hr
    obtain ⟨hl, hF, hb1, r0, r1⟩ := hI
    have hall := all_listed (by kernel_rfl) hl hr
    rw [if_pos (hall 11 (by decide))] at r0
    have h33 : ac.eval (.tmp 33) = .agg (vB l).toArray := hF.done 0 (33, SP.is (.agg (vB l).toArray)) (by rw [hD]; rfl) (hall 0 (by decide))
    have h34 : ac.eval (.tmp 34) = .slice (some ⟨b, o, none⟩) m m := hF.done 1 (34, SP.is (.slice (some ⟨b, o, none⟩) m m)) (by rw [hD]; rfl) (hall 1 (by decide))
    have h35 : ac.eval (.tmp 35) = .int .i64 (n : Int) := hF.done 2 (35, SP.is (.int .i64 (n : Int))) (by rw [hD]; rfl) (hall 2 (by decide))
    have h36 : ac.eval (.tmp 36) = .int .i64 (k : Int) := hF.done 3 (36, SP.is (.int .i64 (k : Int))) (by rw [hD]; rfl) (hall 3 (by decide))
    have h37 : ac.eval (.tmp 37) = .int .i64 ((n - k : Nat) : Int) := hF.done 4 (37, SP.is (.int .i64 ((n - k : Nat) : Int))) (by rw [hD]; rfl) (hall 4 (by decide))
    have h38 : ac.eval (.tmp 38) = .int .i64 (i : Int) := hF.done 5 (38, SP.is (.int .i64 (i : Int))) (by rw [hD]; rfl) (hall 5 (by decide))
    have h39 : ac.eval (.tmp 39) = .int .i64 (k : Int) := hF.done 6 (39, SP.is (.int .i64 (k : Int))) (by rw [hD]; rfl) (hall 6 (by decide))
    have h40 : ac.eval (.tmp 40) = .int .i64 ((i - k : Nat) : Int) := hF.done 7 (40, SP.is (.int .i64 ((i - k : Nat) : Int))) (by rw [hD]; rfl) (hall 7 (by decide))
    have h41 : ac.eval (.tmp 41) = lv := hF.done 8 (41, SP.is (lv)) (by rw [hD]; rfl) (hall 8 (by decide))
    have h42 : ac.eval (.tmp 42) = .agg (vB s).toArray := hF.done 9 (42, SP.is (.agg (vB s).toArray)) (by rw [hD]; rfl) (hall 9 (by decide))
    have h43 : ac.eval (.tmp 43) = .agg (vB dd).toArray := hF.done 10 (43, SP.is (.agg (vB dd).toArray)) (by rw [hD]; rfl) (hall 10 (by decide))
    have ea := hF.lay [(33, .agg (vB l).toArray), (34, .slice (some ⟨b, o, none⟩) m m), (35, .int .i64 (n : Int)), (36, .int .i64 (k : Int)), (37, .int .i64 ((n - k : Nat) : Int)), (38, .int .i64 (i : Int)), (39, .int .i64 (k : Int)), (40, .int .i64 ((i - k : Nat) : Int)), (41, lv), (42, .agg (vB s).toArray), (43, .agg (vB dd).toArray)] (by rw [hD, hsz]; rfl) (by simp only [List.forall_mem_cons, List.not_mem_nil, false_implies, implies_true, and_true]; exact ⟨h33, h34, h35, h36, h37, h38, h39, h40, h41, h42, h43⟩)
    rw [ha0] at ea
    simp only [List.foldl_cons, List.foldl_nil, List.setIfInBounds_toArray, List.set_cons_zero, List.set_cons_succ] at ea
    clear hF hall hr hl hD  s1 s2 s3 s8 s9 s10 s11 ha0 hsz h33 h34 h35 h36 h37 h38 h39 h40 h41 h42 h43
    subst ea
    go_wp2_with fail
    exact bodyPost_ret (results_row Tryd.results39 _ _ w.heap.size 42 (vB dd) rfl r0 Tryd.underlying42 info_dig (by rw [vB_length, HDL.out])) rfl ⟨rfl, hb1⟩

end Go.Proofs.YtkgfaioinajkjaaDoor
