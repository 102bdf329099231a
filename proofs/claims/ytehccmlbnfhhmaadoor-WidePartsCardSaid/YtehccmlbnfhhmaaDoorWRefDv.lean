/-
  causewayref02.Div.
-/
import Derived.Test.YtehccmlbnfhhmaaDoorWBy
import Derived.Test.YtehccmlbnfhhmaaDoorWRef
import Derived.Test.YtehccmlbnfhhmaaDoorWFd
import Derived.Test.YtehccmlbnfhhmaaDoorWDivv
namespace Go.Proofs.YtehccmlbnfhhmaaDoor
open Go Go.RowKit
open Wd

set_option maxRecDepth 100000 in
set_option maxHeartbeats 8000000 in
theorem refDiv_zero (a b : Nat) (hb : b < 2 ^ 256) (hz : b = 0) (w : World) :
    Calls Tryd.prog 17 #[.agg (vQ (dgs a 4)).toArray, .agg (vQ (dgs b 4)).toArray] w fun e w' => e = .returned (.tuple #[.agg (vQ (dgs 0 4)).toArray, .agg (vQ (dgs 0 4)).toArray, .int .i64 24]) ∧ Below w.heap.size w w' := by
  have HIZ : Hid (∀ w, _) := fun w => refIsZero_any b hb w
  rw [show decide (b = 0) = true from decide_eq_true hz] at HIZ
  obtain ⟨ca, Ha⟩ : ∃ x, Wc x a := ⟨_, rfl⟩
  obtain ⟨cb, Hb⟩ : ∃ x, Wc x b := ⟨_, rfl⟩
  rw [← show ca = vQ (dgs a 4) from Ha]
  rw [← show cb = vQ (dgs b 4) from Hb] at HIZ ⊢
  clear hb hz
  have hb1 : Below w.heap.size w ((((w.alloc (Obj.cells ca.toArray 24)).alloc (Obj.cells cb.toArray 24)).alloc (Obj.cells #[Value.int IntKind.u64 0, Value.int IntKind.u64 0, Value.int IntKind.u64 0, Value.int IntKind.u64 0] 24)).alloc (Obj.cells #[Value.int IntKind.u64 0, Value.int IntKind.u64 0, Value.int IntKind.u64 0, Value.int IntKind.u64 0] 24)) := ((((Below.refl _ _).alloc (Nat.le_refl _) _).alloc (by simp) _).alloc (by simp; omega) _).alloc (by simp; omega) _
  have r0 : Row ((((w.alloc (Obj.cells ca.toArray 24)).alloc (Obj.cells cb.toArray 24)).alloc (Obj.cells #[Value.int IntKind.u64 0, Value.int IntKind.u64 0, Value.int IntKind.u64 0, Value.int IntKind.u64 0] 24)).alloc (Obj.cells #[Value.int IntKind.u64 0, Value.int IntKind.u64 0, Value.int IntKind.u64 0, Value.int IntKind.u64 0] 24)) w.heap.size ca 24 := (((Row.new w ca _).alloc _).alloc _).alloc _
  have r1 : Row ((((w.alloc (Obj.cells ca.toArray 24)).alloc (Obj.cells cb.toArray 24)).alloc (Obj.cells #[Value.int IntKind.u64 0, Value.int IntKind.u64 0, Value.int IntKind.u64 0, Value.int IntKind.u64 0] 24)).alloc (Obj.cells #[Value.int IntKind.u64 0, Value.int IntKind.u64 0, Value.int IntKind.u64 0, Value.int IntKind.u64 0] 24)) (w.heap.size + 1) cb 24 := ((Row.new' (by simp) rfl).alloc _).alloc _
  have r2 : Row ((((w.alloc (Obj.cells ca.toArray 24)).alloc (Obj.cells cb.toArray 24)).alloc (Obj.cells #[Value.int IntKind.u64 0, Value.int IntKind.u64 0, Value.int IntKind.u64 0, Value.int IntKind.u64 0] 24)).alloc (Obj.cells #[Value.int IntKind.u64 0, Value.int IntKind.u64 0, Value.int IntKind.u64 0, Value.int IntKind.u64 0] 24)) (w.heap.size + 2) (vQ (List.replicate 4 0)) 24 := (Row.new' (by simp) rfl).alloc _
  have r3 : Row ((((w.alloc (Obj.cells ca.toArray 24)).alloc (Obj.cells cb.toArray 24)).alloc (Obj.cells #[Value.int IntKind.u64 0, Value.int IntKind.u64 0, Value.int IntKind.u64 0, Value.int IntKind.u64 0] 24)).alloc (Obj.cells #[Value.int IntKind.u64 0, Value.int IntKind.u64 0, Value.int IntKind.u64 0, Value.int IntKind.u64 0] 24)) (w.heap.size + 3) (vQ (List.replicate 4 0)) 24 := Row.new' (by simp) rfl
  go_enter Tryd.func17, Tryd.ntmps17
  go_wp2_with (refine wpList_load_w rfl 24 (.tmp 3) rfl (w.heap.size + 1) 0 rfl cb _ r1.all Tryd.underlying24 rfl Hb.info ?_; simp only [Act.put, List.setIfInBounds_toArray, List.set_cons_zero, List.set_cons_succ])
  refine (HIZ.out _).mono ?_
  rintro e W0 ⟨rfl, hBc⟩
  replace r0 := Row.below r0 hBc (Row.lt r0)
  replace r1 := Row.below r1 hBc (Row.lt r1)
  replace r2 := Row.below r2 hBc (Row.lt r2)
  replace r3 := Row.below r3 hBc (Row.lt r3)
  replace hb1 := hb1.trans (hBc.mono hb1.size)
  clear hBc HIZ
  have T2 := r2.there 0 (vQ (List.replicate 4 0)).toArray.size (Nat.le_refl 4)
  have f2' := r2.over (vs := vQ (List.replicate 4 0)) rfl
  have r3' := Row.setCells_other r3 (w.heap.size + 2) 0 (vQ (List.replicate 4 0)) (by omega)
  have T3 := r3'.there 0 (vQ (List.replicate 4 0)).toArray.size (Nat.le_refl 4)
  have f3 := r3'.over (vs := vQ (List.replicate 4 0)) rfl
  have f2 := Row.setCells_other f2' (w.heap.size + 3) 0 (vQ (List.replicate 4 0)) (by omega)
  have hbf := below_setCells (below_setCells hb1 (b := w.heap.size + 2) (o := 0) (by omega) (vQ (List.replicate 4 0))) (b := w.heap.size + 3) (o := 0) (by omega) (vQ (List.replicate 4 0))
  clear r0 r1 r2 r3 r3' f2' hb1
  go_wp2_with (first
    | (refine wpList_store_mid rfl 24 (.tmp 4) (.tmp 15) rfl (w.heap.size + 2) 0 (vQ (List.replicate 4 0)).toArray rfl rfl T2 info_w4 (all_oneCell_toArray (vQ_one _)) ?_; simp only [Act.put])
    | (refine wpList_store_mid rfl 24 (.tmp 5) (.tmp 16) rfl (w.heap.size + 3) 0 (vQ (List.replicate 4 0)).toArray rfl rfl T3 info_w4 (all_oneCell_toArray (vQ_one _)) ?_; simp only [Act.put]))
  exact bodyPost_ret (results_rows_tmp Tryd.results17 _ _ (w.heap.size + 2) (w.heap.size + 3) 24 24 (vQ (List.replicate 4 0)) (vQ (List.replicate 4 0)) (.int .i64 24) rfl rfl rfl f2 f3 Tryd.underlying24 info_w4 rfl Tryd.underlying24 info_w4 rfl) rfl ⟨by rw [dgs_zero], hbf⟩

set_option maxRecDepth 100000 in
set_option maxHeartbeats 8000000 in
theorem refDiv_any (a b : Nat) (ha : a < 2 ^ 256) (hb : b < 2 ^ 256) (hz : b ≠ 0) (w : World) :
    Calls Tryd.prog 17 #[.agg (vQ (dgs a 4)).toArray, .agg (vQ (dgs b 4)).toArray] w fun e w' => e = .returned (.tuple #[.agg (vQ (dgs (a / b) 4)).toArray, .agg (vQ (dgs (a % b) 4)).toArray, .int .i64 0]) ∧ Below w.heap.size w w' := by
  have HDA : Hid (∀ w, _) := digits_any a ha
  have HDB : Hid (∀ w, _) := digits_any b hb
  have HLA : Hid (blen a ≤ 256) := blen_le a 256 ha
  have HLB : Hid (blen b ≤ 256) := blen_le b 256 hb
  have HIZ : Hid (∀ w, _) := fun w => refIsZero_any b hb w
  rw [show decide (b = 0) = false from decide_eq_false hz] at HIZ
  have hq : a / b < 2 ^ 256 := Nat.lt_of_le_of_lt (Nat.div_le_self a b) ha
  have hr : a % b < 2 ^ 256 := Nat.lt_trans (Nat.mod_lt a (by omega)) hb
  have HNQ : Hid (∀ (v : Value) (w : World), Dg w v (blen (a / b)) (a / b) → _) := fun v w h => number_dg v (blen (a / b)) (a / b) w h
  have HNR : Hid (∀ (v : Value) (w : World), Dg w v (blen (a % b)) (a % b) → _) := fun v w h => number_dg v (blen (a % b)) (a % b) w h
  rw [show numR (a / b) = a / b from if_pos hq, decide_eq_true hq] at HNQ
  rw [show numR (a % b) = a % b from if_pos hr, decide_eq_true hr] at HNR
  obtain ⟨ca, Ha⟩ : ∃ x, Wc x a := ⟨_, rfl⟩
  obtain ⟨cb, Hb⟩ : ∃ x, Wc x b := ⟨_, rfl⟩
  rw [← show ca = vQ (dgs a 4) from Ha] at HDA ⊢
  rw [← show cb = vQ (dgs b 4) from Hb] at HDB HIZ ⊢
  have HBY : Hid (∀ (N M : Nat) (w : World), Row w N (vI (bts a 256)) 3 → Row w M (vI (bts b 256)) 3 → Calls Tryd.prog 55 #[.slice (some ⟨N, 0, none⟩) (blen a) 256, .slice (some ⟨M, 0, none⟩) (blen b) 256] w fun e w' => ∃ vq vl, e = .returned (.tuple #[vq, vl]) ∧ Dg w' vq (blen (a / b)) (a / b) ∧ Dg w' vl (blen (a % b)) (a % b) ∧ Below w.heap.size w w') := fun N M w r1 r2 => by_dg a b (blen a) M 256 _ (by omega) (Nat.le_trans HLA.out (by decide)) (Nat.le_trans HLB.out (by decide)) w ⟨blen_lt a, Nat.lt_of_le_of_lt HLA.out (by decide), .inr ⟨N, 256, rfl, HLA.out, (Cl.row r1).less HLA.out⟩⟩ ((Cl.row r2).less HLB.out) HLB.out
  generalize a % b = r at *
  generalize a / b = m at *
  obtain ⟨cq, Hq⟩ : ∃ x, Wc x m := ⟨_, rfl⟩
  obtain ⟨cl, Hl⟩ : ∃ x, Wc x r := ⟨_, rfl⟩
  rw [← show cq = vQ (dgs m 4) from Hq] at HNQ ⊢
  rw [← show cl = vQ (dgs r 4) from Hl] at HNR ⊢
  clear ha hb hz hq hr HLA HLB
  have hb1 : Below w.heap.size w ((((w.alloc (Obj.cells ca.toArray 24)).alloc (Obj.cells cb.toArray 24)).alloc (Obj.cells #[Value.int IntKind.u64 0, Value.int IntKind.u64 0, Value.int IntKind.u64 0, Value.int IntKind.u64 0] 24)).alloc (Obj.cells #[Value.int IntKind.u64 0, Value.int IntKind.u64 0, Value.int IntKind.u64 0, Value.int IntKind.u64 0] 24)) := ((((Below.refl _ _).alloc (Nat.le_refl _) _).alloc (by simp) _).alloc (by simp; omega) _).alloc (by simp; omega) _
  have r0 : Row ((((w.alloc (Obj.cells ca.toArray 24)).alloc (Obj.cells cb.toArray 24)).alloc (Obj.cells #[Value.int IntKind.u64 0, Value.int IntKind.u64 0, Value.int IntKind.u64 0, Value.int IntKind.u64 0] 24)).alloc (Obj.cells #[Value.int IntKind.u64 0, Value.int IntKind.u64 0, Value.int IntKind.u64 0, Value.int IntKind.u64 0] 24)) w.heap.size ca 24 := (((Row.new w ca _).alloc _).alloc _).alloc _
  have r1 : Row ((((w.alloc (Obj.cells ca.toArray 24)).alloc (Obj.cells cb.toArray 24)).alloc (Obj.cells #[Value.int IntKind.u64 0, Value.int IntKind.u64 0, Value.int IntKind.u64 0, Value.int IntKind.u64 0] 24)).alloc (Obj.cells #[Value.int IntKind.u64 0, Value.int IntKind.u64 0, Value.int IntKind.u64 0, Value.int IntKind.u64 0] 24)) (w.heap.size + 1) cb 24 := ((Row.new' (by simp) rfl).alloc _).alloc _
  have r2 : Row ((((w.alloc (Obj.cells ca.toArray 24)).alloc (Obj.cells cb.toArray 24)).alloc (Obj.cells #[Value.int IntKind.u64 0, Value.int IntKind.u64 0, Value.int IntKind.u64 0, Value.int IntKind.u64 0] 24)).alloc (Obj.cells #[Value.int IntKind.u64 0, Value.int IntKind.u64 0, Value.int IntKind.u64 0, Value.int IntKind.u64 0] 24)) (w.heap.size + 2) (vQ (List.replicate 4 0)) 24 := (Row.new' (by simp) rfl).alloc _
  have r3 : Row ((((w.alloc (Obj.cells ca.toArray 24)).alloc (Obj.cells cb.toArray 24)).alloc (Obj.cells #[Value.int IntKind.u64 0, Value.int IntKind.u64 0, Value.int IntKind.u64 0, Value.int IntKind.u64 0] 24)).alloc (Obj.cells #[Value.int IntKind.u64 0, Value.int IntKind.u64 0, Value.int IntKind.u64 0, Value.int IntKind.u64 0] 24)) (w.heap.size + 3) (vQ (List.replicate 4 0)) 24 := Row.new' (by simp) rfl
  go_enter Tryd.func17, Tryd.ntmps17
  go_wp2_with (refine wpList_load_w rfl 24 (.tmp 3) rfl (w.heap.size + 1) 0 rfl cb _ r1.all Tryd.underlying24 rfl Hb.info ?_; simp only [Act.put, List.setIfInBounds_toArray, List.set_cons_zero, List.set_cons_succ])
  refine (HIZ.out _).mono ?_
  rintro e W0 ⟨rfl, hBc⟩
  replace r0 := Row.below r0 hBc (Row.lt r0)
  replace r1 := Row.below r1 hBc (Row.lt r1)
  replace r2 := Row.below r2 hBc (Row.lt r2)
  replace r3 := Row.below r3 hBc (Row.lt r3)
  replace hb1 := hb1.trans (hBc.mono hb1.size)
  clear hBc HIZ
  go_wp2_with fail
  refine wp_named fun a0 ha0 => ?_
  have hsz : a0.tmps.size = 37 := by rw [ha0]; rfl
  have s2 : a0.eval (.tmp 2) = .pointer (some ⟨w.heap.size, 0, none⟩) := by rw [ha0]; rfl
  have s3 : a0.eval (.tmp 3) = .pointer (some ⟨w.heap.size + 1, 0, none⟩) := by rw [ha0]; rfl
  obtain ⟨D, hD⟩ : ∃ D : List (Tmp × SP), D = [(18, SP.is (.agg ca.toArray)), (19, SP.new (blen a) 256 (vI (bts a 256)) 3), (20, SP.is (.agg cb.toArray)), (21, SP.new (blen b) 256 (vI (bts b 256)) 3), (22, SP.dg2 (blen m) m (blen r) r), (17, SP.dg2 (blen m) m (blen r) r), (23, SP.dg (blen m) m), (24, SP.dg (blen r) r), (7, SP.dg (blen m) m), (8, SP.dg (blen r) r)] := ⟨_, rfl⟩
  refine wp_region_down (by kernel_rfl) (fun listed ac W => listed.size = 10 ∧ Fp D a0 listed ac W ∧ Below w.heap.size w W ∧ Row W w.heap.size ca 24 ∧ Row W (w.heap.size + 1) cb 24 ∧ Row W (w.heap.size + 2) (vQ (List.replicate 4 0)) 24 ∧ Row W (w.heap.size + 3) (vQ (List.replicate 4 0)) 24) ?_ ?_ ?_
  · exact ⟨by simp, Fp.start D a0 _ _, Below.drew hb1, Row.drew r0, Row.drew r1, Row.drew r2, Row.drew r3⟩
  · clear ha0 hb1 r0 r1 r2 r3 
    intro listed ac W k hI hdn hk
    obtain ⟨hl, hF, hb1, r0, r1, r2, r3⟩ := hI
    have hk1 : k < 10 := List.mem_range.1 (List.mem_filter.1 hk).1
    have hl2 : ∀ j, (listed.setIfInBounds j true).size = 10 := fun j => by rw [Array.size_setIfInBounds]; exact hl
    rcases (show k = 0 ∨ k = 1 ∨ k = 2 ∨ k = 3 ∨ k = 4 ∨ k = 5 ∨ k = 6 ∨ k = 7 ∨ k = 8 ∨ k = 9 by omega) with rfl | rfl | rfl | rfl | rfl | rfl | rfl | rfl | rfl | rfl
    · have hk3 := hk
      exact wpOp_plain rfl rfl (wp_load_mid 24 (.tmp 2) rfl w.heap.size 0 ((hF.keep 2 (by rw [hD]; rfl)).trans s2) ca _ r0.all Tryd.underlying24 rfl Ha.info ⟨hl2 0, (hF.put 0 18 (SP.is (.agg ca.toArray)) (.agg ca.toArray) (by rw [hD]; rfl) rfl (by rw [hD]; rfl) (by rw [hsz]; decide) (by rw [hl]; decide)), hb1, r0, r1, r2, r3⟩)
    · have hk3 := hk
      have e1 := (hF.done 0 (18, SP.is (.agg ca.toArray)) (by rw [hD]; rfl) (ready_dep hk 0 (by kernel_rfl)))
      refine wpOp_plain rfl rfl (wp_fcall_v 47 #[.agg ca.toArray] rfl rfl (by show [ac.eval (.tmp 18)] = _; simp only [show ac.eval (.tmp 18) = _ from e1]) (by go_simp) ((HDA.out W).mono ?_))
      rintro e W2 ⟨yN, yL, yR, rfl, hB⟩
      exact ⟨_, rfl, hl2 1, ((hF.world hB).put 1 19 (SP.new (blen a) 256 (vI (bts a 256)) 3) (.slice (some ⟨yN, 0, none⟩) (blen a) 256) (by rw [hD]; rfl) (⟨yN, rfl, yR⟩) (by rw [hD]; rfl) (by rw [hsz]; decide) (by rw [hl]; decide)), hb1.trans (hB.mono hb1.size), Row.below r0 hB (Row.lt r0), Row.below r1 hB (Row.lt r1), Row.below r2 hB (Row.lt r2), Row.below r3 hB (Row.lt r3)⟩
    · have hk3 := hk
      exact wpOp_plain rfl rfl (wp_load_mid 24 (.tmp 3) rfl (w.heap.size + 1) 0 ((hF.keep 3 (by rw [hD]; rfl)).trans s3) cb _ r1.all Tryd.underlying24 rfl Hb.info ⟨hl2 2, (hF.put 2 20 (SP.is (.agg cb.toArray)) (.agg cb.toArray) (by rw [hD]; rfl) rfl (by rw [hD]; rfl) (by rw [hsz]; decide) (by rw [hl]; decide)), hb1, r0, r1, r2, r3⟩)
    · have hk3 := hk
      have e1 := (hF.done 2 (20, SP.is (.agg cb.toArray)) (by rw [hD]; rfl) (ready_dep hk 2 (by kernel_rfl)))
      refine wpOp_plain rfl rfl (wp_fcall_v 47 #[.agg cb.toArray] rfl rfl (by show [ac.eval (.tmp 20)] = _; simp only [show ac.eval (.tmp 20) = _ from e1]) (by go_simp) ((HDB.out W).mono ?_))
      rintro e W2 ⟨yN, yL, yR, rfl, hB⟩
      exact ⟨_, rfl, hl2 3, ((hF.world hB).put 3 21 (SP.new (blen b) 256 (vI (bts b 256)) 3) (.slice (some ⟨yN, 0, none⟩) (blen b) 256) (by rw [hD]; rfl) (⟨yN, rfl, yR⟩) (by rw [hD]; rfl) (by rw [hsz]; decide) (by rw [hl]; decide)), hb1.trans (hB.mono hb1.size), Row.below r0 hB (Row.lt r0), Row.below r1 hB (Row.lt r1), Row.below r2 hB (Row.lt r2), Row.below r3 hB (Row.lt r3)⟩
    · have hk3 := hk
      obtain ⟨N1, e1, y1⟩ := (hF.done 1 (19, SP.new (blen a) 256 (vI (bts a 256)) 3) (by rw [hD]; rfl) (ready_dep hk 1 (by kernel_rfl)))
      obtain ⟨N2, e2, y2⟩ := (hF.done 3 (21, SP.new (blen b) 256 (vI (bts b 256)) 3) (by rw [hD]; rfl) (ready_dep hk 3 (by kernel_rfl)))
      refine wpOp_plain rfl rfl (wp_fcall_v 55 #[.slice (some ⟨N1, 0, none⟩) (blen a) 256, .slice (some ⟨N2, 0, none⟩) (blen b) 256] rfl rfl (by show [ac.eval (.tmp 19), ac.eval (.tmp 21)] = _; simp only [show ac.eval (.tmp 19) = _ from e1, show ac.eval (.tmp 21) = _ from e2]) (by go_simp) ((HBY.out N1 N2 W y1 y2).mono ?_))
      rintro e W2 ⟨yq, yl, rfl, yD1, yD2, hB⟩
      exact ⟨_, rfl, hl2 4, ((hF.world hB).put 4 22 (SP.dg2 (blen m) m (blen r) r) (.tuple #[yq, yl]) (by rw [hD]; rfl) (⟨yq, yl, rfl, yD1, yD2⟩) (by rw [hD]; rfl) (by rw [hsz]; decide) (by rw [hl]; decide)), hb1.trans (hB.mono hb1.size), Row.below r0 hB (Row.lt r0), Row.below r1 hB (Row.lt r1), Row.below r2 hB (Row.lt r2), Row.below r3 hB (Row.lt r3)⟩
    · have hk3 := hk
      exact wpOp_plain rfl rfl (wp_move_v (ac.eval (.tmp 22)) rfl rfl ⟨hl2 5, (hF.put 5 17 (SP.dg2 (blen m) m (blen r) r) (ac.eval (.tmp 22)) (by rw [hD]; rfl) ((hF.done 4 (22, SP.dg2 (blen m) m (blen r) r) (by rw [hD]; rfl) (ready_dep hk 4 (by kernel_rfl)))) (by rw [hD]; rfl) (by rw [hsz]; decide) (by rw [hl]; decide)), hb1, r0, r1, r2, r3⟩)
    · have hk3 := hk
      obtain ⟨yq, yl, e1, yD1, yD2⟩ := (hF.done 5 (17, SP.dg2 (blen m) m (blen r) r) (by rw [hD]; rfl) (ready_dep hk 5 (by kernel_rfl)))
      exact wpOp_plain rfl rfl (wp_extract (.tmp 17) 0 rfl #[yq, yl] e1 yq rfl ⟨hl2 6, (hF.put 6 23 (SP.dg (blen m) m) yq (by rw [hD]; rfl) yD1 (by rw [hD]; rfl) (by rw [hsz]; decide) (by rw [hl]; decide)), hb1, r0, r1, r2, r3⟩)
    · have hk3 := hk
      obtain ⟨yq, yl, e1, yD1, yD2⟩ := (hF.done 5 (17, SP.dg2 (blen m) m (blen r) r) (by rw [hD]; rfl) (ready_dep hk 5 (by kernel_rfl)))
      exact wpOp_plain rfl rfl (wp_extract (.tmp 17) 1 rfl #[yq, yl] e1 yl rfl ⟨hl2 7, (hF.put 7 24 (SP.dg (blen r) r) yl (by rw [hD]; rfl) yD2 (by rw [hD]; rfl) (by rw [hsz]; decide) (by rw [hl]; decide)), hb1, r0, r1, r2, r3⟩)
    · have hk3 := hk
      exact wpOp_plain rfl rfl (wp_assign_v (ac.eval (.tmp 23)) rfl rfl ⟨hl2 8, (hF.put 8 7 (SP.dg (blen m) m) (ac.eval (.tmp 23)) (by rw [hD]; rfl) ((hF.done 6 (23, SP.dg (blen m) m) (by rw [hD]; rfl) (ready_dep hk 6 (by kernel_rfl)))) (by rw [hD]; rfl) (by rw [hsz]; decide) (by rw [hl]; decide)), hb1, r0, r1, r2, r3⟩)
    · have hk3 := hk
      exact wpOp_plain rfl rfl (wp_assign_v (ac.eval (.tmp 24)) rfl rfl ⟨hl2 9, (hF.put 9 8 (SP.dg (blen r) r) (ac.eval (.tmp 24)) (by rw [hD]; rfl) ((hF.done 7 (24, SP.dg (blen r) r) (by rw [hD]; rfl) (ready_dep hk 7 (by kernel_rfl)))) (by rw [hD]; rfl) (by rw [hsz]; decide) (by rw [hl]; decide)), hb1, r0, r1, r2, r3⟩)
  · clear hb1 r0 r1 r2 r3 
    intro listed ac W hI hr
    obtain ⟨hl, hF, hb1, r0, r1, r2, r3⟩ := hI
    have hall := all_listed (by kernel_rfl) hl hr
    have h18 : ac.eval (.tmp 18) = .agg ca.toArray := hF.done 0 (18, SP.is (.agg ca.toArray)) (by rw [hD]; rfl) (hall 0 (by decide))
    obtain ⟨x19, h19⟩ : ∃ x, ac.eval (.tmp 19) = x := ⟨_, rfl⟩
    have h20 : ac.eval (.tmp 20) = .agg cb.toArray := hF.done 2 (20, SP.is (.agg cb.toArray)) (by rw [hD]; rfl) (hall 2 (by decide))
    obtain ⟨x21, h21⟩ : ∃ x, ac.eval (.tmp 21) = x := ⟨_, rfl⟩
    obtain ⟨x22, h22⟩ : ∃ x, ac.eval (.tmp 22) = x := ⟨_, rfl⟩
    obtain ⟨x17, h17⟩ : ∃ x, ac.eval (.tmp 17) = x := ⟨_, rfl⟩
    obtain ⟨x23, h23⟩ : ∃ x, ac.eval (.tmp 23) = x := ⟨_, rfl⟩
    obtain ⟨x24, h24⟩ : ∃ x, ac.eval (.tmp 24) = x := ⟨_, rfl⟩
    have f7 := hF.done 8 (7, SP.dg (blen m) m) (by rw [hD]; rfl) (hall 8 (by decide))
    obtain ⟨x7, h7⟩ : ∃ x, ac.eval (.tmp 7) = x := ⟨_, rfl⟩
    replace f7 : (SP.dg (blen m) m).P W x7 := by rw [← h7]; exact f7
    have f8 := hF.done 9 (8, SP.dg (blen r) r) (by rw [hD]; rfl) (hall 9 (by decide))
    obtain ⟨x8, h8⟩ : ∃ x, ac.eval (.tmp 8) = x := ⟨_, rfl⟩
    replace f8 : (SP.dg (blen r) r).P W x8 := by rw [← h8]; exact f8
    have ea := hF.lay [(18, .agg ca.toArray), (19, x19), (20, .agg cb.toArray), (21, x21), (22, x22), (17, x17), (23, x23), (24, x24), (7, x7), (8, x8)] (by rw [hD, hsz]; rfl) (by simp only [List.forall_mem_cons, List.not_mem_nil, false_implies, implies_true, and_true]; exact ⟨h18, h19, h20, h21, h22, h17, h23, h24, h7, h8⟩)
    rw [ha0] at ea
    simp only [List.foldl_cons, List.foldl_nil, List.setIfInBounds_toArray, List.set_cons_zero, List.set_cons_succ] at ea
    clear hF hall hr hl hD  s2 s3 ha0 hsz h18 h19 h20 h21 h22 h17 h23 h24 h7 h8
    subst ea
    have dq : Dg W x7 (blen m) m := f7
    have dl : Dg W x8 (blen r) r := f8
    clear f7 f8 r0 r1
    generalize x7 = qv at *
    generalize x8 = lv at *
    generalize x17 = z1 at *
    generalize x19 = z2 at *
    generalize x21 = z3 at *
    generalize x22 = z4 at *
    generalize x23 = z5 at *
    generalize x24 = z6 at *
    go_wp2_with fail
    refine (HNQ.out qv _ dq).mono ?_
    rintro e V1 ⟨rfl, hB⟩
    clear dq
    replace r2 := Row.below r2 hB (Row.lt r2)
    replace r3 := Row.below r3 hB (Row.lt r3)
    replace dl := dl.below hB
    replace hb1 := hb1.trans (hB.mono hb1.size)
    clear hB
    have r4 : Row (V1.alloc (Obj.cells #[Value.int IntKind.u64 0, Value.int IntKind.u64 0, Value.int IntKind.u64 0, Value.int IntKind.u64 0] 24)) V1.heap.size (vQ (List.replicate 4 0)) 24 := Row.new' rfl rfl
    have T := Hq.there r4 rfl
    replace r4 := r4.over (vs := cq) (by rw [Hq.len]; rfl)
    have hB : Below V1.heap.size V1 ((V1.alloc (Obj.cells #[Value.int IntKind.u64 0, Value.int IntKind.u64 0, Value.int IntKind.u64 0, Value.int IntKind.u64 0] 24)).setCells V1.heap.size 0 cq) := below_setCells ((Below.refl _ _).alloc (Nat.le_refl _) _) (b := V1.heap.size) (o := 0) (Nat.le_refl _) cq
    have lN9 : w.heap.size + 3 < V1.heap.size := Row.lt r3
    replace r2 := Row.below r2 hB (Row.lt r2)
    replace r3 := Row.below r3 hB (Row.lt r3)
    replace dl := dl.below hB
    replace hb1 := hb1.trans (hB.mono hb1.size)
    clear hB
    go_wp2_with (refine wpList_store_mid rfl 24 (.tmp 9) (.tmp 28) rfl V1.heap.size 0 cq.toArray rfl rfl T Hq.info' Hq.one ?_; simp only [Act.put]; clear T; (change wpList _ _ _ _ _ ((V1.alloc (Obj.cells #[Value.int IntKind.u64 0, Value.int IntKind.u64 0, Value.int IntKind.u64 0, Value.int IntKind.u64 0] 24)).setCells V1.heap.size 0 cq)); (generalize ((V1.alloc (Obj.cells #[Value.int IntKind.u64 0, Value.int IntKind.u64 0, Value.int IntKind.u64 0, Value.int IntKind.u64 0] 24)).setCells V1.heap.size 0 cq) = X1 at *); (generalize hN : V1.heap.size = N9 at *; clear hN))
    refine (HNR.out lv _ dl).mono ?_
    rintro e V2 ⟨rfl, hB⟩
    clear dl
    replace r2 := Row.below r2 hB (Row.lt r2)
    replace r3 := Row.below r3 hB (Row.lt r3)
    replace r4 := Row.below r4 hB (Row.lt r4)
    replace hb1 := hb1.trans (hB.mono hb1.size)
    clear hB
    have r5 : Row (V2.alloc (Obj.cells #[Value.int IntKind.u64 0, Value.int IntKind.u64 0, Value.int IntKind.u64 0, Value.int IntKind.u64 0] 24)) V2.heap.size (vQ (List.replicate 4 0)) 24 := Row.new' rfl rfl
    have T := Hl.there r5 rfl
    replace r5 := r5.over (vs := cl) (by rw [Hl.len]; rfl)
    have hB : Below V2.heap.size V2 ((V2.alloc (Obj.cells #[Value.int IntKind.u64 0, Value.int IntKind.u64 0, Value.int IntKind.u64 0, Value.int IntKind.u64 0] 24)).setCells V2.heap.size 0 cl) := below_setCells ((Below.refl _ _).alloc (Nat.le_refl _) _) (b := V2.heap.size) (o := 0) (Nat.le_refl _) cl
    have lM9 : w.heap.size + 3 < V2.heap.size := Row.lt r3
    replace r2 := Row.below r2 hB (Row.lt r2)
    replace r3 := Row.below r3 hB (Row.lt r3)
    replace r4 := Row.below r4 hB (Row.lt r4)
    replace hb1 := hb1.trans (hB.mono hb1.size)
    clear hB
    go_wp2_with (refine wpList_store_mid rfl 24 (.tmp 11) (.tmp 33) rfl V2.heap.size 0 cl.toArray rfl rfl T Hl.info' Hl.one ?_; simp only [Act.put]; clear T; (change wpList _ _ _ _ _ ((V2.alloc (Obj.cells #[Value.int IntKind.u64 0, Value.int IntKind.u64 0, Value.int IntKind.u64 0, Value.int IntKind.u64 0] 24)).setCells V2.heap.size 0 cl)); (generalize ((V2.alloc (Obj.cells #[Value.int IntKind.u64 0, Value.int IntKind.u64 0, Value.int IntKind.u64 0, Value.int IntKind.u64 0] 24)).setCells V2.heap.size 0 cl) = X2 at *); (generalize hN : V2.heap.size = M9 at *; clear hN))
    refine wp_named fun a0 ha0 => ?_
    have hsz : a0.tmps.size = 37 := by rw [ha0]; rfl
    have s4 : a0.eval (.tmp 4) = .pointer (some ⟨w.heap.size + 2, 0, none⟩) := by rw [ha0]; rfl
    have s5 : a0.eval (.tmp 5) = .pointer (some ⟨w.heap.size + 3, 0, none⟩) := by rw [ha0]; rfl
    have s9 : a0.eval (.tmp 9) = .pointer (some ⟨N9, 0, none⟩) := by rw [ha0]; rfl
    have s11 : a0.eval (.tmp 11) = .pointer (some ⟨M9, 0, none⟩) := by rw [ha0]; rfl
    obtain ⟨D, hD⟩ : ∃ D : List (Tmp × SP), D = [(35, SP.is (.agg cq.toArray)), (36, SP.is (.agg cl.toArray)), (1000, SP.any), (1000, SP.any), (6, SP.is (.int .i64 0))] := ⟨_, rfl⟩
    refine wp_region_down (by kernel_rfl) (fun listed ac W => listed.size = 5 ∧ Fp D a0 listed ac W ∧ Below w.heap.size w W ∧ Row W N9 cq 24 ∧ Row W M9 cl 24 ∧ Row W (w.heap.size + 2) (if listed.getD 2 false = true then cq else vQ (List.replicate 4 0)) 24 ∧ Row W (w.heap.size + 3) (if listed.getD 3 false = true then cl else vQ (List.replicate 4 0)) 24) ?_ ?_ ?_
    · exact ⟨by simp, Fp.start D a0 _ _, Below.drew hb1, Row.drew r4, Row.drew r5, (by rw [if_neg (fun h => start_no h)]; exact Row.drew r2), (by rw [if_neg (fun h => start_no h)]; exact Row.drew r3)⟩
    · clear ha0 hb1 r4 r5 r2 r3 
      intro listed ac W k hI hdn hk
      obtain ⟨hl, hF, hb1, r4, r5, r2, r3⟩ := hI
      have hk1 : k < 5 := List.mem_range.1 (List.mem_filter.1 hk).1
      have hl2 : ∀ j, (listed.setIfInBounds j true).size = 5 := fun j => by rw [Array.size_setIfInBounds]; exact hl
      rcases (show k = 0 ∨ k = 1 ∨ k = 2 ∨ k = 3 ∨ k = 4 by omega) with rfl | rfl | rfl | rfl | rfl
      · have hk3 := hk
        exact wpOp_plain rfl rfl (wp_load_mid 24 (.tmp 9) rfl N9 0 ((hF.keep 9 (by rw [hD]; rfl)).trans s9) cq _ r4.all Tryd.underlying24 rfl Hq.info ⟨hl2 0, (hF.put 0 35 (SP.is (.agg cq.toArray)) (.agg cq.toArray) (by rw [hD]; rfl) rfl (by rw [hD]; rfl) (by rw [hsz]; decide) (by rw [hl]; decide)), hb1, r4, r5, (by rw [getD_set _ _ _ (by decide)]; exact r2), (by rw [getD_set _ _ _ (by decide)]; exact r3)⟩)
      · have hk3 := hk
        exact wpOp_plain rfl rfl (wp_load_mid 24 (.tmp 11) rfl M9 0 ((hF.keep 11 (by rw [hD]; rfl)).trans s11) cl _ r5.all Tryd.underlying24 rfl Hl.info ⟨hl2 1, (hF.put 1 36 (SP.is (.agg cl.toArray)) (.agg cl.toArray) (by rw [hD]; rfl) rfl (by rw [hD]; rfl) (by rw [hsz]; decide) (by rw [hl]; decide)), hb1, r4, r5, (by rw [getD_set _ _ _ (by decide)]; exact r2), (by rw [getD_set _ _ _ (by decide)]; exact r3)⟩)
      · have hk3 := hk
        have hno : ¬ listed.getD 2 false = true := not_yet hk
        rw [if_neg hno] at r2
        have T := r2.there 0 cq.toArray.size (by simp [Hq.len, vQ_length])
        have fin := r2.over (vs := cq) (by rw [Hq.len]; rfl)
        have hT : Fp D a0 listed ac (W.setCells (w.heap.size + 2) 0 cq) := hF.turn (by rw [hD]; simp only [List.forall_mem_cons, List.not_mem_nil, false_implies, implies_true, and_true]; exact ⟨fun _ h => h, fun _ h => h, fun _ h => h, fun _ h => h, fun _ h => h⟩)
        exact wpOp_plain rfl rfl (wp_store_mid 24 (.tmp 4) (.tmp 35) rfl (w.heap.size + 2) 0 cq.toArray ((hF.keep 4 (by rw [hD]; rfl)).trans s4) (hF.done 0 (35, SP.is (.agg cq.toArray)) (by rw [hD]; rfl) (ready_dep hk 0 (by kernel_rfl))) T Hq.info' Hq.one ⟨hl2 2, (hT.skip 2 1000 (by rw [hD]; rfl) (by rw [hl]; decide)), below_setCells hb1 (by omega) _, Row.setCells_other r4 _ _ _ (by omega), Row.setCells_other r5 _ _ _ (by omega), (by rw [if_pos (getD_same (by rw [hl]; decide))]; exact fin), (by rw [getD_set _ _ _ (by decide)]; exact Row.setCells_other r3 _ _ _ (by omega))⟩)
      · have hk3 := hk
        have hno : ¬ listed.getD 3 false = true := not_yet hk
        rw [if_neg hno] at r3
        have T := r3.there 0 cl.toArray.size (by simp [Hl.len, vQ_length])
        have fin := r3.over (vs := cl) (by rw [Hl.len]; rfl)
        have hT : Fp D a0 listed ac (W.setCells (w.heap.size + 3) 0 cl) := hF.turn (by rw [hD]; simp only [List.forall_mem_cons, List.not_mem_nil, false_implies, implies_true, and_true]; exact ⟨fun _ h => h, fun _ h => h, fun _ h => h, fun _ h => h, fun _ h => h⟩)
        exact wpOp_plain rfl rfl (wp_store_mid 24 (.tmp 5) (.tmp 36) rfl (w.heap.size + 3) 0 cl.toArray ((hF.keep 5 (by rw [hD]; rfl)).trans s5) (hF.done 1 (36, SP.is (.agg cl.toArray)) (by rw [hD]; rfl) (ready_dep hk 1 (by kernel_rfl))) T Hl.info' Hl.one ⟨hl2 3, (hT.skip 3 1000 (by rw [hD]; rfl) (by rw [hl]; decide)), below_setCells hb1 (by omega) _, Row.setCells_other r4 _ _ _ (by omega), Row.setCells_other r5 _ _ _ (by omega), (by rw [getD_set _ _ _ (by decide)]; exact Row.setCells_other r2 _ _ _ (by omega)), (by rw [if_pos (getD_same (by rw [hl]; decide))]; exact fin)⟩)
      · have hk3 := hk
        exact wpOp_plain rfl rfl (wp_assign_v (.int .i64 0) rfl rfl ⟨hl2 4, (hF.put 4 6 (SP.is (.int .i64 0)) (.int .i64 0) (by rw [hD]; rfl) rfl (by rw [hD]; rfl) (by rw [hsz]; decide) (by rw [hl]; decide)), hb1, r4, r5, (by rw [getD_set _ _ _ (by decide)]; exact r2), (by rw [getD_set _ _ _ (by decide)]; exact r3)⟩)
    · clear hb1 r4 r5 r2 r3 
      intro listed ac W hI hr
      obtain ⟨hl, hF, hb1, r4, r5, r2, r3⟩ := hI
      have hall := all_listed (by kernel_rfl) hl hr
      rw [if_pos (hall 2 (by decide))] at r2
      rw [if_pos (hall 3 (by decide))] at r3
      have h35 : ac.eval (.tmp 35) = .agg cq.toArray := hF.done 0 (35, SP.is (.agg cq.toArray)) (by rw [hD]; rfl) (hall 0 (by decide))
      have h36 : ac.eval (.tmp 36) = .agg cl.toArray := hF.done 1 (36, SP.is (.agg cl.toArray)) (by rw [hD]; rfl) (hall 1 (by decide))
      have h6 : ac.eval (.tmp 6) = .int .i64 0 := hF.done 4 (6, SP.is (.int .i64 0)) (by rw [hD]; rfl) (hall 4 (by decide))
      have ea := hF.lay [(35, .agg cq.toArray), (36, .agg cl.toArray), (6, .int .i64 0)] (by rw [hD, hsz]; rfl) (by simp only [List.forall_mem_cons, List.not_mem_nil, false_implies, implies_true, and_true]; exact ⟨h35, h36, h6⟩)
      rw [ha0] at ea
      simp only [List.foldl_cons, List.foldl_nil, List.setIfInBounds_toArray, List.set_cons_zero, List.set_cons_succ] at ea
      clear hF hall hr hl hD  s4 s5 s9 s11 ha0 hsz h35 h36 h6
      subst ea
      go_wp2_with fail
      exact bodyPost_ret (results_rows_tmp Tryd.results17 _ _ (w.heap.size + 2) (w.heap.size + 3) 24 24 cq cl (.int .i64 0) rfl rfl rfl r2 r3 Tryd.underlying24 info_w4 Hq.len Tryd.underlying24 info_w4 Hl.len) rfl ⟨rfl, hb1⟩

theorem refDiv_c {ca cb : List Value} {a b : Nat} (Ha : Wc ca a) (Hb : Wc cb b) (ha : a < 2 ^ 256) (hb : b < 2 ^ 256) {q r : Nat} {E : Int} (hq : divQ a b = q) (hr : divR a b = r) (hE : divE b = E) (w : World) : Calls Tryd.prog 17 #[.agg ca.toArray, .agg cb.toArray] w fun e w' => ∃ c d, Wc c q ∧ Wc d r ∧ e = .returned (.tuple #[.agg c.toArray, .agg d.toArray, .int .i64 E]) ∧ Below w.heap.size w w' := by
  subst hq hr hE
  rw [Ha, Hb]
  by_cases hz : b = 0
  · rw [show divQ a b = 0 from if_pos hz, show divR a b = 0 from if_pos hz, show divE b = 24 from if_pos hz]
    exact (refDiv_zero a b hb hz w).mono fun e w' h => ⟨_, _, rfl, rfl, h.1, h.2⟩
  · rw [show divQ a b = a / b from if_neg hz, show divR a b = a % b from if_neg hz, show divE b = 0 from if_neg hz]
    exact (refDiv_any a b ha hb hz w).mono fun e w' h => ⟨_, _, rfl, rfl, h.1, h.2⟩

end Go.Proofs.YtehccmlbnfhhmaaDoor
