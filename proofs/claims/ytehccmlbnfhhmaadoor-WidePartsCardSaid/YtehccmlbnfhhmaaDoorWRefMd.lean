/-
  causewayref02.MulDiv.
-/
import Derived.Test.YtehccmlbnfhhmaaDoorWBy
import Derived.Test.YtehccmlbnfhhmaaDoorWTms
import Derived.Test.YtehccmlbnfhhmaaDoorWRef
import Derived.Test.YtehccmlbnfhhmaaDoorWFd
import Derived.Test.YtehccmlbnfhhmaaDoorWDivv
namespace Go.Proofs.YtehccmlbnfhhmaaDoor
open Go Go.RowKit
open Wd

set_option maxRecDepth 100000 in
set_option maxHeartbeats 8000000 in
theorem refMulDiv_zero (a b c : Nat) (hc : c < 2 ^ 256) (hz : c = 0) (w : World) :
    Calls Tryd.prog 19 #[.agg (vQ (dgs a 4)).toArray, .agg (vQ (dgs b 4)).toArray, .agg (vQ (dgs c 4)).toArray] w fun e w' => e = .returned (.tuple #[.agg (vQ (dgs 0 4)).toArray, .int .i64 24]) ∧ Below w.heap.size w w' := by
  have HIZ : Hid (∀ w, _) := fun w => refIsZero_any c hc w
  rw [show decide (c = 0) = true from decide_eq_true hz] at HIZ
  obtain ⟨ca, Ha⟩ : ∃ x, Wc x a := ⟨_, rfl⟩
  obtain ⟨cb, Hb⟩ : ∃ x, Wc x b := ⟨_, rfl⟩
  obtain ⟨cc, Hc⟩ : ∃ x, Wc x c := ⟨_, rfl⟩
  rw [← show ca = vQ (dgs a 4) from Ha]
  rw [← show cb = vQ (dgs b 4) from Hb]
  rw [← show cc = vQ (dgs c 4) from Hc] at HIZ ⊢
  clear hc hz
  have hb1 : Below w.heap.size w ((((w.alloc (Obj.cells ca.toArray 24)).alloc (Obj.cells cb.toArray 24)).alloc (Obj.cells cc.toArray 24)).alloc (Obj.cells #[Value.int IntKind.u64 0, Value.int IntKind.u64 0, Value.int IntKind.u64 0, Value.int IntKind.u64 0] 24)) := ((((Below.refl _ _).alloc (Nat.le_refl _) _).alloc (by simp) _).alloc (by simp; omega) _).alloc (by simp; omega) _
  have r0 : Row ((((w.alloc (Obj.cells ca.toArray 24)).alloc (Obj.cells cb.toArray 24)).alloc (Obj.cells cc.toArray 24)).alloc (Obj.cells #[Value.int IntKind.u64 0, Value.int IntKind.u64 0, Value.int IntKind.u64 0, Value.int IntKind.u64 0] 24)) w.heap.size ca 24 := (((Row.new w ca _).alloc _).alloc _).alloc _
  have r1 : Row ((((w.alloc (Obj.cells ca.toArray 24)).alloc (Obj.cells cb.toArray 24)).alloc (Obj.cells cc.toArray 24)).alloc (Obj.cells #[Value.int IntKind.u64 0, Value.int IntKind.u64 0, Value.int IntKind.u64 0, Value.int IntKind.u64 0] 24)) (w.heap.size + 1) cb 24 := ((Row.new' (by simp) rfl).alloc _).alloc _
  have r2 : Row ((((w.alloc (Obj.cells ca.toArray 24)).alloc (Obj.cells cb.toArray 24)).alloc (Obj.cells cc.toArray 24)).alloc (Obj.cells #[Value.int IntKind.u64 0, Value.int IntKind.u64 0, Value.int IntKind.u64 0, Value.int IntKind.u64 0] 24)) (w.heap.size + 2) cc 24 := (Row.new' (by simp) rfl).alloc _
  have r3 : Row ((((w.alloc (Obj.cells ca.toArray 24)).alloc (Obj.cells cb.toArray 24)).alloc (Obj.cells cc.toArray 24)).alloc (Obj.cells #[Value.int IntKind.u64 0, Value.int IntKind.u64 0, Value.int IntKind.u64 0, Value.int IntKind.u64 0] 24)) (w.heap.size + 3) (vQ (List.replicate 4 0)) 24 := Row.new' (by simp) rfl
  go_enter Tryd.func19, Tryd.ntmps19
  go_wp2_with (refine wpList_load_w rfl 24 (.tmp 5) rfl (w.heap.size + 2) 0 rfl cc _ r2.all Tryd.underlying24 rfl Hc.info ?_; simp only [Act.put, List.setIfInBounds_toArray, List.set_cons_zero, List.set_cons_succ])
  refine (HIZ.out _).mono ?_
  rintro e W0 ⟨rfl, hBc⟩
  replace r0 := Row.below r0 hBc (Row.lt r0)
  replace r1 := Row.below r1 hBc (Row.lt r1)
  replace r2 := Row.below r2 hBc (Row.lt r2)
  replace r3 := Row.below r3 hBc (Row.lt r3)
  replace hb1 := hb1.trans (hBc.mono hb1.size)
  clear hBc HIZ
  go_wp2_with (refine wpList_store_mid rfl 24 (.tmp 6) (.tmp 12) rfl (w.heap.size + 3) 0 (vQ (List.replicate 4 0)).toArray rfl rfl (r3.there 0 (vQ (List.replicate 4 0)).toArray.size (Nat.le_refl 4)) info_w4 (all_oneCell_toArray (vQ_one _)) ?_; simp only [Act.put])
  have fin := r3.over (vs := vQ (List.replicate 4 0)) rfl
  have hbf := below_setCells hb1 (b := w.heap.size + 3) (o := 0) (by omega) (vQ (List.replicate 4 0))
  exact bodyPost_ret (results_row_tmp Tryd.results19 _ _ (w.heap.size + 3) 24 (vQ (List.replicate 4 0)) (.int .i64 24) rfl rfl fin Tryd.underlying24 info_w4 rfl) rfl ⟨by rw [dgs_zero], hbf⟩

set_option maxRecDepth 100000 in
set_option maxHeartbeats 8000000 in
theorem refMulDiv_any (a b c : Nat) (ha : a < 2 ^ 256) (hb : b < 2 ^ 256) (hc : c < 2 ^ 256) (hz : c ≠ 0) (w : World) :
    Calls Tryd.prog 19 #[.agg (vQ (dgs a 4)).toArray, .agg (vQ (dgs b 4)).toArray, .agg (vQ (dgs c 4)).toArray] w fun e w' => e = .returned (.tuple #[.agg (vQ (dgs (numR (a * b / c)) 4)).toArray, .int .i64 (ansErr (a * b / c))]) ∧ Below w.heap.size w w' := by
  have HDA : Hid (∀ w, _) := digits_any a ha
  have HDB : Hid (∀ w, _) := digits_any b hb
  have HDC : Hid (∀ w, _) := digits_any c hc
  have HLA : Hid (blen a ≤ 256) := blen_le a 256 ha
  have HLB : Hid (blen b ≤ 256) := blen_le b 256 hb
  have HLC : Hid (blen c ≤ 256) := blen_le c 256 hc
  have HLP : Hid (blen (a * b) ≤ 256 + 256) := blen_le (a * b) (256 + 256) (by
    exact Nat.lt_of_lt_of_eq (Nat.mul_lt_mul'' ha hb) (Nat.pow_add 2 256 256).symm)
  have HIZ : Hid (∀ w, _) := fun w => refIsZero_any c hc w
  rw [show decide (c = 0) = false from decide_eq_false hz] at HIZ
  obtain ⟨ca, Ha⟩ : ∃ x, Wc x a := ⟨_, rfl⟩
  obtain ⟨cb, Hb⟩ : ∃ x, Wc x b := ⟨_, rfl⟩
  obtain ⟨cc, Hc⟩ : ∃ x, Wc x c := ⟨_, rfl⟩
  rw [← show ca = vQ (dgs a 4) from Ha] at HDA ⊢
  rw [← show cb = vQ (dgs b 4) from Hb] at HDB ⊢
  rw [← show cc = vQ (dgs c 4) from Hc] at HDC HIZ ⊢
  have HTM : Hid (∀ (N M : Nat) (w : World), Row w N (vI (bts a 256)) 3 → Row w M (vI (bts b 256)) 3 → Calls Tryd.prog 52 #[.slice (some ⟨N, 0, none⟩) (blen a) 256, .slice (some ⟨M, 0, none⟩) (blen b) 256] w fun e w' => ∃ v, e = .returned v ∧ Dg w' v (blen (a * b)) (a * b) ∧ Below w.heap.size w w') := fun N M w r1 r2 => times_cl a b N M (blen a) (blen b) 256 256 (blen_lt a) (blen_lt b) (Nat.le_trans HLA.out (by decide)) (Nat.le_trans HLB.out (by decide)) w ((Cl.row r1).less HLA.out) ((Cl.row r2).less HLB.out)
  have HBY : Hid (∀ (v : Value) (M : Nat) (w : World), Dg w v (blen (a * b)) (a * b) → Row w M (vI (bts c 256)) 3 → Calls Tryd.prog 55 #[v, .slice (some ⟨M, 0, none⟩) (blen c) 256] w fun e w' => ∃ vq vl, e = .returned (.tuple #[vq, vl]) ∧ Dg w' vq (blen (a * b / c)) (a * b / c) ∧ Dg w' vl (blen (a * b % c)) (a * b % c) ∧ Below w.heap.size w w') := fun v M w h1 r2 => by_dg (a * b) c (blen (a * b)) M 256 v (by omega) (Nat.le_trans HLP.out (by decide)) (Nat.le_trans HLC.out (by decide)) w h1 ((Cl.row r2).less HLC.out) HLC.out
  have HAN : Hid (∀ (v : Value) (w : World), Dg w v (blen (a * b / c)) (a * b / c) → _) := fun v w h => answered_dg v (blen (a * b / c)) (a * b / c) w h
  obtain ⟨m, hm⟩ : ∃ m, m = a * b / c := ⟨_, rfl⟩
  rw [← hm] at HBY HAN ⊢
  clear hm
  generalize a * b % c = r at *
  generalize a * b = P at *
  obtain ⟨cR, HR⟩ : ∃ x, Wc x (numR m) := ⟨_, rfl⟩
  rw [← show cR = vQ (dgs (numR m) 4) from HR] at HAN ⊢
  generalize ansErr m = E at *
  clear ha hb hc hz HLA HLB HLC HLP
  have hb1 : Below w.heap.size w ((((w.alloc (Obj.cells ca.toArray 24)).alloc (Obj.cells cb.toArray 24)).alloc (Obj.cells cc.toArray 24)).alloc (Obj.cells #[Value.int IntKind.u64 0, Value.int IntKind.u64 0, Value.int IntKind.u64 0, Value.int IntKind.u64 0] 24)) := ((((Below.refl _ _).alloc (Nat.le_refl _) _).alloc (by simp) _).alloc (by simp; omega) _).alloc (by simp; omega) _
  have r0 : Row ((((w.alloc (Obj.cells ca.toArray 24)).alloc (Obj.cells cb.toArray 24)).alloc (Obj.cells cc.toArray 24)).alloc (Obj.cells #[Value.int IntKind.u64 0, Value.int IntKind.u64 0, Value.int IntKind.u64 0, Value.int IntKind.u64 0] 24)) w.heap.size ca 24 := (((Row.new w ca _).alloc _).alloc _).alloc _
  have r1 : Row ((((w.alloc (Obj.cells ca.toArray 24)).alloc (Obj.cells cb.toArray 24)).alloc (Obj.cells cc.toArray 24)).alloc (Obj.cells #[Value.int IntKind.u64 0, Value.int IntKind.u64 0, Value.int IntKind.u64 0, Value.int IntKind.u64 0] 24)) (w.heap.size + 1) cb 24 := ((Row.new' (by simp) rfl).alloc _).alloc _
  have r2 : Row ((((w.alloc (Obj.cells ca.toArray 24)).alloc (Obj.cells cb.toArray 24)).alloc (Obj.cells cc.toArray 24)).alloc (Obj.cells #[Value.int IntKind.u64 0, Value.int IntKind.u64 0, Value.int IntKind.u64 0, Value.int IntKind.u64 0] 24)) (w.heap.size + 2) cc 24 := (Row.new' (by simp) rfl).alloc _
  have r3 : Row ((((w.alloc (Obj.cells ca.toArray 24)).alloc (Obj.cells cb.toArray 24)).alloc (Obj.cells cc.toArray 24)).alloc (Obj.cells #[Value.int IntKind.u64 0, Value.int IntKind.u64 0, Value.int IntKind.u64 0, Value.int IntKind.u64 0] 24)) (w.heap.size + 3) (vQ (List.replicate 4 0)) 24 := Row.new' (by simp) rfl
  go_enter Tryd.func19, Tryd.ntmps19
  go_wp2_with (refine wpList_load_w rfl 24 (.tmp 5) rfl (w.heap.size + 2) 0 rfl cc _ r2.all Tryd.underlying24 rfl Hc.info ?_; simp only [Act.put, List.setIfInBounds_toArray, List.set_cons_zero, List.set_cons_succ])
  refine (HIZ.out _).mono ?_
  rintro e W0 ⟨rfl, hBc⟩
  replace r0 := Row.below r0 hBc (Row.lt r0)
  replace r1 := Row.below r1 hBc (Row.lt r1)
  replace r2 := Row.below r2 hBc (Row.lt r2)
  replace r3 := Row.below r3 hBc (Row.lt r3)
  replace hb1 := hb1.trans (hBc.mono hb1.size)
  clear hBc HIZ
  go_wp2_with fail
  refine wp_named fun a0 ha0 => ?_
  have hsz : a0.tmps.size = 28 := by rw [ha0]; rfl
  have s3 : a0.eval (.tmp 3) = .pointer (some ⟨w.heap.size, 0, none⟩) := by rw [ha0]; rfl
  have s4 : a0.eval (.tmp 4) = .pointer (some ⟨w.heap.size + 1, 0, none⟩) := by rw [ha0]; rfl
  have s5 : a0.eval (.tmp 5) = .pointer (some ⟨w.heap.size + 2, 0, none⟩) := by rw [ha0]; rfl
  obtain ⟨D, hD⟩ : ∃ D : List (Tmp × SP), D = [(14, SP.is (.agg ca.toArray)), (15, SP.new (blen a) 256 (vI (bts a 256)) 3), (16, SP.is (.agg cb.toArray)), (17, SP.new (blen b) 256 (vI (bts b 256)) 3), (18, SP.dg (blen P) P), (19, SP.is (.agg cc.toArray)), (20, SP.new (blen c) 256 (vI (bts c 256)) 3), (21, SP.dg2 (blen m) m (blen r) r), (13, SP.dg2 (blen m) m (blen r) r), (22, SP.dg (blen m) m), (23, SP.dg (blen r) r), (8, SP.dg (blen m) m), (9, SP.dg (blen r) r)] := ⟨_, rfl⟩
  refine wp_region_down (by kernel_rfl) (fun listed ac W => listed.size = 13 ∧ Fp D a0 listed ac W ∧ Below w.heap.size w W ∧ Row W w.heap.size ca 24 ∧ Row W (w.heap.size + 1) cb 24 ∧ Row W (w.heap.size + 2) cc 24 ∧ Row W (w.heap.size + 3) (vQ (List.replicate 4 0)) 24) ?_ ?_ ?_
  · exact ⟨by simp, Fp.start D a0 _ _, Below.drew hb1, Row.drew r0, Row.drew r1, Row.drew r2, Row.drew r3⟩
  · clear ha0 hb1 r0 r1 r2 r3 
    intro listed ac W k hI hdn hk
    obtain ⟨hl, hF, hb1, r0, r1, r2, r3⟩ := hI
    have hk1 : k < 13 := List.mem_range.1 (List.mem_filter.1 hk).1
    have hl2 : ∀ j, (listed.setIfInBounds j true).size = 13 := fun j => by rw [Array.size_setIfInBounds]; exact hl
    rcases (show k = 0 ∨ k = 1 ∨ k = 2 ∨ k = 3 ∨ k = 4 ∨ k = 5 ∨ k = 6 ∨ k = 7 ∨ k = 8 ∨ k = 9 ∨ k = 10 ∨ k = 11 ∨ k = 12 by omega) with rfl | rfl | rfl | rfl | rfl | rfl | rfl | rfl | rfl | rfl | rfl | rfl | rfl
    · have hk3 := hk
      exact wpOp_plain rfl rfl (wp_load_mid 24 (.tmp 3) rfl w.heap.size 0 ((hF.keep 3 (by rw [hD]; rfl)).trans s3) ca _ r0.all Tryd.underlying24 rfl Ha.info ⟨hl2 0, (hF.put 0 14 (SP.is (.agg ca.toArray)) (.agg ca.toArray) (by rw [hD]; rfl) rfl (by rw [hD]; rfl) (by rw [hsz]; decide) (by rw [hl]; decide)), hb1, r0, r1, r2, r3⟩)
    · have hk3 := hk
      have e1 := (hF.done 0 (14, SP.is (.agg ca.toArray)) (by rw [hD]; rfl) (ready_dep hk 0 (by kernel_rfl)))
      refine wpOp_plain rfl rfl (wp_fcall_v 47 #[.agg ca.toArray] rfl rfl (by show [ac.eval (.tmp 14)] = _; simp only [show ac.eval (.tmp 14) = _ from e1]) (by go_simp) ((HDA.out W).mono ?_))
      rintro e W2 ⟨yN, yL, yR, rfl, hB⟩
      exact ⟨_, rfl, hl2 1, ((hF.world hB).put 1 15 (SP.new (blen a) 256 (vI (bts a 256)) 3) (.slice (some ⟨yN, 0, none⟩) (blen a) 256) (by rw [hD]; rfl) (⟨yN, rfl, yR⟩) (by rw [hD]; rfl) (by rw [hsz]; decide) (by rw [hl]; decide)), hb1.trans (hB.mono hb1.size), Row.below r0 hB (Row.lt r0), Row.below r1 hB (Row.lt r1), Row.below r2 hB (Row.lt r2), Row.below r3 hB (Row.lt r3)⟩
    · have hk3 := hk
      exact wpOp_plain rfl rfl (wp_load_mid 24 (.tmp 4) rfl (w.heap.size + 1) 0 ((hF.keep 4 (by rw [hD]; rfl)).trans s4) cb _ r1.all Tryd.underlying24 rfl Hb.info ⟨hl2 2, (hF.put 2 16 (SP.is (.agg cb.toArray)) (.agg cb.toArray) (by rw [hD]; rfl) rfl (by rw [hD]; rfl) (by rw [hsz]; decide) (by rw [hl]; decide)), hb1, r0, r1, r2, r3⟩)
    · have hk3 := hk
      have e1 := (hF.done 2 (16, SP.is (.agg cb.toArray)) (by rw [hD]; rfl) (ready_dep hk 2 (by kernel_rfl)))
      refine wpOp_plain rfl rfl (wp_fcall_v 47 #[.agg cb.toArray] rfl rfl (by show [ac.eval (.tmp 16)] = _; simp only [show ac.eval (.tmp 16) = _ from e1]) (by go_simp) ((HDB.out W).mono ?_))
      rintro e W2 ⟨yN, yL, yR, rfl, hB⟩
      exact ⟨_, rfl, hl2 3, ((hF.world hB).put 3 17 (SP.new (blen b) 256 (vI (bts b 256)) 3) (.slice (some ⟨yN, 0, none⟩) (blen b) 256) (by rw [hD]; rfl) (⟨yN, rfl, yR⟩) (by rw [hD]; rfl) (by rw [hsz]; decide) (by rw [hl]; decide)), hb1.trans (hB.mono hb1.size), Row.below r0 hB (Row.lt r0), Row.below r1 hB (Row.lt r1), Row.below r2 hB (Row.lt r2), Row.below r3 hB (Row.lt r3)⟩
    · have hk3 := hk
      obtain ⟨N1, e1, y1⟩ := (hF.done 1 (15, SP.new (blen a) 256 (vI (bts a 256)) 3) (by rw [hD]; rfl) (ready_dep hk 1 (by kernel_rfl)))
      obtain ⟨N2, e2, y2⟩ := (hF.done 3 (17, SP.new (blen b) 256 (vI (bts b 256)) 3) (by rw [hD]; rfl) (ready_dep hk 3 (by kernel_rfl)))
      refine wpOp_plain rfl rfl (wp_fcall_v 52 #[.slice (some ⟨N1, 0, none⟩) (blen a) 256, .slice (some ⟨N2, 0, none⟩) (blen b) 256] rfl rfl (by show [ac.eval (.tmp 15), ac.eval (.tmp 17)] = _; simp only [show ac.eval (.tmp 15) = _ from e1, show ac.eval (.tmp 17) = _ from e2]) (by go_simp) ((HTM.out N1 N2 W y1 y2).mono ?_))
      rintro e W2 ⟨yv, rfl, yD, hB⟩
      exact ⟨_, rfl, hl2 4, ((hF.world hB).put 4 18 (SP.dg (blen P) P) yv (by rw [hD]; rfl) yD (by rw [hD]; rfl) (by rw [hsz]; decide) (by rw [hl]; decide)), hb1.trans (hB.mono hb1.size), Row.below r0 hB (Row.lt r0), Row.below r1 hB (Row.lt r1), Row.below r2 hB (Row.lt r2), Row.below r3 hB (Row.lt r3)⟩
    · have hk3 := hk
      exact wpOp_plain rfl rfl (wp_load_mid 24 (.tmp 5) rfl (w.heap.size + 2) 0 ((hF.keep 5 (by rw [hD]; rfl)).trans s5) cc _ r2.all Tryd.underlying24 rfl Hc.info ⟨hl2 5, (hF.put 5 19 (SP.is (.agg cc.toArray)) (.agg cc.toArray) (by rw [hD]; rfl) rfl (by rw [hD]; rfl) (by rw [hsz]; decide) (by rw [hl]; decide)), hb1, r0, r1, r2, r3⟩)
    · have hk3 := hk
      have e1 := (hF.done 5 (19, SP.is (.agg cc.toArray)) (by rw [hD]; rfl) (ready_dep hk 5 (by kernel_rfl)))
      refine wpOp_plain rfl rfl (wp_fcall_v 47 #[.agg cc.toArray] rfl rfl (by show [ac.eval (.tmp 19)] = _; simp only [show ac.eval (.tmp 19) = _ from e1]) (by go_simp) ((HDC.out W).mono ?_))
      rintro e W2 ⟨yN, yL, yR, rfl, hB⟩
      exact ⟨_, rfl, hl2 6, ((hF.world hB).put 6 20 (SP.new (blen c) 256 (vI (bts c 256)) 3) (.slice (some ⟨yN, 0, none⟩) (blen c) 256) (by rw [hD]; rfl) (⟨yN, rfl, yR⟩) (by rw [hD]; rfl) (by rw [hsz]; decide) (by rw [hl]; decide)), hb1.trans (hB.mono hb1.size), Row.below r0 hB (Row.lt r0), Row.below r1 hB (Row.lt r1), Row.below r2 hB (Row.lt r2), Row.below r3 hB (Row.lt r3)⟩
    · have hk3 := hk
      have y1 := (hF.done 4 (18, SP.dg (blen P) P) (by rw [hD]; rfl) (ready_dep hk 4 (by kernel_rfl)))
      obtain ⟨N2, e2, y2⟩ := (hF.done 6 (20, SP.new (blen c) 256 (vI (bts c 256)) 3) (by rw [hD]; rfl) (ready_dep hk 6 (by kernel_rfl)))
      refine wpOp_plain rfl rfl (wp_fcall_v 55 #[ac.eval (.tmp 18), .slice (some ⟨N2, 0, none⟩) (blen c) 256] rfl rfl (by show [ac.eval (.tmp 18), ac.eval (.tmp 20)] = _; simp only [show ac.eval (.tmp 20) = _ from e2]) (by go_simp) ((HBY.out _ N2 W y1 y2).mono ?_))
      rintro e W2 ⟨yq, yl, rfl, yD1, yD2, hB⟩
      exact ⟨_, rfl, hl2 7, ((hF.world hB).put 7 21 (SP.dg2 (blen m) m (blen r) r) (.tuple #[yq, yl]) (by rw [hD]; rfl) (⟨yq, yl, rfl, yD1, yD2⟩) (by rw [hD]; rfl) (by rw [hsz]; decide) (by rw [hl]; decide)), hb1.trans (hB.mono hb1.size), Row.below r0 hB (Row.lt r0), Row.below r1 hB (Row.lt r1), Row.below r2 hB (Row.lt r2), Row.below r3 hB (Row.lt r3)⟩
    · have hk3 := hk
      exact wpOp_plain rfl rfl (wp_move_v (ac.eval (.tmp 21)) rfl rfl ⟨hl2 8, (hF.put 8 13 (SP.dg2 (blen m) m (blen r) r) (ac.eval (.tmp 21)) (by rw [hD]; rfl) ((hF.done 7 (21, SP.dg2 (blen m) m (blen r) r) (by rw [hD]; rfl) (ready_dep hk 7 (by kernel_rfl)))) (by rw [hD]; rfl) (by rw [hsz]; decide) (by rw [hl]; decide)), hb1, r0, r1, r2, r3⟩)
    · have hk3 := hk
      obtain ⟨yq, yl, e1, yD1, yD2⟩ := (hF.done 8 (13, SP.dg2 (blen m) m (blen r) r) (by rw [hD]; rfl) (ready_dep hk 8 (by kernel_rfl)))
      exact wpOp_plain rfl rfl (wp_extract (.tmp 13) 0 rfl #[yq, yl] e1 yq rfl ⟨hl2 9, (hF.put 9 22 (SP.dg (blen m) m) yq (by rw [hD]; rfl) yD1 (by rw [hD]; rfl) (by rw [hsz]; decide) (by rw [hl]; decide)), hb1, r0, r1, r2, r3⟩)
    · have hk3 := hk
      obtain ⟨yq, yl, e1, yD1, yD2⟩ := (hF.done 8 (13, SP.dg2 (blen m) m (blen r) r) (by rw [hD]; rfl) (ready_dep hk 8 (by kernel_rfl)))
      exact wpOp_plain rfl rfl (wp_extract (.tmp 13) 1 rfl #[yq, yl] e1 yl rfl ⟨hl2 10, (hF.put 10 23 (SP.dg (blen r) r) yl (by rw [hD]; rfl) yD2 (by rw [hD]; rfl) (by rw [hsz]; decide) (by rw [hl]; decide)), hb1, r0, r1, r2, r3⟩)
    · have hk3 := hk
      exact wpOp_plain rfl rfl (wp_assign_v (ac.eval (.tmp 22)) rfl rfl ⟨hl2 11, (hF.put 11 8 (SP.dg (blen m) m) (ac.eval (.tmp 22)) (by rw [hD]; rfl) ((hF.done 9 (22, SP.dg (blen m) m) (by rw [hD]; rfl) (ready_dep hk 9 (by kernel_rfl)))) (by rw [hD]; rfl) (by rw [hsz]; decide) (by rw [hl]; decide)), hb1, r0, r1, r2, r3⟩)
    · have hk3 := hk
      exact wpOp_plain rfl rfl (wp_assign_v (ac.eval (.tmp 23)) rfl rfl ⟨hl2 12, (hF.put 12 9 (SP.dg (blen r) r) (ac.eval (.tmp 23)) (by rw [hD]; rfl) ((hF.done 10 (23, SP.dg (blen r) r) (by rw [hD]; rfl) (ready_dep hk 10 (by kernel_rfl)))) (by rw [hD]; rfl) (by rw [hsz]; decide) (by rw [hl]; decide)), hb1, r0, r1, r2, r3⟩)
  · clear hb1 r0 r1 r2 r3 
    intro listed ac W hI hr
    obtain ⟨hl, hF, hb1, r0, r1, r2, r3⟩ := hI
    have hall := all_listed (by kernel_rfl) hl hr
    have h14 : ac.eval (.tmp 14) = .agg ca.toArray := hF.done 0 (14, SP.is (.agg ca.toArray)) (by rw [hD]; rfl) (hall 0 (by decide))
    obtain ⟨x15, h15⟩ : ∃ x, ac.eval (.tmp 15) = x := ⟨_, rfl⟩
    have h16 : ac.eval (.tmp 16) = .agg cb.toArray := hF.done 2 (16, SP.is (.agg cb.toArray)) (by rw [hD]; rfl) (hall 2 (by decide))
    obtain ⟨x17, h17⟩ : ∃ x, ac.eval (.tmp 17) = x := ⟨_, rfl⟩
    obtain ⟨x18, h18⟩ : ∃ x, ac.eval (.tmp 18) = x := ⟨_, rfl⟩
    have h19 : ac.eval (.tmp 19) = .agg cc.toArray := hF.done 5 (19, SP.is (.agg cc.toArray)) (by rw [hD]; rfl) (hall 5 (by decide))
    obtain ⟨x20, h20⟩ : ∃ x, ac.eval (.tmp 20) = x := ⟨_, rfl⟩
    obtain ⟨x21, h21⟩ : ∃ x, ac.eval (.tmp 21) = x := ⟨_, rfl⟩
    obtain ⟨x13, h13⟩ : ∃ x, ac.eval (.tmp 13) = x := ⟨_, rfl⟩
    obtain ⟨x22, h22⟩ : ∃ x, ac.eval (.tmp 22) = x := ⟨_, rfl⟩
    obtain ⟨x23, h23⟩ : ∃ x, ac.eval (.tmp 23) = x := ⟨_, rfl⟩
    have f8 := hF.done 11 (8, SP.dg (blen m) m) (by rw [hD]; rfl) (hall 11 (by decide))
    obtain ⟨x8, h8⟩ : ∃ x, ac.eval (.tmp 8) = x := ⟨_, rfl⟩
    replace f8 : (SP.dg (blen m) m).P W x8 := by rw [← h8]; exact f8
    obtain ⟨x9, h9⟩ : ∃ x, ac.eval (.tmp 9) = x := ⟨_, rfl⟩
    have ea := hF.lay [(14, .agg ca.toArray), (15, x15), (16, .agg cb.toArray), (17, x17), (18, x18), (19, .agg cc.toArray), (20, x20), (21, x21), (13, x13), (22, x22), (23, x23), (8, x8), (9, x9)] (by rw [hD, hsz]; rfl) (by simp only [List.forall_mem_cons, List.not_mem_nil, false_implies, implies_true, and_true]; exact ⟨h14, h15, h16, h17, h18, h19, h20, h21, h13, h22, h23, h8, h9⟩)
    rw [ha0] at ea
    simp only [List.foldl_cons, List.foldl_nil, List.setIfInBounds_toArray, List.set_cons_zero, List.set_cons_succ] at ea
    clear hF hall hr hl hD  s3 s4 s5 ha0 hsz h14 h15 h16 h17 h18 h19 h20 h21 h13 h22 h23 h8 h9
    subst ea
    have dq : Dg W x8 (blen m) m := f8
    generalize x8 = qv at *
    go_wp2_with fail
    refine (HAN.out qv W dq).mono ?_
    rintro e W5 ⟨rfl, hB5⟩
    replace r3 := Row.below r3 hB5 (Row.lt r3)
    replace hb1 := hb1.trans (hB5.mono hb1.size)
    clear hB5 dq r0 r1 r2
    have T := r3.there 0 cR.toArray.size (by simp [HR.len, vQ_length])
    have fin := r3.over (vs := cR) (by rw [HR.len]; rfl)
    have hbf := below_setCells hb1 (b := w.heap.size + 3) (o := 0) (by omega) cR
    go_wp2_with (refine wpList_store_mid rfl 24 (.tmp 6) (.tmp 26) rfl (w.heap.size + 3) 0 cR.toArray rfl rfl T HR.info' HR.one ?_; simp only [Act.put])
    exact bodyPost_ret (results_row_tmp Tryd.results19 _ _ (w.heap.size + 3) 24 cR (.int .i64 E) rfl rfl fin Tryd.underlying24 info_w4 HR.len) rfl ⟨rfl, hbf⟩

theorem refMd_c {ca cb cc : List Value} {a b c : Nat} (Ha : Wc ca a) (Hb : Wc cb b) (Hc : Wc cc c) (ha : a < 2 ^ 256) (hb : b < 2 ^ 256) (hc : c < 2 ^ 256) {r : Nat} {E : Int} (hr : mdR a b c = r) (hE : mdE a b c = E) (w : World) : Calls Tryd.prog 19 #[.agg ca.toArray, .agg cb.toArray, .agg cc.toArray] w fun e w' => ∃ x, Wc x r ∧ e = .returned (.tuple #[.agg x.toArray, .int .i64 E]) ∧ Below w.heap.size w w' := by
  subst hr hE
  rw [Ha, Hb, Hc]
  by_cases hz : c = 0
  · rw [show mdR a b c = 0 from if_pos hz, show mdE a b c = 24 from if_pos hz]
    exact (refMulDiv_zero a b c hc hz w).mono fun e w' h => ⟨_, rfl, h.1, h.2⟩
  · rw [show mdR a b c = numR (a * b / c) from if_neg hz, show mdE a b c = ansErr (a * b / c) from if_neg hz]
    exact (refMulDiv_any a b c ha hb hc hz w).mono fun e w' h => ⟨_, rfl, h.1, h.2⟩

end Go.Proofs.YtehccmlbnfhhmaaDoor
