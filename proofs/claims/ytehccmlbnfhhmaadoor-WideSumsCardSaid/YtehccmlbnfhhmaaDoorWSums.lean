/-
  causewaylaw02.WideSums.
-/
import Derived.Test.YtehccmlbnfhhmaaDoorWKnown
import Derived.Test.YtehccmlbnfhhmaaDoorWRefs
import Derived.Test.YtehccmlbnfhhmaaDoorWRefSub
import Derived.Test.YtehccmlbnfhhmaaDoorWSm
namespace Go.Proofs.YtehccmlbnfhhmaaDoor
open Go Go.RowKit
open Wd

theorem range_left {W : World} {N : Nat} {c d : List Value} {t : TypeId} (r : Row W N (c ++ d) t) : W.rangeAt N 0 c :=
  r.range 0 c (fun j v hv => by rw [Nat.zero_add, List.getElem?_append_left (List.getElem?_eq_some_iff.1 hv).1]; exact hv)
theorem range_right {W : World} {N k : Nat} {c d : List Value} {t : TypeId} (r : Row W N (c ++ d) t) (hk : c.length = k) : W.rangeAt N k d :=
  r.range k d (fun j v hv => by rw [List.getElem?_append_right (by omega), show k + j - c.length = j by omega]; exact hv)

set_option maxRecDepth 100000 in
set_option maxHeartbeats 16000000 in
theorem sums_walk (a b : Nat) (ha : a < 2 ^ 256) (hb : b < 2 ^ 256) (w : World) (hp : P10 w) :
    Calls Tryd.prog 3 #[.agg (vQ (dgs a 4)).toArray, .agg (vQ (dgs b 4)).toArray] w fun e w' => e = .returned (.bool true) ∧ Below w.heap.size w w' := by
  have HP : Hid (P10 w) := hp
  have HA : Hid (a < 2 ^ 256) := ha
  have HB : Hid (b < 2 ^ 256) := hb
  obtain ⟨ca, Ha⟩ : ∃ c, Wc c a := ⟨_, rfl⟩
  obtain ⟨cb, Hb⟩ : ∃ c, Wc c b := ⟨_, rfl⟩
  rw [← show ca = vQ (dgs a 4) from Ha, ← show cb = vQ (dgs b 4) from Hb]
  clear ha hb hp
  have hb : Below w.heap.size w ((w.alloc (Obj.cells ca.toArray 24)).alloc (Obj.cells cb.toArray 24)) := ((Below.refl _ _).alloc (Nat.le_refl _) _).alloc (by simp) _
  have ra : Row ((w.alloc (Obj.cells ca.toArray 24)).alloc (Obj.cells cb.toArray 24)) w.heap.size ca 24 := (Row.new w ca _).alloc _
  have rb : Row ((w.alloc (Obj.cells ca.toArray 24)).alloc (Obj.cells cb.toArray 24)) (w.heap.size + 1) cb 24 := Row.new' (by simp) rfl
  go_enter Tryd.func3, Tryd.ntmps3
  go_wp2_with fail
  generalize ((w.alloc (Obj.cells ca.toArray 24)).alloc (Obj.cells cb.toArray 24)) = W0 at *
  refine (known_any W0 (HP.out.below hb)).mono ?_
  rintro e V0 ⟨rfl, hB⟩
  replace hb := hb.trans (hB.mono hb.size)
  replace ra := Row.below ra hB (Row.lt ra)
  replace rb := Row.below rb hB (Row.lt rb)
  clear hB
  have ra1 := Row.alloc ra (Obj.cells (ca ++ cb).toArray 24)
  have rb1 := Row.alloc rb (Obj.cells (ca ++ cb).toArray 24)
  have rx : Row ((V0.alloc (Obj.cells (ca ++ cb).toArray 24)).alloc (Obj.cells (cb ++ ca).toArray 24)) V0.heap.size (ca ++ cb) 24 := (Row.new' rfl rfl).alloc _
  have ry : Row ((V0.alloc (Obj.cells (ca ++ cb).toArray 24)).alloc (Obj.cells (cb ++ ca).toArray 24)) (V0.heap.size + 1) (cb ++ ca) 24 := Row.new' (by simp) rfl
  have lw : w.heap.size ≤ V0.heap.size := hb.size
  have hbx : Below w.heap.size w ((V0.alloc (Obj.cells (ca ++ cb).toArray 24)).alloc (Obj.cells (cb ++ ca).toArray 24)) := (hb.alloc hb.size _).alloc (by simp; have := hb.size; omega) _
  go_wp2_with (first
    | (refine wpList_load_w rfl 24 (.tmp 2) rfl (w.heap.size) 0 rfl ca _ ra.all Tryd.underlying24 rfl Ha.info ?_; simp only [Act.put, List.setIfInBounds_toArray, List.set_cons_zero, List.set_cons_succ])
    | (refine wpList_load_w rfl 24 (.tmp 3) rfl (w.heap.size + 1) 0 rfl cb _ rb.all Tryd.underlying24 rfl Hb.info ?_; simp only [Act.put, List.setIfInBounds_toArray, List.set_cons_zero, List.set_cons_succ])
    | (refine wpList_load_w rfl 24 (.tmp 2) rfl (w.heap.size) 0 rfl ca _ ra1.all Tryd.underlying24 rfl Ha.info ?_; simp only [Act.put, List.setIfInBounds_toArray, List.set_cons_zero, List.set_cons_succ])
    | (refine wpList_load_w rfl 24 (.tmp 3) rfl (w.heap.size + 1) 0 rfl cb _ rb1.all Tryd.underlying24 rfl Hb.info ?_; simp only [Act.put, List.setIfInBounds_toArray, List.set_cons_zero, List.set_cons_succ])
    | (refine wpList_build2 rfl (.tmp 14) (.tmp 15) rfl ca cb Ha.len Hb.len rfl rfl V0.heap.size rfl ?_; simp only [Act.put, List.setIfInBounds_toArray, List.set_cons_zero, List.set_cons_succ])
    | (refine wpList_build2 rfl (.tmp 17) (.tmp 18) rfl cb ca Hb.len Ha.len rfl rfl (V0.heap.size + 1) (by simp) ?_; simp only [Act.put, List.setIfInBounds_toArray, List.set_cons_zero, List.set_cons_succ]))
  clear hb ra rb ra1 rb1
  generalize ((V0.alloc (Obj.cells (ca ++ cb).toArray 24)).alloc (Obj.cells (cb ++ ca).toArray 24)) = X0 at *
  obtain ⟨NX, hNX⟩ : ∃ N, N = V0.heap.size := ⟨_, rfl⟩
  obtain ⟨NY, hNY⟩ : ∃ N, N = V0.heap.size + 1 := ⟨_, rfl⟩
  rw [← hNX] at rx lw
  rw [← hNY] at ry
  have lx : NX < NY := by omega
  rw [← hNY, ← hNX]
  clear hNX hNY
  go_loopw [8, 9, 10, 11, 12] (fun i _ _ _ _ wr => ∃ t : Nat, t ≤ 2 ∧ i = .int .i64 (t : Int) ∧ Below w.heap.size w wr ∧ Row wr NX (ca ++ cb) 24 ∧ Row wr NY (cb ++ ca) 24) (fun i _ _ _ _ _ => 2 - (intOf i).toNat)
  case atStart => exact ⟨0, by omega, rfl, hbx, rx, ry⟩
  case round =>
    obtain ⟨t, ht, rfl, hb, rx, ry⟩ := hrel
    by_cases hlt : t < 2
    · obtain ⟨cu, cv, u, v, Hu, Hv, hu, hv, hX, hY⟩ : ∃ (cu cv : List Value) (u v : Nat), Wc cu u ∧ Wc cv v ∧ u < 2 ^ 256 ∧ v < 2 ^ 256 ∧ (∀ W, Row W NX (ca ++ cb) 24 → W.rangeAt NX (t * 4) cu) ∧ (∀ W, Row W NY (cb ++ ca) 24 → W.rangeAt NY (t * 4) cv) := by
        rcases (show t = 0 ∨ t = 1 by omega) with rfl | rfl
        · exact ⟨ca, cb, a, b, Ha, Hb, HA.out, HB.out, fun W r => range_left r, fun W r => range_left r⟩
        · exact ⟨cb, ca, b, a, Hb, Ha, HB.out, HA.out, fun W r => range_right r Ha.len, fun W r => range_right r Hb.len⟩
      have HX : Hid (∀ W, _ → _) := hX
      have HY : Hid (∀ W, _ → _) := hY
      have addL : addR u v < 2 ^ 256 := by unfold addR; split; assumption; decide
      have subL : subR u v < 2 ^ 256 := by unfold subR; split; decide; omega
      have mulL : mulR u v < 2 ^ 256 := by unfold mulR; split; assumption; decide
      have HADD : Hid (∀ w, _) := fun w => add_c Hu Hv hu hv rfl rfl w
      have HSUB : Hid (∀ w, _) := fun w => sub_c Hu Hv hu hv rfl rfl w
      have HMUL : Hid (∀ w, _) := fun w => mul_c Hu Hv hu hv rfl rfl w
      have HRAD : Hid (∀ w, _) := fun w => refAdd_c u v hu hv w
      have HRSU : Hid (∀ w, _) := fun w => refSub_c u v hu hv w
      have HRMU : Hid (∀ w, _) := fun w => refMul_c u v hu hv w
      obtain ⟨c1, H1⟩ : ∃ c, Wc c (addR u v) := ⟨_, rfl⟩
      obtain ⟨c2, H2⟩ : ∃ c, Wc c (subR u v) := ⟨_, rfl⟩
      obtain ⟨c3, H3⟩ : ∃ c, Wc c (mulR u v) := ⟨_, rfl⟩
      rw [← show cu = vQ (dgs u 4) from Hu, ← show cv = vQ (dgs v 4) from Hv, ← show c1 = vQ (dgs (addR u v) 4) from H1] at HRAD
      rw [← show cu = vQ (dgs u 4) from Hu, ← show cv = vQ (dgs v 4) from Hv, ← show c2 = vQ (dgs (subR u v) 4) from H2] at HRSU
      rw [← show cu = vQ (dgs u 4) from Hu, ← show cv = vQ (dgs v 4) from Hv, ← show c3 = vQ (dgs (mulR u v) 4) from H3] at HRMU
      have HL1 : Hid (addR u v < 2 ^ 256) := addL
      have HL2 : Hid (subR u v < 2 ^ 256) := subL
      have HL3 : Hid (mulR u v < 2 ^ 256) := mulL
      generalize addR u v = n1 at *
      generalize subR u v = n2 at *
      generalize mulR u v = n3 at *
      generalize addE u v = E1 at *
      generalize subE u v = E2 at *
      generalize mulE u v = E3 at *
      generalize ca ++ cb = cx at *
      generalize cb ++ ca = cy at *
      clear hX hY addL subL mulL hu hv Ha Hb HA HB ht HP
      go_wp2_with fail
      refine wp_named fun a0 ha0 => ?_
      have hsz : a0.tmps.size = 121 := by rw [ha0]; rfl
      have s6 : a0.eval (.tmp 6) = .slice (some ⟨NX, 0, none⟩) 2 2 := by rw [ha0]; rfl
      have s7 : a0.eval (.tmp 7) = .slice (some ⟨NY, 0, none⟩) 2 2 := by rw [ha0]; rfl
      have s8 : a0.eval (.tmp 8) = .int .i64 (t : Int) := by rw [ha0]; rfl
      obtain ⟨D, hD⟩ : ∃ D : List (Tmp × SP), D = [(25, SP.is (.slice (some ⟨NX, 0, none⟩) 2 2)), (26, SP.is (.int .i64 (t : Int))), (27, SP.is (.pointer (some ⟨NX, t * 4, none⟩))), (28, SP.is (.agg cu.toArray)), (29, SP.is (.slice (some ⟨NY, 0, none⟩) 2 2)), (30, SP.is (.int .i64 (t : Int))), (31, SP.is (.pointer (some ⟨NY, t * 4, none⟩))), (32, SP.is (.agg cv.toArray)), (33, SP.is (.tuple #[.agg c1.toArray, .int .i64 E1])), (24, SP.is (.tuple #[.agg c1.toArray, .int .i64 E1])), (34, SP.is (.agg c1.toArray)), (35, SP.is (.int .i64 E1)), (9, SP.any), (1000, SP.any), (10, SP.is (.int .i64 E1))] := ⟨_, rfl⟩
      refine wp_region_inv (by kernel_rfl) (fun listed ac W => ∃ (N9 : Nat), listed.size = 15 ∧ Fp D a0 listed ac W ∧ Below w.heap.size w W ∧ Row W NX cx 24 ∧ Row W NY cy 24 ∧ (listed.getD 12 false = true → ac.eval (.tmp 9) = .pointer (some ⟨N9, 0, none⟩) ∧ NY < N9 ∧ Row W N9 (if listed.getD 13 false = true then c1 else (vQ (List.replicate 4 0))) 24) ∧ (listed.getD 13 false = true → listed.getD 12 false = true)) ?_ ?_ ?_
      · exact ⟨0, by simp, Fp.start D a0 _ _, Below.drew hb, Row.drew rx, Row.drew ry, (fun h => (start_no h).elim), (fun h => (start_no h).elim)⟩
      · clear ha0 hb rx ry 
        intro listed ac W k hI hk
        obtain ⟨N9, hl, hF, hb, rx, ry, al12, as12⟩ := hI
        have hk1 : k < 15 := List.mem_range.1 (List.mem_filter.1 hk).1
        have hl2 : ∀ j, (listed.setIfInBounds j true).size = 15 := fun j => by rw [Array.size_setIfInBounds]; exact hl
        rcases (show k = 0 ∨ k = 1 ∨ k = 2 ∨ k = 3 ∨ k = 4 ∨ k = 5 ∨ k = 6 ∨ k = 7 ∨ k = 8 ∨ k = 9 ∨ k = 10 ∨ k = 11 ∨ k = 12 ∨ k = 13 ∨ k = 14 by omega) with rfl | rfl | rfl | rfl | rfl | rfl | rfl | rfl | rfl | rfl | rfl | rfl | rfl | rfl | rfl
        · have hk3 := hk
          exact wpOp_plain rfl rfl (wp_move_v (ac.eval (.tmp 6)) rfl rfl ⟨N9, hl2 0, (hF.put 0 25 (SP.is (.slice (some ⟨NX, 0, none⟩) 2 2)) (ac.eval (.tmp 6)) (by rw [hD]; rfl) (((hF.keep 6 (by rw [hD]; rfl)).trans s6)) (by rw [hD]; rfl) (by rw [hsz]; decide)), hb, rx, ry, (fun h => ⟨(eval_put_other ac _ (by decide)).trans ((al12 (by rwa [getD_set _ _ _ (by decide)] at h)).1), (al12 (by rwa [getD_set _ _ _ (by decide)] at h)).2.1, by rw [getD_set _ _ _ (by decide)]; exact (al12 (by rwa [getD_set _ _ _ (by decide)] at h)).2.2⟩), (fun h => by rw [getD_set _ _ _ (by decide)]; exact as12 (by rwa [getD_set _ _ _ (by decide)] at h))⟩)
        · have hk3 := hk
          exact wpOp_plain rfl rfl (wp_move_v (ac.eval (.tmp 8)) rfl rfl ⟨N9, hl2 1, (hF.put 1 26 (SP.is (.int .i64 (t : Int))) (ac.eval (.tmp 8)) (by rw [hD]; rfl) (((hF.keep 8 (by rw [hD]; rfl)).trans s8)) (by rw [hD]; rfl) (by rw [hsz]; decide)), hb, rx, ry, (fun h => ⟨(eval_put_other ac _ (by decide)).trans ((al12 (by rwa [getD_set _ _ _ (by decide)] at h)).1), (al12 (by rwa [getD_set _ _ _ (by decide)] at h)).2.1, by rw [getD_set _ _ _ (by decide)]; exact (al12 (by rwa [getD_set _ _ _ (by decide)] at h)).2.2⟩), (fun h => by rw [getD_set _ _ _ (by decide)]; exact as12 (by rwa [getD_set _ _ _ (by decide)] at h))⟩)
        · have hk3 := hk
          have e1 := (hF.done 0 (25, SP.is (.slice (some ⟨NX, 0, none⟩) 2 2)) (by rw [hD]; rfl) (ready_dep hk 0 (by kernel_rfl)))
          have e2 := (hF.done 1 (26, SP.is (.int .i64 (t : Int))) (by rw [hD]; rfl) (ready_dep hk 1 (by kernel_rfl)))
          exact wpOp_plain rfl rfl (wp_index_w rfl NX 2 2 t e1 e2 hlt ⟨N9, hl2 2, (hF.put 2 27 (SP.is (.pointer (some ⟨NX, t * 4, none⟩))) (.pointer (some ⟨NX, t * 4, none⟩)) (by rw [hD]; rfl) rfl (by rw [hD]; rfl) (by rw [hsz]; decide)), hb, rx, ry, (fun h => ⟨(eval_put_other ac _ (by decide)).trans ((al12 (by rwa [getD_set _ _ _ (by decide)] at h)).1), (al12 (by rwa [getD_set _ _ _ (by decide)] at h)).2.1, by rw [getD_set _ _ _ (by decide)]; exact (al12 (by rwa [getD_set _ _ _ (by decide)] at h)).2.2⟩), (fun h => by rw [getD_set _ _ _ (by decide)]; exact as12 (by rwa [getD_set _ _ _ (by decide)] at h))⟩)
        · have hk3 := hk
          exact wpOp_plain rfl rfl (wp_load_mid 24 (.tmp 27) rfl NX (t * 4) (hF.done 2 (27, SP.is (.pointer (some ⟨NX, t * 4, none⟩))) (by rw [hD]; rfl) (ready_dep hk 2 (by kernel_rfl))) cu _ (HX.out W rx) Tryd.underlying24 rfl Hu.info ⟨N9, hl2 3, (hF.put 3 28 (SP.is (.agg cu.toArray)) (.agg cu.toArray) (by rw [hD]; rfl) rfl (by rw [hD]; rfl) (by rw [hsz]; decide)), hb, rx, ry, (fun h => ⟨(eval_put_other ac _ (by decide)).trans ((al12 (by rwa [getD_set _ _ _ (by decide)] at h)).1), (al12 (by rwa [getD_set _ _ _ (by decide)] at h)).2.1, by rw [getD_set _ _ _ (by decide)]; exact (al12 (by rwa [getD_set _ _ _ (by decide)] at h)).2.2⟩), (fun h => by rw [getD_set _ _ _ (by decide)]; exact as12 (by rwa [getD_set _ _ _ (by decide)] at h))⟩)
        · have hk3 := hk
          exact wpOp_plain rfl rfl (wp_move_v (ac.eval (.tmp 7)) rfl rfl ⟨N9, hl2 4, (hF.put 4 29 (SP.is (.slice (some ⟨NY, 0, none⟩) 2 2)) (ac.eval (.tmp 7)) (by rw [hD]; rfl) (((hF.keep 7 (by rw [hD]; rfl)).trans s7)) (by rw [hD]; rfl) (by rw [hsz]; decide)), hb, rx, ry, (fun h => ⟨(eval_put_other ac _ (by decide)).trans ((al12 (by rwa [getD_set _ _ _ (by decide)] at h)).1), (al12 (by rwa [getD_set _ _ _ (by decide)] at h)).2.1, by rw [getD_set _ _ _ (by decide)]; exact (al12 (by rwa [getD_set _ _ _ (by decide)] at h)).2.2⟩), (fun h => by rw [getD_set _ _ _ (by decide)]; exact as12 (by rwa [getD_set _ _ _ (by decide)] at h))⟩)
        · have hk3 := hk
          exact wpOp_plain rfl rfl (wp_move_v (ac.eval (.tmp 8)) rfl rfl ⟨N9, hl2 5, (hF.put 5 30 (SP.is (.int .i64 (t : Int))) (ac.eval (.tmp 8)) (by rw [hD]; rfl) (((hF.keep 8 (by rw [hD]; rfl)).trans s8)) (by rw [hD]; rfl) (by rw [hsz]; decide)), hb, rx, ry, (fun h => ⟨(eval_put_other ac _ (by decide)).trans ((al12 (by rwa [getD_set _ _ _ (by decide)] at h)).1), (al12 (by rwa [getD_set _ _ _ (by decide)] at h)).2.1, by rw [getD_set _ _ _ (by decide)]; exact (al12 (by rwa [getD_set _ _ _ (by decide)] at h)).2.2⟩), (fun h => by rw [getD_set _ _ _ (by decide)]; exact as12 (by rwa [getD_set _ _ _ (by decide)] at h))⟩)
        · have hk3 := hk
          have e1 := (hF.done 4 (29, SP.is (.slice (some ⟨NY, 0, none⟩) 2 2)) (by rw [hD]; rfl) (ready_dep hk 4 (by kernel_rfl)))
          have e2 := (hF.done 5 (30, SP.is (.int .i64 (t : Int))) (by rw [hD]; rfl) (ready_dep hk 5 (by kernel_rfl)))
          exact wpOp_plain rfl rfl (wp_index_w rfl NY 2 2 t e1 e2 hlt ⟨N9, hl2 6, (hF.put 6 31 (SP.is (.pointer (some ⟨NY, t * 4, none⟩))) (.pointer (some ⟨NY, t * 4, none⟩)) (by rw [hD]; rfl) rfl (by rw [hD]; rfl) (by rw [hsz]; decide)), hb, rx, ry, (fun h => ⟨(eval_put_other ac _ (by decide)).trans ((al12 (by rwa [getD_set _ _ _ (by decide)] at h)).1), (al12 (by rwa [getD_set _ _ _ (by decide)] at h)).2.1, by rw [getD_set _ _ _ (by decide)]; exact (al12 (by rwa [getD_set _ _ _ (by decide)] at h)).2.2⟩), (fun h => by rw [getD_set _ _ _ (by decide)]; exact as12 (by rwa [getD_set _ _ _ (by decide)] at h))⟩)
        · have hk3 := hk
          exact wpOp_plain rfl rfl (wp_load_mid 24 (.tmp 31) rfl NY (t * 4) (hF.done 6 (31, SP.is (.pointer (some ⟨NY, t * 4, none⟩))) (by rw [hD]; rfl) (ready_dep hk 6 (by kernel_rfl))) cv _ (HY.out W ry) Tryd.underlying24 rfl Hv.info ⟨N9, hl2 7, (hF.put 7 32 (SP.is (.agg cv.toArray)) (.agg cv.toArray) (by rw [hD]; rfl) rfl (by rw [hD]; rfl) (by rw [hsz]; decide)), hb, rx, ry, (fun h => ⟨(eval_put_other ac _ (by decide)).trans ((al12 (by rwa [getD_set _ _ _ (by decide)] at h)).1), (al12 (by rwa [getD_set _ _ _ (by decide)] at h)).2.1, by rw [getD_set _ _ _ (by decide)]; exact (al12 (by rwa [getD_set _ _ _ (by decide)] at h)).2.2⟩), (fun h => by rw [getD_set _ _ _ (by decide)]; exact as12 (by rwa [getD_set _ _ _ (by decide)] at h))⟩)
        · have hk3 := hk
          have e1 := (hF.done 3 (28, SP.is (.agg cu.toArray)) (by rw [hD]; rfl) (ready_dep hk 3 (by kernel_rfl)))
          have e2 := (hF.done 7 (32, SP.is (.agg cv.toArray)) (by rw [hD]; rfl) (ready_dep hk 7 (by kernel_rfl)))
          refine wpOp_plain rfl rfl (wp_fcall_v 10 #[.agg cu.toArray, .agg cv.toArray] rfl rfl (by show [ac.eval (.tmp 28), ac.eval (.tmp 32)] = _; simp only [show ac.eval (.tmp 28) = _ from e1, show ac.eval (.tmp 32) = _ from e2]) (by go_simp) ((HADD.out W).mono ?_))
          rintro e W2 ⟨yc, hyc, rfl, hB⟩
          exact ⟨_, rfl, N9, hl2 8, ((hF.world hB).put 8 33 (SP.is (.tuple #[.agg c1.toArray, .int .i64 E1])) (.tuple #[.agg yc.toArray, .int .i64 E1]) (by rw [hD]; rfl) (by rw [show yc = c1 from hyc.trans H1.symm]; rfl) (by rw [hD]; rfl) (by rw [hsz]; decide)), hb.trans (hB.mono hb.size), Row.below rx hB (Row.lt rx), Row.below ry hB (Row.lt ry), (fun h => ⟨(eval_put_other ac _ (by decide)).trans ((al12 (by rwa [getD_set _ _ _ (by decide)] at h)).1), (al12 (by rwa [getD_set _ _ _ (by decide)] at h)).2.1, by rw [getD_set _ _ _ (by decide)]; exact Row.below (al12 (by rwa [getD_set _ _ _ (by decide)] at h)).2.2 hB (Row.lt (al12 (by rwa [getD_set _ _ _ (by decide)] at h)).2.2)⟩), (fun h => by rw [getD_set _ _ _ (by decide)]; exact as12 (by rwa [getD_set _ _ _ (by decide)] at h))⟩
        · have hk3 := hk
          exact wpOp_plain rfl rfl (wp_move_v (ac.eval (.tmp 33)) rfl rfl ⟨N9, hl2 9, (hF.put 9 24 (SP.is (.tuple #[.agg c1.toArray, .int .i64 E1])) (ac.eval (.tmp 33)) (by rw [hD]; rfl) ((hF.done 8 (33, SP.is (.tuple #[.agg c1.toArray, .int .i64 E1])) (by rw [hD]; rfl) (ready_dep hk 8 (by kernel_rfl)))) (by rw [hD]; rfl) (by rw [hsz]; decide)), hb, rx, ry, (fun h => ⟨(eval_put_other ac _ (by decide)).trans ((al12 (by rwa [getD_set _ _ _ (by decide)] at h)).1), (al12 (by rwa [getD_set _ _ _ (by decide)] at h)).2.1, by rw [getD_set _ _ _ (by decide)]; exact (al12 (by rwa [getD_set _ _ _ (by decide)] at h)).2.2⟩), (fun h => by rw [getD_set _ _ _ (by decide)]; exact as12 (by rwa [getD_set _ _ _ (by decide)] at h))⟩)
        · have hk3 := hk
          exact wpOp_plain rfl rfl (wp_extract (.tmp 24) 0 rfl _ (hF.done 9 (24, SP.is (.tuple #[.agg c1.toArray, .int .i64 E1])) (by rw [hD]; rfl) (ready_dep hk 9 (by kernel_rfl))) _ rfl ⟨N9, hl2 10, (hF.put 10 34 (SP.is (.agg c1.toArray)) (_) (by rw [hD]; rfl) rfl (by rw [hD]; rfl) (by rw [hsz]; decide)), hb, rx, ry, (fun h => ⟨(eval_put_other ac _ (by decide)).trans ((al12 (by rwa [getD_set _ _ _ (by decide)] at h)).1), (al12 (by rwa [getD_set _ _ _ (by decide)] at h)).2.1, by rw [getD_set _ _ _ (by decide)]; exact (al12 (by rwa [getD_set _ _ _ (by decide)] at h)).2.2⟩), (fun h => by rw [getD_set _ _ _ (by decide)]; exact as12 (by rwa [getD_set _ _ _ (by decide)] at h))⟩)
        · have hk3 := hk
          exact wpOp_plain rfl rfl (wp_extract (.tmp 24) 1 rfl _ (hF.done 9 (24, SP.is (.tuple #[.agg c1.toArray, .int .i64 E1])) (by rw [hD]; rfl) (ready_dep hk 9 (by kernel_rfl))) _ rfl ⟨N9, hl2 11, (hF.put 11 35 (SP.is (.int .i64 E1)) (_) (by rw [hD]; rfl) rfl (by rw [hD]; rfl) (by rw [hsz]; decide)), hb, rx, ry, (fun h => ⟨(eval_put_other ac _ (by decide)).trans ((al12 (by rwa [getD_set _ _ _ (by decide)] at h)).1), (al12 (by rwa [getD_set _ _ _ (by decide)] at h)).2.1, by rw [getD_set _ _ _ (by decide)]; exact (al12 (by rwa [getD_set _ _ _ (by decide)] at h)).2.2⟩), (fun h => by rw [getD_set _ _ _ (by decide)]; exact as12 (by rwa [getD_set _ _ _ (by decide)] at h))⟩)
        · have hk3 := hk
          have hsm : NY < W.heap.size := Row.lt ry
          have hB : Below W.heap.size W (W.alloc (.cells (vQ (List.replicate 4 0)).toArray 24)) := (Below.refl _ _).alloc (Nat.le_refl _) _
          have hns : ¬ listed.getD 13 false = true := fun h => not_yet hk (as12 h)
          exact wpOp_plain rfl rfl (wp_alloc4 rfl ⟨W.heap.size, hl2 12, ((hF.world hB).put 12 9 (SP.any) (.pointer (some ⟨W.heap.size, 0, none⟩)) (by rw [hD]; rfl) trivial (by rw [hD]; rfl) (by rw [hsz]; decide)), hb.alloc hb.size _, Row.alloc rx _, Row.alloc ry _, (fun _ => ⟨eval_put_same ac _ (by rw [hF.size, hsz]; decide), hsm, by rw [getD_set _ _ _ (by decide), if_neg hns]; exact Row.new' rfl rfl⟩), (fun _ => getD_same (by rw [hl]; decide))⟩)
        · have hk3 := hk
          have hal := ready_dep hk 12 (by kernel_rfl)
          obtain ⟨e1, m1, y2⟩ := al12 hal
          rw [if_neg (not_yet hk)] at y2
          have T := y2.there 0 c1.toArray.size (by simp [H1.len, vQ_length])
          have fin := y2.over (vs := c1) (by rw [H1.len]; rfl)
          have hT : Fp D a0 listed ac (W.setCells N9 0 c1) := hF.turn (by rw [hD]; simp only [List.forall_mem_cons, List.not_mem_nil, false_implies, implies_true, and_true]; exact ⟨fun _ h => h, fun _ h => h, fun _ h => h, fun _ h => h, fun _ h => h, fun _ h => h, fun _ h => h, fun _ h => h, fun _ h => h, fun _ h => h, fun _ h => h, fun _ h => h, fun _ h => h, fun _ h => h, fun _ h => h⟩)
          exact wpOp_plain rfl rfl (wp_store_mid 24 (.tmp 9) (.tmp 34) rfl N9 0 c1.toArray e1 (hF.done 10 (34, SP.is (.agg c1.toArray)) (by rw [hD]; rfl) (ready_dep hk 10 (by kernel_rfl))) T H1.info' H1.one ⟨N9, hl2 13, (hT.skip 13 1000 (by rw [hD]; rfl)), below_setCells hb (by omega) _, Row.setCells_other rx _ _ _ (by omega), Row.setCells_other ry _ _ _ (by omega), (fun _ => ⟨e1, m1, by rw [if_pos (getD_same (by rw [hl]; decide))]; exact fin⟩), (fun _ => by rw [getD_set _ _ _ (by decide)]; exact hal)⟩)
        · have hk3 := hk
          exact wpOp_plain rfl rfl (wp_assign_v (ac.eval (.tmp 35)) rfl rfl ⟨N9, hl2 14, (hF.put 14 10 (SP.is (.int .i64 E1)) (ac.eval (.tmp 35)) (by rw [hD]; rfl) ((hF.done 11 (35, SP.is (.int .i64 E1)) (by rw [hD]; rfl) (ready_dep hk 11 (by kernel_rfl)))) (by rw [hD]; rfl) (by rw [hsz]; decide)), hb, rx, ry, (fun h => ⟨(eval_put_other ac _ (by decide)).trans ((al12 (by rwa [getD_set _ _ _ (by decide)] at h)).1), (al12 (by rwa [getD_set _ _ _ (by decide)] at h)).2.1, by rw [getD_set _ _ _ (by decide)]; exact (al12 (by rwa [getD_set _ _ _ (by decide)] at h)).2.2⟩), (fun h => by rw [getD_set _ _ _ (by decide)]; exact as12 (by rwa [getD_set _ _ _ (by decide)] at h))⟩)
      · clear hb rx ry 
        intro listed ac W hI hr
        obtain ⟨N9, hl, hF, hb, rx, ry, al12, as12⟩ := hI
        have hall := all_listed (by kernel_rfl) hl hr
        obtain ⟨ea9, m9, p9⟩ := al12 (hall 12 (by decide))
        rw [if_pos (hall 13 (by decide))] at p9
        have h25 : ac.eval (.tmp 25) = .slice (some ⟨NX, 0, none⟩) 2 2 := hF.done 0 (25, SP.is (.slice (some ⟨NX, 0, none⟩) 2 2)) (by rw [hD]; rfl) (hall 0 (by decide))
        have h26 : ac.eval (.tmp 26) = .int .i64 (t : Int) := hF.done 1 (26, SP.is (.int .i64 (t : Int))) (by rw [hD]; rfl) (hall 1 (by decide))
        have h27 : ac.eval (.tmp 27) = .pointer (some ⟨NX, t * 4, none⟩) := hF.done 2 (27, SP.is (.pointer (some ⟨NX, t * 4, none⟩))) (by rw [hD]; rfl) (hall 2 (by decide))
        have h28 : ac.eval (.tmp 28) = .agg cu.toArray := hF.done 3 (28, SP.is (.agg cu.toArray)) (by rw [hD]; rfl) (hall 3 (by decide))
        have h29 : ac.eval (.tmp 29) = .slice (some ⟨NY, 0, none⟩) 2 2 := hF.done 4 (29, SP.is (.slice (some ⟨NY, 0, none⟩) 2 2)) (by rw [hD]; rfl) (hall 4 (by decide))
        have h30 : ac.eval (.tmp 30) = .int .i64 (t : Int) := hF.done 5 (30, SP.is (.int .i64 (t : Int))) (by rw [hD]; rfl) (hall 5 (by decide))
        have h31 : ac.eval (.tmp 31) = .pointer (some ⟨NY, t * 4, none⟩) := hF.done 6 (31, SP.is (.pointer (some ⟨NY, t * 4, none⟩))) (by rw [hD]; rfl) (hall 6 (by decide))
        have h32 : ac.eval (.tmp 32) = .agg cv.toArray := hF.done 7 (32, SP.is (.agg cv.toArray)) (by rw [hD]; rfl) (hall 7 (by decide))
        have h33 : ac.eval (.tmp 33) = .tuple #[.agg c1.toArray, .int .i64 E1] := hF.done 8 (33, SP.is (.tuple #[.agg c1.toArray, .int .i64 E1])) (by rw [hD]; rfl) (hall 8 (by decide))
        have h24 : ac.eval (.tmp 24) = .tuple #[.agg c1.toArray, .int .i64 E1] := hF.done 9 (24, SP.is (.tuple #[.agg c1.toArray, .int .i64 E1])) (by rw [hD]; rfl) (hall 9 (by decide))
        have h34 : ac.eval (.tmp 34) = .agg c1.toArray := hF.done 10 (34, SP.is (.agg c1.toArray)) (by rw [hD]; rfl) (hall 10 (by decide))
        have h35 : ac.eval (.tmp 35) = .int .i64 E1 := hF.done 11 (35, SP.is (.int .i64 E1)) (by rw [hD]; rfl) (hall 11 (by decide))
        have h10 : ac.eval (.tmp 10) = .int .i64 E1 := hF.done 14 (10, SP.is (.int .i64 E1)) (by rw [hD]; rfl) (hall 14 (by decide))
        have ea := hF.lay [(25, .slice (some ⟨NX, 0, none⟩) 2 2), (26, .int .i64 (t : Int)), (27, .pointer (some ⟨NX, t * 4, none⟩)), (28, .agg cu.toArray), (29, .slice (some ⟨NY, 0, none⟩) 2 2), (30, .int .i64 (t : Int)), (31, .pointer (some ⟨NY, t * 4, none⟩)), (32, .agg cv.toArray), (33, .tuple #[.agg c1.toArray, .int .i64 E1]), (24, .tuple #[.agg c1.toArray, .int .i64 E1]), (34, .agg c1.toArray), (35, .int .i64 E1), (9, .pointer (some ⟨N9, 0, none⟩)), (10, .int .i64 E1)] (by rw [hD, hsz]; rfl) (by simp only [List.forall_mem_cons, List.not_mem_nil, false_implies, implies_true, and_true]; exact ⟨h25, h26, h27, h28, h29, h30, h31, h32, h33, h24, h34, h35, ea9, h10⟩)
        rw [ha0] at ea
        simp only [List.foldl_cons, List.foldl_nil, List.setIfInBounds_toArray, List.set_cons_zero, List.set_cons_succ] at ea
        clear hF hall hr hl hD al12 as12 s6 s7 s8 ha0 hsz h25 h26 h27 h28 h29 h30 h31 h32 h33 h24 h34 h35 ea9 h10
        subst ea
        have r9 := p9
        clear p9
        go_wp2_with fail
        refine wp_named fun a0 ha0 => ?_
        have hsz : a0.tmps.size = 121 := by rw [ha0]; rfl
        have s6 : a0.eval (.tmp 6) = .slice (some ⟨NX, 0, none⟩) 2 2 := by rw [ha0]; rfl
        have s7 : a0.eval (.tmp 7) = .slice (some ⟨NY, 0, none⟩) 2 2 := by rw [ha0]; rfl
        have s8 : a0.eval (.tmp 8) = .int .i64 (t : Int) := by rw [ha0]; rfl
        obtain ⟨D, hD⟩ : ∃ D : List (Tmp × SP), D = [(37, SP.is (.slice (some ⟨NX, 0, none⟩) 2 2)), (38, SP.is (.int .i64 (t : Int))), (39, SP.is (.pointer (some ⟨NX, t * 4, none⟩))), (40, SP.is (.agg cu.toArray)), (41, SP.is (.slice (some ⟨NY, 0, none⟩) 2 2)), (42, SP.is (.int .i64 (t : Int))), (43, SP.is (.pointer (some ⟨NY, t * 4, none⟩))), (44, SP.is (.agg cv.toArray)), (45, SP.is (.tuple #[.agg c1.toArray, .int .i64 E1])), (36, SP.is (.tuple #[.agg c1.toArray, .int .i64 E1])), (46, SP.is (.agg c1.toArray)), (47, SP.is (.int .i64 E1)), (11, SP.any), (1000, SP.any), (12, SP.is (.int .i64 E1))] := ⟨_, rfl⟩
        refine wp_region_inv (by kernel_rfl) (fun listed ac W => ∃ (N11 : Nat), listed.size = 15 ∧ Fp D a0 listed ac W ∧ Below w.heap.size w W ∧ Row W NX cx 24 ∧ Row W NY cy 24 ∧ Row W N9 c1 24 ∧ (listed.getD 12 false = true → ac.eval (.tmp 11) = .pointer (some ⟨N11, 0, none⟩) ∧ N9 < N11 ∧ Row W N11 (if listed.getD 13 false = true then c1 else (vQ (List.replicate 4 0))) 24) ∧ (listed.getD 13 false = true → listed.getD 12 false = true)) ?_ ?_ ?_
        · exact ⟨0, by simp, Fp.start D a0 _ _, Below.drew hb, Row.drew rx, Row.drew ry, Row.drew r9, (fun h => (start_no h).elim), (fun h => (start_no h).elim)⟩
        · clear ha0 hb rx ry r9 
          intro listed ac W k hI hk
          obtain ⟨N11, hl, hF, hb, rx, ry, r9, al12, as12⟩ := hI
          have hk1 : k < 15 := List.mem_range.1 (List.mem_filter.1 hk).1
          have hl2 : ∀ j, (listed.setIfInBounds j true).size = 15 := fun j => by rw [Array.size_setIfInBounds]; exact hl
          rcases (show k = 0 ∨ k = 1 ∨ k = 2 ∨ k = 3 ∨ k = 4 ∨ k = 5 ∨ k = 6 ∨ k = 7 ∨ k = 8 ∨ k = 9 ∨ k = 10 ∨ k = 11 ∨ k = 12 ∨ k = 13 ∨ k = 14 by omega) with rfl | rfl | rfl | rfl | rfl | rfl | rfl | rfl | rfl | rfl | rfl | rfl | rfl | rfl | rfl
          · have hk3 := hk
            exact wpOp_plain rfl rfl (wp_move_v (ac.eval (.tmp 6)) rfl rfl ⟨N11, hl2 0, (hF.put 0 37 (SP.is (.slice (some ⟨NX, 0, none⟩) 2 2)) (ac.eval (.tmp 6)) (by rw [hD]; rfl) (((hF.keep 6 (by rw [hD]; rfl)).trans s6)) (by rw [hD]; rfl) (by rw [hsz]; decide)), hb, rx, ry, r9, (fun h => ⟨(eval_put_other ac _ (by decide)).trans ((al12 (by rwa [getD_set _ _ _ (by decide)] at h)).1), (al12 (by rwa [getD_set _ _ _ (by decide)] at h)).2.1, by rw [getD_set _ _ _ (by decide)]; exact (al12 (by rwa [getD_set _ _ _ (by decide)] at h)).2.2⟩), (fun h => by rw [getD_set _ _ _ (by decide)]; exact as12 (by rwa [getD_set _ _ _ (by decide)] at h))⟩)
          · have hk3 := hk
            exact wpOp_plain rfl rfl (wp_move_v (ac.eval (.tmp 8)) rfl rfl ⟨N11, hl2 1, (hF.put 1 38 (SP.is (.int .i64 (t : Int))) (ac.eval (.tmp 8)) (by rw [hD]; rfl) (((hF.keep 8 (by rw [hD]; rfl)).trans s8)) (by rw [hD]; rfl) (by rw [hsz]; decide)), hb, rx, ry, r9, (fun h => ⟨(eval_put_other ac _ (by decide)).trans ((al12 (by rwa [getD_set _ _ _ (by decide)] at h)).1), (al12 (by rwa [getD_set _ _ _ (by decide)] at h)).2.1, by rw [getD_set _ _ _ (by decide)]; exact (al12 (by rwa [getD_set _ _ _ (by decide)] at h)).2.2⟩), (fun h => by rw [getD_set _ _ _ (by decide)]; exact as12 (by rwa [getD_set _ _ _ (by decide)] at h))⟩)
          · have hk3 := hk
            have e1 := (hF.done 0 (37, SP.is (.slice (some ⟨NX, 0, none⟩) 2 2)) (by rw [hD]; rfl) (ready_dep hk 0 (by kernel_rfl)))
            have e2 := (hF.done 1 (38, SP.is (.int .i64 (t : Int))) (by rw [hD]; rfl) (ready_dep hk 1 (by kernel_rfl)))
            exact wpOp_plain rfl rfl (wp_index_w rfl NX 2 2 t e1 e2 hlt ⟨N11, hl2 2, (hF.put 2 39 (SP.is (.pointer (some ⟨NX, t * 4, none⟩))) (.pointer (some ⟨NX, t * 4, none⟩)) (by rw [hD]; rfl) rfl (by rw [hD]; rfl) (by rw [hsz]; decide)), hb, rx, ry, r9, (fun h => ⟨(eval_put_other ac _ (by decide)).trans ((al12 (by rwa [getD_set _ _ _ (by decide)] at h)).1), (al12 (by rwa [getD_set _ _ _ (by decide)] at h)).2.1, by rw [getD_set _ _ _ (by decide)]; exact (al12 (by rwa [getD_set _ _ _ (by decide)] at h)).2.2⟩), (fun h => by rw [getD_set _ _ _ (by decide)]; exact as12 (by rwa [getD_set _ _ _ (by decide)] at h))⟩)
          · have hk3 := hk
            exact wpOp_plain rfl rfl (wp_load_mid 24 (.tmp 39) rfl NX (t * 4) (hF.done 2 (39, SP.is (.pointer (some ⟨NX, t * 4, none⟩))) (by rw [hD]; rfl) (ready_dep hk 2 (by kernel_rfl))) cu _ (HX.out W rx) Tryd.underlying24 rfl Hu.info ⟨N11, hl2 3, (hF.put 3 40 (SP.is (.agg cu.toArray)) (.agg cu.toArray) (by rw [hD]; rfl) rfl (by rw [hD]; rfl) (by rw [hsz]; decide)), hb, rx, ry, r9, (fun h => ⟨(eval_put_other ac _ (by decide)).trans ((al12 (by rwa [getD_set _ _ _ (by decide)] at h)).1), (al12 (by rwa [getD_set _ _ _ (by decide)] at h)).2.1, by rw [getD_set _ _ _ (by decide)]; exact (al12 (by rwa [getD_set _ _ _ (by decide)] at h)).2.2⟩), (fun h => by rw [getD_set _ _ _ (by decide)]; exact as12 (by rwa [getD_set _ _ _ (by decide)] at h))⟩)
          · have hk3 := hk
            exact wpOp_plain rfl rfl (wp_move_v (ac.eval (.tmp 7)) rfl rfl ⟨N11, hl2 4, (hF.put 4 41 (SP.is (.slice (some ⟨NY, 0, none⟩) 2 2)) (ac.eval (.tmp 7)) (by rw [hD]; rfl) (((hF.keep 7 (by rw [hD]; rfl)).trans s7)) (by rw [hD]; rfl) (by rw [hsz]; decide)), hb, rx, ry, r9, (fun h => ⟨(eval_put_other ac _ (by decide)).trans ((al12 (by rwa [getD_set _ _ _ (by decide)] at h)).1), (al12 (by rwa [getD_set _ _ _ (by decide)] at h)).2.1, by rw [getD_set _ _ _ (by decide)]; exact (al12 (by rwa [getD_set _ _ _ (by decide)] at h)).2.2⟩), (fun h => by rw [getD_set _ _ _ (by decide)]; exact as12 (by rwa [getD_set _ _ _ (by decide)] at h))⟩)
          · have hk3 := hk
            exact wpOp_plain rfl rfl (wp_move_v (ac.eval (.tmp 8)) rfl rfl ⟨N11, hl2 5, (hF.put 5 42 (SP.is (.int .i64 (t : Int))) (ac.eval (.tmp 8)) (by rw [hD]; rfl) (((hF.keep 8 (by rw [hD]; rfl)).trans s8)) (by rw [hD]; rfl) (by rw [hsz]; decide)), hb, rx, ry, r9, (fun h => ⟨(eval_put_other ac _ (by decide)).trans ((al12 (by rwa [getD_set _ _ _ (by decide)] at h)).1), (al12 (by rwa [getD_set _ _ _ (by decide)] at h)).2.1, by rw [getD_set _ _ _ (by decide)]; exact (al12 (by rwa [getD_set _ _ _ (by decide)] at h)).2.2⟩), (fun h => by rw [getD_set _ _ _ (by decide)]; exact as12 (by rwa [getD_set _ _ _ (by decide)] at h))⟩)
          · have hk3 := hk
            have e1 := (hF.done 4 (41, SP.is (.slice (some ⟨NY, 0, none⟩) 2 2)) (by rw [hD]; rfl) (ready_dep hk 4 (by kernel_rfl)))
            have e2 := (hF.done 5 (42, SP.is (.int .i64 (t : Int))) (by rw [hD]; rfl) (ready_dep hk 5 (by kernel_rfl)))
            exact wpOp_plain rfl rfl (wp_index_w rfl NY 2 2 t e1 e2 hlt ⟨N11, hl2 6, (hF.put 6 43 (SP.is (.pointer (some ⟨NY, t * 4, none⟩))) (.pointer (some ⟨NY, t * 4, none⟩)) (by rw [hD]; rfl) rfl (by rw [hD]; rfl) (by rw [hsz]; decide)), hb, rx, ry, r9, (fun h => ⟨(eval_put_other ac _ (by decide)).trans ((al12 (by rwa [getD_set _ _ _ (by decide)] at h)).1), (al12 (by rwa [getD_set _ _ _ (by decide)] at h)).2.1, by rw [getD_set _ _ _ (by decide)]; exact (al12 (by rwa [getD_set _ _ _ (by decide)] at h)).2.2⟩), (fun h => by rw [getD_set _ _ _ (by decide)]; exact as12 (by rwa [getD_set _ _ _ (by decide)] at h))⟩)
          · have hk3 := hk
            exact wpOp_plain rfl rfl (wp_load_mid 24 (.tmp 43) rfl NY (t * 4) (hF.done 6 (43, SP.is (.pointer (some ⟨NY, t * 4, none⟩))) (by rw [hD]; rfl) (ready_dep hk 6 (by kernel_rfl))) cv _ (HY.out W ry) Tryd.underlying24 rfl Hv.info ⟨N11, hl2 7, (hF.put 7 44 (SP.is (.agg cv.toArray)) (.agg cv.toArray) (by rw [hD]; rfl) rfl (by rw [hD]; rfl) (by rw [hsz]; decide)), hb, rx, ry, r9, (fun h => ⟨(eval_put_other ac _ (by decide)).trans ((al12 (by rwa [getD_set _ _ _ (by decide)] at h)).1), (al12 (by rwa [getD_set _ _ _ (by decide)] at h)).2.1, by rw [getD_set _ _ _ (by decide)]; exact (al12 (by rwa [getD_set _ _ _ (by decide)] at h)).2.2⟩), (fun h => by rw [getD_set _ _ _ (by decide)]; exact as12 (by rwa [getD_set _ _ _ (by decide)] at h))⟩)
          · have hk3 := hk
            have e1 := (hF.done 3 (40, SP.is (.agg cu.toArray)) (by rw [hD]; rfl) (ready_dep hk 3 (by kernel_rfl)))
            have e2 := (hF.done 7 (44, SP.is (.agg cv.toArray)) (by rw [hD]; rfl) (ready_dep hk 7 (by kernel_rfl)))
            refine wpOp_plain rfl rfl (wp_fcall_v 11 #[.agg cu.toArray, .agg cv.toArray] rfl rfl (by show [ac.eval (.tmp 40), ac.eval (.tmp 44)] = _; simp only [show ac.eval (.tmp 40) = _ from e1, show ac.eval (.tmp 44) = _ from e2]) (by go_simp) ((HRAD.out W).mono ?_))
            rintro e W2 ⟨rfl, hB⟩
            exact ⟨_, rfl, N11, hl2 8, ((hF.world hB).put 8 45 (SP.is (.tuple #[.agg c1.toArray, .int .i64 E1])) (.tuple #[.agg c1.toArray, .int .i64 E1]) (by rw [hD]; rfl) rfl (by rw [hD]; rfl) (by rw [hsz]; decide)), hb.trans (hB.mono hb.size), Row.below rx hB (Row.lt rx), Row.below ry hB (Row.lt ry), Row.below r9 hB (Row.lt r9), (fun h => ⟨(eval_put_other ac _ (by decide)).trans ((al12 (by rwa [getD_set _ _ _ (by decide)] at h)).1), (al12 (by rwa [getD_set _ _ _ (by decide)] at h)).2.1, by rw [getD_set _ _ _ (by decide)]; exact Row.below (al12 (by rwa [getD_set _ _ _ (by decide)] at h)).2.2 hB (Row.lt (al12 (by rwa [getD_set _ _ _ (by decide)] at h)).2.2)⟩), (fun h => by rw [getD_set _ _ _ (by decide)]; exact as12 (by rwa [getD_set _ _ _ (by decide)] at h))⟩
          · have hk3 := hk
            exact wpOp_plain rfl rfl (wp_move_v (ac.eval (.tmp 45)) rfl rfl ⟨N11, hl2 9, (hF.put 9 36 (SP.is (.tuple #[.agg c1.toArray, .int .i64 E1])) (ac.eval (.tmp 45)) (by rw [hD]; rfl) ((hF.done 8 (45, SP.is (.tuple #[.agg c1.toArray, .int .i64 E1])) (by rw [hD]; rfl) (ready_dep hk 8 (by kernel_rfl)))) (by rw [hD]; rfl) (by rw [hsz]; decide)), hb, rx, ry, r9, (fun h => ⟨(eval_put_other ac _ (by decide)).trans ((al12 (by rwa [getD_set _ _ _ (by decide)] at h)).1), (al12 (by rwa [getD_set _ _ _ (by decide)] at h)).2.1, by rw [getD_set _ _ _ (by decide)]; exact (al12 (by rwa [getD_set _ _ _ (by decide)] at h)).2.2⟩), (fun h => by rw [getD_set _ _ _ (by decide)]; exact as12 (by rwa [getD_set _ _ _ (by decide)] at h))⟩)
          · have hk3 := hk
            exact wpOp_plain rfl rfl (wp_extract (.tmp 36) 0 rfl _ (hF.done 9 (36, SP.is (.tuple #[.agg c1.toArray, .int .i64 E1])) (by rw [hD]; rfl) (ready_dep hk 9 (by kernel_rfl))) _ rfl ⟨N11, hl2 10, (hF.put 10 46 (SP.is (.agg c1.toArray)) (_) (by rw [hD]; rfl) rfl (by rw [hD]; rfl) (by rw [hsz]; decide)), hb, rx, ry, r9, (fun h => ⟨(eval_put_other ac _ (by decide)).trans ((al12 (by rwa [getD_set _ _ _ (by decide)] at h)).1), (al12 (by rwa [getD_set _ _ _ (by decide)] at h)).2.1, by rw [getD_set _ _ _ (by decide)]; exact (al12 (by rwa [getD_set _ _ _ (by decide)] at h)).2.2⟩), (fun h => by rw [getD_set _ _ _ (by decide)]; exact as12 (by rwa [getD_set _ _ _ (by decide)] at h))⟩)
          · have hk3 := hk
            exact wpOp_plain rfl rfl (wp_extract (.tmp 36) 1 rfl _ (hF.done 9 (36, SP.is (.tuple #[.agg c1.toArray, .int .i64 E1])) (by rw [hD]; rfl) (ready_dep hk 9 (by kernel_rfl))) _ rfl ⟨N11, hl2 11, (hF.put 11 47 (SP.is (.int .i64 E1)) (_) (by rw [hD]; rfl) rfl (by rw [hD]; rfl) (by rw [hsz]; decide)), hb, rx, ry, r9, (fun h => ⟨(eval_put_other ac _ (by decide)).trans ((al12 (by rwa [getD_set _ _ _ (by decide)] at h)).1), (al12 (by rwa [getD_set _ _ _ (by decide)] at h)).2.1, by rw [getD_set _ _ _ (by decide)]; exact (al12 (by rwa [getD_set _ _ _ (by decide)] at h)).2.2⟩), (fun h => by rw [getD_set _ _ _ (by decide)]; exact as12 (by rwa [getD_set _ _ _ (by decide)] at h))⟩)
          · have hk3 := hk
            have hsm : N9 < W.heap.size := Row.lt r9
            have hB : Below W.heap.size W (W.alloc (.cells (vQ (List.replicate 4 0)).toArray 24)) := (Below.refl _ _).alloc (Nat.le_refl _) _
            have hns : ¬ listed.getD 13 false = true := fun h => not_yet hk (as12 h)
            exact wpOp_plain rfl rfl (wp_alloc4 rfl ⟨W.heap.size, hl2 12, ((hF.world hB).put 12 11 (SP.any) (.pointer (some ⟨W.heap.size, 0, none⟩)) (by rw [hD]; rfl) trivial (by rw [hD]; rfl) (by rw [hsz]; decide)), hb.alloc hb.size _, Row.alloc rx _, Row.alloc ry _, Row.alloc r9 _, (fun _ => ⟨eval_put_same ac _ (by rw [hF.size, hsz]; decide), hsm, by rw [getD_set _ _ _ (by decide), if_neg hns]; exact Row.new' rfl rfl⟩), (fun _ => getD_same (by rw [hl]; decide))⟩)
          · have hk3 := hk
            have hal := ready_dep hk 12 (by kernel_rfl)
            obtain ⟨e1, m1, y2⟩ := al12 hal
            rw [if_neg (not_yet hk)] at y2
            have T := y2.there 0 c1.toArray.size (by simp [H1.len, vQ_length])
            have fin := y2.over (vs := c1) (by rw [H1.len]; rfl)
            have hT : Fp D a0 listed ac (W.setCells N11 0 c1) := hF.turn (by rw [hD]; simp only [List.forall_mem_cons, List.not_mem_nil, false_implies, implies_true, and_true]; exact ⟨fun _ h => h, fun _ h => h, fun _ h => h, fun _ h => h, fun _ h => h, fun _ h => h, fun _ h => h, fun _ h => h, fun _ h => h, fun _ h => h, fun _ h => h, fun _ h => h, fun _ h => h, fun _ h => h, fun _ h => h⟩)
            exact wpOp_plain rfl rfl (wp_store_mid 24 (.tmp 11) (.tmp 46) rfl N11 0 c1.toArray e1 (hF.done 10 (46, SP.is (.agg c1.toArray)) (by rw [hD]; rfl) (ready_dep hk 10 (by kernel_rfl))) T H1.info' H1.one ⟨N11, hl2 13, (hT.skip 13 1000 (by rw [hD]; rfl)), below_setCells hb (by omega) _, Row.setCells_other rx _ _ _ (by omega), Row.setCells_other ry _ _ _ (by omega), Row.setCells_other r9 _ _ _ (by omega), (fun _ => ⟨e1, m1, by rw [if_pos (getD_same (by rw [hl]; decide))]; exact fin⟩), (fun _ => by rw [getD_set _ _ _ (by decide)]; exact hal)⟩)
          · have hk3 := hk
            exact wpOp_plain rfl rfl (wp_assign_v (ac.eval (.tmp 47)) rfl rfl ⟨N11, hl2 14, (hF.put 14 12 (SP.is (.int .i64 E1)) (ac.eval (.tmp 47)) (by rw [hD]; rfl) ((hF.done 11 (47, SP.is (.int .i64 E1)) (by rw [hD]; rfl) (ready_dep hk 11 (by kernel_rfl)))) (by rw [hD]; rfl) (by rw [hsz]; decide)), hb, rx, ry, r9, (fun h => ⟨(eval_put_other ac _ (by decide)).trans ((al12 (by rwa [getD_set _ _ _ (by decide)] at h)).1), (al12 (by rwa [getD_set _ _ _ (by decide)] at h)).2.1, by rw [getD_set _ _ _ (by decide)]; exact (al12 (by rwa [getD_set _ _ _ (by decide)] at h)).2.2⟩), (fun h => by rw [getD_set _ _ _ (by decide)]; exact as12 (by rwa [getD_set _ _ _ (by decide)] at h))⟩)
        · clear hb rx ry r9 
          intro listed ac W hI hr
          obtain ⟨N11, hl, hF, hb, rx, ry, r9, al12, as12⟩ := hI
          have hall := all_listed (by kernel_rfl) hl hr
          obtain ⟨ea11, m11, p11⟩ := al12 (hall 12 (by decide))
          rw [if_pos (hall 13 (by decide))] at p11
          have h37 : ac.eval (.tmp 37) = .slice (some ⟨NX, 0, none⟩) 2 2 := hF.done 0 (37, SP.is (.slice (some ⟨NX, 0, none⟩) 2 2)) (by rw [hD]; rfl) (hall 0 (by decide))
          have h38 : ac.eval (.tmp 38) = .int .i64 (t : Int) := hF.done 1 (38, SP.is (.int .i64 (t : Int))) (by rw [hD]; rfl) (hall 1 (by decide))
          have h39 : ac.eval (.tmp 39) = .pointer (some ⟨NX, t * 4, none⟩) := hF.done 2 (39, SP.is (.pointer (some ⟨NX, t * 4, none⟩))) (by rw [hD]; rfl) (hall 2 (by decide))
          have h40 : ac.eval (.tmp 40) = .agg cu.toArray := hF.done 3 (40, SP.is (.agg cu.toArray)) (by rw [hD]; rfl) (hall 3 (by decide))
          have h41 : ac.eval (.tmp 41) = .slice (some ⟨NY, 0, none⟩) 2 2 := hF.done 4 (41, SP.is (.slice (some ⟨NY, 0, none⟩) 2 2)) (by rw [hD]; rfl) (hall 4 (by decide))
          have h42 : ac.eval (.tmp 42) = .int .i64 (t : Int) := hF.done 5 (42, SP.is (.int .i64 (t : Int))) (by rw [hD]; rfl) (hall 5 (by decide))
          have h43 : ac.eval (.tmp 43) = .pointer (some ⟨NY, t * 4, none⟩) := hF.done 6 (43, SP.is (.pointer (some ⟨NY, t * 4, none⟩))) (by rw [hD]; rfl) (hall 6 (by decide))
          have h44 : ac.eval (.tmp 44) = .agg cv.toArray := hF.done 7 (44, SP.is (.agg cv.toArray)) (by rw [hD]; rfl) (hall 7 (by decide))
          have h45 : ac.eval (.tmp 45) = .tuple #[.agg c1.toArray, .int .i64 E1] := hF.done 8 (45, SP.is (.tuple #[.agg c1.toArray, .int .i64 E1])) (by rw [hD]; rfl) (hall 8 (by decide))
          have h36 : ac.eval (.tmp 36) = .tuple #[.agg c1.toArray, .int .i64 E1] := hF.done 9 (36, SP.is (.tuple #[.agg c1.toArray, .int .i64 E1])) (by rw [hD]; rfl) (hall 9 (by decide))
          have h46 : ac.eval (.tmp 46) = .agg c1.toArray := hF.done 10 (46, SP.is (.agg c1.toArray)) (by rw [hD]; rfl) (hall 10 (by decide))
          have h47 : ac.eval (.tmp 47) = .int .i64 E1 := hF.done 11 (47, SP.is (.int .i64 E1)) (by rw [hD]; rfl) (hall 11 (by decide))
          have h12 : ac.eval (.tmp 12) = .int .i64 E1 := hF.done 14 (12, SP.is (.int .i64 E1)) (by rw [hD]; rfl) (hall 14 (by decide))
          have ea := hF.lay [(37, .slice (some ⟨NX, 0, none⟩) 2 2), (38, .int .i64 (t : Int)), (39, .pointer (some ⟨NX, t * 4, none⟩)), (40, .agg cu.toArray), (41, .slice (some ⟨NY, 0, none⟩) 2 2), (42, .int .i64 (t : Int)), (43, .pointer (some ⟨NY, t * 4, none⟩)), (44, .agg cv.toArray), (45, .tuple #[.agg c1.toArray, .int .i64 E1]), (36, .tuple #[.agg c1.toArray, .int .i64 E1]), (46, .agg c1.toArray), (47, .int .i64 E1), (11, .pointer (some ⟨N11, 0, none⟩)), (12, .int .i64 E1)] (by rw [hD, hsz]; rfl) (by simp only [List.forall_mem_cons, List.not_mem_nil, false_implies, implies_true, and_true]; exact ⟨h37, h38, h39, h40, h41, h42, h43, h44, h45, h36, h46, h47, ea11, h12⟩)
          rw [ha0] at ea
          simp only [List.foldl_cons, List.foldl_nil, List.setIfInBounds_toArray, List.set_cons_zero, List.set_cons_succ] at ea
          clear hF hall hr hl hD al12 as12 s6 s7 s8 ha0 hsz h37 h38 h39 h40 h41 h42 h43 h44 h45 h36 h46 h47 ea11 h12
          subst ea
          have r11 := p11
          clear p11
          go_wp2_with (first
            | (refine wpList_load_w rfl 24 (.tmp 9) rfl N9 0 rfl c1 _ r9.all Tryd.underlying24 rfl H1.info ?_; simp only [Act.put, List.setIfInBounds_toArray, List.set_cons_zero, List.set_cons_succ])
            | (refine wpList_load_w rfl 24 (.tmp 11) rfl N11 0 rfl c1 _ r11.all Tryd.underlying24 rfl H1.info ?_; simp only [Act.put, List.setIfInBounds_toArray, List.set_cons_zero, List.set_cons_succ])
            | (refine wpList_neq_c (B := false) rfl (.tmp 48) (.tmp 49) 24 rfl H1 H1 HL1.out HL1.out rfl rfl (by simp) ?_; simp only [Act.put, List.setIfInBounds_toArray, List.set_cons_zero, List.set_cons_succ]))
          refine wp_named fun a0 ha0 => ?_
          have hsz : a0.tmps.size = 121 := by rw [ha0]; rfl
          have s6 : a0.eval (.tmp 6) = .slice (some ⟨NX, 0, none⟩) 2 2 := by rw [ha0]; rfl
          have s7 : a0.eval (.tmp 7) = .slice (some ⟨NY, 0, none⟩) 2 2 := by rw [ha0]; rfl
          have s8 : a0.eval (.tmp 8) = .int .i64 (t : Int) := by rw [ha0]; rfl
          have s9 : a0.eval (.tmp 9) = .pointer (some ⟨N9, 0, none⟩) := by rw [ha0]; rfl
          obtain ⟨D, hD⟩ : ∃ D : List (Tmp × SP), D = [(57, SP.is (.slice (some ⟨NX, 0, none⟩) 2 2)), (58, SP.is (.int .i64 (t : Int))), (59, SP.is (.pointer (some ⟨NX, t * 4, none⟩))), (60, SP.is (.agg cu.toArray)), (61, SP.is (.slice (some ⟨NY, 0, none⟩) 2 2)), (62, SP.is (.int .i64 (t : Int))), (63, SP.is (.pointer (some ⟨NY, t * 4, none⟩))), (64, SP.is (.agg cv.toArray)), (65, SP.is (.tuple #[.agg c2.toArray, .int .i64 E2])), (56, SP.is (.tuple #[.agg c2.toArray, .int .i64 E2])), (66, SP.is (.agg c2.toArray)), (67, SP.is (.int .i64 E2)), (1000, SP.any), (10, SP.is (.int .i64 E2))] := ⟨_, rfl⟩
          refine wp_region_inv (by kernel_rfl) (fun listed ac W => listed.size = 14 ∧ Fp D a0 listed ac W ∧ Below w.heap.size w W ∧ Row W NX cx 24 ∧ Row W NY cy 24 ∧ Row W N9 (if listed.getD 12 false = true then c2 else c1) 24 ∧ Row W N11 c1 24) ?_ ?_ ?_
          · exact ⟨by simp, Fp.start D a0 _ _, Below.drew hb, Row.drew rx, Row.drew ry, (by rw [if_neg (fun h => start_no h)]; exact Row.drew r9), Row.drew r11⟩
          · clear ha0 hb rx ry r9 r11 
            intro listed ac W k hI hk
            obtain ⟨hl, hF, hb, rx, ry, r9, r11⟩ := hI
            have hk1 : k < 14 := List.mem_range.1 (List.mem_filter.1 hk).1
            have hl2 : ∀ j, (listed.setIfInBounds j true).size = 14 := fun j => by rw [Array.size_setIfInBounds]; exact hl
            rcases (show k = 0 ∨ k = 1 ∨ k = 2 ∨ k = 3 ∨ k = 4 ∨ k = 5 ∨ k = 6 ∨ k = 7 ∨ k = 8 ∨ k = 9 ∨ k = 10 ∨ k = 11 ∨ k = 12 ∨ k = 13 by omega) with rfl | rfl | rfl | rfl | rfl | rfl | rfl | rfl | rfl | rfl | rfl | rfl | rfl | rfl
            · have hk3 := hk
              exact wpOp_plain rfl rfl (wp_move_v (ac.eval (.tmp 6)) rfl rfl ⟨hl2 0, (hF.put 0 57 (SP.is (.slice (some ⟨NX, 0, none⟩) 2 2)) (ac.eval (.tmp 6)) (by rw [hD]; rfl) (((hF.keep 6 (by rw [hD]; rfl)).trans s6)) (by rw [hD]; rfl) (by rw [hsz]; decide)), hb, rx, ry, (by rw [getD_set _ _ _ (by decide)]; exact r9), r11⟩)
            · have hk3 := hk
              exact wpOp_plain rfl rfl (wp_move_v (ac.eval (.tmp 8)) rfl rfl ⟨hl2 1, (hF.put 1 58 (SP.is (.int .i64 (t : Int))) (ac.eval (.tmp 8)) (by rw [hD]; rfl) (((hF.keep 8 (by rw [hD]; rfl)).trans s8)) (by rw [hD]; rfl) (by rw [hsz]; decide)), hb, rx, ry, (by rw [getD_set _ _ _ (by decide)]; exact r9), r11⟩)
            · have hk3 := hk
              have e1 := (hF.done 0 (57, SP.is (.slice (some ⟨NX, 0, none⟩) 2 2)) (by rw [hD]; rfl) (ready_dep hk 0 (by kernel_rfl)))
              have e2 := (hF.done 1 (58, SP.is (.int .i64 (t : Int))) (by rw [hD]; rfl) (ready_dep hk 1 (by kernel_rfl)))
              exact wpOp_plain rfl rfl (wp_index_w rfl NX 2 2 t e1 e2 hlt ⟨hl2 2, (hF.put 2 59 (SP.is (.pointer (some ⟨NX, t * 4, none⟩))) (.pointer (some ⟨NX, t * 4, none⟩)) (by rw [hD]; rfl) rfl (by rw [hD]; rfl) (by rw [hsz]; decide)), hb, rx, ry, (by rw [getD_set _ _ _ (by decide)]; exact r9), r11⟩)
            · have hk3 := hk
              exact wpOp_plain rfl rfl (wp_load_mid 24 (.tmp 59) rfl NX (t * 4) (hF.done 2 (59, SP.is (.pointer (some ⟨NX, t * 4, none⟩))) (by rw [hD]; rfl) (ready_dep hk 2 (by kernel_rfl))) cu _ (HX.out W rx) Tryd.underlying24 rfl Hu.info ⟨hl2 3, (hF.put 3 60 (SP.is (.agg cu.toArray)) (.agg cu.toArray) (by rw [hD]; rfl) rfl (by rw [hD]; rfl) (by rw [hsz]; decide)), hb, rx, ry, (by rw [getD_set _ _ _ (by decide)]; exact r9), r11⟩)
            · have hk3 := hk
              exact wpOp_plain rfl rfl (wp_move_v (ac.eval (.tmp 7)) rfl rfl ⟨hl2 4, (hF.put 4 61 (SP.is (.slice (some ⟨NY, 0, none⟩) 2 2)) (ac.eval (.tmp 7)) (by rw [hD]; rfl) (((hF.keep 7 (by rw [hD]; rfl)).trans s7)) (by rw [hD]; rfl) (by rw [hsz]; decide)), hb, rx, ry, (by rw [getD_set _ _ _ (by decide)]; exact r9), r11⟩)
            · have hk3 := hk
              exact wpOp_plain rfl rfl (wp_move_v (ac.eval (.tmp 8)) rfl rfl ⟨hl2 5, (hF.put 5 62 (SP.is (.int .i64 (t : Int))) (ac.eval (.tmp 8)) (by rw [hD]; rfl) (((hF.keep 8 (by rw [hD]; rfl)).trans s8)) (by rw [hD]; rfl) (by rw [hsz]; decide)), hb, rx, ry, (by rw [getD_set _ _ _ (by decide)]; exact r9), r11⟩)
            · have hk3 := hk
              have e1 := (hF.done 4 (61, SP.is (.slice (some ⟨NY, 0, none⟩) 2 2)) (by rw [hD]; rfl) (ready_dep hk 4 (by kernel_rfl)))
              have e2 := (hF.done 5 (62, SP.is (.int .i64 (t : Int))) (by rw [hD]; rfl) (ready_dep hk 5 (by kernel_rfl)))
              exact wpOp_plain rfl rfl (wp_index_w rfl NY 2 2 t e1 e2 hlt ⟨hl2 6, (hF.put 6 63 (SP.is (.pointer (some ⟨NY, t * 4, none⟩))) (.pointer (some ⟨NY, t * 4, none⟩)) (by rw [hD]; rfl) rfl (by rw [hD]; rfl) (by rw [hsz]; decide)), hb, rx, ry, (by rw [getD_set _ _ _ (by decide)]; exact r9), r11⟩)
            · have hk3 := hk
              exact wpOp_plain rfl rfl (wp_load_mid 24 (.tmp 63) rfl NY (t * 4) (hF.done 6 (63, SP.is (.pointer (some ⟨NY, t * 4, none⟩))) (by rw [hD]; rfl) (ready_dep hk 6 (by kernel_rfl))) cv _ (HY.out W ry) Tryd.underlying24 rfl Hv.info ⟨hl2 7, (hF.put 7 64 (SP.is (.agg cv.toArray)) (.agg cv.toArray) (by rw [hD]; rfl) rfl (by rw [hD]; rfl) (by rw [hsz]; decide)), hb, rx, ry, (by rw [getD_set _ _ _ (by decide)]; exact r9), r11⟩)
            · have hk3 := hk
              have e1 := (hF.done 3 (60, SP.is (.agg cu.toArray)) (by rw [hD]; rfl) (ready_dep hk 3 (by kernel_rfl)))
              have e2 := (hF.done 7 (64, SP.is (.agg cv.toArray)) (by rw [hD]; rfl) (ready_dep hk 7 (by kernel_rfl)))
              refine wpOp_plain rfl rfl (wp_fcall_v 12 #[.agg cu.toArray, .agg cv.toArray] rfl rfl (by show [ac.eval (.tmp 60), ac.eval (.tmp 64)] = _; simp only [show ac.eval (.tmp 60) = _ from e1, show ac.eval (.tmp 64) = _ from e2]) (by go_simp) ((HSUB.out W).mono ?_))
              rintro e W2 ⟨yc, hyc, rfl, hB⟩
              exact ⟨_, rfl, hl2 8, ((hF.world hB).put 8 65 (SP.is (.tuple #[.agg c2.toArray, .int .i64 E2])) (.tuple #[.agg yc.toArray, .int .i64 E2]) (by rw [hD]; rfl) (by rw [show yc = c2 from hyc.trans H2.symm]; rfl) (by rw [hD]; rfl) (by rw [hsz]; decide)), hb.trans (hB.mono hb.size), Row.below rx hB (Row.lt rx), Row.below ry hB (Row.lt ry), (by rw [getD_set _ _ _ (by decide)]; exact Row.below r9 hB (Row.lt r9)), Row.below r11 hB (Row.lt r11)⟩
            · have hk3 := hk
              exact wpOp_plain rfl rfl (wp_move_v (ac.eval (.tmp 65)) rfl rfl ⟨hl2 9, (hF.put 9 56 (SP.is (.tuple #[.agg c2.toArray, .int .i64 E2])) (ac.eval (.tmp 65)) (by rw [hD]; rfl) ((hF.done 8 (65, SP.is (.tuple #[.agg c2.toArray, .int .i64 E2])) (by rw [hD]; rfl) (ready_dep hk 8 (by kernel_rfl)))) (by rw [hD]; rfl) (by rw [hsz]; decide)), hb, rx, ry, (by rw [getD_set _ _ _ (by decide)]; exact r9), r11⟩)
            · have hk3 := hk
              exact wpOp_plain rfl rfl (wp_extract (.tmp 56) 0 rfl _ (hF.done 9 (56, SP.is (.tuple #[.agg c2.toArray, .int .i64 E2])) (by rw [hD]; rfl) (ready_dep hk 9 (by kernel_rfl))) _ rfl ⟨hl2 10, (hF.put 10 66 (SP.is (.agg c2.toArray)) (_) (by rw [hD]; rfl) rfl (by rw [hD]; rfl) (by rw [hsz]; decide)), hb, rx, ry, (by rw [getD_set _ _ _ (by decide)]; exact r9), r11⟩)
            · have hk3 := hk
              exact wpOp_plain rfl rfl (wp_extract (.tmp 56) 1 rfl _ (hF.done 9 (56, SP.is (.tuple #[.agg c2.toArray, .int .i64 E2])) (by rw [hD]; rfl) (ready_dep hk 9 (by kernel_rfl))) _ rfl ⟨hl2 11, (hF.put 11 67 (SP.is (.int .i64 E2)) (_) (by rw [hD]; rfl) rfl (by rw [hD]; rfl) (by rw [hsz]; decide)), hb, rx, ry, (by rw [getD_set _ _ _ (by decide)]; exact r9), r11⟩)
            · have hk3 := hk
              have hno : ¬ listed.getD 12 false = true := not_yet hk
              rw [if_neg hno] at r9
              have T := r9.there 0 c2.toArray.size (by rw [List.size_toArray, H2.len, H1.len]; decide)
              have fin := r9.over (vs := c2) (H2.len.trans H1.len.symm)
              have hT : Fp D a0 listed ac (W.setCells N9 0 c2) := hF.turn (by rw [hD]; simp only [List.forall_mem_cons, List.not_mem_nil, false_implies, implies_true, and_true]; exact ⟨fun _ h => h, fun _ h => h, fun _ h => h, fun _ h => h, fun _ h => h, fun _ h => h, fun _ h => h, fun _ h => h, fun _ h => h, fun _ h => h, fun _ h => h, fun _ h => h, fun _ h => h, fun _ h => h⟩)
              exact wpOp_plain rfl rfl (wp_store_mid 24 (.tmp 9) (.tmp 66) rfl N9 0 c2.toArray ((hF.keep 9 (by rw [hD]; rfl)).trans s9) (hF.done 10 (66, SP.is (.agg c2.toArray)) (by rw [hD]; rfl) (ready_dep hk 10 (by kernel_rfl))) T H2.info' H2.one ⟨hl2 12, (hT.skip 12 1000 (by rw [hD]; rfl)), below_setCells hb (by omega) _, Row.setCells_other rx _ _ _ (by omega), Row.setCells_other ry _ _ _ (by omega), (by rw [if_pos (getD_same (by rw [hl]; decide))]; exact fin), Row.setCells_other r11 _ _ _ (by omega)⟩)
            · have hk3 := hk
              exact wpOp_plain rfl rfl (wp_assign_v (ac.eval (.tmp 67)) rfl rfl ⟨hl2 13, (hF.put 13 10 (SP.is (.int .i64 E2)) (ac.eval (.tmp 67)) (by rw [hD]; rfl) ((hF.done 11 (67, SP.is (.int .i64 E2)) (by rw [hD]; rfl) (ready_dep hk 11 (by kernel_rfl)))) (by rw [hD]; rfl) (by rw [hsz]; decide)), hb, rx, ry, (by rw [getD_set _ _ _ (by decide)]; exact r9), r11⟩)
          · clear hb rx ry r9 r11 
            intro listed ac W hI hr
            obtain ⟨hl, hF, hb, rx, ry, r9, r11⟩ := hI
            have hall := all_listed (by kernel_rfl) hl hr
            rw [if_pos (hall 12 (by decide))] at r9
            have h57 : ac.eval (.tmp 57) = .slice (some ⟨NX, 0, none⟩) 2 2 := hF.done 0 (57, SP.is (.slice (some ⟨NX, 0, none⟩) 2 2)) (by rw [hD]; rfl) (hall 0 (by decide))
            have h58 : ac.eval (.tmp 58) = .int .i64 (t : Int) := hF.done 1 (58, SP.is (.int .i64 (t : Int))) (by rw [hD]; rfl) (hall 1 (by decide))
            have h59 : ac.eval (.tmp 59) = .pointer (some ⟨NX, t * 4, none⟩) := hF.done 2 (59, SP.is (.pointer (some ⟨NX, t * 4, none⟩))) (by rw [hD]; rfl) (hall 2 (by decide))
            have h60 : ac.eval (.tmp 60) = .agg cu.toArray := hF.done 3 (60, SP.is (.agg cu.toArray)) (by rw [hD]; rfl) (hall 3 (by decide))
            have h61 : ac.eval (.tmp 61) = .slice (some ⟨NY, 0, none⟩) 2 2 := hF.done 4 (61, SP.is (.slice (some ⟨NY, 0, none⟩) 2 2)) (by rw [hD]; rfl) (hall 4 (by decide))
            have h62 : ac.eval (.tmp 62) = .int .i64 (t : Int) := hF.done 5 (62, SP.is (.int .i64 (t : Int))) (by rw [hD]; rfl) (hall 5 (by decide))
            have h63 : ac.eval (.tmp 63) = .pointer (some ⟨NY, t * 4, none⟩) := hF.done 6 (63, SP.is (.pointer (some ⟨NY, t * 4, none⟩))) (by rw [hD]; rfl) (hall 6 (by decide))
            have h64 : ac.eval (.tmp 64) = .agg cv.toArray := hF.done 7 (64, SP.is (.agg cv.toArray)) (by rw [hD]; rfl) (hall 7 (by decide))
            have h65 : ac.eval (.tmp 65) = .tuple #[.agg c2.toArray, .int .i64 E2] := hF.done 8 (65, SP.is (.tuple #[.agg c2.toArray, .int .i64 E2])) (by rw [hD]; rfl) (hall 8 (by decide))
            have h56 : ac.eval (.tmp 56) = .tuple #[.agg c2.toArray, .int .i64 E2] := hF.done 9 (56, SP.is (.tuple #[.agg c2.toArray, .int .i64 E2])) (by rw [hD]; rfl) (hall 9 (by decide))
            have h66 : ac.eval (.tmp 66) = .agg c2.toArray := hF.done 10 (66, SP.is (.agg c2.toArray)) (by rw [hD]; rfl) (hall 10 (by decide))
            have h67 : ac.eval (.tmp 67) = .int .i64 E2 := hF.done 11 (67, SP.is (.int .i64 E2)) (by rw [hD]; rfl) (hall 11 (by decide))
            have h10 : ac.eval (.tmp 10) = .int .i64 E2 := hF.done 13 (10, SP.is (.int .i64 E2)) (by rw [hD]; rfl) (hall 13 (by decide))
            have ea := hF.lay [(57, .slice (some ⟨NX, 0, none⟩) 2 2), (58, .int .i64 (t : Int)), (59, .pointer (some ⟨NX, t * 4, none⟩)), (60, .agg cu.toArray), (61, .slice (some ⟨NY, 0, none⟩) 2 2), (62, .int .i64 (t : Int)), (63, .pointer (some ⟨NY, t * 4, none⟩)), (64, .agg cv.toArray), (65, .tuple #[.agg c2.toArray, .int .i64 E2]), (56, .tuple #[.agg c2.toArray, .int .i64 E2]), (66, .agg c2.toArray), (67, .int .i64 E2), (10, .int .i64 E2)] (by rw [hD, hsz]; rfl) (by simp only [List.forall_mem_cons, List.not_mem_nil, false_implies, implies_true, and_true]; exact ⟨h57, h58, h59, h60, h61, h62, h63, h64, h65, h56, h66, h67, h10⟩)
            rw [ha0] at ea
            simp only [List.foldl_cons, List.foldl_nil, List.setIfInBounds_toArray, List.set_cons_zero, List.set_cons_succ] at ea
            clear hF hall hr hl hD  s6 s7 s8 s9 ha0 hsz h57 h58 h59 h60 h61 h62 h63 h64 h65 h56 h66 h67 h10
            subst ea
            go_wp2_with fail
            refine wp_named fun a0 ha0 => ?_
            have hsz : a0.tmps.size = 121 := by rw [ha0]; rfl
            have s6 : a0.eval (.tmp 6) = .slice (some ⟨NX, 0, none⟩) 2 2 := by rw [ha0]; rfl
            have s7 : a0.eval (.tmp 7) = .slice (some ⟨NY, 0, none⟩) 2 2 := by rw [ha0]; rfl
            have s8 : a0.eval (.tmp 8) = .int .i64 (t : Int) := by rw [ha0]; rfl
            have s11 : a0.eval (.tmp 11) = .pointer (some ⟨N11, 0, none⟩) := by rw [ha0]; rfl
            obtain ⟨D, hD⟩ : ∃ D : List (Tmp × SP), D = [(69, SP.is (.slice (some ⟨NX, 0, none⟩) 2 2)), (70, SP.is (.int .i64 (t : Int))), (71, SP.is (.pointer (some ⟨NX, t * 4, none⟩))), (72, SP.is (.agg cu.toArray)), (73, SP.is (.slice (some ⟨NY, 0, none⟩) 2 2)), (74, SP.is (.int .i64 (t : Int))), (75, SP.is (.pointer (some ⟨NY, t * 4, none⟩))), (76, SP.is (.agg cv.toArray)), (77, SP.is (.tuple #[.agg c2.toArray, .int .i64 E2])), (68, SP.is (.tuple #[.agg c2.toArray, .int .i64 E2])), (78, SP.is (.agg c2.toArray)), (79, SP.is (.int .i64 E2)), (1000, SP.any), (12, SP.is (.int .i64 E2))] := ⟨_, rfl⟩
            refine wp_region_inv (by kernel_rfl) (fun listed ac W => listed.size = 14 ∧ Fp D a0 listed ac W ∧ Below w.heap.size w W ∧ Row W NX cx 24 ∧ Row W NY cy 24 ∧ Row W N9 c2 24 ∧ Row W N11 (if listed.getD 12 false = true then c2 else c1) 24) ?_ ?_ ?_
            · exact ⟨by simp, Fp.start D a0 _ _, Below.drew hb, Row.drew rx, Row.drew ry, Row.drew r9, (by rw [if_neg (fun h => start_no h)]; exact Row.drew r11)⟩
            · clear ha0 hb rx ry r9 r11 
              intro listed ac W k hI hk
              obtain ⟨hl, hF, hb, rx, ry, r9, r11⟩ := hI
              have hk1 : k < 14 := List.mem_range.1 (List.mem_filter.1 hk).1
              have hl2 : ∀ j, (listed.setIfInBounds j true).size = 14 := fun j => by rw [Array.size_setIfInBounds]; exact hl
              rcases (show k = 0 ∨ k = 1 ∨ k = 2 ∨ k = 3 ∨ k = 4 ∨ k = 5 ∨ k = 6 ∨ k = 7 ∨ k = 8 ∨ k = 9 ∨ k = 10 ∨ k = 11 ∨ k = 12 ∨ k = 13 by omega) with rfl | rfl | rfl | rfl | rfl | rfl | rfl | rfl | rfl | rfl | rfl | rfl | rfl | rfl
              · have hk3 := hk
                exact wpOp_plain rfl rfl (wp_move_v (ac.eval (.tmp 6)) rfl rfl ⟨hl2 0, (hF.put 0 69 (SP.is (.slice (some ⟨NX, 0, none⟩) 2 2)) (ac.eval (.tmp 6)) (by rw [hD]; rfl) (((hF.keep 6 (by rw [hD]; rfl)).trans s6)) (by rw [hD]; rfl) (by rw [hsz]; decide)), hb, rx, ry, r9, (by rw [getD_set _ _ _ (by decide)]; exact r11)⟩)
              · have hk3 := hk
                exact wpOp_plain rfl rfl (wp_move_v (ac.eval (.tmp 8)) rfl rfl ⟨hl2 1, (hF.put 1 70 (SP.is (.int .i64 (t : Int))) (ac.eval (.tmp 8)) (by rw [hD]; rfl) (((hF.keep 8 (by rw [hD]; rfl)).trans s8)) (by rw [hD]; rfl) (by rw [hsz]; decide)), hb, rx, ry, r9, (by rw [getD_set _ _ _ (by decide)]; exact r11)⟩)
              · have hk3 := hk
                have e1 := (hF.done 0 (69, SP.is (.slice (some ⟨NX, 0, none⟩) 2 2)) (by rw [hD]; rfl) (ready_dep hk 0 (by kernel_rfl)))
                have e2 := (hF.done 1 (70, SP.is (.int .i64 (t : Int))) (by rw [hD]; rfl) (ready_dep hk 1 (by kernel_rfl)))
                exact wpOp_plain rfl rfl (wp_index_w rfl NX 2 2 t e1 e2 hlt ⟨hl2 2, (hF.put 2 71 (SP.is (.pointer (some ⟨NX, t * 4, none⟩))) (.pointer (some ⟨NX, t * 4, none⟩)) (by rw [hD]; rfl) rfl (by rw [hD]; rfl) (by rw [hsz]; decide)), hb, rx, ry, r9, (by rw [getD_set _ _ _ (by decide)]; exact r11)⟩)
              · have hk3 := hk
                exact wpOp_plain rfl rfl (wp_load_mid 24 (.tmp 71) rfl NX (t * 4) (hF.done 2 (71, SP.is (.pointer (some ⟨NX, t * 4, none⟩))) (by rw [hD]; rfl) (ready_dep hk 2 (by kernel_rfl))) cu _ (HX.out W rx) Tryd.underlying24 rfl Hu.info ⟨hl2 3, (hF.put 3 72 (SP.is (.agg cu.toArray)) (.agg cu.toArray) (by rw [hD]; rfl) rfl (by rw [hD]; rfl) (by rw [hsz]; decide)), hb, rx, ry, r9, (by rw [getD_set _ _ _ (by decide)]; exact r11)⟩)
              · have hk3 := hk
                exact wpOp_plain rfl rfl (wp_move_v (ac.eval (.tmp 7)) rfl rfl ⟨hl2 4, (hF.put 4 73 (SP.is (.slice (some ⟨NY, 0, none⟩) 2 2)) (ac.eval (.tmp 7)) (by rw [hD]; rfl) (((hF.keep 7 (by rw [hD]; rfl)).trans s7)) (by rw [hD]; rfl) (by rw [hsz]; decide)), hb, rx, ry, r9, (by rw [getD_set _ _ _ (by decide)]; exact r11)⟩)
              · have hk3 := hk
                exact wpOp_plain rfl rfl (wp_move_v (ac.eval (.tmp 8)) rfl rfl ⟨hl2 5, (hF.put 5 74 (SP.is (.int .i64 (t : Int))) (ac.eval (.tmp 8)) (by rw [hD]; rfl) (((hF.keep 8 (by rw [hD]; rfl)).trans s8)) (by rw [hD]; rfl) (by rw [hsz]; decide)), hb, rx, ry, r9, (by rw [getD_set _ _ _ (by decide)]; exact r11)⟩)
              · have hk3 := hk
                have e1 := (hF.done 4 (73, SP.is (.slice (some ⟨NY, 0, none⟩) 2 2)) (by rw [hD]; rfl) (ready_dep hk 4 (by kernel_rfl)))
                have e2 := (hF.done 5 (74, SP.is (.int .i64 (t : Int))) (by rw [hD]; rfl) (ready_dep hk 5 (by kernel_rfl)))
                exact wpOp_plain rfl rfl (wp_index_w rfl NY 2 2 t e1 e2 hlt ⟨hl2 6, (hF.put 6 75 (SP.is (.pointer (some ⟨NY, t * 4, none⟩))) (.pointer (some ⟨NY, t * 4, none⟩)) (by rw [hD]; rfl) rfl (by rw [hD]; rfl) (by rw [hsz]; decide)), hb, rx, ry, r9, (by rw [getD_set _ _ _ (by decide)]; exact r11)⟩)
              · have hk3 := hk
                exact wpOp_plain rfl rfl (wp_load_mid 24 (.tmp 75) rfl NY (t * 4) (hF.done 6 (75, SP.is (.pointer (some ⟨NY, t * 4, none⟩))) (by rw [hD]; rfl) (ready_dep hk 6 (by kernel_rfl))) cv _ (HY.out W ry) Tryd.underlying24 rfl Hv.info ⟨hl2 7, (hF.put 7 76 (SP.is (.agg cv.toArray)) (.agg cv.toArray) (by rw [hD]; rfl) rfl (by rw [hD]; rfl) (by rw [hsz]; decide)), hb, rx, ry, r9, (by rw [getD_set _ _ _ (by decide)]; exact r11)⟩)
              · have hk3 := hk
                have e1 := (hF.done 3 (72, SP.is (.agg cu.toArray)) (by rw [hD]; rfl) (ready_dep hk 3 (by kernel_rfl)))
                have e2 := (hF.done 7 (76, SP.is (.agg cv.toArray)) (by rw [hD]; rfl) (ready_dep hk 7 (by kernel_rfl)))
                refine wpOp_plain rfl rfl (wp_fcall_v 13 #[.agg cu.toArray, .agg cv.toArray] rfl rfl (by show [ac.eval (.tmp 72), ac.eval (.tmp 76)] = _; simp only [show ac.eval (.tmp 72) = _ from e1, show ac.eval (.tmp 76) = _ from e2]) (by go_simp) ((HRSU.out W).mono ?_))
                rintro e W2 ⟨rfl, hB⟩
                exact ⟨_, rfl, hl2 8, ((hF.world hB).put 8 77 (SP.is (.tuple #[.agg c2.toArray, .int .i64 E2])) (.tuple #[.agg c2.toArray, .int .i64 E2]) (by rw [hD]; rfl) rfl (by rw [hD]; rfl) (by rw [hsz]; decide)), hb.trans (hB.mono hb.size), Row.below rx hB (Row.lt rx), Row.below ry hB (Row.lt ry), Row.below r9 hB (Row.lt r9), (by rw [getD_set _ _ _ (by decide)]; exact Row.below r11 hB (Row.lt r11))⟩
              · have hk3 := hk
                exact wpOp_plain rfl rfl (wp_move_v (ac.eval (.tmp 77)) rfl rfl ⟨hl2 9, (hF.put 9 68 (SP.is (.tuple #[.agg c2.toArray, .int .i64 E2])) (ac.eval (.tmp 77)) (by rw [hD]; rfl) ((hF.done 8 (77, SP.is (.tuple #[.agg c2.toArray, .int .i64 E2])) (by rw [hD]; rfl) (ready_dep hk 8 (by kernel_rfl)))) (by rw [hD]; rfl) (by rw [hsz]; decide)), hb, rx, ry, r9, (by rw [getD_set _ _ _ (by decide)]; exact r11)⟩)
              · have hk3 := hk
                exact wpOp_plain rfl rfl (wp_extract (.tmp 68) 0 rfl _ (hF.done 9 (68, SP.is (.tuple #[.agg c2.toArray, .int .i64 E2])) (by rw [hD]; rfl) (ready_dep hk 9 (by kernel_rfl))) _ rfl ⟨hl2 10, (hF.put 10 78 (SP.is (.agg c2.toArray)) (_) (by rw [hD]; rfl) rfl (by rw [hD]; rfl) (by rw [hsz]; decide)), hb, rx, ry, r9, (by rw [getD_set _ _ _ (by decide)]; exact r11)⟩)
              · have hk3 := hk
                exact wpOp_plain rfl rfl (wp_extract (.tmp 68) 1 rfl _ (hF.done 9 (68, SP.is (.tuple #[.agg c2.toArray, .int .i64 E2])) (by rw [hD]; rfl) (ready_dep hk 9 (by kernel_rfl))) _ rfl ⟨hl2 11, (hF.put 11 79 (SP.is (.int .i64 E2)) (_) (by rw [hD]; rfl) rfl (by rw [hD]; rfl) (by rw [hsz]; decide)), hb, rx, ry, r9, (by rw [getD_set _ _ _ (by decide)]; exact r11)⟩)
              · have hk3 := hk
                have hno : ¬ listed.getD 12 false = true := not_yet hk
                rw [if_neg hno] at r11
                have T := r11.there 0 c2.toArray.size (by rw [List.size_toArray, H2.len, H1.len]; decide)
                have fin := r11.over (vs := c2) (H2.len.trans H1.len.symm)
                have hT : Fp D a0 listed ac (W.setCells N11 0 c2) := hF.turn (by rw [hD]; simp only [List.forall_mem_cons, List.not_mem_nil, false_implies, implies_true, and_true]; exact ⟨fun _ h => h, fun _ h => h, fun _ h => h, fun _ h => h, fun _ h => h, fun _ h => h, fun _ h => h, fun _ h => h, fun _ h => h, fun _ h => h, fun _ h => h, fun _ h => h, fun _ h => h, fun _ h => h⟩)
                exact wpOp_plain rfl rfl (wp_store_mid 24 (.tmp 11) (.tmp 78) rfl N11 0 c2.toArray ((hF.keep 11 (by rw [hD]; rfl)).trans s11) (hF.done 10 (78, SP.is (.agg c2.toArray)) (by rw [hD]; rfl) (ready_dep hk 10 (by kernel_rfl))) T H2.info' H2.one ⟨hl2 12, (hT.skip 12 1000 (by rw [hD]; rfl)), below_setCells hb (by omega) _, Row.setCells_other rx _ _ _ (by omega), Row.setCells_other ry _ _ _ (by omega), Row.setCells_other r9 _ _ _ (by omega), (by rw [if_pos (getD_same (by rw [hl]; decide))]; exact fin)⟩)
              · have hk3 := hk
                exact wpOp_plain rfl rfl (wp_assign_v (ac.eval (.tmp 79)) rfl rfl ⟨hl2 13, (hF.put 13 12 (SP.is (.int .i64 E2)) (ac.eval (.tmp 79)) (by rw [hD]; rfl) ((hF.done 11 (79, SP.is (.int .i64 E2)) (by rw [hD]; rfl) (ready_dep hk 11 (by kernel_rfl)))) (by rw [hD]; rfl) (by rw [hsz]; decide)), hb, rx, ry, r9, (by rw [getD_set _ _ _ (by decide)]; exact r11)⟩)
            · clear hb rx ry r9 r11 
              intro listed ac W hI hr
              obtain ⟨hl, hF, hb, rx, ry, r9, r11⟩ := hI
              have hall := all_listed (by kernel_rfl) hl hr
              rw [if_pos (hall 12 (by decide))] at r11
              have h69 : ac.eval (.tmp 69) = .slice (some ⟨NX, 0, none⟩) 2 2 := hF.done 0 (69, SP.is (.slice (some ⟨NX, 0, none⟩) 2 2)) (by rw [hD]; rfl) (hall 0 (by decide))
              have h70 : ac.eval (.tmp 70) = .int .i64 (t : Int) := hF.done 1 (70, SP.is (.int .i64 (t : Int))) (by rw [hD]; rfl) (hall 1 (by decide))
              have h71 : ac.eval (.tmp 71) = .pointer (some ⟨NX, t * 4, none⟩) := hF.done 2 (71, SP.is (.pointer (some ⟨NX, t * 4, none⟩))) (by rw [hD]; rfl) (hall 2 (by decide))
              have h72 : ac.eval (.tmp 72) = .agg cu.toArray := hF.done 3 (72, SP.is (.agg cu.toArray)) (by rw [hD]; rfl) (hall 3 (by decide))
              have h73 : ac.eval (.tmp 73) = .slice (some ⟨NY, 0, none⟩) 2 2 := hF.done 4 (73, SP.is (.slice (some ⟨NY, 0, none⟩) 2 2)) (by rw [hD]; rfl) (hall 4 (by decide))
              have h74 : ac.eval (.tmp 74) = .int .i64 (t : Int) := hF.done 5 (74, SP.is (.int .i64 (t : Int))) (by rw [hD]; rfl) (hall 5 (by decide))
              have h75 : ac.eval (.tmp 75) = .pointer (some ⟨NY, t * 4, none⟩) := hF.done 6 (75, SP.is (.pointer (some ⟨NY, t * 4, none⟩))) (by rw [hD]; rfl) (hall 6 (by decide))
              have h76 : ac.eval (.tmp 76) = .agg cv.toArray := hF.done 7 (76, SP.is (.agg cv.toArray)) (by rw [hD]; rfl) (hall 7 (by decide))
              have h77 : ac.eval (.tmp 77) = .tuple #[.agg c2.toArray, .int .i64 E2] := hF.done 8 (77, SP.is (.tuple #[.agg c2.toArray, .int .i64 E2])) (by rw [hD]; rfl) (hall 8 (by decide))
              have h68 : ac.eval (.tmp 68) = .tuple #[.agg c2.toArray, .int .i64 E2] := hF.done 9 (68, SP.is (.tuple #[.agg c2.toArray, .int .i64 E2])) (by rw [hD]; rfl) (hall 9 (by decide))
              have h78 : ac.eval (.tmp 78) = .agg c2.toArray := hF.done 10 (78, SP.is (.agg c2.toArray)) (by rw [hD]; rfl) (hall 10 (by decide))
              have h79 : ac.eval (.tmp 79) = .int .i64 E2 := hF.done 11 (79, SP.is (.int .i64 E2)) (by rw [hD]; rfl) (hall 11 (by decide))
              have h12 : ac.eval (.tmp 12) = .int .i64 E2 := hF.done 13 (12, SP.is (.int .i64 E2)) (by rw [hD]; rfl) (hall 13 (by decide))
              have ea := hF.lay [(69, .slice (some ⟨NX, 0, none⟩) 2 2), (70, .int .i64 (t : Int)), (71, .pointer (some ⟨NX, t * 4, none⟩)), (72, .agg cu.toArray), (73, .slice (some ⟨NY, 0, none⟩) 2 2), (74, .int .i64 (t : Int)), (75, .pointer (some ⟨NY, t * 4, none⟩)), (76, .agg cv.toArray), (77, .tuple #[.agg c2.toArray, .int .i64 E2]), (68, .tuple #[.agg c2.toArray, .int .i64 E2]), (78, .agg c2.toArray), (79, .int .i64 E2), (12, .int .i64 E2)] (by rw [hD, hsz]; rfl) (by simp only [List.forall_mem_cons, List.not_mem_nil, false_implies, implies_true, and_true]; exact ⟨h69, h70, h71, h72, h73, h74, h75, h76, h77, h68, h78, h79, h12⟩)
              rw [ha0] at ea
              simp only [List.foldl_cons, List.foldl_nil, List.setIfInBounds_toArray, List.set_cons_zero, List.set_cons_succ] at ea
              clear hF hall hr hl hD  s6 s7 s8 s11 ha0 hsz h69 h70 h71 h72 h73 h74 h75 h76 h77 h68 h78 h79 h12
              subst ea
              go_wp2_with (first
                | (refine wpList_load_w rfl 24 (.tmp 9) rfl N9 0 rfl c2 _ r9.all Tryd.underlying24 rfl H2.info ?_; simp only [Act.put, List.setIfInBounds_toArray, List.set_cons_zero, List.set_cons_succ])
                | (refine wpList_load_w rfl 24 (.tmp 11) rfl N11 0 rfl c2 _ r11.all Tryd.underlying24 rfl H2.info ?_; simp only [Act.put, List.setIfInBounds_toArray, List.set_cons_zero, List.set_cons_succ])
                | (refine wpList_neq_c (B := false) rfl (.tmp 80) (.tmp 81) 24 rfl H2 H2 HL2.out HL2.out rfl rfl (by simp) ?_; simp only [Act.put, List.setIfInBounds_toArray, List.set_cons_zero, List.set_cons_succ]))
              refine wp_named fun a0 ha0 => ?_
              have hsz : a0.tmps.size = 121 := by rw [ha0]; rfl
              have s6 : a0.eval (.tmp 6) = .slice (some ⟨NX, 0, none⟩) 2 2 := by rw [ha0]; rfl
              have s7 : a0.eval (.tmp 7) = .slice (some ⟨NY, 0, none⟩) 2 2 := by rw [ha0]; rfl
              have s8 : a0.eval (.tmp 8) = .int .i64 (t : Int) := by rw [ha0]; rfl
              have s9 : a0.eval (.tmp 9) = .pointer (some ⟨N9, 0, none⟩) := by rw [ha0]; rfl
              obtain ⟨D, hD⟩ : ∃ D : List (Tmp × SP), D = [(89, SP.is (.slice (some ⟨NX, 0, none⟩) 2 2)), (90, SP.is (.int .i64 (t : Int))), (91, SP.is (.pointer (some ⟨NX, t * 4, none⟩))), (92, SP.is (.agg cu.toArray)), (93, SP.is (.slice (some ⟨NY, 0, none⟩) 2 2)), (94, SP.is (.int .i64 (t : Int))), (95, SP.is (.pointer (some ⟨NY, t * 4, none⟩))), (96, SP.is (.agg cv.toArray)), (97, SP.is (.tuple #[.agg c3.toArray, .int .i64 E3])), (88, SP.is (.tuple #[.agg c3.toArray, .int .i64 E3])), (98, SP.is (.agg c3.toArray)), (99, SP.is (.int .i64 E3)), (1000, SP.any), (10, SP.is (.int .i64 E3))] := ⟨_, rfl⟩
              refine wp_region_inv (by kernel_rfl) (fun listed ac W => listed.size = 14 ∧ Fp D a0 listed ac W ∧ Below w.heap.size w W ∧ Row W NX cx 24 ∧ Row W NY cy 24 ∧ Row W N9 (if listed.getD 12 false = true then c3 else c2) 24 ∧ Row W N11 c2 24) ?_ ?_ ?_
              · exact ⟨by simp, Fp.start D a0 _ _, Below.drew hb, Row.drew rx, Row.drew ry, (by rw [if_neg (fun h => start_no h)]; exact Row.drew r9), Row.drew r11⟩
              · clear ha0 hb rx ry r9 r11 
                intro listed ac W k hI hk
                obtain ⟨hl, hF, hb, rx, ry, r9, r11⟩ := hI
                have hk1 : k < 14 := List.mem_range.1 (List.mem_filter.1 hk).1
                have hl2 : ∀ j, (listed.setIfInBounds j true).size = 14 := fun j => by rw [Array.size_setIfInBounds]; exact hl
                rcases (show k = 0 ∨ k = 1 ∨ k = 2 ∨ k = 3 ∨ k = 4 ∨ k = 5 ∨ k = 6 ∨ k = 7 ∨ k = 8 ∨ k = 9 ∨ k = 10 ∨ k = 11 ∨ k = 12 ∨ k = 13 by omega) with rfl | rfl | rfl | rfl | rfl | rfl | rfl | rfl | rfl | rfl | rfl | rfl | rfl | rfl
                · have hk3 := hk
                  exact wpOp_plain rfl rfl (wp_move_v (ac.eval (.tmp 6)) rfl rfl ⟨hl2 0, (hF.put 0 89 (SP.is (.slice (some ⟨NX, 0, none⟩) 2 2)) (ac.eval (.tmp 6)) (by rw [hD]; rfl) (((hF.keep 6 (by rw [hD]; rfl)).trans s6)) (by rw [hD]; rfl) (by rw [hsz]; decide)), hb, rx, ry, (by rw [getD_set _ _ _ (by decide)]; exact r9), r11⟩)
                · have hk3 := hk
                  exact wpOp_plain rfl rfl (wp_move_v (ac.eval (.tmp 8)) rfl rfl ⟨hl2 1, (hF.put 1 90 (SP.is (.int .i64 (t : Int))) (ac.eval (.tmp 8)) (by rw [hD]; rfl) (((hF.keep 8 (by rw [hD]; rfl)).trans s8)) (by rw [hD]; rfl) (by rw [hsz]; decide)), hb, rx, ry, (by rw [getD_set _ _ _ (by decide)]; exact r9), r11⟩)
                · have hk3 := hk
                  have e1 := (hF.done 0 (89, SP.is (.slice (some ⟨NX, 0, none⟩) 2 2)) (by rw [hD]; rfl) (ready_dep hk 0 (by kernel_rfl)))
                  have e2 := (hF.done 1 (90, SP.is (.int .i64 (t : Int))) (by rw [hD]; rfl) (ready_dep hk 1 (by kernel_rfl)))
                  exact wpOp_plain rfl rfl (wp_index_w rfl NX 2 2 t e1 e2 hlt ⟨hl2 2, (hF.put 2 91 (SP.is (.pointer (some ⟨NX, t * 4, none⟩))) (.pointer (some ⟨NX, t * 4, none⟩)) (by rw [hD]; rfl) rfl (by rw [hD]; rfl) (by rw [hsz]; decide)), hb, rx, ry, (by rw [getD_set _ _ _ (by decide)]; exact r9), r11⟩)
                · have hk3 := hk
                  exact wpOp_plain rfl rfl (wp_load_mid 24 (.tmp 91) rfl NX (t * 4) (hF.done 2 (91, SP.is (.pointer (some ⟨NX, t * 4, none⟩))) (by rw [hD]; rfl) (ready_dep hk 2 (by kernel_rfl))) cu _ (HX.out W rx) Tryd.underlying24 rfl Hu.info ⟨hl2 3, (hF.put 3 92 (SP.is (.agg cu.toArray)) (.agg cu.toArray) (by rw [hD]; rfl) rfl (by rw [hD]; rfl) (by rw [hsz]; decide)), hb, rx, ry, (by rw [getD_set _ _ _ (by decide)]; exact r9), r11⟩)
                · have hk3 := hk
                  exact wpOp_plain rfl rfl (wp_move_v (ac.eval (.tmp 7)) rfl rfl ⟨hl2 4, (hF.put 4 93 (SP.is (.slice (some ⟨NY, 0, none⟩) 2 2)) (ac.eval (.tmp 7)) (by rw [hD]; rfl) (((hF.keep 7 (by rw [hD]; rfl)).trans s7)) (by rw [hD]; rfl) (by rw [hsz]; decide)), hb, rx, ry, (by rw [getD_set _ _ _ (by decide)]; exact r9), r11⟩)
                · have hk3 := hk
                  exact wpOp_plain rfl rfl (wp_move_v (ac.eval (.tmp 8)) rfl rfl ⟨hl2 5, (hF.put 5 94 (SP.is (.int .i64 (t : Int))) (ac.eval (.tmp 8)) (by rw [hD]; rfl) (((hF.keep 8 (by rw [hD]; rfl)).trans s8)) (by rw [hD]; rfl) (by rw [hsz]; decide)), hb, rx, ry, (by rw [getD_set _ _ _ (by decide)]; exact r9), r11⟩)
                · have hk3 := hk
                  have e1 := (hF.done 4 (93, SP.is (.slice (some ⟨NY, 0, none⟩) 2 2)) (by rw [hD]; rfl) (ready_dep hk 4 (by kernel_rfl)))
                  have e2 := (hF.done 5 (94, SP.is (.int .i64 (t : Int))) (by rw [hD]; rfl) (ready_dep hk 5 (by kernel_rfl)))
                  exact wpOp_plain rfl rfl (wp_index_w rfl NY 2 2 t e1 e2 hlt ⟨hl2 6, (hF.put 6 95 (SP.is (.pointer (some ⟨NY, t * 4, none⟩))) (.pointer (some ⟨NY, t * 4, none⟩)) (by rw [hD]; rfl) rfl (by rw [hD]; rfl) (by rw [hsz]; decide)), hb, rx, ry, (by rw [getD_set _ _ _ (by decide)]; exact r9), r11⟩)
                · have hk3 := hk
                  exact wpOp_plain rfl rfl (wp_load_mid 24 (.tmp 95) rfl NY (t * 4) (hF.done 6 (95, SP.is (.pointer (some ⟨NY, t * 4, none⟩))) (by rw [hD]; rfl) (ready_dep hk 6 (by kernel_rfl))) cv _ (HY.out W ry) Tryd.underlying24 rfl Hv.info ⟨hl2 7, (hF.put 7 96 (SP.is (.agg cv.toArray)) (.agg cv.toArray) (by rw [hD]; rfl) rfl (by rw [hD]; rfl) (by rw [hsz]; decide)), hb, rx, ry, (by rw [getD_set _ _ _ (by decide)]; exact r9), r11⟩)
                · have hk3 := hk
                  have e1 := (hF.done 3 (92, SP.is (.agg cu.toArray)) (by rw [hD]; rfl) (ready_dep hk 3 (by kernel_rfl)))
                  have e2 := (hF.done 7 (96, SP.is (.agg cv.toArray)) (by rw [hD]; rfl) (ready_dep hk 7 (by kernel_rfl)))
                  refine wpOp_plain rfl rfl (wp_fcall_v 14 #[.agg cu.toArray, .agg cv.toArray] rfl rfl (by show [ac.eval (.tmp 92), ac.eval (.tmp 96)] = _; simp only [show ac.eval (.tmp 92) = _ from e1, show ac.eval (.tmp 96) = _ from e2]) (by go_simp) ((HMUL.out W).mono ?_))
                  rintro e W2 ⟨yc, hyc, rfl, hB⟩
                  exact ⟨_, rfl, hl2 8, ((hF.world hB).put 8 97 (SP.is (.tuple #[.agg c3.toArray, .int .i64 E3])) (.tuple #[.agg yc.toArray, .int .i64 E3]) (by rw [hD]; rfl) (by rw [show yc = c3 from hyc.trans H3.symm]; rfl) (by rw [hD]; rfl) (by rw [hsz]; decide)), hb.trans (hB.mono hb.size), Row.below rx hB (Row.lt rx), Row.below ry hB (Row.lt ry), (by rw [getD_set _ _ _ (by decide)]; exact Row.below r9 hB (Row.lt r9)), Row.below r11 hB (Row.lt r11)⟩
                · have hk3 := hk
                  exact wpOp_plain rfl rfl (wp_move_v (ac.eval (.tmp 97)) rfl rfl ⟨hl2 9, (hF.put 9 88 (SP.is (.tuple #[.agg c3.toArray, .int .i64 E3])) (ac.eval (.tmp 97)) (by rw [hD]; rfl) ((hF.done 8 (97, SP.is (.tuple #[.agg c3.toArray, .int .i64 E3])) (by rw [hD]; rfl) (ready_dep hk 8 (by kernel_rfl)))) (by rw [hD]; rfl) (by rw [hsz]; decide)), hb, rx, ry, (by rw [getD_set _ _ _ (by decide)]; exact r9), r11⟩)
                · have hk3 := hk
                  exact wpOp_plain rfl rfl (wp_extract (.tmp 88) 0 rfl _ (hF.done 9 (88, SP.is (.tuple #[.agg c3.toArray, .int .i64 E3])) (by rw [hD]; rfl) (ready_dep hk 9 (by kernel_rfl))) _ rfl ⟨hl2 10, (hF.put 10 98 (SP.is (.agg c3.toArray)) (_) (by rw [hD]; rfl) rfl (by rw [hD]; rfl) (by rw [hsz]; decide)), hb, rx, ry, (by rw [getD_set _ _ _ (by decide)]; exact r9), r11⟩)
                · have hk3 := hk
                  exact wpOp_plain rfl rfl (wp_extract (.tmp 88) 1 rfl _ (hF.done 9 (88, SP.is (.tuple #[.agg c3.toArray, .int .i64 E3])) (by rw [hD]; rfl) (ready_dep hk 9 (by kernel_rfl))) _ rfl ⟨hl2 11, (hF.put 11 99 (SP.is (.int .i64 E3)) (_) (by rw [hD]; rfl) rfl (by rw [hD]; rfl) (by rw [hsz]; decide)), hb, rx, ry, (by rw [getD_set _ _ _ (by decide)]; exact r9), r11⟩)
                · have hk3 := hk
                  have hno : ¬ listed.getD 12 false = true := not_yet hk
                  rw [if_neg hno] at r9
                  have T := r9.there 0 c3.toArray.size (by rw [List.size_toArray, H3.len, H2.len]; decide)
                  have fin := r9.over (vs := c3) (H3.len.trans H2.len.symm)
                  have hT : Fp D a0 listed ac (W.setCells N9 0 c3) := hF.turn (by rw [hD]; simp only [List.forall_mem_cons, List.not_mem_nil, false_implies, implies_true, and_true]; exact ⟨fun _ h => h, fun _ h => h, fun _ h => h, fun _ h => h, fun _ h => h, fun _ h => h, fun _ h => h, fun _ h => h, fun _ h => h, fun _ h => h, fun _ h => h, fun _ h => h, fun _ h => h, fun _ h => h⟩)
                  exact wpOp_plain rfl rfl (wp_store_mid 24 (.tmp 9) (.tmp 98) rfl N9 0 c3.toArray ((hF.keep 9 (by rw [hD]; rfl)).trans s9) (hF.done 10 (98, SP.is (.agg c3.toArray)) (by rw [hD]; rfl) (ready_dep hk 10 (by kernel_rfl))) T H3.info' H3.one ⟨hl2 12, (hT.skip 12 1000 (by rw [hD]; rfl)), below_setCells hb (by omega) _, Row.setCells_other rx _ _ _ (by omega), Row.setCells_other ry _ _ _ (by omega), (by rw [if_pos (getD_same (by rw [hl]; decide))]; exact fin), Row.setCells_other r11 _ _ _ (by omega)⟩)
                · have hk3 := hk
                  exact wpOp_plain rfl rfl (wp_assign_v (ac.eval (.tmp 99)) rfl rfl ⟨hl2 13, (hF.put 13 10 (SP.is (.int .i64 E3)) (ac.eval (.tmp 99)) (by rw [hD]; rfl) ((hF.done 11 (99, SP.is (.int .i64 E3)) (by rw [hD]; rfl) (ready_dep hk 11 (by kernel_rfl)))) (by rw [hD]; rfl) (by rw [hsz]; decide)), hb, rx, ry, (by rw [getD_set _ _ _ (by decide)]; exact r9), r11⟩)
              · clear hb rx ry r9 r11 
                intro listed ac W hI hr
                obtain ⟨hl, hF, hb, rx, ry, r9, r11⟩ := hI
                have hall := all_listed (by kernel_rfl) hl hr
                rw [if_pos (hall 12 (by decide))] at r9
                have h89 : ac.eval (.tmp 89) = .slice (some ⟨NX, 0, none⟩) 2 2 := hF.done 0 (89, SP.is (.slice (some ⟨NX, 0, none⟩) 2 2)) (by rw [hD]; rfl) (hall 0 (by decide))
                have h90 : ac.eval (.tmp 90) = .int .i64 (t : Int) := hF.done 1 (90, SP.is (.int .i64 (t : Int))) (by rw [hD]; rfl) (hall 1 (by decide))
                have h91 : ac.eval (.tmp 91) = .pointer (some ⟨NX, t * 4, none⟩) := hF.done 2 (91, SP.is (.pointer (some ⟨NX, t * 4, none⟩))) (by rw [hD]; rfl) (hall 2 (by decide))
                have h92 : ac.eval (.tmp 92) = .agg cu.toArray := hF.done 3 (92, SP.is (.agg cu.toArray)) (by rw [hD]; rfl) (hall 3 (by decide))
                have h93 : ac.eval (.tmp 93) = .slice (some ⟨NY, 0, none⟩) 2 2 := hF.done 4 (93, SP.is (.slice (some ⟨NY, 0, none⟩) 2 2)) (by rw [hD]; rfl) (hall 4 (by decide))
                have h94 : ac.eval (.tmp 94) = .int .i64 (t : Int) := hF.done 5 (94, SP.is (.int .i64 (t : Int))) (by rw [hD]; rfl) (hall 5 (by decide))
                have h95 : ac.eval (.tmp 95) = .pointer (some ⟨NY, t * 4, none⟩) := hF.done 6 (95, SP.is (.pointer (some ⟨NY, t * 4, none⟩))) (by rw [hD]; rfl) (hall 6 (by decide))
                have h96 : ac.eval (.tmp 96) = .agg cv.toArray := hF.done 7 (96, SP.is (.agg cv.toArray)) (by rw [hD]; rfl) (hall 7 (by decide))
                have h97 : ac.eval (.tmp 97) = .tuple #[.agg c3.toArray, .int .i64 E3] := hF.done 8 (97, SP.is (.tuple #[.agg c3.toArray, .int .i64 E3])) (by rw [hD]; rfl) (hall 8 (by decide))
                have h88 : ac.eval (.tmp 88) = .tuple #[.agg c3.toArray, .int .i64 E3] := hF.done 9 (88, SP.is (.tuple #[.agg c3.toArray, .int .i64 E3])) (by rw [hD]; rfl) (hall 9 (by decide))
                have h98 : ac.eval (.tmp 98) = .agg c3.toArray := hF.done 10 (98, SP.is (.agg c3.toArray)) (by rw [hD]; rfl) (hall 10 (by decide))
                have h99 : ac.eval (.tmp 99) = .int .i64 E3 := hF.done 11 (99, SP.is (.int .i64 E3)) (by rw [hD]; rfl) (hall 11 (by decide))
                have h10 : ac.eval (.tmp 10) = .int .i64 E3 := hF.done 13 (10, SP.is (.int .i64 E3)) (by rw [hD]; rfl) (hall 13 (by decide))
                have ea := hF.lay [(89, .slice (some ⟨NX, 0, none⟩) 2 2), (90, .int .i64 (t : Int)), (91, .pointer (some ⟨NX, t * 4, none⟩)), (92, .agg cu.toArray), (93, .slice (some ⟨NY, 0, none⟩) 2 2), (94, .int .i64 (t : Int)), (95, .pointer (some ⟨NY, t * 4, none⟩)), (96, .agg cv.toArray), (97, .tuple #[.agg c3.toArray, .int .i64 E3]), (88, .tuple #[.agg c3.toArray, .int .i64 E3]), (98, .agg c3.toArray), (99, .int .i64 E3), (10, .int .i64 E3)] (by rw [hD, hsz]; rfl) (by simp only [List.forall_mem_cons, List.not_mem_nil, false_implies, implies_true, and_true]; exact ⟨h89, h90, h91, h92, h93, h94, h95, h96, h97, h88, h98, h99, h10⟩)
                rw [ha0] at ea
                simp only [List.foldl_cons, List.foldl_nil, List.setIfInBounds_toArray, List.set_cons_zero, List.set_cons_succ] at ea
                clear hF hall hr hl hD  s6 s7 s8 s9 ha0 hsz h89 h90 h91 h92 h93 h94 h95 h96 h97 h88 h98 h99 h10
                subst ea
                go_wp2_with fail
                refine wp_named fun a0 ha0 => ?_
                have hsz : a0.tmps.size = 121 := by rw [ha0]; rfl
                have s6 : a0.eval (.tmp 6) = .slice (some ⟨NX, 0, none⟩) 2 2 := by rw [ha0]; rfl
                have s7 : a0.eval (.tmp 7) = .slice (some ⟨NY, 0, none⟩) 2 2 := by rw [ha0]; rfl
                have s8 : a0.eval (.tmp 8) = .int .i64 (t : Int) := by rw [ha0]; rfl
                have s11 : a0.eval (.tmp 11) = .pointer (some ⟨N11, 0, none⟩) := by rw [ha0]; rfl
                obtain ⟨D, hD⟩ : ∃ D : List (Tmp × SP), D = [(101, SP.is (.slice (some ⟨NX, 0, none⟩) 2 2)), (102, SP.is (.int .i64 (t : Int))), (103, SP.is (.pointer (some ⟨NX, t * 4, none⟩))), (104, SP.is (.agg cu.toArray)), (105, SP.is (.slice (some ⟨NY, 0, none⟩) 2 2)), (106, SP.is (.int .i64 (t : Int))), (107, SP.is (.pointer (some ⟨NY, t * 4, none⟩))), (108, SP.is (.agg cv.toArray)), (109, SP.is (.tuple #[.agg c3.toArray, .int .i64 E3])), (100, SP.is (.tuple #[.agg c3.toArray, .int .i64 E3])), (110, SP.is (.agg c3.toArray)), (111, SP.is (.int .i64 E3)), (1000, SP.any), (12, SP.is (.int .i64 E3))] := ⟨_, rfl⟩
                refine wp_region_inv (by kernel_rfl) (fun listed ac W => listed.size = 14 ∧ Fp D a0 listed ac W ∧ Below w.heap.size w W ∧ Row W NX cx 24 ∧ Row W NY cy 24 ∧ Row W N9 c3 24 ∧ Row W N11 (if listed.getD 12 false = true then c3 else c2) 24) ?_ ?_ ?_
                · exact ⟨by simp, Fp.start D a0 _ _, Below.drew hb, Row.drew rx, Row.drew ry, Row.drew r9, (by rw [if_neg (fun h => start_no h)]; exact Row.drew r11)⟩
                · clear ha0 hb rx ry r9 r11 
                  intro listed ac W k hI hk
                  obtain ⟨hl, hF, hb, rx, ry, r9, r11⟩ := hI
                  have hk1 : k < 14 := List.mem_range.1 (List.mem_filter.1 hk).1
                  have hl2 : ∀ j, (listed.setIfInBounds j true).size = 14 := fun j => by rw [Array.size_setIfInBounds]; exact hl
                  rcases (show k = 0 ∨ k = 1 ∨ k = 2 ∨ k = 3 ∨ k = 4 ∨ k = 5 ∨ k = 6 ∨ k = 7 ∨ k = 8 ∨ k = 9 ∨ k = 10 ∨ k = 11 ∨ k = 12 ∨ k = 13 by omega) with rfl | rfl | rfl | rfl | rfl | rfl | rfl | rfl | rfl | rfl | rfl | rfl | rfl | rfl
                  · have hk3 := hk
                    exact wpOp_plain rfl rfl (wp_move_v (ac.eval (.tmp 6)) rfl rfl ⟨hl2 0, (hF.put 0 101 (SP.is (.slice (some ⟨NX, 0, none⟩) 2 2)) (ac.eval (.tmp 6)) (by rw [hD]; rfl) (((hF.keep 6 (by rw [hD]; rfl)).trans s6)) (by rw [hD]; rfl) (by rw [hsz]; decide)), hb, rx, ry, r9, (by rw [getD_set _ _ _ (by decide)]; exact r11)⟩)
                  · have hk3 := hk
                    exact wpOp_plain rfl rfl (wp_move_v (ac.eval (.tmp 8)) rfl rfl ⟨hl2 1, (hF.put 1 102 (SP.is (.int .i64 (t : Int))) (ac.eval (.tmp 8)) (by rw [hD]; rfl) (((hF.keep 8 (by rw [hD]; rfl)).trans s8)) (by rw [hD]; rfl) (by rw [hsz]; decide)), hb, rx, ry, r9, (by rw [getD_set _ _ _ (by decide)]; exact r11)⟩)
                  · have hk3 := hk
                    have e1 := (hF.done 0 (101, SP.is (.slice (some ⟨NX, 0, none⟩) 2 2)) (by rw [hD]; rfl) (ready_dep hk 0 (by kernel_rfl)))
                    have e2 := (hF.done 1 (102, SP.is (.int .i64 (t : Int))) (by rw [hD]; rfl) (ready_dep hk 1 (by kernel_rfl)))
                    exact wpOp_plain rfl rfl (wp_index_w rfl NX 2 2 t e1 e2 hlt ⟨hl2 2, (hF.put 2 103 (SP.is (.pointer (some ⟨NX, t * 4, none⟩))) (.pointer (some ⟨NX, t * 4, none⟩)) (by rw [hD]; rfl) rfl (by rw [hD]; rfl) (by rw [hsz]; decide)), hb, rx, ry, r9, (by rw [getD_set _ _ _ (by decide)]; exact r11)⟩)
                  · have hk3 := hk
                    exact wpOp_plain rfl rfl (wp_load_mid 24 (.tmp 103) rfl NX (t * 4) (hF.done 2 (103, SP.is (.pointer (some ⟨NX, t * 4, none⟩))) (by rw [hD]; rfl) (ready_dep hk 2 (by kernel_rfl))) cu _ (HX.out W rx) Tryd.underlying24 rfl Hu.info ⟨hl2 3, (hF.put 3 104 (SP.is (.agg cu.toArray)) (.agg cu.toArray) (by rw [hD]; rfl) rfl (by rw [hD]; rfl) (by rw [hsz]; decide)), hb, rx, ry, r9, (by rw [getD_set _ _ _ (by decide)]; exact r11)⟩)
                  · have hk3 := hk
                    exact wpOp_plain rfl rfl (wp_move_v (ac.eval (.tmp 7)) rfl rfl ⟨hl2 4, (hF.put 4 105 (SP.is (.slice (some ⟨NY, 0, none⟩) 2 2)) (ac.eval (.tmp 7)) (by rw [hD]; rfl) (((hF.keep 7 (by rw [hD]; rfl)).trans s7)) (by rw [hD]; rfl) (by rw [hsz]; decide)), hb, rx, ry, r9, (by rw [getD_set _ _ _ (by decide)]; exact r11)⟩)
                  · have hk3 := hk
                    exact wpOp_plain rfl rfl (wp_move_v (ac.eval (.tmp 8)) rfl rfl ⟨hl2 5, (hF.put 5 106 (SP.is (.int .i64 (t : Int))) (ac.eval (.tmp 8)) (by rw [hD]; rfl) (((hF.keep 8 (by rw [hD]; rfl)).trans s8)) (by rw [hD]; rfl) (by rw [hsz]; decide)), hb, rx, ry, r9, (by rw [getD_set _ _ _ (by decide)]; exact r11)⟩)
                  · have hk3 := hk
                    have e1 := (hF.done 4 (105, SP.is (.slice (some ⟨NY, 0, none⟩) 2 2)) (by rw [hD]; rfl) (ready_dep hk 4 (by kernel_rfl)))
                    have e2 := (hF.done 5 (106, SP.is (.int .i64 (t : Int))) (by rw [hD]; rfl) (ready_dep hk 5 (by kernel_rfl)))
                    exact wpOp_plain rfl rfl (wp_index_w rfl NY 2 2 t e1 e2 hlt ⟨hl2 6, (hF.put 6 107 (SP.is (.pointer (some ⟨NY, t * 4, none⟩))) (.pointer (some ⟨NY, t * 4, none⟩)) (by rw [hD]; rfl) rfl (by rw [hD]; rfl) (by rw [hsz]; decide)), hb, rx, ry, r9, (by rw [getD_set _ _ _ (by decide)]; exact r11)⟩)
                  · have hk3 := hk
                    exact wpOp_plain rfl rfl (wp_load_mid 24 (.tmp 107) rfl NY (t * 4) (hF.done 6 (107, SP.is (.pointer (some ⟨NY, t * 4, none⟩))) (by rw [hD]; rfl) (ready_dep hk 6 (by kernel_rfl))) cv _ (HY.out W ry) Tryd.underlying24 rfl Hv.info ⟨hl2 7, (hF.put 7 108 (SP.is (.agg cv.toArray)) (.agg cv.toArray) (by rw [hD]; rfl) rfl (by rw [hD]; rfl) (by rw [hsz]; decide)), hb, rx, ry, r9, (by rw [getD_set _ _ _ (by decide)]; exact r11)⟩)
                  · have hk3 := hk
                    have e1 := (hF.done 3 (104, SP.is (.agg cu.toArray)) (by rw [hD]; rfl) (ready_dep hk 3 (by kernel_rfl)))
                    have e2 := (hF.done 7 (108, SP.is (.agg cv.toArray)) (by rw [hD]; rfl) (ready_dep hk 7 (by kernel_rfl)))
                    refine wpOp_plain rfl rfl (wp_fcall_v 15 #[.agg cu.toArray, .agg cv.toArray] rfl rfl (by show [ac.eval (.tmp 104), ac.eval (.tmp 108)] = _; simp only [show ac.eval (.tmp 104) = _ from e1, show ac.eval (.tmp 108) = _ from e2]) (by go_simp) ((HRMU.out W).mono ?_))
                    rintro e W2 ⟨rfl, hB⟩
                    exact ⟨_, rfl, hl2 8, ((hF.world hB).put 8 109 (SP.is (.tuple #[.agg c3.toArray, .int .i64 E3])) (.tuple #[.agg c3.toArray, .int .i64 E3]) (by rw [hD]; rfl) rfl (by rw [hD]; rfl) (by rw [hsz]; decide)), hb.trans (hB.mono hb.size), Row.below rx hB (Row.lt rx), Row.below ry hB (Row.lt ry), Row.below r9 hB (Row.lt r9), (by rw [getD_set _ _ _ (by decide)]; exact Row.below r11 hB (Row.lt r11))⟩
                  · have hk3 := hk
                    exact wpOp_plain rfl rfl (wp_move_v (ac.eval (.tmp 109)) rfl rfl ⟨hl2 9, (hF.put 9 100 (SP.is (.tuple #[.agg c3.toArray, .int .i64 E3])) (ac.eval (.tmp 109)) (by rw [hD]; rfl) ((hF.done 8 (109, SP.is (.tuple #[.agg c3.toArray, .int .i64 E3])) (by rw [hD]; rfl) (ready_dep hk 8 (by kernel_rfl)))) (by rw [hD]; rfl) (by rw [hsz]; decide)), hb, rx, ry, r9, (by rw [getD_set _ _ _ (by decide)]; exact r11)⟩)
                  · have hk3 := hk
                    exact wpOp_plain rfl rfl (wp_extract (.tmp 100) 0 rfl _ (hF.done 9 (100, SP.is (.tuple #[.agg c3.toArray, .int .i64 E3])) (by rw [hD]; rfl) (ready_dep hk 9 (by kernel_rfl))) _ rfl ⟨hl2 10, (hF.put 10 110 (SP.is (.agg c3.toArray)) (_) (by rw [hD]; rfl) rfl (by rw [hD]; rfl) (by rw [hsz]; decide)), hb, rx, ry, r9, (by rw [getD_set _ _ _ (by decide)]; exact r11)⟩)
                  · have hk3 := hk
                    exact wpOp_plain rfl rfl (wp_extract (.tmp 100) 1 rfl _ (hF.done 9 (100, SP.is (.tuple #[.agg c3.toArray, .int .i64 E3])) (by rw [hD]; rfl) (ready_dep hk 9 (by kernel_rfl))) _ rfl ⟨hl2 11, (hF.put 11 111 (SP.is (.int .i64 E3)) (_) (by rw [hD]; rfl) rfl (by rw [hD]; rfl) (by rw [hsz]; decide)), hb, rx, ry, r9, (by rw [getD_set _ _ _ (by decide)]; exact r11)⟩)
                  · have hk3 := hk
                    have hno : ¬ listed.getD 12 false = true := not_yet hk
                    rw [if_neg hno] at r11
                    have T := r11.there 0 c3.toArray.size (by rw [List.size_toArray, H3.len, H2.len]; decide)
                    have fin := r11.over (vs := c3) (H3.len.trans H2.len.symm)
                    have hT : Fp D a0 listed ac (W.setCells N11 0 c3) := hF.turn (by rw [hD]; simp only [List.forall_mem_cons, List.not_mem_nil, false_implies, implies_true, and_true]; exact ⟨fun _ h => h, fun _ h => h, fun _ h => h, fun _ h => h, fun _ h => h, fun _ h => h, fun _ h => h, fun _ h => h, fun _ h => h, fun _ h => h, fun _ h => h, fun _ h => h, fun _ h => h, fun _ h => h⟩)
                    exact wpOp_plain rfl rfl (wp_store_mid 24 (.tmp 11) (.tmp 110) rfl N11 0 c3.toArray ((hF.keep 11 (by rw [hD]; rfl)).trans s11) (hF.done 10 (110, SP.is (.agg c3.toArray)) (by rw [hD]; rfl) (ready_dep hk 10 (by kernel_rfl))) T H3.info' H3.one ⟨hl2 12, (hT.skip 12 1000 (by rw [hD]; rfl)), below_setCells hb (by omega) _, Row.setCells_other rx _ _ _ (by omega), Row.setCells_other ry _ _ _ (by omega), Row.setCells_other r9 _ _ _ (by omega), (by rw [if_pos (getD_same (by rw [hl]; decide))]; exact fin)⟩)
                  · have hk3 := hk
                    exact wpOp_plain rfl rfl (wp_assign_v (ac.eval (.tmp 111)) rfl rfl ⟨hl2 13, (hF.put 13 12 (SP.is (.int .i64 E3)) (ac.eval (.tmp 111)) (by rw [hD]; rfl) ((hF.done 11 (111, SP.is (.int .i64 E3)) (by rw [hD]; rfl) (ready_dep hk 11 (by kernel_rfl)))) (by rw [hD]; rfl) (by rw [hsz]; decide)), hb, rx, ry, r9, (by rw [getD_set _ _ _ (by decide)]; exact r11)⟩)
                · clear hb rx ry r9 r11 
                  intro listed ac W hI hr
                  obtain ⟨hl, hF, hb, rx, ry, r9, r11⟩ := hI
                  have hall := all_listed (by kernel_rfl) hl hr
                  rw [if_pos (hall 12 (by decide))] at r11
                  have h101 : ac.eval (.tmp 101) = .slice (some ⟨NX, 0, none⟩) 2 2 := hF.done 0 (101, SP.is (.slice (some ⟨NX, 0, none⟩) 2 2)) (by rw [hD]; rfl) (hall 0 (by decide))
                  have h102 : ac.eval (.tmp 102) = .int .i64 (t : Int) := hF.done 1 (102, SP.is (.int .i64 (t : Int))) (by rw [hD]; rfl) (hall 1 (by decide))
                  have h103 : ac.eval (.tmp 103) = .pointer (some ⟨NX, t * 4, none⟩) := hF.done 2 (103, SP.is (.pointer (some ⟨NX, t * 4, none⟩))) (by rw [hD]; rfl) (hall 2 (by decide))
                  have h104 : ac.eval (.tmp 104) = .agg cu.toArray := hF.done 3 (104, SP.is (.agg cu.toArray)) (by rw [hD]; rfl) (hall 3 (by decide))
                  have h105 : ac.eval (.tmp 105) = .slice (some ⟨NY, 0, none⟩) 2 2 := hF.done 4 (105, SP.is (.slice (some ⟨NY, 0, none⟩) 2 2)) (by rw [hD]; rfl) (hall 4 (by decide))
                  have h106 : ac.eval (.tmp 106) = .int .i64 (t : Int) := hF.done 5 (106, SP.is (.int .i64 (t : Int))) (by rw [hD]; rfl) (hall 5 (by decide))
                  have h107 : ac.eval (.tmp 107) = .pointer (some ⟨NY, t * 4, none⟩) := hF.done 6 (107, SP.is (.pointer (some ⟨NY, t * 4, none⟩))) (by rw [hD]; rfl) (hall 6 (by decide))
                  have h108 : ac.eval (.tmp 108) = .agg cv.toArray := hF.done 7 (108, SP.is (.agg cv.toArray)) (by rw [hD]; rfl) (hall 7 (by decide))
                  have h109 : ac.eval (.tmp 109) = .tuple #[.agg c3.toArray, .int .i64 E3] := hF.done 8 (109, SP.is (.tuple #[.agg c3.toArray, .int .i64 E3])) (by rw [hD]; rfl) (hall 8 (by decide))
                  have h100 : ac.eval (.tmp 100) = .tuple #[.agg c3.toArray, .int .i64 E3] := hF.done 9 (100, SP.is (.tuple #[.agg c3.toArray, .int .i64 E3])) (by rw [hD]; rfl) (hall 9 (by decide))
                  have h110 : ac.eval (.tmp 110) = .agg c3.toArray := hF.done 10 (110, SP.is (.agg c3.toArray)) (by rw [hD]; rfl) (hall 10 (by decide))
                  have h111 : ac.eval (.tmp 111) = .int .i64 E3 := hF.done 11 (111, SP.is (.int .i64 E3)) (by rw [hD]; rfl) (hall 11 (by decide))
                  have h12 : ac.eval (.tmp 12) = .int .i64 E3 := hF.done 13 (12, SP.is (.int .i64 E3)) (by rw [hD]; rfl) (hall 13 (by decide))
                  have ea := hF.lay [(101, .slice (some ⟨NX, 0, none⟩) 2 2), (102, .int .i64 (t : Int)), (103, .pointer (some ⟨NX, t * 4, none⟩)), (104, .agg cu.toArray), (105, .slice (some ⟨NY, 0, none⟩) 2 2), (106, .int .i64 (t : Int)), (107, .pointer (some ⟨NY, t * 4, none⟩)), (108, .agg cv.toArray), (109, .tuple #[.agg c3.toArray, .int .i64 E3]), (100, .tuple #[.agg c3.toArray, .int .i64 E3]), (110, .agg c3.toArray), (111, .int .i64 E3), (12, .int .i64 E3)] (by rw [hD, hsz]; rfl) (by simp only [List.forall_mem_cons, List.not_mem_nil, false_implies, implies_true, and_true]; exact ⟨h101, h102, h103, h104, h105, h106, h107, h108, h109, h100, h110, h111, h12⟩)
                  rw [ha0] at ea
                  simp only [List.foldl_cons, List.foldl_nil, List.setIfInBounds_toArray, List.set_cons_zero, List.set_cons_succ] at ea
                  clear hF hall hr hl hD  s6 s7 s8 s11 ha0 hsz h101 h102 h103 h104 h105 h106 h107 h108 h109 h100 h110 h111 h12
                  subst ea
                  go_wp2_with (first
                    | (refine wpList_load_w rfl 24 (.tmp 9) rfl N9 0 rfl c3 _ r9.all Tryd.underlying24 rfl H3.info ?_; simp only [Act.put, List.setIfInBounds_toArray, List.set_cons_zero, List.set_cons_succ])
                    | (refine wpList_load_w rfl 24 (.tmp 11) rfl N11 0 rfl c3 _ r11.all Tryd.underlying24 rfl H3.info ?_; simp only [Act.put, List.setIfInBounds_toArray, List.set_cons_zero, List.set_cons_succ])
                    | (refine wpList_neq_c (B := false) rfl (.tmp 112) (.tmp 113) 24 rfl H3 H3 HL3.out HL3.out rfl rfl (by simp) ?_; simp only [Act.put, List.setIfInBounds_toArray, List.set_cons_zero, List.set_cons_succ]))
                  exact ⟨⟨t + 1, hlt, by go_num, hb, rx, ry⟩, by simp [intOf]; omega⟩
    · have e4 : (t : Int) = 2 := by omega
      rw [e4]
      clear e4 hlt ht
      go_wp2
      go_ret
      exact ⟨rfl, hb⟩

end Go.Proofs.YtehccmlbnfhhmaaDoor
