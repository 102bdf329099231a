/-
  The law TreeBelow.
-/
import Derived.Test.YtnogjhbohljjnabDoorTBl0
namespace Go.Proofs.YtnogjhbohljjnabDoor
open Go Go.RowKit
open Sha

set_option maxRecDepth 100000 in
set_option maxHeartbeats 8000000 in
theorem below_walk (a b c : List (BitVec 8)) (ha : a.length < 1152921504606846975) (hb' : b.length < 1152921504606846975) (hc : c.length < 1152921504606846975) (A0 A1 A2 : Option Addr) (n0 n1 n2 c0 c1 c2 : Nat) (w : World) (hK : Tab w 3)
    (f0 : SlAt w (.slice A0 n0 c0) a) (f1 : SlAt w (.slice A1 n1 c1) b) (f2 : SlAt w (.slice A2 n2 c2) c) :
    Calls Tryd.prog 6 #[.slice A0 n0 c0, .slice A1 n1 c1, .slice A2 n2 c2] w fun e w' => e = .returned (.bool true) ∧ Below w.heap.size w w' := by
  obtain ⟨x, ex⟩ : ∃ x, x = dig ([0#8] ++ a) := ⟨_, rfl⟩
  obtain ⟨y, ey⟩ : ∃ y, y = dig ([0#8] ++ b) := ⟨_, rfl⟩
  obtain ⟨z, ez⟩ : ∃ z, z = dig ([0#8] ++ c) := ⟨_, rfl⟩
  obtain ⟨p, ep⟩ : ∃ p, p = dig ([1#8] ++ (x ++ y)) := ⟨_, rfl⟩
  obtain ⟨t, et⟩ : ∃ t, t = dig ([1#8] ++ (p ++ z)) := ⟨_, rfl⟩
  obtain ⟨o, eo⟩ : ∃ o, o = dig [] := ⟨_, rfl⟩
  have Hx : Dl x := by rw [ex]; exact dl_dig _
  have Hy : Dl y := by rw [ey]; exact dl_dig _
  have Hz : Dl z := by rw [ez]; exact dl_dig _
  have Hp : Dl p := by rw [ep]; exact dl_dig _
  have Ht : Dl t := by rw [et]; exact dl_dig _
  have Ho : Dl o := by rw [eo]; exact dl_dig _
  have E1 : Hid (z = rt [c]) := by show _ = _; rw [rt_1, ez]
  have E2 : Hid (p = rt [a, b]) := by show _ = _; rw [rt_2, ep, ex, ey]
  have E3 : Hid (t = rt [a, b, c]) := by show _ = _; rw [rt_3, et, ep, ex, ey, ez]
  have EX : Hid (x = _) := ex
  have EY : Hid (y = _) := ey
  have EZ : Hid (z = _) := ez
  have EP : Hid (p = _) := ep
  have ET : Hid (t = _) := et
  have EO : Hid (o = _) := eo
  have HA : Hid (a.length < 1152921504606846975) := ha
  have HB : Hid (b.length < 1152921504606846975) := hb'
  have HC : Hid (c.length < 1152921504606846975) := hc
  have HXY : Hid (([1#8] : List (BitVec 8)).length + (x.length + y.length) < 1152921504606846976) := by show _ < _; rw [show x.length = 32 from Hx, show y.length = 32 from Hy]; decide
  have HPZ : Hid (([1#8] : List (BitVec 8)).length + (p.length + z.length) < 1152921504606846976) := by show _ < _; rw [show p.length = 32 from Hp, show z.length = 32 from Hz]; decide
  clear ex ey ez ep et eo ha hb' hc
  have hb : Below w.heap.size w w := Below.refl _ _
  have fK := hK
  have FK : Hid (Tab w 3) := hK
  have F0 : Hid (∀ W, Below w.heap.size w W → SlAt W (.slice A0 n0 c0) a) := fun W hB => f0.be hB
  have F1 : Hid (∀ W, Below w.heap.size w W → SlAt W (.slice A1 n1 c1) b) := fun W hB => f1.be hB
  have F2 : Hid (∀ W, Below w.heap.size w W → SlAt W (.slice A2 n2 c2) c) := fun W hB => f2.be hB
  clear hK
  go_enter Tryd.func6, Tryd.ntmps6
  go_wp2_with fail
  refine (awake_any w fK).mono ?_
  rintro e V0 ⟨rfl, hB⟩
  replace hb := hb.trans (hB.mono hb.size)
  replace fK := fK.be hB
  replace f0 := f0.be hB
  replace f1 := f1.be hB
  replace f2 := f2.be hB
  clear hB
  go_wp2_with fail
  refine (parts2_w a x EX.out HA.out A0 n0 c0 V0 fK f0).mono ?_
  rintro e V1 ⟨rfl, hB⟩
  replace hb := hb.trans (hB.mono hb.size)
  replace fK := fK.be hB
  replace f0 := f0.be hB
  replace f1 := f1.be hB
  replace f2 := f2.be hB
  clear hB
  have o_r8 : w.heap.size ≤ V1.heap.size := hb.size
  have n0 : Row (V1.alloc (Obj.cells z32.toArray 28)) V1.heap.size z32 28 := Row.new' rfl rfl
  have T0 := Hx.there n0 rfl
  replace n0 := n0.over (vs := vB x) (Hx.over rfl)
  have hB : Below V1.heap.size V1 ((V1.alloc (Obj.cells z32.toArray 28)).setCells V1.heap.size 0 (vB x)) := below_setCells ((Below.refl _ _).alloc (Nat.le_refl _) (Obj.cells z32.toArray 28)) (b := V1.heap.size) (o := 0) (Nat.le_refl _) (vB x)
  replace hb := hb.trans (hB.mono hb.size)
  replace fK := fK.be hB
  replace f0 := f0.be hB
  replace f1 := f1.be hB
  replace f2 := f2.be hB
  clear hB
  have r8 := n0
  clear n0
  go_wp2_with (refine wpList_store_mid rfl 28 (.tmp 8) (.tmp 24) rfl V1.heap.size 0 (vB x).toArray rfl rfl T0 Hx.info' Hx.one ?_; simp only [Act.put]; clear T0; (change wpList _ _ _ _ _ ((V1.alloc (Obj.cells z32.toArray 28)).setCells V1.heap.size 0 (vB x))); (generalize ((V1.alloc (Obj.cells z32.toArray 28)).setCells V1.heap.size 0 (vB x)) = X2 at *); (generalize hN : V1.heap.size = N8 at *; clear hN))
  refine (parts2_w b y EY.out HB.out A1 n1 c1 X2 fK f1).mono ?_
  rintro e V3 ⟨rfl, hB⟩
  replace hb := hb.trans (hB.mono hb.size)
  replace r8 := Row.below r8 hB (Row.lt r8)
  replace fK := fK.be hB
  replace f0 := f0.be hB
  replace f1 := f1.be hB
  replace f2 := f2.be hB
  clear hB
  have o_r9 : N8 < V3.heap.size := Row.lt r8
  have n0 : Row (V3.alloc (Obj.cells z32.toArray 28)) V3.heap.size z32 28 := Row.new' rfl rfl
  have T0 := Hy.there n0 rfl
  replace n0 := n0.over (vs := vB y) (Hy.over rfl)
  have hB : Below V3.heap.size V3 ((V3.alloc (Obj.cells z32.toArray 28)).setCells V3.heap.size 0 (vB y)) := below_setCells ((Below.refl _ _).alloc (Nat.le_refl _) (Obj.cells z32.toArray 28)) (b := V3.heap.size) (o := 0) (Nat.le_refl _) (vB y)
  replace hb := hb.trans (hB.mono hb.size)
  replace r8 := Row.below r8 hB (Row.lt r8)
  replace fK := fK.be hB
  replace f0 := f0.be hB
  replace f1 := f1.be hB
  replace f2 := f2.be hB
  clear hB
  have r9 := n0
  clear n0
  go_wp2_with (refine wpList_store_mid rfl 28 (.tmp 9) (.tmp 28) rfl V3.heap.size 0 (vB y).toArray rfl rfl T0 Hy.info' Hy.one ?_; simp only [Act.put]; clear T0; (change wpList _ _ _ _ _ ((V3.alloc (Obj.cells z32.toArray 28)).setCells V3.heap.size 0 (vB y))); (generalize ((V3.alloc (Obj.cells z32.toArray 28)).setCells V3.heap.size 0 (vB y)) = X4 at *); (generalize hN : V3.heap.size = N9 at *; clear hN))
  refine (parts2_w c z EZ.out HC.out A2 n2 c2 X4 fK f2).mono ?_
  rintro e V5 ⟨rfl, hB⟩
  replace hb := hb.trans (hB.mono hb.size)
  replace r8 := Row.below r8 hB (Row.lt r8)
  replace r9 := Row.below r9 hB (Row.lt r9)
  replace fK := fK.be hB
  replace f0 := f0.be hB
  replace f1 := f1.be hB
  replace f2 := f2.be hB
  clear hB
  have o_r10 : N9 < V5.heap.size := Row.lt r9
  have n0 : Row (V5.alloc (Obj.cells z32.toArray 28)) V5.heap.size z32 28 := Row.new' rfl rfl
  have T0 := Hz.there n0 rfl
  replace n0 := n0.over (vs := vB z) (Hz.over rfl)
  have hB : Below V5.heap.size V5 ((V5.alloc (Obj.cells z32.toArray 28)).setCells V5.heap.size 0 (vB z)) := below_setCells ((Below.refl _ _).alloc (Nat.le_refl _) (Obj.cells z32.toArray 28)) (b := V5.heap.size) (o := 0) (Nat.le_refl _) (vB z)
  replace hb := hb.trans (hB.mono hb.size)
  replace r8 := Row.below r8 hB (Row.lt r8)
  replace r9 := Row.below r9 hB (Row.lt r9)
  replace fK := fK.be hB
  replace f0 := f0.be hB
  replace f1 := f1.be hB
  replace f2 := f2.be hB
  clear hB
  have r10 := n0
  clear n0
  go_wp2_with (refine wpList_store_mid rfl 28 (.tmp 10) (.tmp 32) rfl V5.heap.size 0 (vB z).toArray rfl rfl T0 Hz.info' Hz.one ?_; simp only [Act.put]; clear T0; (change wpList _ _ _ _ _ ((V5.alloc (Obj.cells z32.toArray 28)).setCells V5.heap.size 0 (vB z))); (generalize ((V5.alloc (Obj.cells z32.toArray 28)).setCells V5.heap.size 0 (vB z)) = X6 at *); (generalize hN : V5.heap.size = N10 at *; clear hN))
  have HKL : Hid (∀ W, Below w.heap.size w W → Tab W 3) := fun W hB => FK.out.below hB FK.out.lt
  clear fK f0 f1 f2
  have q8 := r8
  have q9 := r9
  have q10 := r10
  clear r8 r9 r10
  refine wp_named fun a0 ha0 => ?_
  have hsz : a0.tmps.size = 93 := by rw [ha0]; rfl
  have s8 : a0.eval (.tmp 8) = .pointer (some ⟨N8, 0, none⟩) := by rw [ha0]; rfl
  have s9 : a0.eval (.tmp 9) = .pointer (some ⟨N9, 0, none⟩) := by rw [ha0]; rfl
  obtain ⟨D, hD⟩ : ∃ D : List (Tmp × SP), D = [(33, SP.any), (34, SP.is (.slice (some ⟨N8, 0, none⟩) 32 32)), (35, SP.is (.slice (some ⟨N9, 0, none⟩) 32 32)), (36, SP.any), (37, SP.is (.agg (vB p).toArray)), (11, SP.any), (1000, SP.any)] := ⟨_, rfl⟩
  refine wp_region_down (by kernel_rfl) (fun listed ac W => ∃ (M11 : Nat), listed.size = 7 ∧ Fp D a0 listed ac W ∧ Below w.heap.size w W ∧ Row W N8 ((vB x)) 28 ∧ Row W N9 ((vB y)) 28 ∧ Row W N10 ((vB z)) 28 ∧ (listed.getD 5 false = true → ac.eval (.tmp 11) = .pointer (some ⟨M11, 0, none⟩) ∧ N10 < M11 ∧ Row W M11 (if listed.getD 6 false = true then (vB p) else z32) 28) ∧ (listed.getD 6 false = true → listed.getD 5 false = true) ∧ (listed.getD 0 false = true → ¬ listed.getD 3 false = true → (SP.new 1 1 (vB [1#8]) 5).P W (ac.eval (.tmp 33))) ∧ (listed.getD 3 false = true → ¬ listed.getD 4 false = true → (SP.n3 [1#8] (.slice (some ⟨N8, 0, none⟩) 32 32) (.slice (some ⟨N9, 0, none⟩) 32 32)).P W (ac.eval (.tmp 36)))) ?_ ?_ ?_
  · exact ⟨0, by simp, Fp.start D a0 _ _, Below.drew hb, Row.drew q8, Row.drew q9, Row.drew q10, (fun h => (start_no h).elim), (fun h => (start_no h).elim), (fun h _ => (start_no h).elim), (fun h _ => (start_no h).elim)⟩
  · clear ha0 hb q8 q9 q10 
    intro listed ac W k hI hdn hk
    obtain ⟨M11, hl, hF, hb, q8, q9, q10, al5, as5, ti0, ti3⟩ := hI
    have hk1 : k < 7 := List.mem_range.1 (List.mem_filter.1 hk).1
    have hl2 : ∀ j, (listed.setIfInBounds j true).size = 7 := fun j => by rw [Array.size_setIfInBounds]; exact hl
    rcases (show k = 0 ∨ k = 1 ∨ k = 2 ∨ k = 3 ∨ k = 4 ∨ k = 5 ∨ k = 6 by omega) with rfl | rfl | rfl | rfl | rfl | rfl | rfl
    · have hk3 := hk
      have hB : Below W.heap.size W (W.alloc (Obj.cells ((vB [1#8]) : List Value).toArray 5)) := (Below.refl _ _).alloc (Nat.le_refl _) _
      exact wpOp_plain rfl rfl (wp_build1 38 5 1 _ (vB [1#8]) rfl Tryd.underlying38 info_u8 zero_u8 rfl (by decide) (by decide) (fun v hv => by obtain rfl := List.mem_singleton.1 hv; rfl) rfl ⟨M11, hl2 0, ((hF.world hB).put 0 33 (SP.any) (.slice (some ⟨W.heap.size, 0, none⟩) 1 1) (by rw [hD]; rfl) trivial (by rw [hD]; rfl) (by rw [hsz]; decide) (by rw [hl]; decide)), hb.alloc hb.size _, Row.alloc q8 _, Row.alloc q9 _, Row.alloc q10 _, (fun h => ⟨(eval_put_other ac _ (by decide)).trans ((al5 (by rwa [getD_set _ _ _ (by decide)] at h)).1), (al5 (by rwa [getD_set _ _ _ (by decide)] at h)).2.1, by rw [getD_set _ _ _ (by decide)]; exact Row.alloc (al5 (by rwa [getD_set _ _ _ (by decide)] at h)).2.2 _⟩), (fun h => by rw [getD_set _ _ _ (by decide)]; exact as5 (by rwa [getD_set _ _ _ (by decide)] at h)), (fun _ _ => by change (SP.new 1 1 (vB [1#8]) 5).P _ ((ac.put (some 33) _).eval (.tmp 33)); rw [eval_put_same ac _ (by rw [hF.size, hsz]; decide)]; exact ⟨W.heap.size, rfl, Row.new' rfl rfl⟩), (fun h1 h2 => by change (SP.n3 [1#8] (.slice (some ⟨N8, 0, none⟩) 32 32) (.slice (some ⟨N9, 0, none⟩) 32 32)).P _ ((ac.put (some 33) _).eval (.tmp 36)); rw [eval_put_other ac _ (by decide)]; exact (SP.n3 [1#8] (.slice (some ⟨N8, 0, none⟩) 32 32) (.slice (some ⟨N9, 0, none⟩) 32 32)).st _ _ _ hB (ti3 (by rwa [getD_set _ _ _ (by decide)] at h1) (by rwa [getD_set _ _ _ (by decide)] at h2)))⟩)
    · have hk3 := hk
      have e := ((hF.keep 8 (by rw [hD]; rfl)).trans s8)
      exact wpOp_plain rfl rfl (wp_slice_all 28 5 32 (.tmp 8) N8 0 rfl e Tryd.underlying28 info_u8 ⟨M11, hl2 1, (hF.put 1 34 (SP.is (.slice (some ⟨N8, 0, none⟩) 32 32)) (.slice (some ⟨N8, 0, none⟩) 32 32) (by rw [hD]; rfl) rfl (by rw [hD]; rfl) (by rw [hsz]; decide) (by rw [hl]; decide)), hb, q8, q9, q10, (fun h => ⟨(eval_put_other ac _ (by decide)).trans ((al5 (by rwa [getD_set _ _ _ (by decide)] at h)).1), (al5 (by rwa [getD_set _ _ _ (by decide)] at h)).2.1, by rw [getD_set _ _ _ (by decide)]; exact (al5 (by rwa [getD_set _ _ _ (by decide)] at h)).2.2⟩), (fun h => by rw [getD_set _ _ _ (by decide)]; exact as5 (by rwa [getD_set _ _ _ (by decide)] at h)), (fun h1 h2 => by change (SP.new 1 1 (vB [1#8]) 5).P _ ((ac.put (some 34) _).eval (.tmp 33)); rw [eval_put_other ac _ (by decide)]; exact ti0 (by rwa [getD_set _ _ _ (by decide)] at h1) (by rwa [getD_set _ _ _ (by decide)] at h2)), (fun h1 h2 => by change (SP.n3 [1#8] (.slice (some ⟨N8, 0, none⟩) 32 32) (.slice (some ⟨N9, 0, none⟩) 32 32)).P _ ((ac.put (some 34) _).eval (.tmp 36)); rw [eval_put_other ac _ (by decide)]; exact ti3 (by rwa [getD_set _ _ _ (by decide)] at h1) (by rwa [getD_set _ _ _ (by decide)] at h2))⟩)
    · have hk3 := hk
      have e := ((hF.keep 9 (by rw [hD]; rfl)).trans s9)
      exact wpOp_plain rfl rfl (wp_slice_all 28 5 32 (.tmp 9) N9 0 rfl e Tryd.underlying28 info_u8 ⟨M11, hl2 2, (hF.put 2 35 (SP.is (.slice (some ⟨N9, 0, none⟩) 32 32)) (.slice (some ⟨N9, 0, none⟩) 32 32) (by rw [hD]; rfl) rfl (by rw [hD]; rfl) (by rw [hsz]; decide) (by rw [hl]; decide)), hb, q8, q9, q10, (fun h => ⟨(eval_put_other ac _ (by decide)).trans ((al5 (by rwa [getD_set _ _ _ (by decide)] at h)).1), (al5 (by rwa [getD_set _ _ _ (by decide)] at h)).2.1, by rw [getD_set _ _ _ (by decide)]; exact (al5 (by rwa [getD_set _ _ _ (by decide)] at h)).2.2⟩), (fun h => by rw [getD_set _ _ _ (by decide)]; exact as5 (by rwa [getD_set _ _ _ (by decide)] at h)), (fun h1 h2 => by change (SP.new 1 1 (vB [1#8]) 5).P _ ((ac.put (some 35) _).eval (.tmp 33)); rw [eval_put_other ac _ (by decide)]; exact ti0 (by rwa [getD_set _ _ _ (by decide)] at h1) (by rwa [getD_set _ _ _ (by decide)] at h2)), (fun h1 h2 => by change (SP.n3 [1#8] (.slice (some ⟨N8, 0, none⟩) 32 32) (.slice (some ⟨N9, 0, none⟩) 32 32)).P _ ((ac.put (some 35) _).eval (.tmp 36)); rw [eval_put_other ac _ (by decide)]; exact ti3 (by rwa [getD_set _ _ _ (by decide)] at h1) (by rwa [getD_set _ _ _ (by decide)] at h2))⟩)
    · have hk3 := hk
      obtain ⟨Nv, ev, rv⟩ := (ti0 (ready_dep hk 0 (by kernel_rfl)) (not_yet hk))
      have e6 := (hF.done 1 (34, SP.is (.slice (some ⟨N8, 0, none⟩) 32 32)) (by rw [hD]; rfl) (ready_dep hk 1 (by kernel_rfl)))
      have e7 := (hF.done 2 (35, SP.is (.slice (some ⟨N9, 0, none⟩) 32 32)) (by rw [hD]; rfl) (ready_dep hk 2 (by kernel_rfl)))
      have hB : Below W.heap.size W (W.alloc (Obj.cells ([.slice (some ⟨Nv, 0, none⟩) 1 1, .slice (some ⟨N8, 0, none⟩) 32 32, .slice (some ⟨N9, 0, none⟩) 32 32] : List Value).toArray 38)) := (Below.refl _ _).alloc (Nat.le_refl _) _
      exact wpOp_plain rfl rfl (wp_build1 22 38 3 _ [.slice (some ⟨Nv, 0, none⟩) 1 1, .slice (some ⟨N8, 0, none⟩) 32 32, .slice (some ⟨N9, 0, none⟩) 32 32] rfl Tryd.underlying22 info_slb zero_slb rfl (by decide) (by decide) (fun v hv => by rcases List.mem_cons.1 hv with rfl | hv; rfl; rcases List.mem_cons.1 hv with rfl | hv; rfl; obtain rfl := List.mem_singleton.1 hv; rfl) (by rw [← show ac.eval (.tmp 33) = _ from ev, ← show ac.eval (.tmp 34) = _ from e6, ← show ac.eval (.tmp 35) = _ from e7]; rfl) ⟨M11, hl2 3, ((hF.world hB).put 3 36 (SP.any) (.slice (some ⟨W.heap.size, 0, none⟩) 3 3) (by rw [hD]; rfl) trivial (by rw [hD]; rfl) (by rw [hsz]; decide) (by rw [hl]; decide)), hb.alloc hb.size _, Row.alloc q8 _, Row.alloc q9 _, Row.alloc q10 _, (fun h => ⟨(eval_put_other ac _ (by decide)).trans ((al5 (by rwa [getD_set _ _ _ (by decide)] at h)).1), (al5 (by rwa [getD_set _ _ _ (by decide)] at h)).2.1, by rw [getD_set _ _ _ (by decide)]; exact Row.alloc (al5 (by rwa [getD_set _ _ _ (by decide)] at h)).2.2 _⟩), (fun h => by rw [getD_set _ _ _ (by decide)]; exact as5 (by rwa [getD_set _ _ _ (by decide)] at h)), (fun _ h => absurd (getD_same (by rw [hl]; decide)) h), (fun _ _ => by change (SP.n3 [1#8] (.slice (some ⟨N8, 0, none⟩) 32 32) (.slice (some ⟨N9, 0, none⟩) 32 32)).P _ ((ac.put (some 36) _).eval (.tmp 36)); rw [eval_put_same ac _ (by rw [hF.size, hsz]; decide)]; exact ⟨W.heap.size, _, rfl, Row.new' rfl rfl, .inr ⟨Nv, 0, 1, rfl, Nat.le_refl _, (Row.alloc rv _).all⟩⟩)⟩)
    · have hk3 := hk
      obtain ⟨N8, v0, e8, r8, b8⟩ := (ti3 (ready_dep hk 3 (by kernel_rfl)) (not_yet hk))
      refine wpOp_plain rfl rfl (wp_fcall_v 26 #[.slice (some ⟨N8, 0, none⟩) 3 3] rfl rfl (by show [ac.eval (.tmp 36)] = _; simp only [e8]) (by go_simp) ((parts_three [1#8] x y p EP.out v0 _ _ HXY.out N8 3 W (HKL.out W hb) b8 (slat_row q8 Hx) (slat_row q9 Hy) r8).mono ?_))
      rintro e W2 ⟨rfl, hB⟩
      exact ⟨_, rfl, M11, hl2 4, ((hF.world hB).put 4 37 (SP.is (.agg (vB p).toArray)) (.agg (vB p).toArray) (by rw [hD]; rfl) rfl (by rw [hD]; rfl) (by rw [hsz]; decide) (by rw [hl]; decide)), hb.trans (hB.mono hb.size), Row.below q8 hB (Row.lt q8), Row.below q9 hB (Row.lt q9), Row.below q10 hB (Row.lt q10), (fun h => ⟨(eval_put_other ac _ (by decide)).trans ((al5 (by rwa [getD_set _ _ _ (by decide)] at h)).1), (al5 (by rwa [getD_set _ _ _ (by decide)] at h)).2.1, by rw [getD_set _ _ _ (by decide)]; exact Row.below (al5 (by rwa [getD_set _ _ _ (by decide)] at h)).2.2 hB (Row.lt (al5 (by rwa [getD_set _ _ _ (by decide)] at h)).2.2)⟩), (fun h => by rw [getD_set _ _ _ (by decide)]; exact as5 (by rwa [getD_set _ _ _ (by decide)] at h)), (fun h1 h2 => by change (SP.new 1 1 (vB [1#8]) 5).P _ ((ac.put (some 37) _).eval (.tmp 33)); rw [eval_put_other ac _ (by decide)]; exact (SP.new 1 1 (vB [1#8]) 5).st _ _ _ hB (ti0 (by rwa [getD_set _ _ _ (by decide)] at h1) (by rwa [getD_set _ _ _ (by decide)] at h2))), (fun _ h => absurd (getD_same (by rw [hl]; decide)) h)⟩
    · have hk3 := hk
      have hsm : N10 < W.heap.size := Row.lt q10
      have hB : Below W.heap.size W (W.alloc (.cells z32.toArray 28)) := (Below.refl _ _).alloc (Nat.le_refl _) _
      have hns : ¬ listed.getD 6 false = true := fun h => not_yet hk (as5 h)
      exact wpOp_plain rfl rfl (wp_alloc_d rfl ⟨W.heap.size, hl2 5, ((hF.world hB).put 5 11 (SP.any) (.pointer (some ⟨W.heap.size, 0, none⟩)) (by rw [hD]; rfl) trivial (by rw [hD]; rfl) (by rw [hsz]; decide) (by rw [hl]; decide)), hb.alloc hb.size _, Row.alloc q8 _, Row.alloc q9 _, Row.alloc q10 _, (fun _ => ⟨eval_put_same ac _ (by rw [hF.size, hsz]; decide), hsm, by rw [getD_set _ _ _ (by decide), if_neg hns]; exact Row.new' rfl rfl⟩), (fun _ => getD_same (by rw [hl]; decide)), (fun h1 h2 => by change (SP.new 1 1 (vB [1#8]) 5).P _ ((ac.put (some 11) _).eval (.tmp 33)); rw [eval_put_other ac _ (by decide)]; exact (SP.new 1 1 (vB [1#8]) 5).st _ _ _ hB (ti0 (by rwa [getD_set _ _ _ (by decide)] at h1) (by rwa [getD_set _ _ _ (by decide)] at h2))), (fun h1 h2 => by change (SP.n3 [1#8] (.slice (some ⟨N8, 0, none⟩) 32 32) (.slice (some ⟨N9, 0, none⟩) 32 32)).P _ ((ac.put (some 11) _).eval (.tmp 36)); rw [eval_put_other ac _ (by decide)]; exact (SP.n3 [1#8] (.slice (some ⟨N8, 0, none⟩) 32 32) (.slice (some ⟨N9, 0, none⟩) 32 32)).st _ _ _ hB (ti3 (by rwa [getD_set _ _ _ (by decide)] at h1) (by rwa [getD_set _ _ _ (by decide)] at h2)))⟩)
    · have hk3 := hk
      have hal := ready_dep hk 5 (by kernel_rfl)
      obtain ⟨e1, m1, y2⟩ := al5 hal
      rw [if_neg (not_yet hk)] at y2
      have T := y2.there 0 (vB p).toArray.size (by rw [List.size_toArray, Hp.len]; decide)
      have fin := y2.over (vs := (vB p)) (Hp.over rfl)
      have hT : Fp D a0 listed ac (W.setCells M11 0 (vB p)) := hF.turn (by rw [hD]; simp only [List.forall_mem_cons, List.not_mem_nil, false_implies, implies_true, and_true]; exact ⟨fun _ h => h, fun _ h => h, fun _ h => h, fun _ h => h, fun _ h => h, fun _ h => h, fun _ h => h⟩)
      exact wpOp_plain rfl rfl (wp_store_mid 28 (.tmp 11) (.tmp 37) rfl M11 0 (vB p).toArray e1 (hF.done 4 (37, SP.is (.agg (vB p).toArray)) (by rw [hD]; rfl) (ready_dep hk 4 (by kernel_rfl))) T Hp.info' Hp.one ⟨M11, hl2 6, (hT.skip 6 1000 (by rw [hD]; rfl) (by rw [hl]; decide)), below_setCells hb (by omega) _, Row.setCells_other q8 _ _ _ (by omega), Row.setCells_other q9 _ _ _ (by omega), Row.setCells_other q10 _ _ _ (by omega), (fun _ => ⟨e1, m1, by rw [if_pos (getD_same (by rw [hl]; decide))]; exact fin⟩), (fun _ => by rw [getD_set _ _ _ (by decide)]; exact hal), (fun _ h2 => absurd (by rw [getD_set _ _ _ (by decide)]; exact ready_dep hk 3 (by kernel_rfl)) h2), (fun _ h2 => absurd (by rw [getD_set _ _ _ (by decide)]; exact ready_dep hk 4 (by kernel_rfl)) h2)⟩)
  · clear hb q8 q9 q10 
    intro listed ac W hI hr
    obtain ⟨M11, hl, hF, hb, q8, q9, q10, al5, as5, ti0, ti3⟩ := hI
    have hall := all_listed (by kernel_rfl) hl hr
    obtain ⟨ea11, m11, p11⟩ := al5 (hall 5 (by decide))
    rw [if_pos (hall 6 (by decide))] at p11
    obtain ⟨x33, h33⟩ : ∃ x, ac.eval (.tmp 33) = x := ⟨_, rfl⟩
    have h34 : ac.eval (.tmp 34) = .slice (some ⟨N8, 0, none⟩) 32 32 := hF.done 1 (34, SP.is (.slice (some ⟨N8, 0, none⟩) 32 32)) (by rw [hD]; rfl) (hall 1 (by decide))
    have h35 : ac.eval (.tmp 35) = .slice (some ⟨N9, 0, none⟩) 32 32 := hF.done 2 (35, SP.is (.slice (some ⟨N9, 0, none⟩) 32 32)) (by rw [hD]; rfl) (hall 2 (by decide))
    obtain ⟨x36, h36⟩ : ∃ x, ac.eval (.tmp 36) = x := ⟨_, rfl⟩
    have h37 : ac.eval (.tmp 37) = .agg (vB p).toArray := hF.done 4 (37, SP.is (.agg (vB p).toArray)) (by rw [hD]; rfl) (hall 4 (by decide))
    have ea := hF.lay [(33, x33), (34, .slice (some ⟨N8, 0, none⟩) 32 32), (35, .slice (some ⟨N9, 0, none⟩) 32 32), (36, x36), (37, .agg (vB p).toArray), (11, .pointer (some ⟨M11, 0, none⟩))] (by rw [hD, hsz]; rfl) (by simp only [List.forall_mem_cons, List.not_mem_nil, false_implies, implies_true, and_true]; exact ⟨h33, h34, h35, h36, h37, ea11⟩)
    rw [ha0] at ea
    simp only [List.foldl_cons, List.foldl_nil, List.setIfInBounds_toArray, List.set_cons_zero, List.set_cons_succ] at ea
    clear hF hall hr hl hD al5 as5 ti0 ti3 s8 s9 ha0 hsz h33 h34 h35 h36 h37 ea11
    subst ea
    have r8 := q8
    have r9 := q9
    have r10 := q10
    clear q8 q9 q10
    have r11 := p11
    clear p11
    go_wp2_with fail
    have q8 := r8
    have q9 := r9
    have q10 := r10
    have q11 := r11
    clear r8 r9 r10 r11
    refine wp_named fun a0 ha0 => ?_
    have hsz : a0.tmps.size = 93 := by rw [ha0]; rfl
    have s10 : a0.eval (.tmp 10) = .pointer (some ⟨N10, 0, none⟩) := by rw [ha0]; rfl
    have s11 : a0.eval (.tmp 11) = .pointer (some ⟨M11, 0, none⟩) := by rw [ha0]; rfl
    obtain ⟨D, hD⟩ : ∃ D : List (Tmp × SP), D = [(38, SP.any), (39, SP.is (.slice (some ⟨M11, 0, none⟩) 32 32)), (40, SP.is (.slice (some ⟨N10, 0, none⟩) 32 32)), (41, SP.any), (42, SP.is (.agg (vB t).toArray)), (12, SP.any), (1000, SP.any)] := ⟨_, rfl⟩
    refine wp_region_down (by kernel_rfl) (fun listed ac W => ∃ (M12 : Nat), listed.size = 7 ∧ Fp D a0 listed ac W ∧ Below w.heap.size w W ∧ Row W N8 ((vB x)) 28 ∧ Row W N9 ((vB y)) 28 ∧ Row W N10 ((vB z)) 28 ∧ Row W M11 ((vB p)) 28 ∧ (listed.getD 5 false = true → ac.eval (.tmp 12) = .pointer (some ⟨M12, 0, none⟩) ∧ M11 < M12 ∧ Row W M12 (if listed.getD 6 false = true then (vB t) else z32) 28) ∧ (listed.getD 6 false = true → listed.getD 5 false = true) ∧ (listed.getD 0 false = true → ¬ listed.getD 3 false = true → (SP.new 1 1 (vB [1#8]) 5).P W (ac.eval (.tmp 38))) ∧ (listed.getD 3 false = true → ¬ listed.getD 4 false = true → (SP.n3 [1#8] (.slice (some ⟨M11, 0, none⟩) 32 32) (.slice (some ⟨N10, 0, none⟩) 32 32)).P W (ac.eval (.tmp 41)))) ?_ ?_ ?_
    · exact ⟨0, by simp, Fp.start D a0 _ _, Below.drew hb, Row.drew q8, Row.drew q9, Row.drew q10, Row.drew q11, (fun h => (start_no h).elim), (fun h => (start_no h).elim), (fun h _ => (start_no h).elim), (fun h _ => (start_no h).elim)⟩
    · clear ha0 hb q8 q9 q10 q11 
      intro listed ac W k hI hdn hk
      obtain ⟨M12, hl, hF, hb, q8, q9, q10, q11, al5, as5, ti0, ti3⟩ := hI
      have hk1 : k < 7 := List.mem_range.1 (List.mem_filter.1 hk).1
      have hl2 : ∀ j, (listed.setIfInBounds j true).size = 7 := fun j => by rw [Array.size_setIfInBounds]; exact hl
      rcases (show k = 0 ∨ k = 1 ∨ k = 2 ∨ k = 3 ∨ k = 4 ∨ k = 5 ∨ k = 6 by omega) with rfl | rfl | rfl | rfl | rfl | rfl | rfl
      · have hk3 := hk
        have hB : Below W.heap.size W (W.alloc (Obj.cells ((vB [1#8]) : List Value).toArray 5)) := (Below.refl _ _).alloc (Nat.le_refl _) _
        exact wpOp_plain rfl rfl (wp_build1 38 5 1 _ (vB [1#8]) rfl Tryd.underlying38 info_u8 zero_u8 rfl (by decide) (by decide) (fun v hv => by obtain rfl := List.mem_singleton.1 hv; rfl) rfl ⟨M12, hl2 0, ((hF.world hB).put 0 38 (SP.any) (.slice (some ⟨W.heap.size, 0, none⟩) 1 1) (by rw [hD]; rfl) trivial (by rw [hD]; rfl) (by rw [hsz]; decide) (by rw [hl]; decide)), hb.alloc hb.size _, Row.alloc q8 _, Row.alloc q9 _, Row.alloc q10 _, Row.alloc q11 _, (fun h => ⟨(eval_put_other ac _ (by decide)).trans ((al5 (by rwa [getD_set _ _ _ (by decide)] at h)).1), (al5 (by rwa [getD_set _ _ _ (by decide)] at h)).2.1, by rw [getD_set _ _ _ (by decide)]; exact Row.alloc (al5 (by rwa [getD_set _ _ _ (by decide)] at h)).2.2 _⟩), (fun h => by rw [getD_set _ _ _ (by decide)]; exact as5 (by rwa [getD_set _ _ _ (by decide)] at h)), (fun _ _ => by change (SP.new 1 1 (vB [1#8]) 5).P _ ((ac.put (some 38) _).eval (.tmp 38)); rw [eval_put_same ac _ (by rw [hF.size, hsz]; decide)]; exact ⟨W.heap.size, rfl, Row.new' rfl rfl⟩), (fun h1 h2 => by change (SP.n3 [1#8] (.slice (some ⟨M11, 0, none⟩) 32 32) (.slice (some ⟨N10, 0, none⟩) 32 32)).P _ ((ac.put (some 38) _).eval (.tmp 41)); rw [eval_put_other ac _ (by decide)]; exact (SP.n3 [1#8] (.slice (some ⟨M11, 0, none⟩) 32 32) (.slice (some ⟨N10, 0, none⟩) 32 32)).st _ _ _ hB (ti3 (by rwa [getD_set _ _ _ (by decide)] at h1) (by rwa [getD_set _ _ _ (by decide)] at h2)))⟩)
      · have hk3 := hk
        have e := ((hF.keep 11 (by rw [hD]; rfl)).trans s11)
        exact wpOp_plain rfl rfl (wp_slice_all 28 5 32 (.tmp 11) M11 0 rfl e Tryd.underlying28 info_u8 ⟨M12, hl2 1, (hF.put 1 39 (SP.is (.slice (some ⟨M11, 0, none⟩) 32 32)) (.slice (some ⟨M11, 0, none⟩) 32 32) (by rw [hD]; rfl) rfl (by rw [hD]; rfl) (by rw [hsz]; decide) (by rw [hl]; decide)), hb, q8, q9, q10, q11, (fun h => ⟨(eval_put_other ac _ (by decide)).trans ((al5 (by rwa [getD_set _ _ _ (by decide)] at h)).1), (al5 (by rwa [getD_set _ _ _ (by decide)] at h)).2.1, by rw [getD_set _ _ _ (by decide)]; exact (al5 (by rwa [getD_set _ _ _ (by decide)] at h)).2.2⟩), (fun h => by rw [getD_set _ _ _ (by decide)]; exact as5 (by rwa [getD_set _ _ _ (by decide)] at h)), (fun h1 h2 => by change (SP.new 1 1 (vB [1#8]) 5).P _ ((ac.put (some 39) _).eval (.tmp 38)); rw [eval_put_other ac _ (by decide)]; exact ti0 (by rwa [getD_set _ _ _ (by decide)] at h1) (by rwa [getD_set _ _ _ (by decide)] at h2)), (fun h1 h2 => by change (SP.n3 [1#8] (.slice (some ⟨M11, 0, none⟩) 32 32) (.slice (some ⟨N10, 0, none⟩) 32 32)).P _ ((ac.put (some 39) _).eval (.tmp 41)); rw [eval_put_other ac _ (by decide)]; exact ti3 (by rwa [getD_set _ _ _ (by decide)] at h1) (by rwa [getD_set _ _ _ (by decide)] at h2))⟩)
      · have hk3 := hk
        have e := ((hF.keep 10 (by rw [hD]; rfl)).trans s10)
        exact wpOp_plain rfl rfl (wp_slice_all 28 5 32 (.tmp 10) N10 0 rfl e Tryd.underlying28 info_u8 ⟨M12, hl2 2, (hF.put 2 40 (SP.is (.slice (some ⟨N10, 0, none⟩) 32 32)) (.slice (some ⟨N10, 0, none⟩) 32 32) (by rw [hD]; rfl) rfl (by rw [hD]; rfl) (by rw [hsz]; decide) (by rw [hl]; decide)), hb, q8, q9, q10, q11, (fun h => ⟨(eval_put_other ac _ (by decide)).trans ((al5 (by rwa [getD_set _ _ _ (by decide)] at h)).1), (al5 (by rwa [getD_set _ _ _ (by decide)] at h)).2.1, by rw [getD_set _ _ _ (by decide)]; exact (al5 (by rwa [getD_set _ _ _ (by decide)] at h)).2.2⟩), (fun h => by rw [getD_set _ _ _ (by decide)]; exact as5 (by rwa [getD_set _ _ _ (by decide)] at h)), (fun h1 h2 => by change (SP.new 1 1 (vB [1#8]) 5).P _ ((ac.put (some 40) _).eval (.tmp 38)); rw [eval_put_other ac _ (by decide)]; exact ti0 (by rwa [getD_set _ _ _ (by decide)] at h1) (by rwa [getD_set _ _ _ (by decide)] at h2)), (fun h1 h2 => by change (SP.n3 [1#8] (.slice (some ⟨M11, 0, none⟩) 32 32) (.slice (some ⟨N10, 0, none⟩) 32 32)).P _ ((ac.put (some 40) _).eval (.tmp 41)); rw [eval_put_other ac _ (by decide)]; exact ti3 (by rwa [getD_set _ _ _ (by decide)] at h1) (by rwa [getD_set _ _ _ (by decide)] at h2))⟩)
      · have hk3 := hk
        obtain ⟨Nv, ev, rv⟩ := (ti0 (ready_dep hk 0 (by kernel_rfl)) (not_yet hk))
        have e6 := (hF.done 1 (39, SP.is (.slice (some ⟨M11, 0, none⟩) 32 32)) (by rw [hD]; rfl) (ready_dep hk 1 (by kernel_rfl)))
        have e7 := (hF.done 2 (40, SP.is (.slice (some ⟨N10, 0, none⟩) 32 32)) (by rw [hD]; rfl) (ready_dep hk 2 (by kernel_rfl)))
        have hB : Below W.heap.size W (W.alloc (Obj.cells ([.slice (some ⟨Nv, 0, none⟩) 1 1, .slice (some ⟨M11, 0, none⟩) 32 32, .slice (some ⟨N10, 0, none⟩) 32 32] : List Value).toArray 38)) := (Below.refl _ _).alloc (Nat.le_refl _) _
        exact wpOp_plain rfl rfl (wp_build1 22 38 3 _ [.slice (some ⟨Nv, 0, none⟩) 1 1, .slice (some ⟨M11, 0, none⟩) 32 32, .slice (some ⟨N10, 0, none⟩) 32 32] rfl Tryd.underlying22 info_slb zero_slb rfl (by decide) (by decide) (fun v hv => by rcases List.mem_cons.1 hv with rfl | hv; rfl; rcases List.mem_cons.1 hv with rfl | hv; rfl; obtain rfl := List.mem_singleton.1 hv; rfl) (by rw [← show ac.eval (.tmp 38) = _ from ev, ← show ac.eval (.tmp 39) = _ from e6, ← show ac.eval (.tmp 40) = _ from e7]; rfl) ⟨M12, hl2 3, ((hF.world hB).put 3 41 (SP.any) (.slice (some ⟨W.heap.size, 0, none⟩) 3 3) (by rw [hD]; rfl) trivial (by rw [hD]; rfl) (by rw [hsz]; decide) (by rw [hl]; decide)), hb.alloc hb.size _, Row.alloc q8 _, Row.alloc q9 _, Row.alloc q10 _, Row.alloc q11 _, (fun h => ⟨(eval_put_other ac _ (by decide)).trans ((al5 (by rwa [getD_set _ _ _ (by decide)] at h)).1), (al5 (by rwa [getD_set _ _ _ (by decide)] at h)).2.1, by rw [getD_set _ _ _ (by decide)]; exact Row.alloc (al5 (by rwa [getD_set _ _ _ (by decide)] at h)).2.2 _⟩), (fun h => by rw [getD_set _ _ _ (by decide)]; exact as5 (by rwa [getD_set _ _ _ (by decide)] at h)), (fun _ h => absurd (getD_same (by rw [hl]; decide)) h), (fun _ _ => by change (SP.n3 [1#8] (.slice (some ⟨M11, 0, none⟩) 32 32) (.slice (some ⟨N10, 0, none⟩) 32 32)).P _ ((ac.put (some 41) _).eval (.tmp 41)); rw [eval_put_same ac _ (by rw [hF.size, hsz]; decide)]; exact ⟨W.heap.size, _, rfl, Row.new' rfl rfl, .inr ⟨Nv, 0, 1, rfl, Nat.le_refl _, (Row.alloc rv _).all⟩⟩)⟩)
      · have hk3 := hk
        obtain ⟨N8, v0, e8, r8, b8⟩ := (ti3 (ready_dep hk 3 (by kernel_rfl)) (not_yet hk))
        refine wpOp_plain rfl rfl (wp_fcall_v 26 #[.slice (some ⟨N8, 0, none⟩) 3 3] rfl rfl (by show [ac.eval (.tmp 41)] = _; simp only [e8]) (by go_simp) ((parts_three [1#8] p z t ET.out v0 _ _ HPZ.out N8 3 W (HKL.out W hb) b8 (slat_row q11 Hp) (slat_row q10 Hz) r8).mono ?_))
        rintro e W2 ⟨rfl, hB⟩
        exact ⟨_, rfl, M12, hl2 4, ((hF.world hB).put 4 42 (SP.is (.agg (vB t).toArray)) (.agg (vB t).toArray) (by rw [hD]; rfl) rfl (by rw [hD]; rfl) (by rw [hsz]; decide) (by rw [hl]; decide)), hb.trans (hB.mono hb.size), Row.below q8 hB (Row.lt q8), Row.below q9 hB (Row.lt q9), Row.below q10 hB (Row.lt q10), Row.below q11 hB (Row.lt q11), (fun h => ⟨(eval_put_other ac _ (by decide)).trans ((al5 (by rwa [getD_set _ _ _ (by decide)] at h)).1), (al5 (by rwa [getD_set _ _ _ (by decide)] at h)).2.1, by rw [getD_set _ _ _ (by decide)]; exact Row.below (al5 (by rwa [getD_set _ _ _ (by decide)] at h)).2.2 hB (Row.lt (al5 (by rwa [getD_set _ _ _ (by decide)] at h)).2.2)⟩), (fun h => by rw [getD_set _ _ _ (by decide)]; exact as5 (by rwa [getD_set _ _ _ (by decide)] at h)), (fun h1 h2 => by change (SP.new 1 1 (vB [1#8]) 5).P _ ((ac.put (some 42) _).eval (.tmp 38)); rw [eval_put_other ac _ (by decide)]; exact (SP.new 1 1 (vB [1#8]) 5).st _ _ _ hB (ti0 (by rwa [getD_set _ _ _ (by decide)] at h1) (by rwa [getD_set _ _ _ (by decide)] at h2))), (fun _ h => absurd (getD_same (by rw [hl]; decide)) h)⟩
      · have hk3 := hk
        have hsm : M11 < W.heap.size := Row.lt q11
        have hB : Below W.heap.size W (W.alloc (.cells z32.toArray 28)) := (Below.refl _ _).alloc (Nat.le_refl _) _
        have hns : ¬ listed.getD 6 false = true := fun h => not_yet hk (as5 h)
        exact wpOp_plain rfl rfl (wp_alloc_d rfl ⟨W.heap.size, hl2 5, ((hF.world hB).put 5 12 (SP.any) (.pointer (some ⟨W.heap.size, 0, none⟩)) (by rw [hD]; rfl) trivial (by rw [hD]; rfl) (by rw [hsz]; decide) (by rw [hl]; decide)), hb.alloc hb.size _, Row.alloc q8 _, Row.alloc q9 _, Row.alloc q10 _, Row.alloc q11 _, (fun _ => ⟨eval_put_same ac _ (by rw [hF.size, hsz]; decide), hsm, by rw [getD_set _ _ _ (by decide), if_neg hns]; exact Row.new' rfl rfl⟩), (fun _ => getD_same (by rw [hl]; decide)), (fun h1 h2 => by change (SP.new 1 1 (vB [1#8]) 5).P _ ((ac.put (some 12) _).eval (.tmp 38)); rw [eval_put_other ac _ (by decide)]; exact (SP.new 1 1 (vB [1#8]) 5).st _ _ _ hB (ti0 (by rwa [getD_set _ _ _ (by decide)] at h1) (by rwa [getD_set _ _ _ (by decide)] at h2))), (fun h1 h2 => by change (SP.n3 [1#8] (.slice (some ⟨M11, 0, none⟩) 32 32) (.slice (some ⟨N10, 0, none⟩) 32 32)).P _ ((ac.put (some 12) _).eval (.tmp 41)); rw [eval_put_other ac _ (by decide)]; exact (SP.n3 [1#8] (.slice (some ⟨M11, 0, none⟩) 32 32) (.slice (some ⟨N10, 0, none⟩) 32 32)).st _ _ _ hB (ti3 (by rwa [getD_set _ _ _ (by decide)] at h1) (by rwa [getD_set _ _ _ (by decide)] at h2)))⟩)
      · have hk3 := hk
        have hal := ready_dep hk 5 (by kernel_rfl)
        obtain ⟨e1, m1, y2⟩ := al5 hal
        rw [if_neg (not_yet hk)] at y2
        have T := y2.there 0 (vB t).toArray.size (by rw [List.size_toArray, Ht.len]; decide)
        have fin := y2.over (vs := (vB t)) (Ht.over rfl)
        have hT : Fp D a0 listed ac (W.setCells M12 0 (vB t)) := hF.turn (by rw [hD]; simp only [List.forall_mem_cons, List.not_mem_nil, false_implies, implies_true, and_true]; exact ⟨fun _ h => h, fun _ h => h, fun _ h => h, fun _ h => h, fun _ h => h, fun _ h => h, fun _ h => h⟩)
        exact wpOp_plain rfl rfl (wp_store_mid 28 (.tmp 12) (.tmp 42) rfl M12 0 (vB t).toArray e1 (hF.done 4 (42, SP.is (.agg (vB t).toArray)) (by rw [hD]; rfl) (ready_dep hk 4 (by kernel_rfl))) T Ht.info' Ht.one ⟨M12, hl2 6, (hT.skip 6 1000 (by rw [hD]; rfl) (by rw [hl]; decide)), below_setCells hb (by omega) _, Row.setCells_other q8 _ _ _ (by omega), Row.setCells_other q9 _ _ _ (by omega), Row.setCells_other q10 _ _ _ (by omega), Row.setCells_other q11 _ _ _ (by omega), (fun _ => ⟨e1, m1, by rw [if_pos (getD_same (by rw [hl]; decide))]; exact fin⟩), (fun _ => by rw [getD_set _ _ _ (by decide)]; exact hal), (fun _ h2 => absurd (by rw [getD_set _ _ _ (by decide)]; exact ready_dep hk 3 (by kernel_rfl)) h2), (fun _ h2 => absurd (by rw [getD_set _ _ _ (by decide)]; exact ready_dep hk 4 (by kernel_rfl)) h2)⟩)
    · clear hb q8 q9 q10 q11 
      intro listed ac W hI hr
      obtain ⟨M12, hl, hF, hb, q8, q9, q10, q11, al5, as5, ti0, ti3⟩ := hI
      have hall := all_listed (by kernel_rfl) hl hr
      obtain ⟨ea12, m12, p12⟩ := al5 (hall 5 (by decide))
      rw [if_pos (hall 6 (by decide))] at p12
      obtain ⟨x38, h38⟩ : ∃ x, ac.eval (.tmp 38) = x := ⟨_, rfl⟩
      have h39 : ac.eval (.tmp 39) = .slice (some ⟨M11, 0, none⟩) 32 32 := hF.done 1 (39, SP.is (.slice (some ⟨M11, 0, none⟩) 32 32)) (by rw [hD]; rfl) (hall 1 (by decide))
      have h40 : ac.eval (.tmp 40) = .slice (some ⟨N10, 0, none⟩) 32 32 := hF.done 2 (40, SP.is (.slice (some ⟨N10, 0, none⟩) 32 32)) (by rw [hD]; rfl) (hall 2 (by decide))
      obtain ⟨x41, h41⟩ : ∃ x, ac.eval (.tmp 41) = x := ⟨_, rfl⟩
      have h42 : ac.eval (.tmp 42) = .agg (vB t).toArray := hF.done 4 (42, SP.is (.agg (vB t).toArray)) (by rw [hD]; rfl) (hall 4 (by decide))
      have ea := hF.lay [(38, x38), (39, .slice (some ⟨M11, 0, none⟩) 32 32), (40, .slice (some ⟨N10, 0, none⟩) 32 32), (41, x41), (42, .agg (vB t).toArray), (12, .pointer (some ⟨M12, 0, none⟩))] (by rw [hD, hsz]; rfl) (by simp only [List.forall_mem_cons, List.not_mem_nil, false_implies, implies_true, and_true]; exact ⟨h38, h39, h40, h41, h42, ea12⟩)
      rw [ha0] at ea
      simp only [List.foldl_cons, List.foldl_nil, List.setIfInBounds_toArray, List.set_cons_zero, List.set_cons_succ] at ea
      clear hF hall hr hl hD al5 as5 ti0 ti3 s10 s11 ha0 hsz h38 h39 h40 h41 h42 ea12
      subst ea
      have r8 := q8
      have r9 := q9
      have r10 := q10
      have r11 := q11
      clear q8 q9 q10 q11
      have r12 := p12
      clear p12
      have fK := HKL.out W hb
      have f0 := F0.out W hb
      have f1 := F1.out W hb
      have f2 := F2.out W hb
      go_wp2_with fail
      refine (sum_any [] o EO.out (by decide) _ W fK (.inl ⟨rfl, none, 0, rfl⟩)).mono ?_
      rintro e V7 ⟨rfl, hB⟩
      replace hb := hb.trans (hB.mono hb.size)
      replace r8 := Row.below r8 hB (Row.lt r8)
      replace r9 := Row.below r9 hB (Row.lt r9)
      replace r10 := Row.below r10 hB (Row.lt r10)
      replace r11 := Row.below r11 hB (Row.lt r11)
      replace r12 := Row.below r12 hB (Row.lt r12)
      replace fK := fK.be hB
      replace f0 := f0.be hB
      replace f1 := f1.be hB
      replace f2 := f2.be hB
      clear hB
      have o_r13 : M12 < V7.heap.size := Row.lt r12
      have n0 : Row (V7.alloc (Obj.cells z32.toArray 28)) V7.heap.size z32 28 := Row.new' rfl rfl
      have T0 := Ho.there n0 rfl
      replace n0 := n0.over (vs := vB o) (Ho.over rfl)
      have hB : Below V7.heap.size V7 ((V7.alloc (Obj.cells z32.toArray 28)).setCells V7.heap.size 0 (vB o)) := below_setCells ((Below.refl _ _).alloc (Nat.le_refl _) (Obj.cells z32.toArray 28)) (b := V7.heap.size) (o := 0) (Nat.le_refl _) (vB o)
      replace hb := hb.trans (hB.mono hb.size)
      replace r8 := Row.below r8 hB (Row.lt r8)
      replace r9 := Row.below r9 hB (Row.lt r9)
      replace r10 := Row.below r10 hB (Row.lt r10)
      replace r11 := Row.below r11 hB (Row.lt r11)
      replace r12 := Row.below r12 hB (Row.lt r12)
      replace fK := fK.be hB
      replace f0 := f0.be hB
      replace f1 := f1.be hB
      replace f2 := f2.be hB
      clear hB
      have r13 := n0
      clear n0
      go_wp2_with (refine wpList_store_mid rfl 28 (.tmp 13) (.tmp 43) rfl V7.heap.size 0 (vB o).toArray rfl rfl T0 Ho.info' Ho.one ?_; simp only [Act.put]; clear T0; (change wpList _ _ _ _ _ ((V7.alloc (Obj.cells z32.toArray 28)).setCells V7.heap.size 0 (vB o))); (generalize ((V7.alloc (Obj.cells z32.toArray 28)).setCells V7.heap.size 0 (vB o)) = X8 at *); (generalize hN : V7.heap.size = N13 at *; clear hN))
      refine (leaf_v a x EX.out HA.out A0 n0 c0 X8 fK f0).mono ?_
      rintro e V9 ⟨rfl, hB⟩
      replace hb := hb.trans (hB.mono hb.size)
      replace r8 := Row.below r8 hB (Row.lt r8)
      replace r9 := Row.below r9 hB (Row.lt r9)
      replace r10 := Row.below r10 hB (Row.lt r10)
      replace r11 := Row.below r11 hB (Row.lt r11)
      replace r12 := Row.below r12 hB (Row.lt r12)
      replace r13 := Row.below r13 hB (Row.lt r13)
      replace fK := fK.be hB
      replace f0 := f0.be hB
      replace f1 := f1.be hB
      replace f2 := f2.be hB
      clear hB
      have o_r14 : N13 < V9.heap.size := Row.lt r13
      have n0 : Row (V9.alloc (Obj.cells z32.toArray 28)) V9.heap.size z32 28 := Row.new' rfl rfl
      have T0 := Hx.there n0 rfl
      replace n0 := n0.over (vs := vB x) (Hx.over rfl)
      have hB : Below V9.heap.size V9 ((V9.alloc (Obj.cells z32.toArray 28)).setCells V9.heap.size 0 (vB x)) := below_setCells ((Below.refl _ _).alloc (Nat.le_refl _) (Obj.cells z32.toArray 28)) (b := V9.heap.size) (o := 0) (Nat.le_refl _) (vB x)
      replace hb := hb.trans (hB.mono hb.size)
      replace r8 := Row.below r8 hB (Row.lt r8)
      replace r9 := Row.below r9 hB (Row.lt r9)
      replace r10 := Row.below r10 hB (Row.lt r10)
      replace r11 := Row.below r11 hB (Row.lt r11)
      replace r12 := Row.below r12 hB (Row.lt r12)
      replace r13 := Row.below r13 hB (Row.lt r13)
      replace fK := fK.be hB
      replace f0 := f0.be hB
      replace f1 := f1.be hB
      replace f2 := f2.be hB
      clear hB
      have r14 := n0
      clear n0
      go_wp2_with (first
        | (refine wpList_store_mid rfl 28 (.tmp 14) (.tmp 45) rfl V9.heap.size 0 (vB x).toArray rfl rfl T0 Hx.info' Hx.one ?_; simp only [Act.put]; clear T0; (change wpList _ _ _ _ _ ((V9.alloc (Obj.cells z32.toArray 28)).setCells V9.heap.size 0 (vB x))); (generalize ((V9.alloc (Obj.cells z32.toArray 28)).setCells V9.heap.size 0 (vB x)) = X10 at *); (generalize hN : V9.heap.size = N14 at *; clear hN))
        | (refine wpList_load_w rfl 28 (.tmp 8) rfl N8 0 rfl (vB x) _ r8.all Tryd.underlying28 rfl Hx.info ?_; simp only [Act.put, List.setIfInBounds_toArray, List.set_cons_zero, List.set_cons_succ])
        | (refine wpList_load_w rfl 28 (.tmp 9) rfl N9 0 rfl (vB y) _ r9.all Tryd.underlying28 rfl Hy.info ?_; simp only [Act.put, List.setIfInBounds_toArray, List.set_cons_zero, List.set_cons_succ]))
      refine (node_any x y p Hx Hy EP.out X10 fK).mono ?_
      rintro e V11 ⟨rfl, hB⟩
      replace hb := hb.trans (hB.mono hb.size)
      replace r8 := Row.below r8 hB (Row.lt r8)
      replace r9 := Row.below r9 hB (Row.lt r9)
      replace r10 := Row.below r10 hB (Row.lt r10)
      replace r11 := Row.below r11 hB (Row.lt r11)
      replace r12 := Row.below r12 hB (Row.lt r12)
      replace r13 := Row.below r13 hB (Row.lt r13)
      replace r14 := Row.below r14 hB (Row.lt r14)
      replace fK := fK.be hB
      replace f0 := f0.be hB
      replace f1 := f1.be hB
      replace f2 := f2.be hB
      clear hB
      have o_r15 : N14 < V11.heap.size := Row.lt r14
      have n0 : Row (V11.alloc (Obj.cells z32.toArray 28)) V11.heap.size z32 28 := Row.new' rfl rfl
      have T0 := Hp.there n0 rfl
      replace n0 := n0.over (vs := vB p) (Hp.over rfl)
      have hB : Below V11.heap.size V11 ((V11.alloc (Obj.cells z32.toArray 28)).setCells V11.heap.size 0 (vB p)) := below_setCells ((Below.refl _ _).alloc (Nat.le_refl _) (Obj.cells z32.toArray 28)) (b := V11.heap.size) (o := 0) (Nat.le_refl _) (vB p)
      replace hb := hb.trans (hB.mono hb.size)
      replace r8 := Row.below r8 hB (Row.lt r8)
      replace r9 := Row.below r9 hB (Row.lt r9)
      replace r10 := Row.below r10 hB (Row.lt r10)
      replace r11 := Row.below r11 hB (Row.lt r11)
      replace r12 := Row.below r12 hB (Row.lt r12)
      replace r13 := Row.below r13 hB (Row.lt r13)
      replace r14 := Row.below r14 hB (Row.lt r14)
      replace fK := fK.be hB
      replace f0 := f0.be hB
      replace f1 := f1.be hB
      replace f2 := f2.be hB
      clear hB
      have r15 := n0
      clear n0
      go_wp2_with (refine wpList_store_mid rfl 28 (.tmp 15) (.tmp 48) rfl V11.heap.size 0 (vB p).toArray rfl rfl T0 Hp.info' Hp.one ?_; simp only [Act.put]; clear T0; (change wpList _ _ _ _ _ ((V11.alloc (Obj.cells z32.toArray 28)).setCells V11.heap.size 0 (vB p))); (generalize ((V11.alloc (Obj.cells z32.toArray 28)).setCells V11.heap.size 0 (vB p)) = X12 at *); (generalize hN : V11.heap.size = N15 at *; clear hN))
      refine (root_nil none 0 o EO.out X12 fK).mono ?_
      rintro e V13 ⟨rfl, hB⟩
      replace hb := hb.trans (hB.mono hb.size)
      replace r8 := Row.below r8 hB (Row.lt r8)
      replace r9 := Row.below r9 hB (Row.lt r9)
      replace r10 := Row.below r10 hB (Row.lt r10)
      replace r11 := Row.below r11 hB (Row.lt r11)
      replace r12 := Row.below r12 hB (Row.lt r12)
      replace r13 := Row.below r13 hB (Row.lt r13)
      replace r14 := Row.below r14 hB (Row.lt r14)
      replace r15 := Row.below r15 hB (Row.lt r15)
      replace fK := fK.be hB
      replace f0 := f0.be hB
      replace f1 := f1.be hB
      replace f2 := f2.be hB
      clear hB
      have o_r16 : N15 < V13.heap.size := Row.lt r15
      have n0 : Row (V13.alloc (Obj.cells z32.toArray 28)) V13.heap.size z32 28 := Row.new' rfl rfl
      have T0 := Ho.there n0 rfl
      replace n0 := n0.over (vs := vB o) (Ho.over rfl)
      have hB : Below V13.heap.size V13 ((V13.alloc (Obj.cells z32.toArray 28)).setCells V13.heap.size 0 (vB o)) := below_setCells ((Below.refl _ _).alloc (Nat.le_refl _) (Obj.cells z32.toArray 28)) (b := V13.heap.size) (o := 0) (Nat.le_refl _) (vB o)
      replace hb := hb.trans (hB.mono hb.size)
      replace r8 := Row.below r8 hB (Row.lt r8)
      replace r9 := Row.below r9 hB (Row.lt r9)
      replace r10 := Row.below r10 hB (Row.lt r10)
      replace r11 := Row.below r11 hB (Row.lt r11)
      replace r12 := Row.below r12 hB (Row.lt r12)
      replace r13 := Row.below r13 hB (Row.lt r13)
      replace r14 := Row.below r14 hB (Row.lt r14)
      replace r15 := Row.below r15 hB (Row.lt r15)
      replace fK := fK.be hB
      replace f0 := f0.be hB
      replace f1 := f1.be hB
      replace f2 := f2.be hB
      clear hB
      have r16 := n0
      clear n0
      go_wp2_with (refine wpList_store_mid rfl 28 (.tmp 16) (.tmp 49) rfl V13.heap.size 0 (vB o).toArray rfl rfl T0 Ho.info' Ho.one ?_; simp only [Act.put]; clear T0; (change wpList _ _ _ _ _ ((V13.alloc (Obj.cells z32.toArray 28)).setCells V13.heap.size 0 (vB o))); (generalize ((V13.alloc (Obj.cells z32.toArray 28)).setCells V13.heap.size 0 (vB o)) = X14 at *); (generalize hN : V13.heap.size = N16 at *; clear hN))
      refine (root1_w c z E1.out HC.out _ X14 fK f2).mono ?_
      rintro e V15 ⟨rfl, hB⟩
      replace hb := hb.trans (hB.mono hb.size)
      replace r8 := Row.below r8 hB (Row.lt r8)
      replace r9 := Row.below r9 hB (Row.lt r9)
      replace r10 := Row.below r10 hB (Row.lt r10)
      replace r11 := Row.below r11 hB (Row.lt r11)
      replace r12 := Row.below r12 hB (Row.lt r12)
      replace r13 := Row.below r13 hB (Row.lt r13)
      replace r14 := Row.below r14 hB (Row.lt r14)
      replace r15 := Row.below r15 hB (Row.lt r15)
      replace r16 := Row.below r16 hB (Row.lt r16)
      replace fK := fK.be hB
      replace f0 := f0.be hB
      replace f1 := f1.be hB
      replace f2 := f2.be hB
      clear hB
      have o_r17 : N16 < V15.heap.size := Row.lt r16
      have n0 : Row (V15.alloc (Obj.cells z32.toArray 28)) V15.heap.size z32 28 := Row.new' rfl rfl
      have T0 := Hz.there n0 rfl
      replace n0 := n0.over (vs := vB z) (Hz.over rfl)
      have hB : Below V15.heap.size V15 ((V15.alloc (Obj.cells z32.toArray 28)).setCells V15.heap.size 0 (vB z)) := below_setCells ((Below.refl _ _).alloc (Nat.le_refl _) (Obj.cells z32.toArray 28)) (b := V15.heap.size) (o := 0) (Nat.le_refl _) (vB z)
      replace hb := hb.trans (hB.mono hb.size)
      replace r8 := Row.below r8 hB (Row.lt r8)
      replace r9 := Row.below r9 hB (Row.lt r9)
      replace r10 := Row.below r10 hB (Row.lt r10)
      replace r11 := Row.below r11 hB (Row.lt r11)
      replace r12 := Row.below r12 hB (Row.lt r12)
      replace r13 := Row.below r13 hB (Row.lt r13)
      replace r14 := Row.below r14 hB (Row.lt r14)
      replace r15 := Row.below r15 hB (Row.lt r15)
      replace r16 := Row.below r16 hB (Row.lt r16)
      replace fK := fK.be hB
      replace f0 := f0.be hB
      replace f1 := f1.be hB
      replace f2 := f2.be hB
      clear hB
      have r17 := n0
      clear n0
      go_wp2_with (refine wpList_store_mid rfl 28 (.tmp 17) (.tmp 52) rfl V15.heap.size 0 (vB z).toArray rfl rfl T0 Hz.info' Hz.one ?_; simp only [Act.put]; clear T0; (change wpList _ _ _ _ _ ((V15.alloc (Obj.cells z32.toArray 28)).setCells V15.heap.size 0 (vB z))); (generalize ((V15.alloc (Obj.cells z32.toArray 28)).setCells V15.heap.size 0 (vB z)) = X16 at *); (generalize hN : V15.heap.size = N17 at *; clear hN))
      refine (root2_w a b p E2.out HA.out HB.out _ _ X16 fK f0 f1).mono ?_
      rintro e V17 ⟨rfl, hB⟩
      replace hb := hb.trans (hB.mono hb.size)
      replace r8 := Row.below r8 hB (Row.lt r8)
      replace r9 := Row.below r9 hB (Row.lt r9)
      replace r10 := Row.below r10 hB (Row.lt r10)
      replace r11 := Row.below r11 hB (Row.lt r11)
      replace r12 := Row.below r12 hB (Row.lt r12)
      replace r13 := Row.below r13 hB (Row.lt r13)
      replace r14 := Row.below r14 hB (Row.lt r14)
      replace r15 := Row.below r15 hB (Row.lt r15)
      replace r16 := Row.below r16 hB (Row.lt r16)
      replace r17 := Row.below r17 hB (Row.lt r17)
      replace fK := fK.be hB
      replace f0 := f0.be hB
      replace f1 := f1.be hB
      replace f2 := f2.be hB
      clear hB
      have o_r18 : N17 < V17.heap.size := Row.lt r17
      have n0 : Row (V17.alloc (Obj.cells z32.toArray 28)) V17.heap.size z32 28 := Row.new' rfl rfl
      have T0 := Hp.there n0 rfl
      replace n0 := n0.over (vs := vB p) (Hp.over rfl)
      have hB : Below V17.heap.size V17 ((V17.alloc (Obj.cells z32.toArray 28)).setCells V17.heap.size 0 (vB p)) := below_setCells ((Below.refl _ _).alloc (Nat.le_refl _) (Obj.cells z32.toArray 28)) (b := V17.heap.size) (o := 0) (Nat.le_refl _) (vB p)
      replace hb := hb.trans (hB.mono hb.size)
      replace r8 := Row.below r8 hB (Row.lt r8)
      replace r9 := Row.below r9 hB (Row.lt r9)
      replace r10 := Row.below r10 hB (Row.lt r10)
      replace r11 := Row.below r11 hB (Row.lt r11)
      replace r12 := Row.below r12 hB (Row.lt r12)
      replace r13 := Row.below r13 hB (Row.lt r13)
      replace r14 := Row.below r14 hB (Row.lt r14)
      replace r15 := Row.below r15 hB (Row.lt r15)
      replace r16 := Row.below r16 hB (Row.lt r16)
      replace r17 := Row.below r17 hB (Row.lt r17)
      replace fK := fK.be hB
      replace f0 := f0.be hB
      replace f1 := f1.be hB
      replace f2 := f2.be hB
      clear hB
      have r18 := n0
      clear n0
      go_wp2_with (refine wpList_store_mid rfl 28 (.tmp 18) (.tmp 56) rfl V17.heap.size 0 (vB p).toArray rfl rfl T0 Hp.info' Hp.one ?_; simp only [Act.put]; clear T0; (change wpList _ _ _ _ _ ((V17.alloc (Obj.cells z32.toArray 28)).setCells V17.heap.size 0 (vB p))); (generalize ((V17.alloc (Obj.cells z32.toArray 28)).setCells V17.heap.size 0 (vB p)) = X18 at *); (generalize hN : V17.heap.size = N18 at *; clear hN))
      refine (root3_w a b c t E3.out HA.out HB.out HC.out _ _ _ X18 fK f0 f1 f2).mono ?_
      rintro e V19 ⟨rfl, hB⟩
      replace hb := hb.trans (hB.mono hb.size)
      replace r8 := Row.below r8 hB (Row.lt r8)
      replace r9 := Row.below r9 hB (Row.lt r9)
      replace r10 := Row.below r10 hB (Row.lt r10)
      replace r11 := Row.below r11 hB (Row.lt r11)
      replace r12 := Row.below r12 hB (Row.lt r12)
      replace r13 := Row.below r13 hB (Row.lt r13)
      replace r14 := Row.below r14 hB (Row.lt r14)
      replace r15 := Row.below r15 hB (Row.lt r15)
      replace r16 := Row.below r16 hB (Row.lt r16)
      replace r17 := Row.below r17 hB (Row.lt r17)
      replace r18 := Row.below r18 hB (Row.lt r18)
      replace fK := fK.be hB
      replace f0 := f0.be hB
      replace f1 := f1.be hB
      replace f2 := f2.be hB
      clear hB
      have o_r19 : N18 < V19.heap.size := Row.lt r18
      have n0 : Row (V19.alloc (Obj.cells z32.toArray 28)) V19.heap.size z32 28 := Row.new' rfl rfl
      have T0 := Ht.there n0 rfl
      replace n0 := n0.over (vs := vB t) (Ht.over rfl)
      have hB : Below V19.heap.size V19 ((V19.alloc (Obj.cells z32.toArray 28)).setCells V19.heap.size 0 (vB t)) := below_setCells ((Below.refl _ _).alloc (Nat.le_refl _) (Obj.cells z32.toArray 28)) (b := V19.heap.size) (o := 0) (Nat.le_refl _) (vB t)
      replace hb := hb.trans (hB.mono hb.size)
      replace r8 := Row.below r8 hB (Row.lt r8)
      replace r9 := Row.below r9 hB (Row.lt r9)
      replace r10 := Row.below r10 hB (Row.lt r10)
      replace r11 := Row.below r11 hB (Row.lt r11)
      replace r12 := Row.below r12 hB (Row.lt r12)
      replace r13 := Row.below r13 hB (Row.lt r13)
      replace r14 := Row.below r14 hB (Row.lt r14)
      replace r15 := Row.below r15 hB (Row.lt r15)
      replace r16 := Row.below r16 hB (Row.lt r16)
      replace r17 := Row.below r17 hB (Row.lt r17)
      replace r18 := Row.below r18 hB (Row.lt r18)
      replace fK := fK.be hB
      replace f0 := f0.be hB
      replace f1 := f1.be hB
      replace f2 := f2.be hB
      clear hB
      have r19 := n0
      clear n0
      go_wp2_with (first
        | (refine wpList_store_mid rfl 28 (.tmp 19) (.tmp 61) rfl V19.heap.size 0 (vB t).toArray rfl rfl T0 Ht.info' Ht.one ?_; simp only [Act.put]; clear T0; (change wpList _ _ _ _ _ ((V19.alloc (Obj.cells z32.toArray 28)).setCells V19.heap.size 0 (vB t))); (generalize ((V19.alloc (Obj.cells z32.toArray 28)).setCells V19.heap.size 0 (vB t)) = X20 at *); (generalize hN : V19.heap.size = N19 at *; clear hN))
        | (refine wpList_load_w rfl 28 (.tmp 14) rfl N14 0 rfl (vB x) _ r14.all Tryd.underlying28 rfl Hx.info ?_; simp only [Act.put, List.setIfInBounds_toArray, List.set_cons_zero, List.set_cons_succ])
        | (refine wpList_load_w rfl 28 (.tmp 8) rfl N8 0 rfl (vB x) _ r8.all Tryd.underlying28 rfl Hx.info ?_; simp only [Act.put, List.setIfInBounds_toArray, List.set_cons_zero, List.set_cons_succ])
        | (refine wpList_load_w rfl 28 (.tmp 15) rfl N15 0 rfl (vB p) _ r15.all Tryd.underlying28 rfl Hp.info ?_; simp only [Act.put, List.setIfInBounds_toArray, List.set_cons_zero, List.set_cons_succ])
        | (refine wpList_load_w rfl 28 (.tmp 11) rfl M11 0 rfl (vB p) _ r11.all Tryd.underlying28 rfl Hp.info ?_; simp only [Act.put, List.setIfInBounds_toArray, List.set_cons_zero, List.set_cons_succ])
        | (refine wpList_load_w rfl 28 (.tmp 16) rfl N16 0 rfl (vB o) _ r16.all Tryd.underlying28 rfl Ho.info ?_; simp only [Act.put, List.setIfInBounds_toArray, List.set_cons_zero, List.set_cons_succ])
        | (refine wpList_load_w rfl 28 (.tmp 13) rfl N13 0 rfl (vB o) _ r13.all Tryd.underlying28 rfl Ho.info ?_; simp only [Act.put, List.setIfInBounds_toArray, List.set_cons_zero, List.set_cons_succ])
        | (refine wpList_load_w rfl 28 (.tmp 17) rfl N17 0 rfl (vB z) _ r17.all Tryd.underlying28 rfl Hz.info ?_; simp only [Act.put, List.setIfInBounds_toArray, List.set_cons_zero, List.set_cons_succ])
        | (refine wpList_load_w rfl 28 (.tmp 10) rfl N10 0 rfl (vB z) _ r10.all Tryd.underlying28 rfl Hz.info ?_; simp only [Act.put, List.setIfInBounds_toArray, List.set_cons_zero, List.set_cons_succ])
        | (refine wpList_load_w rfl 28 (.tmp 18) rfl N18 0 rfl (vB p) _ r18.all Tryd.underlying28 rfl Hp.info ?_; simp only [Act.put, List.setIfInBounds_toArray, List.set_cons_zero, List.set_cons_succ])
        | (refine wpList_load_w rfl 28 (.tmp 19) rfl N19 0 rfl (vB t) _ r19.all Tryd.underlying28 rfl Ht.info ?_; simp only [Act.put, List.setIfInBounds_toArray, List.set_cons_zero, List.set_cons_succ])
        | (refine wpList_load_w rfl 28 (.tmp 12) rfl M12 0 rfl (vB t) _ r12.all Tryd.underlying28 rfl Ht.info ?_; simp only [Act.put, List.setIfInBounds_toArray, List.set_cons_zero, List.set_cons_succ])
        | (refine wpList_eql_same rfl (.tmp 64) (.tmp 65) 28 rfl x Hx rfl rfl ?_; simp only [Act.put, List.setIfInBounds_toArray, List.set_cons_zero, List.set_cons_succ])
        | (refine wpList_eql_same rfl (.tmp 69) (.tmp 70) 28 rfl p Hp rfl rfl ?_; simp only [Act.put, List.setIfInBounds_toArray, List.set_cons_zero, List.set_cons_succ])
        | (refine wpList_eql_same rfl (.tmp 74) (.tmp 75) 28 rfl o Ho rfl rfl ?_; simp only [Act.put, List.setIfInBounds_toArray, List.set_cons_zero, List.set_cons_succ])
        | (refine wpList_eql_same rfl (.tmp 79) (.tmp 80) 28 rfl z Hz rfl rfl ?_; simp only [Act.put, List.setIfInBounds_toArray, List.set_cons_zero, List.set_cons_succ])
        | (refine wpList_eql_same rfl (.tmp 84) (.tmp 85) 28 rfl p Hp rfl rfl ?_; simp only [Act.put, List.setIfInBounds_toArray, List.set_cons_zero, List.set_cons_succ])
        | (refine wpList_eql_same rfl (.tmp 89) (.tmp 90) 28 rfl t Ht rfl rfl ?_; simp only [Act.put, List.setIfInBounds_toArray, List.set_cons_zero, List.set_cons_succ]))
      go_ret
      exact ⟨rfl, hb⟩

end Go.Proofs.YtnogjhbohljjnabDoor
