/-
  The law's refused.
-/
import Derived.Test.YtmkmdbpibpbcjabXFpL
import Derived.Test.YtmkmdbpibpbcjabXShut
import Derived.Test.YtmkmdbpibpbcjabXLaysK
import Derived.Test.YtmkmdbpibpbcjabXApart2
namespace Go.Proofs.Ytmkmdbpibpbcjab
open Go Go.RowKit
open Sha

set_option maxRecDepth 100000 in
set_option maxHeartbeats 8000000 in
theorem refused_any (P : Nat) (v : Value) (f : Int) (hf : ¬ f = 0) (K N : Int) (u : Value) (m0 m1 m2 m3 : Nat) (u2 : Value) (w : World) (h : Rs w P v 0 f) :
    Calls Try.prog 17 #[.pointer (some ⟨P, 0, none⟩), .agg (sc K N u m0 m1 m2 m3 u2).toArray] w fun e w' => e = .returned (.bool true) ∧ Below w.heap.size w w' := by
  obtain ⟨a, ha⟩ : ∃ a : Int, a = 0 := ⟨0, rfl⟩
  rw [← ha] at h
  have b1 : Below w.heap.size w (w.alloc (Obj.cells (sc K N u m0 m1 m2 m3 u2).toArray 28)) := (Below.refl _ _).alloc (Nat.le_refl _) _
  have b2 : Below w.heap.size w ((w.alloc (Obj.cells (sc K N u m0 m1 m2 m3 u2).toArray 28)).alloc (Obj.cells q4z.toArray 25)) := b1.alloc b1.size _
  have b3 : Below w.heap.size w (((w.alloc (Obj.cells (sc K N u m0 m1 m2 m3 u2).toArray 28)).alloc (Obj.cells q4z.toArray 25)).alloc (Obj.cells z32.toArray 64)) := b2.alloc b2.size _
  have hb : Below w.heap.size w ((((w.alloc (Obj.cells (sc K N u m0 m1 m2 m3 u2).toArray 28)).alloc (Obj.cells q4z.toArray 25)).alloc (Obj.cells z32.toArray 64)).alloc (Obj.cells z20.toArray 67)) := b3.alloc b3.size _
  have hR := Row.below h hb h.lt
  have r3 : Row ((((w.alloc (Obj.cells (sc K N u m0 m1 m2 m3 u2).toArray 28)).alloc (Obj.cells q4z.toArray 25)).alloc (Obj.cells z32.toArray 64)).alloc (Obj.cells z20.toArray 67)) w.heap.size (sc K N u m0 m1 m2 m3 u2) 28 := (((Row.new' rfl rfl).alloc _).alloc _).alloc _
  have r5 : Row ((((w.alloc (Obj.cells (sc K N u m0 m1 m2 m3 u2).toArray 28)).alloc (Obj.cells q4z.toArray 25)).alloc (Obj.cells z32.toArray 64)).alloc (Obj.cells z20.toArray 67)) (w.heap.size + 1) q4z 25 := ((Row.new' (by simp) rfl).alloc _).alloc _
  have r6 : Row ((((w.alloc (Obj.cells (sc K N u m0 m1 m2 m3 u2).toArray 28)).alloc (Obj.cells q4z.toArray 25)).alloc (Obj.cells z32.toArray 64)).alloc (Obj.cells z20.toArray 67)) (w.heap.size + 2) z32 64 := (Row.new' (by simp) rfl).alloc _
  have r7 : Row ((((w.alloc (Obj.cells (sc K N u m0 m1 m2 m3 u2).toArray 28)).alloc (Obj.cells q4z.toArray 25)).alloc (Obj.cells z32.toArray 64)).alloc (Obj.cells z20.toArray 67)) (w.heap.size + 3) z20 67 := Row.new' (by simp) rfl
  have HE : Hid _ := err_ok P v a f _ hR
  have HF : Hid (¬ f = 0) := hf
  have HA : Hid (a = 0) := ha
  clear h b1 b2 b3 hf ha
  go_enter Try.func17, Try.ntmps17
  go_wp2_with fail
  refine Calls.mono HE.out ?_
  rintro e w2 ⟨rfl, rfl⟩
  clear HE
  generalize ((((w.alloc (Obj.cells (sc K N u m0 m1 m2 m3 u2).toArray 28)).alloc (Obj.cells q4z.toArray 25)).alloc (Obj.cells z32.toArray 64)).alloc (Obj.cells z20.toArray 67)) = X at *
  go_wp2_with fail
  refine wp_named fun a0 ha0 => ?_
  have hsz : a0.tmps.size = 72 := by rw [ha0]; rfl
  have zs0 : a0.eval (.tmp 0) = .pointer (some ⟨P, 0, none⟩) := by rw [ha0]; rfl
  have zs3 : a0.eval (.tmp 3) = .pointer (some ⟨w.heap.size, 0, none⟩) := by rw [ha0]; rfl
  have zs5 : a0.eval (.tmp 5) = .pointer (some ⟨w.heap.size + 1, 0, none⟩) := by rw [ha0]; rfl
  obtain ⟨D, hD⟩ : ∃ D : List (Tmp × SP), D = [(12, SP.is (.pointer (some ⟨P, 0, none⟩))), (13, SP.is (.int .u8 0)), (14, SP.is (.bool true)), (15, SP.is (.bool true)), (16, SP.is (.pointer (some ⟨P, 0, none⟩))), (17, SP.is (.bool false)), (18, SP.is (.bool true)), (19, SP.is (.bool true)), (20, SP.is (.bool true)), (21, SP.is (.pointer (some ⟨P, 0, none⟩))), (22, SP.is (.int .i64 0)), (23, SP.is (.bool true)), (24, SP.is (.bool true)), (25, SP.is (.bool true)), (26, SP.is (.pointer (some ⟨P, 0, none⟩))), (27, SP.is (.pointer (some ⟨w.heap.size, 1, none⟩))), (28, SP.is (.int .i64 N)), (29, SP.is (.slice none 0 0)), (30, SP.is (.int .i64 0)), (31, SP.is (.bool true)), (32, SP.is (.bool true)), (33, SP.is (.bool true)), (34, SP.is (.pointer (some ⟨P, 0, none⟩))), (35, SP.is (.agg q4z.toArray)), (36, SP.is (.agg q4z.toArray)), (37, SP.is (.bool true)), (38, SP.is (.bool true)), (9, SP.is (.bool true))] := ⟨_, rfl⟩
  refine wp_region_down (by kernel_rfl) (fun listed ac W => listed.size = 28 ∧ Fp D a0 listed ac W ∧ Below w.heap.size w W ∧ Row W P ([v, .int .i64 a, .int .i64 f]) 70 ∧ Row W w.heap.size ((sc K N u m0 m1 m2 m3 u2)) 28 ∧ Row W ((w.heap.size + 1)) q4z 25 ∧ Row W ((w.heap.size + 2)) z32 64 ∧ Row W ((w.heap.size + 3)) z20 67) ?_ ?_ ?_
  · exact ⟨by simp, Fp.start D a0 _ _, Below.drew hb, Row.drew hR, Row.drew r3, Row.drew r5, Row.drew r6, Row.drew r7⟩
  · clear ha0 hb hR r3 r5 r6 r7 
    intro listed ac W k hI hdn hk
    obtain ⟨hl, hF, hb, hR, r3, r5, r6, r7⟩ := hI
    have hk1 : k < 28 := List.mem_range.1 (List.mem_filter.1 hk).1
    have hl2 : ∀ j, (listed.setIfInBounds j true).size = 28 := fun j => by rw [Array.size_setIfInBounds]; exact hl
    rcases (show k = 0 ∨ k = 1 ∨ k = 2 ∨ k = 3 ∨ k = 4 ∨ k = 5 ∨ k = 6 ∨ k = 7 ∨ k = 8 ∨ k = 9 ∨ k = 10 ∨ k = 11 ∨ k = 12 ∨ k = 13 ∨ k = 14 ∨ k = 15 ∨ k = 16 ∨ k = 17 ∨ k = 18 ∨ k = 19 ∨ k = 20 ∨ k = 21 ∨ k = 22 ∨ k = 23 ∨ k = 24 ∨ k = 25 ∨ k = 26 ∨ k = 27 by omega) with rfl | rfl | rfl | rfl | rfl | rfl | rfl | rfl | rfl | rfl | rfl | rfl | rfl | rfl | rfl | rfl | rfl | rfl | rfl | rfl | rfl | rfl | rfl | rfl | rfl | rfl | rfl | rfl
    · have hk3 := hk
      exact wpOp_plain rfl rfl (wp_move_v (ac.eval (.tmp 0)) rfl rfl ⟨hl2 0, (hF.put 0 12 (SP.is (.pointer (some ⟨P, 0, none⟩))) (ac.eval (.tmp 0)) (by rw [hD]; rfl) (((hF.keep 0 (by rw [hD]; rfl)).trans zs0)) (by rw [hD]; rfl) (by rw [hsz]; decide) (by rw [hl]; decide)), hb, hR, r3, r5, r6, r7⟩)
    · have hk3 := hk
      have e0 := (hF.done 0 (12, SP.is (.pointer (some ⟨P, 0, none⟩))) (by rw [hD]; rfl) (ready_dep hk 0 (by kernel_rfl)))
      refine wpOp_plain rfl rfl (wp_fcall_v 38 #[.pointer (some ⟨P, 0, none⟩)] rfl rfl (by show [ac.eval (.tmp 12)] = _; rw [show ac.eval (.tmp 12) = _ from e0]) (by go_simp) ((none_byte P v a f HF.out W hR).mono ?_))
      rintro e W2 ⟨rfl, hB⟩
      exact ⟨_, rfl, hl2 1, ((hF.world hB).put 1 13 (SP.is (.int .u8 0)) (.int .u8 0) (by rw [hD]; rfl) rfl (by rw [hD]; rfl) (by rw [hsz]; decide) (by rw [hl]; decide)), hb.trans (hB.mono hb.size), Row.below hR hB (Row.lt hR), Row.below r3 hB (Row.lt r3), Row.below r5 hB (Row.lt r5), Row.below r6 hB (Row.lt r6), Row.below r7 hB (Row.lt r7)⟩
    · have hk3 := hk
      have ea := (hF.done 1 (13, SP.is (.int .u8 0)) (by rw [hD]; rfl) (ready_dep hk 1 (by kernel_rfl)))
      exact wpOp_plain rfl rfl (wp_eqint_v rfl ea rfl rfl ⟨hl2 2, (hF.put 2 14 (SP.is (.bool true)) (.bool true) (by rw [hD]; rfl) rfl (by rw [hD]; rfl) (by rw [hsz]; decide) (by rw [hl]; decide)), hb, hR, r3, r5, r6, r7⟩)
    · have hk3 := hk
      exact wpOp_plain rfl rfl (wp_move_v (ac.eval (.tmp 14)) rfl rfl ⟨hl2 3, (hF.put 3 15 (SP.is (.bool true)) (ac.eval (.tmp 14)) (by rw [hD]; rfl) ((hF.done 2 (14, SP.is (.bool true)) (by rw [hD]; rfl) (ready_dep hk 2 (by kernel_rfl)))) (by rw [hD]; rfl) (by rw [hsz]; decide) (by rw [hl]; decide)), hb, hR, r3, r5, r6, r7⟩)
    · have hk3 := hk
      exact wpOp_wanted rfl (wanted_g (g := 3) (b := true) rfl rfl (hF.done 3 (15, SP.is (.bool true)) (by rw [hD]; rfl) (ready_dep hk 3 (by kernel_rfl))) (by rw [hF.size, hsz]; decide)) (wp_move_v (ac.eval (.tmp 0)) rfl rfl ⟨hl2 4, (hF.put 4 16 (SP.is (.pointer (some ⟨P, 0, none⟩))) (ac.eval (.tmp 0)) (by rw [hD]; rfl) (((hF.keep 0 (by rw [hD]; rfl)).trans zs0)) (by rw [hD]; rfl) (by rw [hsz]; decide) (by rw [hl]; decide)), hb, hR, r3, r5, r6, r7⟩)
    · have hk3 := hk
      have e0 := (hF.done 4 (16, SP.is (.pointer (some ⟨P, 0, none⟩))) (by rw [hD]; rfl) (ready_dep hk 4 (by kernel_rfl)))
      refine wpOp_wanted rfl (wanted_g (g := 3) (b := true) rfl rfl (hF.done 3 (15, SP.is (.bool true)) (by rw [hD]; rfl) (ready_dep hk 3 (by kernel_rfl))) (by rw [hF.size, hsz]; decide)) (wp_fcall_v 39 #[.pointer (some ⟨P, 0, none⟩)] rfl rfl (by show [ac.eval (.tmp 16)] = _; rw [show ac.eval (.tmp 16) = _ from e0]) (by go_simp) ((none_bool P v a f HF.out W hR).mono ?_))
      rintro e W2 ⟨rfl, hB⟩
      exact ⟨_, rfl, hl2 5, ((hF.world hB).put 5 17 (SP.is (.bool false)) (.bool false) (by rw [hD]; rfl) rfl (by rw [hD]; rfl) (by rw [hsz]; decide) (by rw [hl]; decide)), hb.trans (hB.mono hb.size), Row.below hR hB (Row.lt hR), Row.below r3 hB (Row.lt r3), Row.below r5 hB (Row.lt r5), Row.below r6 hB (Row.lt r6), Row.below r7 hB (Row.lt r7)⟩
    · have hk3 := hk
      have ea := (hF.done 5 (17, SP.is (.bool false)) (by rw [hD]; rfl) (ready_dep hk 5 (by kernel_rfl)))
      exact wpOp_wanted rfl (wanted_g (g := 3) (b := true) rfl rfl (hF.done 3 (15, SP.is (.bool true)) (by rw [hD]; rfl) (ready_dep hk 3 (by kernel_rfl))) (by rw [hF.size, hsz]; decide)) (wp_not_v (B := false) rfl ea ⟨hl2 6, (hF.put 6 18 (SP.is (.bool true)) (.bool true) (by rw [hD]; rfl) rfl (by rw [hD]; rfl) (by rw [hsz]; decide) (by rw [hl]; decide)), hb, hR, r3, r5, r6, r7⟩)
    · have hk3 := hk
      have ea := (hF.done 3 (15, SP.is (.bool true)) (by rw [hD]; rfl) (ready_dep hk 3 (by kernel_rfl)))
      have eb := (hF.done 6 (18, SP.is (.bool true)) (by rw [hD]; rfl) (ready_dep hk 6 (by kernel_rfl)))
      exact wpOp_plain rfl rfl (wp_pick_v (.bool true) rfl ea eb ⟨hl2 7, (hF.put 7 19 (SP.is (.bool true)) (.bool true) (by rw [hD]; rfl) rfl (by rw [hD]; rfl) (by rw [hsz]; decide) (by rw [hl]; decide)), hb, hR, r3, r5, r6, r7⟩)
    · have hk3 := hk
      exact wpOp_plain rfl rfl (wp_move_v (ac.eval (.tmp 19)) rfl rfl ⟨hl2 8, (hF.put 8 20 (SP.is (.bool true)) (ac.eval (.tmp 19)) (by rw [hD]; rfl) ((hF.done 7 (19, SP.is (.bool true)) (by rw [hD]; rfl) (ready_dep hk 7 (by kernel_rfl)))) (by rw [hD]; rfl) (by rw [hsz]; decide) (by rw [hl]; decide)), hb, hR, r3, r5, r6, r7⟩)
    · have hk3 := hk
      exact wpOp_wanted rfl (wanted_g (g := 8) (b := true) rfl rfl (hF.done 8 (20, SP.is (.bool true)) (by rw [hD]; rfl) (ready_dep hk 8 (by kernel_rfl))) (by rw [hF.size, hsz]; decide)) (wp_move_v (ac.eval (.tmp 0)) rfl rfl ⟨hl2 9, (hF.put 9 21 (SP.is (.pointer (some ⟨P, 0, none⟩))) (ac.eval (.tmp 0)) (by rw [hD]; rfl) (((hF.keep 0 (by rw [hD]; rfl)).trans zs0)) (by rw [hD]; rfl) (by rw [hsz]; decide) (by rw [hl]; decide)), hb, hR, r3, r5, r6, r7⟩)
    · have hk3 := hk
      have e0 := (hF.done 9 (21, SP.is (.pointer (some ⟨P, 0, none⟩))) (by rw [hD]; rfl) (ready_dep hk 9 (by kernel_rfl)))
      refine wpOp_wanted rfl (wanted_g (g := 8) (b := true) rfl rfl (hF.done 8 (20, SP.is (.bool true)) (by rw [hD]; rfl) (ready_dep hk 8 (by kernel_rfl))) (by rw [hF.size, hsz]; decide)) (wp_fcall_v 25 #[.pointer (some ⟨P, 0, none⟩)] rfl rfl (by show [ac.eval (.tmp 21)] = _; rw [show ac.eval (.tmp 21) = _ from e0]) (by go_simp) ((none_int P v a f HF.out W hR).mono ?_))
      rintro e W2 ⟨rfl, hB⟩
      exact ⟨_, rfl, hl2 10, ((hF.world hB).put 10 22 (SP.is (.int .i64 0)) (.int .i64 0) (by rw [hD]; rfl) rfl (by rw [hD]; rfl) (by rw [hsz]; decide) (by rw [hl]; decide)), hb.trans (hB.mono hb.size), Row.below hR hB (Row.lt hR), Row.below r3 hB (Row.lt r3), Row.below r5 hB (Row.lt r5), Row.below r6 hB (Row.lt r6), Row.below r7 hB (Row.lt r7)⟩
    · have hk3 := hk
      have ea := (hF.done 10 (22, SP.is (.int .i64 0)) (by rw [hD]; rfl) (ready_dep hk 10 (by kernel_rfl)))
      exact wpOp_wanted rfl (wanted_g (g := 8) (b := true) rfl rfl (hF.done 8 (20, SP.is (.bool true)) (by rw [hD]; rfl) (ready_dep hk 8 (by kernel_rfl))) (by rw [hF.size, hsz]; decide)) (wp_eqint_v rfl ea rfl rfl ⟨hl2 11, (hF.put 11 23 (SP.is (.bool true)) (.bool true) (by rw [hD]; rfl) rfl (by rw [hD]; rfl) (by rw [hsz]; decide) (by rw [hl]; decide)), hb, hR, r3, r5, r6, r7⟩)
    · have hk3 := hk
      have ea := (hF.done 8 (20, SP.is (.bool true)) (by rw [hD]; rfl) (ready_dep hk 8 (by kernel_rfl)))
      have eb := (hF.done 11 (23, SP.is (.bool true)) (by rw [hD]; rfl) (ready_dep hk 11 (by kernel_rfl)))
      exact wpOp_plain rfl rfl (wp_pick_v (.bool true) rfl ea eb ⟨hl2 12, (hF.put 12 24 (SP.is (.bool true)) (.bool true) (by rw [hD]; rfl) rfl (by rw [hD]; rfl) (by rw [hsz]; decide) (by rw [hl]; decide)), hb, hR, r3, r5, r6, r7⟩)
    · have hk3 := hk
      exact wpOp_plain rfl rfl (wp_move_v (ac.eval (.tmp 24)) rfl rfl ⟨hl2 13, (hF.put 13 25 (SP.is (.bool true)) (ac.eval (.tmp 24)) (by rw [hD]; rfl) ((hF.done 12 (24, SP.is (.bool true)) (by rw [hD]; rfl) (ready_dep hk 12 (by kernel_rfl)))) (by rw [hD]; rfl) (by rw [hsz]; decide) (by rw [hl]; decide)), hb, hR, r3, r5, r6, r7⟩)
    · have hk3 := hk
      exact wpOp_wanted rfl (wanted_g (g := 13) (b := true) rfl rfl (hF.done 13 (25, SP.is (.bool true)) (by rw [hD]; rfl) (ready_dep hk 13 (by kernel_rfl))) (by rw [hF.size, hsz]; decide)) (wp_move_v (ac.eval (.tmp 0)) rfl rfl ⟨hl2 14, (hF.put 14 26 (SP.is (.pointer (some ⟨P, 0, none⟩))) (ac.eval (.tmp 0)) (by rw [hD]; rfl) (((hF.keep 0 (by rw [hD]; rfl)).trans zs0)) (by rw [hD]; rfl) (by rw [hsz]; decide) (by rw [hl]; decide)), hb, hR, r3, r5, r6, r7⟩)
    · have hk3 := hk
      have ea := ((hF.keep 3 (by rw [hD]; rfl)).trans zs3)
      exact wpOp_wanted rfl (wanted_g (g := 13) (b := true) rfl rfl (hF.done 13 (25, SP.is (.bool true)) (by rw [hD]; rfl) (ready_dep hk 13 (by kernel_rfl))) (by rw [hF.size, hsz]; decide)) (wp_sf1 w.heap.size rfl ea ⟨hl2 15, (hF.put 15 27 (SP.is (.pointer (some ⟨w.heap.size, 1, none⟩))) (.pointer (some ⟨w.heap.size, 1, none⟩)) (by rw [hD]; rfl) rfl (by rw [hD]; rfl) (by rw [hsz]; decide) (by rw [hl]; decide)), hb, hR, r3, r5, r6, r7⟩)
    · have hk3 := hk
      have ea := (hF.done 15 (27, SP.is (.pointer (some ⟨w.heap.size, 1, none⟩))) (by rw [hD]; rfl) (ready_dep hk 15 (by kernel_rfl)))
      exact wpOp_wanted rfl (wanted_g (g := 13) (b := true) rfl rfl (hF.done 13 (25, SP.is (.bool true)) (by rw [hD]; rfl) (ready_dep hk 13 (by kernel_rfl))) (by rw [hF.size, hsz]; decide)) (wp_load_1 w.heap.size 1 (.int .i64 N) rfl ea (run_load_i W w.heap.size 1 _ (r3.cell 1 _ rfl)) ⟨hl2 16, (hF.put 16 28 (SP.is (.int .i64 N)) (.int .i64 N) (by rw [hD]; rfl) rfl (by rw [hD]; rfl) (by rw [hsz]; decide) (by rw [hl]; decide)), hb, hR, r3, r5, r6, r7⟩)
    · have hk3 := hk
      have e0 := (hF.done 14 (26, SP.is (.pointer (some ⟨P, 0, none⟩))) (by rw [hD]; rfl) (ready_dep hk 14 (by kernel_rfl)))
      have e1 := (hF.done 16 (28, SP.is (.int .i64 N)) (by rw [hD]; rfl) (ready_dep hk 16 (by kernel_rfl)))
      refine wpOp_wanted rfl (wanted_g (g := 13) (b := true) rfl rfl (hF.done 13 (25, SP.is (.bool true)) (by rw [hD]; rfl) (ready_dep hk 13 (by kernel_rfl))) (by rw [hF.size, hsz]; decide)) (wp_fcall_v 40 #[.pointer (some ⟨P, 0, none⟩), .int .i64 N] rfl rfl (by show [ac.eval (.tmp 26), ac.eval (.tmp 28)] = _; rw [show ac.eval (.tmp 26) = _ from e0, show ac.eval (.tmp 28) = _ from e1]) (by go_simp) ((none_bs P v a f HF.out N W hR).mono ?_))
      rintro e W2 ⟨rfl, hB⟩
      exact ⟨_, rfl, hl2 17, ((hF.world hB).put 17 29 (SP.is (.slice none 0 0)) (.slice none 0 0) (by rw [hD]; rfl) rfl (by rw [hD]; rfl) (by rw [hsz]; decide) (by rw [hl]; decide)), hb.trans (hB.mono hb.size), Row.below hR hB (Row.lt hR), Row.below r3 hB (Row.lt r3), Row.below r5 hB (Row.lt r5), Row.below r6 hB (Row.lt r6), Row.below r7 hB (Row.lt r7)⟩
    · have hk3 := hk
      have ea := (hF.done 17 (29, SP.is (.slice none 0 0)) (by rw [hD]; rfl) (ready_dep hk 17 (by kernel_rfl)))
      exact wpOp_wanted rfl (wanted_g (g := 13) (b := true) rfl rfl (hF.done 13 (25, SP.is (.bool true)) (by rw [hD]; rfl) (ready_dep hk 13 (by kernel_rfl))) (by rw [hF.size, hsz]; decide)) (wp_len_s 22 5 none 0 0 rfl Try.underlying22 ea ⟨hl2 18, (hF.put 18 30 (SP.is (.int .i64 0)) (.int .i64 0) (by rw [hD]; rfl) rfl (by rw [hD]; rfl) (by rw [hsz]; decide) (by rw [hl]; decide)), hb, hR, r3, r5, r6, r7⟩)
    · have hk3 := hk
      have ea := (hF.done 18 (30, SP.is (.int .i64 0)) (by rw [hD]; rfl) (ready_dep hk 18 (by kernel_rfl)))
      exact wpOp_wanted rfl (wanted_g (g := 13) (b := true) rfl rfl (hF.done 13 (25, SP.is (.bool true)) (by rw [hD]; rfl) (ready_dep hk 13 (by kernel_rfl))) (by rw [hF.size, hsz]; decide)) (wp_eqint_v rfl ea rfl rfl ⟨hl2 19, (hF.put 19 31 (SP.is (.bool true)) (.bool true) (by rw [hD]; rfl) rfl (by rw [hD]; rfl) (by rw [hsz]; decide) (by rw [hl]; decide)), hb, hR, r3, r5, r6, r7⟩)
    · have hk3 := hk
      have ea := (hF.done 13 (25, SP.is (.bool true)) (by rw [hD]; rfl) (ready_dep hk 13 (by kernel_rfl)))
      have eb := (hF.done 19 (31, SP.is (.bool true)) (by rw [hD]; rfl) (ready_dep hk 19 (by kernel_rfl)))
      exact wpOp_plain rfl rfl (wp_pick_v (.bool true) rfl ea eb ⟨hl2 20, (hF.put 20 32 (SP.is (.bool true)) (.bool true) (by rw [hD]; rfl) rfl (by rw [hD]; rfl) (by rw [hsz]; decide) (by rw [hl]; decide)), hb, hR, r3, r5, r6, r7⟩)
    · have hk3 := hk
      exact wpOp_plain rfl rfl (wp_move_v (ac.eval (.tmp 32)) rfl rfl ⟨hl2 21, (hF.put 21 33 (SP.is (.bool true)) (ac.eval (.tmp 32)) (by rw [hD]; rfl) ((hF.done 20 (32, SP.is (.bool true)) (by rw [hD]; rfl) (ready_dep hk 20 (by kernel_rfl)))) (by rw [hD]; rfl) (by rw [hsz]; decide) (by rw [hl]; decide)), hb, hR, r3, r5, r6, r7⟩)
    · have hk3 := hk
      exact wpOp_wanted rfl (wanted_g (g := 21) (b := true) rfl rfl (hF.done 21 (33, SP.is (.bool true)) (by rw [hD]; rfl) (ready_dep hk 21 (by kernel_rfl))) (by rw [hF.size, hsz]; decide)) (wp_move_v (ac.eval (.tmp 0)) rfl rfl ⟨hl2 22, (hF.put 22 34 (SP.is (.pointer (some ⟨P, 0, none⟩))) (ac.eval (.tmp 0)) (by rw [hD]; rfl) (((hF.keep 0 (by rw [hD]; rfl)).trans zs0)) (by rw [hD]; rfl) (by rw [hsz]; decide) (by rw [hl]; decide)), hb, hR, r3, r5, r6, r7⟩)
    · have hk3 := hk
      have e0 := (hF.done 22 (34, SP.is (.pointer (some ⟨P, 0, none⟩))) (by rw [hD]; rfl) (ready_dep hk 22 (by kernel_rfl)))
      refine wpOp_wanted rfl (wanted_g (g := 21) (b := true) rfl rfl (hF.done 21 (33, SP.is (.bool true)) (by rw [hD]; rfl) (ready_dep hk 21 (by kernel_rfl))) (by rw [hF.size, hsz]; decide)) (wp_fcall_v 41 #[.pointer (some ⟨P, 0, none⟩)] rfl rfl (by show [ac.eval (.tmp 34)] = _; rw [show ac.eval (.tmp 34) = _ from e0]) (by go_simp) ((none_wide P v a f HF.out W hR).mono ?_))
      rintro e W2 ⟨rfl, hB⟩
      exact ⟨_, rfl, hl2 23, ((hF.world hB).put 23 35 (SP.is (.agg q4z.toArray)) (.agg q4z.toArray) (by rw [hD]; rfl) rfl (by rw [hD]; rfl) (by rw [hsz]; decide) (by rw [hl]; decide)), hb.trans (hB.mono hb.size), Row.below hR hB (Row.lt hR), Row.below r3 hB (Row.lt r3), Row.below r5 hB (Row.lt r5), Row.below r6 hB (Row.lt r6), Row.below r7 hB (Row.lt r7)⟩
    · have hk3 := hk
      exact wpOp_wanted rfl (wanted_g (g := 21) (b := true) rfl rfl (hF.done 21 (33, SP.is (.bool true)) (by rw [hD]; rfl) (ready_dep hk 21 (by kernel_rfl))) (by rw [hF.size, hsz]; decide)) (wp_load_mid 25 (.tmp 5) rfl ((w.heap.size + 1)) 0 ((hF.keep 5 (by rw [hD]; rfl)).trans zs5) q4z _ r5.all Try.underlying25 rfl info_q ⟨hl2 24, (hF.put 24 36 (SP.is (.agg q4z.toArray)) (.agg q4z.toArray) (by rw [hD]; rfl) rfl (by rw [hD]; rfl) (by rw [hsz]; decide) (by rw [hl]; decide)), hb, hR, r3, r5, r6, r7⟩)
    · have hk3 := hk
      have ea := (hF.done 23 (35, SP.is (.agg q4z.toArray)) (by rw [hD]; rfl) (ready_dep hk 23 (by kernel_rfl)))
      have eb := (hF.done 24 (36, SP.is (.agg q4z.toArray)) (by rw [hD]; rfl) (ready_dep hk 24 (by kernel_rfl)))
      exact wpOp_wanted rfl (wanted_g (g := 21) (b := true) rfl rfl (hF.done 21 (33, SP.is (.bool true)) (by rw [hD]; rfl) (ready_dep hk 21 (by kernel_rfl))) (by rw [hF.size, hsz]; decide)) (wp_eql_q (.tmp 35) (.tmp 36) _ rfl [0, 0, 0, 0] [0, 0, 0, 0] rfl rfl ea eb true rfl ⟨hl2 25, (hF.put 25 37 (SP.is (.bool true)) (.bool true) (by rw [hD]; rfl) rfl (by rw [hD]; rfl) (by rw [hsz]; decide) (by rw [hl]; decide)), hb, hR, r3, r5, r6, r7⟩)
    · have hk3 := hk
      have ea := (hF.done 21 (33, SP.is (.bool true)) (by rw [hD]; rfl) (ready_dep hk 21 (by kernel_rfl)))
      have eb := (hF.done 25 (37, SP.is (.bool true)) (by rw [hD]; rfl) (ready_dep hk 25 (by kernel_rfl)))
      exact wpOp_plain rfl rfl (wp_pick_v (.bool true) rfl ea eb ⟨hl2 26, (hF.put 26 38 (SP.is (.bool true)) (.bool true) (by rw [hD]; rfl) rfl (by rw [hD]; rfl) (by rw [hsz]; decide) (by rw [hl]; decide)), hb, hR, r3, r5, r6, r7⟩)
    · have hk3 := hk
      exact wpOp_plain rfl rfl (wp_assign_v (ac.eval (.tmp 38)) rfl rfl ⟨hl2 27, (hF.put 27 9 (SP.is (.bool true)) (ac.eval (.tmp 38)) (by rw [hD]; rfl) ((hF.done 26 (38, SP.is (.bool true)) (by rw [hD]; rfl) (ready_dep hk 26 (by kernel_rfl)))) (by rw [hD]; rfl) (by rw [hsz]; decide) (by rw [hl]; decide)), hb, hR, r3, r5, r6, r7⟩)
  · clear hb hR r3 r5 r6 r7 
    intro listed ac W hI hr
    obtain ⟨hl, hF, hb, hR, r3, r5, r6, r7⟩ := hI
    have hall := all_listed (by kernel_rfl) hl hr
    have h12 : ac.eval (.tmp 12) = .pointer (some ⟨P, 0, none⟩) := hF.done 0 (12, SP.is (.pointer (some ⟨P, 0, none⟩))) (by rw [hD]; rfl) (hall 0 (by decide))
    have h13 : ac.eval (.tmp 13) = .int .u8 0 := hF.done 1 (13, SP.is (.int .u8 0)) (by rw [hD]; rfl) (hall 1 (by decide))
    have h14 : ac.eval (.tmp 14) = .bool true := hF.done 2 (14, SP.is (.bool true)) (by rw [hD]; rfl) (hall 2 (by decide))
    have h15 : ac.eval (.tmp 15) = .bool true := hF.done 3 (15, SP.is (.bool true)) (by rw [hD]; rfl) (hall 3 (by decide))
    have h16 : ac.eval (.tmp 16) = .pointer (some ⟨P, 0, none⟩) := hF.done 4 (16, SP.is (.pointer (some ⟨P, 0, none⟩))) (by rw [hD]; rfl) (hall 4 (by decide))
    have h17 : ac.eval (.tmp 17) = .bool false := hF.done 5 (17, SP.is (.bool false)) (by rw [hD]; rfl) (hall 5 (by decide))
    have h18 : ac.eval (.tmp 18) = .bool true := hF.done 6 (18, SP.is (.bool true)) (by rw [hD]; rfl) (hall 6 (by decide))
    have h19 : ac.eval (.tmp 19) = .bool true := hF.done 7 (19, SP.is (.bool true)) (by rw [hD]; rfl) (hall 7 (by decide))
    have h20 : ac.eval (.tmp 20) = .bool true := hF.done 8 (20, SP.is (.bool true)) (by rw [hD]; rfl) (hall 8 (by decide))
    have h21 : ac.eval (.tmp 21) = .pointer (some ⟨P, 0, none⟩) := hF.done 9 (21, SP.is (.pointer (some ⟨P, 0, none⟩))) (by rw [hD]; rfl) (hall 9 (by decide))
    have h22 : ac.eval (.tmp 22) = .int .i64 0 := hF.done 10 (22, SP.is (.int .i64 0)) (by rw [hD]; rfl) (hall 10 (by decide))
    have h23 : ac.eval (.tmp 23) = .bool true := hF.done 11 (23, SP.is (.bool true)) (by rw [hD]; rfl) (hall 11 (by decide))
    have h24 : ac.eval (.tmp 24) = .bool true := hF.done 12 (24, SP.is (.bool true)) (by rw [hD]; rfl) (hall 12 (by decide))
    have h25 : ac.eval (.tmp 25) = .bool true := hF.done 13 (25, SP.is (.bool true)) (by rw [hD]; rfl) (hall 13 (by decide))
    have h26 : ac.eval (.tmp 26) = .pointer (some ⟨P, 0, none⟩) := hF.done 14 (26, SP.is (.pointer (some ⟨P, 0, none⟩))) (by rw [hD]; rfl) (hall 14 (by decide))
    have h27 : ac.eval (.tmp 27) = .pointer (some ⟨w.heap.size, 1, none⟩) := hF.done 15 (27, SP.is (.pointer (some ⟨w.heap.size, 1, none⟩))) (by rw [hD]; rfl) (hall 15 (by decide))
    have h28 : ac.eval (.tmp 28) = .int .i64 N := hF.done 16 (28, SP.is (.int .i64 N)) (by rw [hD]; rfl) (hall 16 (by decide))
    have h29 : ac.eval (.tmp 29) = .slice none 0 0 := hF.done 17 (29, SP.is (.slice none 0 0)) (by rw [hD]; rfl) (hall 17 (by decide))
    have h30 : ac.eval (.tmp 30) = .int .i64 0 := hF.done 18 (30, SP.is (.int .i64 0)) (by rw [hD]; rfl) (hall 18 (by decide))
    have h31 : ac.eval (.tmp 31) = .bool true := hF.done 19 (31, SP.is (.bool true)) (by rw [hD]; rfl) (hall 19 (by decide))
    have h32 : ac.eval (.tmp 32) = .bool true := hF.done 20 (32, SP.is (.bool true)) (by rw [hD]; rfl) (hall 20 (by decide))
    have h33 : ac.eval (.tmp 33) = .bool true := hF.done 21 (33, SP.is (.bool true)) (by rw [hD]; rfl) (hall 21 (by decide))
    have h34 : ac.eval (.tmp 34) = .pointer (some ⟨P, 0, none⟩) := hF.done 22 (34, SP.is (.pointer (some ⟨P, 0, none⟩))) (by rw [hD]; rfl) (hall 22 (by decide))
    have h35 : ac.eval (.tmp 35) = .agg q4z.toArray := hF.done 23 (35, SP.is (.agg q4z.toArray)) (by rw [hD]; rfl) (hall 23 (by decide))
    have h36 : ac.eval (.tmp 36) = .agg q4z.toArray := hF.done 24 (36, SP.is (.agg q4z.toArray)) (by rw [hD]; rfl) (hall 24 (by decide))
    have h37 : ac.eval (.tmp 37) = .bool true := hF.done 25 (37, SP.is (.bool true)) (by rw [hD]; rfl) (hall 25 (by decide))
    have h38 : ac.eval (.tmp 38) = .bool true := hF.done 26 (38, SP.is (.bool true)) (by rw [hD]; rfl) (hall 26 (by decide))
    have h9 : ac.eval (.tmp 9) = .bool true := hF.done 27 (9, SP.is (.bool true)) (by rw [hD]; rfl) (hall 27 (by decide))
    have ea := hF.lay [(12, .pointer (some ⟨P, 0, none⟩)), (13, .int .u8 0), (14, .bool true), (15, .bool true), (16, .pointer (some ⟨P, 0, none⟩)), (17, .bool false), (18, .bool true), (19, .bool true), (20, .bool true), (21, .pointer (some ⟨P, 0, none⟩)), (22, .int .i64 0), (23, .bool true), (24, .bool true), (25, .bool true), (26, .pointer (some ⟨P, 0, none⟩)), (27, .pointer (some ⟨w.heap.size, 1, none⟩)), (28, .int .i64 N), (29, .slice none 0 0), (30, .int .i64 0), (31, .bool true), (32, .bool true), (33, .bool true), (34, .pointer (some ⟨P, 0, none⟩)), (35, .agg q4z.toArray), (36, .agg q4z.toArray), (37, .bool true), (38, .bool true), (9, .bool true)] (by rw [hD, hsz]; rfl) (by simp only [List.forall_mem_cons, List.not_mem_nil, false_implies, implies_true, and_true]; exact ⟨h12, h13, h14, h15, h16, h17, h18, h19, h20, h21, h22, h23, h24, h25, h26, h27, h28, h29, h30, h31, h32, h33, h34, h35, h36, h37, h38, h9⟩)
    rw [ha0] at ea
    simp only [List.foldl_cons, List.foldl_nil, List.setIfInBounds_toArray, List.set_cons_zero, List.set_cons_succ] at ea
    clear hF hall hr hl hD  zs0 zs3 zs5 ha0 hsz h12 h13 h14 h15 h16 h17 h18 h19 h20 h21 h22 h23 h24 h25 h26 h27 h28 h29 h30 h31 h32 h33 h34 h35 h36 h37 h38 h9
    subst ea
    go_wp2_with fail
    refine wp_named fun a0 ha0 => ?_
    have hsz : a0.tmps.size = 72 := by rw [ha0]; rfl
    have zs0 : a0.eval (.tmp 0) = .pointer (some ⟨P, 0, none⟩) := by rw [ha0]; rfl
    have zs9 : a0.eval (.tmp 9) = .bool true := by rw [ha0]; rfl
    have zs3 : a0.eval (.tmp 3) = .pointer (some ⟨w.heap.size, 0, none⟩) := by rw [ha0]; rfl
    have zs6 : a0.eval (.tmp 6) = .pointer (some ⟨w.heap.size + 2, 0, none⟩) := by rw [ha0]; rfl
    have zs7 : a0.eval (.tmp 7) = .pointer (some ⟨w.heap.size + 3, 0, none⟩) := by rw [ha0]; rfl
    obtain ⟨D, hD⟩ : ∃ D : List (Tmp × SP), D = [(39, SP.is (.bool true)), (40, SP.is (.bool true)), (41, SP.is (.pointer (some ⟨P, 0, none⟩))), (42, SP.is (.agg z32.toArray)), (43, SP.is (.agg z32.toArray)), (44, SP.is (.bool true)), (45, SP.is (.bool true)), (46, SP.is (.bool true)), (47, SP.is (.pointer (some ⟨P, 0, none⟩))), (48, SP.is (.agg z20.toArray)), (49, SP.is (.agg z20.toArray)), (50, SP.is (.bool true)), (51, SP.is (.bool true)), (52, SP.is (.bool true)), (53, SP.is (.pointer (some ⟨P, 0, none⟩))), (54, SP.is (.pointer (some ⟨w.heap.size, 1, none⟩))), (55, SP.is (.int .i64 N)), (56, SP.is (.slice none 0 0)), (57, SP.is (.int .i64 0)), (58, SP.is (.bool true)), (59, SP.is (.bool true)), (9, SP.is (.bool true))] := ⟨_, rfl⟩
    refine wp_region_down (by kernel_rfl) (fun listed ac W => listed.size = 22 ∧ Fp D a0 listed ac W ∧ Below w.heap.size w W ∧ Row W P ([v, .int .i64 a, .int .i64 f]) 70 ∧ Row W w.heap.size ((sc K N u m0 m1 m2 m3 u2)) 28 ∧ Row W ((w.heap.size + 1)) q4z 25 ∧ Row W ((w.heap.size + 2)) z32 64 ∧ Row W ((w.heap.size + 3)) z20 67) ?_ ?_ ?_
    · exact ⟨by simp, Fp.start D a0 _ _, Below.drew hb, Row.drew hR, Row.drew r3, Row.drew r5, Row.drew r6, Row.drew r7⟩
    · clear ha0 hb hR r3 r5 r6 r7 
      intro listed ac W k hI hdn hk
      obtain ⟨hl, hF, hb, hR, r3, r5, r6, r7⟩ := hI
      have hk1 : k < 22 := List.mem_range.1 (List.mem_filter.1 hk).1
      have hl2 : ∀ j, (listed.setIfInBounds j true).size = 22 := fun j => by rw [Array.size_setIfInBounds]; exact hl
      rcases (show k = 0 ∨ k = 1 ∨ k = 2 ∨ k = 3 ∨ k = 4 ∨ k = 5 ∨ k = 6 ∨ k = 7 ∨ k = 8 ∨ k = 9 ∨ k = 10 ∨ k = 11 ∨ k = 12 ∨ k = 13 ∨ k = 14 ∨ k = 15 ∨ k = 16 ∨ k = 17 ∨ k = 18 ∨ k = 19 ∨ k = 20 ∨ k = 21 by omega) with rfl | rfl | rfl | rfl | rfl | rfl | rfl | rfl | rfl | rfl | rfl | rfl | rfl | rfl | rfl | rfl | rfl | rfl | rfl | rfl | rfl | rfl
      · have hk3 := hk
        exact wpOp_plain rfl rfl (wp_move_v (.bool true) rfl ((hF.fresh 21 (9, SP.is (.bool true)) (by rw [hD]; rfl) (fun h => not_yet hk (hdn 1 (hdn 6 (hdn 7 (hdn 12 (hdn 13 (hdn 20 (hdn 21 h 20 (by kernel_rfl)) 13 (by kernel_rfl)) 12 (by kernel_rfl)) 7 (by kernel_rfl)) 6 (by kernel_rfl)) 1 (by kernel_rfl)) 0 (by kernel_rfl)))).trans zs9) ⟨hl2 0, (hF.put 0 39 (SP.is (.bool true)) (.bool true) (by rw [hD]; rfl) rfl (by rw [hD]; rfl) (by rw [hsz]; decide) (by rw [hl]; decide)), hb, hR, r3, r5, r6, r7⟩)
      · have hk3 := hk
        exact wpOp_plain rfl rfl (wp_move_v (ac.eval (.tmp 39)) rfl rfl ⟨hl2 1, (hF.put 1 40 (SP.is (.bool true)) (ac.eval (.tmp 39)) (by rw [hD]; rfl) ((hF.done 0 (39, SP.is (.bool true)) (by rw [hD]; rfl) (ready_dep hk 0 (by kernel_rfl)))) (by rw [hD]; rfl) (by rw [hsz]; decide) (by rw [hl]; decide)), hb, hR, r3, r5, r6, r7⟩)
      · have hk3 := hk
        exact wpOp_wanted rfl (wanted_g (g := 1) (b := true) rfl rfl (hF.done 1 (40, SP.is (.bool true)) (by rw [hD]; rfl) (ready_dep hk 1 (by kernel_rfl))) (by rw [hF.size, hsz]; decide)) (wp_move_v (ac.eval (.tmp 0)) rfl rfl ⟨hl2 2, (hF.put 2 41 (SP.is (.pointer (some ⟨P, 0, none⟩))) (ac.eval (.tmp 0)) (by rw [hD]; rfl) (((hF.keep 0 (by rw [hD]; rfl)).trans zs0)) (by rw [hD]; rfl) (by rw [hsz]; decide) (by rw [hl]; decide)), hb, hR, r3, r5, r6, r7⟩)
      · have hk3 := hk
        have e0 := (hF.done 2 (41, SP.is (.pointer (some ⟨P, 0, none⟩))) (by rw [hD]; rfl) (ready_dep hk 2 (by kernel_rfl)))
        refine wpOp_wanted rfl (wanted_g (g := 1) (b := true) rfl rfl (hF.done 1 (40, SP.is (.bool true)) (by rw [hD]; rfl) (ready_dep hk 1 (by kernel_rfl))) (by rw [hF.size, hsz]; decide)) (wp_fcall_v 42 #[.pointer (some ⟨P, 0, none⟩)] rfl rfl (by show [ac.eval (.tmp 41)] = _; rw [show ac.eval (.tmp 41) = _ from e0]) (by go_simp) ((none_dig P v a f HF.out W hR).mono ?_))
        rintro e W2 ⟨rfl, hB⟩
        exact ⟨_, rfl, hl2 3, ((hF.world hB).put 3 42 (SP.is (.agg z32.toArray)) (.agg z32.toArray) (by rw [hD]; rfl) rfl (by rw [hD]; rfl) (by rw [hsz]; decide) (by rw [hl]; decide)), hb.trans (hB.mono hb.size), Row.below hR hB (Row.lt hR), Row.below r3 hB (Row.lt r3), Row.below r5 hB (Row.lt r5), Row.below r6 hB (Row.lt r6), Row.below r7 hB (Row.lt r7)⟩
      · have hk3 := hk
        exact wpOp_wanted rfl (wanted_g (g := 1) (b := true) rfl rfl (hF.done 1 (40, SP.is (.bool true)) (by rw [hD]; rfl) (ready_dep hk 1 (by kernel_rfl))) (by rw [hF.size, hsz]; decide)) (wp_load_mid 64 (.tmp 6) rfl ((w.heap.size + 2)) 0 ((hF.keep 6 (by rw [hD]; rfl)).trans zs6) z32 _ r6.all Try.underlying64 rfl info_a32 ⟨hl2 4, (hF.put 4 43 (SP.is (.agg z32.toArray)) (.agg z32.toArray) (by rw [hD]; rfl) rfl (by rw [hD]; rfl) (by rw [hsz]; decide) (by rw [hl]; decide)), hb, hR, r3, r5, r6, r7⟩)
      · have hk3 := hk
        have ea := (hF.done 3 (42, SP.is (.agg z32.toArray)) (by rw [hD]; rfl) (ready_dep hk 3 (by kernel_rfl)))
        have eb := (hF.done 4 (43, SP.is (.agg z32.toArray)) (by rw [hD]; rfl) (ready_dep hk 4 (by kernel_rfl)))
        exact wpOp_wanted rfl (wanted_g (g := 1) (b := true) rfl rfl (hF.done 1 (40, SP.is (.bool true)) (by rw [hD]; rfl) (ready_dep hk 1 (by kernel_rfl))) (by rw [hF.size, hsz]; decide)) (wp_eql_b 64 (.tmp 42) (.tmp 43) _ rfl 5 32 (List.replicate 32 0#8) (List.replicate 32 0#8) ea eb Try.underlying64 Try.underlying5 info_u8 (by simp) (by simp) guard_32 true (by simp) ⟨hl2 5, (hF.put 5 44 (SP.is (.bool true)) (.bool true) (by rw [hD]; rfl) rfl (by rw [hD]; rfl) (by rw [hsz]; decide) (by rw [hl]; decide)), hb, hR, r3, r5, r6, r7⟩)
      · have hk3 := hk
        have ea := (hF.done 1 (40, SP.is (.bool true)) (by rw [hD]; rfl) (ready_dep hk 1 (by kernel_rfl)))
        have eb := (hF.done 5 (44, SP.is (.bool true)) (by rw [hD]; rfl) (ready_dep hk 5 (by kernel_rfl)))
        exact wpOp_plain rfl rfl (wp_pick_v (.bool true) rfl ea eb ⟨hl2 6, (hF.put 6 45 (SP.is (.bool true)) (.bool true) (by rw [hD]; rfl) rfl (by rw [hD]; rfl) (by rw [hsz]; decide) (by rw [hl]; decide)), hb, hR, r3, r5, r6, r7⟩)
      · have hk3 := hk
        exact wpOp_plain rfl rfl (wp_move_v (ac.eval (.tmp 45)) rfl rfl ⟨hl2 7, (hF.put 7 46 (SP.is (.bool true)) (ac.eval (.tmp 45)) (by rw [hD]; rfl) ((hF.done 6 (45, SP.is (.bool true)) (by rw [hD]; rfl) (ready_dep hk 6 (by kernel_rfl)))) (by rw [hD]; rfl) (by rw [hsz]; decide) (by rw [hl]; decide)), hb, hR, r3, r5, r6, r7⟩)
      · have hk3 := hk
        exact wpOp_wanted rfl (wanted_g (g := 7) (b := true) rfl rfl (hF.done 7 (46, SP.is (.bool true)) (by rw [hD]; rfl) (ready_dep hk 7 (by kernel_rfl))) (by rw [hF.size, hsz]; decide)) (wp_move_v (ac.eval (.tmp 0)) rfl rfl ⟨hl2 8, (hF.put 8 47 (SP.is (.pointer (some ⟨P, 0, none⟩))) (ac.eval (.tmp 0)) (by rw [hD]; rfl) (((hF.keep 0 (by rw [hD]; rfl)).trans zs0)) (by rw [hD]; rfl) (by rw [hsz]; decide) (by rw [hl]; decide)), hb, hR, r3, r5, r6, r7⟩)
      · have hk3 := hk
        have e0 := (hF.done 8 (47, SP.is (.pointer (some ⟨P, 0, none⟩))) (by rw [hD]; rfl) (ready_dep hk 8 (by kernel_rfl)))
        refine wpOp_wanted rfl (wanted_g (g := 7) (b := true) rfl rfl (hF.done 7 (46, SP.is (.bool true)) (by rw [hD]; rfl) (ready_dep hk 7 (by kernel_rfl))) (by rw [hF.size, hsz]; decide)) (wp_fcall_v 43 #[.pointer (some ⟨P, 0, none⟩)] rfl rfl (by show [ac.eval (.tmp 47)] = _; rw [show ac.eval (.tmp 47) = _ from e0]) (by go_simp) ((none_addr P v a f HF.out W hR).mono ?_))
        rintro e W2 ⟨rfl, hB⟩
        exact ⟨_, rfl, hl2 9, ((hF.world hB).put 9 48 (SP.is (.agg z20.toArray)) (.agg z20.toArray) (by rw [hD]; rfl) rfl (by rw [hD]; rfl) (by rw [hsz]; decide) (by rw [hl]; decide)), hb.trans (hB.mono hb.size), Row.below hR hB (Row.lt hR), Row.below r3 hB (Row.lt r3), Row.below r5 hB (Row.lt r5), Row.below r6 hB (Row.lt r6), Row.below r7 hB (Row.lt r7)⟩
      · have hk3 := hk
        exact wpOp_wanted rfl (wanted_g (g := 7) (b := true) rfl rfl (hF.done 7 (46, SP.is (.bool true)) (by rw [hD]; rfl) (ready_dep hk 7 (by kernel_rfl))) (by rw [hF.size, hsz]; decide)) (wp_load_mid 67 (.tmp 7) rfl ((w.heap.size + 3)) 0 ((hF.keep 7 (by rw [hD]; rfl)).trans zs7) z20 _ r7.all Try.underlying67 rfl info_a20 ⟨hl2 10, (hF.put 10 49 (SP.is (.agg z20.toArray)) (.agg z20.toArray) (by rw [hD]; rfl) rfl (by rw [hD]; rfl) (by rw [hsz]; decide) (by rw [hl]; decide)), hb, hR, r3, r5, r6, r7⟩)
      · have hk3 := hk
        have ea := (hF.done 9 (48, SP.is (.agg z20.toArray)) (by rw [hD]; rfl) (ready_dep hk 9 (by kernel_rfl)))
        have eb := (hF.done 10 (49, SP.is (.agg z20.toArray)) (by rw [hD]; rfl) (ready_dep hk 10 (by kernel_rfl)))
        exact wpOp_wanted rfl (wanted_g (g := 7) (b := true) rfl rfl (hF.done 7 (46, SP.is (.bool true)) (by rw [hD]; rfl) (ready_dep hk 7 (by kernel_rfl))) (by rw [hF.size, hsz]; decide)) (wp_eql_b 67 (.tmp 48) (.tmp 49) _ rfl 5 20 (List.replicate 20 0#8) (List.replicate 20 0#8) ea eb Try.underlying67 Try.underlying5 info_u8 (by simp) (by simp) guard_20 true (by simp) ⟨hl2 11, (hF.put 11 50 (SP.is (.bool true)) (.bool true) (by rw [hD]; rfl) rfl (by rw [hD]; rfl) (by rw [hsz]; decide) (by rw [hl]; decide)), hb, hR, r3, r5, r6, r7⟩)
      · have hk3 := hk
        have ea := (hF.done 7 (46, SP.is (.bool true)) (by rw [hD]; rfl) (ready_dep hk 7 (by kernel_rfl)))
        have eb := (hF.done 11 (50, SP.is (.bool true)) (by rw [hD]; rfl) (ready_dep hk 11 (by kernel_rfl)))
        exact wpOp_plain rfl rfl (wp_pick_v (.bool true) rfl ea eb ⟨hl2 12, (hF.put 12 51 (SP.is (.bool true)) (.bool true) (by rw [hD]; rfl) rfl (by rw [hD]; rfl) (by rw [hsz]; decide) (by rw [hl]; decide)), hb, hR, r3, r5, r6, r7⟩)
      · have hk3 := hk
        exact wpOp_plain rfl rfl (wp_move_v (ac.eval (.tmp 51)) rfl rfl ⟨hl2 13, (hF.put 13 52 (SP.is (.bool true)) (ac.eval (.tmp 51)) (by rw [hD]; rfl) ((hF.done 12 (51, SP.is (.bool true)) (by rw [hD]; rfl) (ready_dep hk 12 (by kernel_rfl)))) (by rw [hD]; rfl) (by rw [hsz]; decide) (by rw [hl]; decide)), hb, hR, r3, r5, r6, r7⟩)
      · have hk3 := hk
        exact wpOp_wanted rfl (wanted_g (g := 13) (b := true) rfl rfl (hF.done 13 (52, SP.is (.bool true)) (by rw [hD]; rfl) (ready_dep hk 13 (by kernel_rfl))) (by rw [hF.size, hsz]; decide)) (wp_move_v (ac.eval (.tmp 0)) rfl rfl ⟨hl2 14, (hF.put 14 53 (SP.is (.pointer (some ⟨P, 0, none⟩))) (ac.eval (.tmp 0)) (by rw [hD]; rfl) (((hF.keep 0 (by rw [hD]; rfl)).trans zs0)) (by rw [hD]; rfl) (by rw [hsz]; decide) (by rw [hl]; decide)), hb, hR, r3, r5, r6, r7⟩)
      · have hk3 := hk
        have ea := ((hF.keep 3 (by rw [hD]; rfl)).trans zs3)
        exact wpOp_wanted rfl (wanted_g (g := 13) (b := true) rfl rfl (hF.done 13 (52, SP.is (.bool true)) (by rw [hD]; rfl) (ready_dep hk 13 (by kernel_rfl))) (by rw [hF.size, hsz]; decide)) (wp_sf1 w.heap.size rfl ea ⟨hl2 15, (hF.put 15 54 (SP.is (.pointer (some ⟨w.heap.size, 1, none⟩))) (.pointer (some ⟨w.heap.size, 1, none⟩)) (by rw [hD]; rfl) rfl (by rw [hD]; rfl) (by rw [hsz]; decide) (by rw [hl]; decide)), hb, hR, r3, r5, r6, r7⟩)
      · have hk3 := hk
        have ea := (hF.done 15 (54, SP.is (.pointer (some ⟨w.heap.size, 1, none⟩))) (by rw [hD]; rfl) (ready_dep hk 15 (by kernel_rfl)))
        exact wpOp_wanted rfl (wanted_g (g := 13) (b := true) rfl rfl (hF.done 13 (52, SP.is (.bool true)) (by rw [hD]; rfl) (ready_dep hk 13 (by kernel_rfl))) (by rw [hF.size, hsz]; decide)) (wp_load_1 w.heap.size 1 (.int .i64 N) rfl ea (run_load_i W w.heap.size 1 _ (r3.cell 1 _ rfl)) ⟨hl2 16, (hF.put 16 55 (SP.is (.int .i64 N)) (.int .i64 N) (by rw [hD]; rfl) rfl (by rw [hD]; rfl) (by rw [hsz]; decide) (by rw [hl]; decide)), hb, hR, r3, r5, r6, r7⟩)
      · have hk3 := hk
        have e0 := (hF.done 14 (53, SP.is (.pointer (some ⟨P, 0, none⟩))) (by rw [hD]; rfl) (ready_dep hk 14 (by kernel_rfl)))
        have e1 := (hF.done 16 (55, SP.is (.int .i64 N)) (by rw [hD]; rfl) (ready_dep hk 16 (by kernel_rfl)))
        refine wpOp_wanted rfl (wanted_g (g := 13) (b := true) rfl rfl (hF.done 13 (52, SP.is (.bool true)) (by rw [hD]; rfl) (ready_dep hk 13 (by kernel_rfl))) (by rw [hF.size, hsz]; decide)) (wp_fcall_v 27 #[.pointer (some ⟨P, 0, none⟩), .int .i64 N, .func (.func 44) #[] #[]] rfl rfl (by show [ac.eval (.tmp 53), ac.eval (.tmp 55), _] = _; rw [show ac.eval (.tmp 53) = _ from e0, show ac.eval (.tmp 55) = _ from e1]; rfl) (by go_simp) ((none_list P v a f HF.out N (.func 44) #[] #[] W hR).mono ?_))
        rintro e W2 ⟨rfl, hB⟩
        exact ⟨_, rfl, hl2 17, ((hF.world hB).put 17 56 (SP.is (.slice none 0 0)) (.slice none 0 0) (by rw [hD]; rfl) rfl (by rw [hD]; rfl) (by rw [hsz]; decide) (by rw [hl]; decide)), hb.trans (hB.mono hb.size), Row.below hR hB (Row.lt hR), Row.below r3 hB (Row.lt r3), Row.below r5 hB (Row.lt r5), Row.below r6 hB (Row.lt r6), Row.below r7 hB (Row.lt r7)⟩
      · have hk3 := hk
        have ea := (hF.done 17 (56, SP.is (.slice none 0 0)) (by rw [hD]; rfl) (ready_dep hk 17 (by kernel_rfl)))
        exact wpOp_wanted rfl (wanted_g (g := 13) (b := true) rfl rfl (hF.done 13 (52, SP.is (.bool true)) (by rw [hD]; rfl) (ready_dep hk 13 (by kernel_rfl))) (by rw [hF.size, hsz]; decide)) (wp_len_s 26 3 none 0 0 rfl Try.underlying26 ea ⟨hl2 18, (hF.put 18 57 (SP.is (.int .i64 0)) (.int .i64 0) (by rw [hD]; rfl) rfl (by rw [hD]; rfl) (by rw [hsz]; decide) (by rw [hl]; decide)), hb, hR, r3, r5, r6, r7⟩)
      · have hk3 := hk
        have ea := (hF.done 18 (57, SP.is (.int .i64 0)) (by rw [hD]; rfl) (ready_dep hk 18 (by kernel_rfl)))
        exact wpOp_wanted rfl (wanted_g (g := 13) (b := true) rfl rfl (hF.done 13 (52, SP.is (.bool true)) (by rw [hD]; rfl) (ready_dep hk 13 (by kernel_rfl))) (by rw [hF.size, hsz]; decide)) (wp_eqint_v rfl ea rfl rfl ⟨hl2 19, (hF.put 19 58 (SP.is (.bool true)) (.bool true) (by rw [hD]; rfl) rfl (by rw [hD]; rfl) (by rw [hsz]; decide) (by rw [hl]; decide)), hb, hR, r3, r5, r6, r7⟩)
      · have hk3 := hk
        have ea := (hF.done 13 (52, SP.is (.bool true)) (by rw [hD]; rfl) (ready_dep hk 13 (by kernel_rfl)))
        have eb := (hF.done 19 (58, SP.is (.bool true)) (by rw [hD]; rfl) (ready_dep hk 19 (by kernel_rfl)))
        exact wpOp_plain rfl rfl (wp_pick_v (.bool true) rfl ea eb ⟨hl2 20, (hF.put 20 59 (SP.is (.bool true)) (.bool true) (by rw [hD]; rfl) rfl (by rw [hD]; rfl) (by rw [hsz]; decide) (by rw [hl]; decide)), hb, hR, r3, r5, r6, r7⟩)
      · have hk3 := hk
        exact wpOp_plain rfl rfl (wp_assign_v (ac.eval (.tmp 59)) rfl rfl ⟨hl2 21, (hF.put 21 9 (SP.is (.bool true)) (ac.eval (.tmp 59)) (by rw [hD]; rfl) ((hF.done 20 (59, SP.is (.bool true)) (by rw [hD]; rfl) (ready_dep hk 20 (by kernel_rfl)))) (by rw [hD]; rfl) (by rw [hsz]; decide) (by rw [hl]; decide)), hb, hR, r3, r5, r6, r7⟩)
    · clear hb hR r3 r5 r6 r7 
      intro listed ac W hI hr
      obtain ⟨hl, hF, hb, hR, r3, r5, r6, r7⟩ := hI
      have hall := all_listed (by kernel_rfl) hl hr
      have h39 : ac.eval (.tmp 39) = .bool true := hF.done 0 (39, SP.is (.bool true)) (by rw [hD]; rfl) (hall 0 (by decide))
      have h40 : ac.eval (.tmp 40) = .bool true := hF.done 1 (40, SP.is (.bool true)) (by rw [hD]; rfl) (hall 1 (by decide))
      have h41 : ac.eval (.tmp 41) = .pointer (some ⟨P, 0, none⟩) := hF.done 2 (41, SP.is (.pointer (some ⟨P, 0, none⟩))) (by rw [hD]; rfl) (hall 2 (by decide))
      have h42 : ac.eval (.tmp 42) = .agg z32.toArray := hF.done 3 (42, SP.is (.agg z32.toArray)) (by rw [hD]; rfl) (hall 3 (by decide))
      have h43 : ac.eval (.tmp 43) = .agg z32.toArray := hF.done 4 (43, SP.is (.agg z32.toArray)) (by rw [hD]; rfl) (hall 4 (by decide))
      have h44 : ac.eval (.tmp 44) = .bool true := hF.done 5 (44, SP.is (.bool true)) (by rw [hD]; rfl) (hall 5 (by decide))
      have h45 : ac.eval (.tmp 45) = .bool true := hF.done 6 (45, SP.is (.bool true)) (by rw [hD]; rfl) (hall 6 (by decide))
      have h46 : ac.eval (.tmp 46) = .bool true := hF.done 7 (46, SP.is (.bool true)) (by rw [hD]; rfl) (hall 7 (by decide))
      have h47 : ac.eval (.tmp 47) = .pointer (some ⟨P, 0, none⟩) := hF.done 8 (47, SP.is (.pointer (some ⟨P, 0, none⟩))) (by rw [hD]; rfl) (hall 8 (by decide))
      have h48 : ac.eval (.tmp 48) = .agg z20.toArray := hF.done 9 (48, SP.is (.agg z20.toArray)) (by rw [hD]; rfl) (hall 9 (by decide))
      have h49 : ac.eval (.tmp 49) = .agg z20.toArray := hF.done 10 (49, SP.is (.agg z20.toArray)) (by rw [hD]; rfl) (hall 10 (by decide))
      have h50 : ac.eval (.tmp 50) = .bool true := hF.done 11 (50, SP.is (.bool true)) (by rw [hD]; rfl) (hall 11 (by decide))
      have h51 : ac.eval (.tmp 51) = .bool true := hF.done 12 (51, SP.is (.bool true)) (by rw [hD]; rfl) (hall 12 (by decide))
      have h52 : ac.eval (.tmp 52) = .bool true := hF.done 13 (52, SP.is (.bool true)) (by rw [hD]; rfl) (hall 13 (by decide))
      have h53 : ac.eval (.tmp 53) = .pointer (some ⟨P, 0, none⟩) := hF.done 14 (53, SP.is (.pointer (some ⟨P, 0, none⟩))) (by rw [hD]; rfl) (hall 14 (by decide))
      have h54 : ac.eval (.tmp 54) = .pointer (some ⟨w.heap.size, 1, none⟩) := hF.done 15 (54, SP.is (.pointer (some ⟨w.heap.size, 1, none⟩))) (by rw [hD]; rfl) (hall 15 (by decide))
      have h55 : ac.eval (.tmp 55) = .int .i64 N := hF.done 16 (55, SP.is (.int .i64 N)) (by rw [hD]; rfl) (hall 16 (by decide))
      have h56 : ac.eval (.tmp 56) = .slice none 0 0 := hF.done 17 (56, SP.is (.slice none 0 0)) (by rw [hD]; rfl) (hall 17 (by decide))
      have h57 : ac.eval (.tmp 57) = .int .i64 0 := hF.done 18 (57, SP.is (.int .i64 0)) (by rw [hD]; rfl) (hall 18 (by decide))
      have h58 : ac.eval (.tmp 58) = .bool true := hF.done 19 (58, SP.is (.bool true)) (by rw [hD]; rfl) (hall 19 (by decide))
      have h59 : ac.eval (.tmp 59) = .bool true := hF.done 20 (59, SP.is (.bool true)) (by rw [hD]; rfl) (hall 20 (by decide))
      have h9 : ac.eval (.tmp 9) = .bool true := hF.done 21 (9, SP.is (.bool true)) (by rw [hD]; rfl) (hall 21 (by decide))
      have ea := hF.lay [(39, .bool true), (40, .bool true), (41, .pointer (some ⟨P, 0, none⟩)), (42, .agg z32.toArray), (43, .agg z32.toArray), (44, .bool true), (45, .bool true), (46, .bool true), (47, .pointer (some ⟨P, 0, none⟩)), (48, .agg z20.toArray), (49, .agg z20.toArray), (50, .bool true), (51, .bool true), (52, .bool true), (53, .pointer (some ⟨P, 0, none⟩)), (54, .pointer (some ⟨w.heap.size, 1, none⟩)), (55, .int .i64 N), (56, .slice none 0 0), (57, .int .i64 0), (58, .bool true), (59, .bool true), (9, .bool true)] (by rw [hD, hsz]; rfl) (by simp only [List.forall_mem_cons, List.not_mem_nil, false_implies, implies_true, and_true]; exact ⟨h39, h40, h41, h42, h43, h44, h45, h46, h47, h48, h49, h50, h51, h52, h53, h54, h55, h56, h57, h58, h59, h9⟩)
      rw [ha0] at ea
      simp only [List.foldl_cons, List.foldl_nil, List.setIfInBounds_toArray, List.set_cons_zero, List.set_cons_succ] at ea
      clear hF hall hr hl hD  zs0 zs9 zs3 zs6 zs7 ha0 hsz h39 h40 h41 h42 h43 h44 h45 h46 h47 h48 h49 h50 h51 h52 h53 h54 h55 h56 h57 h58 h59 h9
      subst ea
      have HE1 : Hid _ := at_any P v a f W hR
      have HE2 : Hid _ := err_ok P v a f W hR
      have HB : Hid _ := hb
      clear hR r3 r5 r6 r7 hb
      rw [HA.out] at HE1
      go_wp2_with (first
        | (go_at_call 30; refine Calls.mono HE1.out ?_; rintro e w2 ⟨rfl, rfl⟩)
        | (go_at_call 15; refine Calls.mono HE2.out ?_; rintro e w2 ⟨rfl, rfl⟩))
      go_ret
      exact ⟨rfl, HB.out⟩

end Go.Proofs.Ytmkmdbpibpbcjab
