/-
  causewaylaw02.alike.
-/
import Derived.Test.YtehccmlbnfhhmaaDoorWCt
namespace Go.Proofs.YtehccmlbnfhhmaaDoor
open Go Go.RowKit
open Wd

set_option maxRecDepth 100000 in
set_option maxHeartbeats 4000000 in
theorem alike_ws (xs : List Nat) (hxs : ∀ x ∈ xs, x < 2 ^ 256) (n : Nat) (hn : xs.length = n) (hlen : n ≤ 4398046511108) (A A' : Option Addr) (cap cap' : Nat) (w : World) (h : Ws w A xs) (h' : Ws w A' xs) :
    Calls Tryd.prog 31 #[.slice A n cap, .slice A' n cap'] w fun e w' => e = .returned (.bool true) ∧ Below w.heap.size w w' := by
  have HN : Hid (xs.length = n) := hn
  have HW : Hid (Ws w A xs) := h
  have HW' : Hid (Ws w A' xs) := h'
  have HX : Hid (∀ i, xs.getD i 0 < 2 ^ 256) := fun i => wid_lt hxs i
  have ln : (n : Int) ≤ 4398046511108 := by omega
  clear h h' hn hxs hlen
  go_enter Tryd.func31, Tryd.ntmps31
  go_wp2
  go_loopw [5] (fun iv wr => ∃ t : Nat, t ≤ n ∧ iv = .int .i64 (t : Int) ∧ Below w.heap.size w wr) (fun iv _ => n - (intOf iv).toNat)
  case atStart => exact ⟨0, by omega, rfl, Below.refl _ _⟩
  case round =>
    obtain ⟨t, ht, rfl, hb⟩ := hrel
    by_cases hlt : t < n
    · have hlt' : (t : Int) < (n : Int) := by omega
      obtain ⟨b, o, rfl, rg1, lb1⟩ := (HW.out.below hb) t (by rw [HN.out]; exact hlt)
      obtain ⟨b', o', rfl, rg2, lb2⟩ := (HW'.out.below hb) t (by rw [HN.out]; exact hlt)
      have HXT : Hid (xs.getD t 0 < 2 ^ 256) := HX.out t
      generalize xs.getD t 0 = x at *
      obtain ⟨cx, Hx⟩ : ∃ c, Wc c x := ⟨_, rfl⟩
      rw [← show cx = vQ (dgs x 4) from Hx] at rg1 rg2
      have ra : RgAt wr b (o + t * 4) cx := ⟨rg1, lb1⟩
      have rb : RgAt wr b' (o' + t * 4) cx := ⟨rg2, lb2⟩
      clear rg1 rg2 lb1 lb2 ht
      go_wp2_with fail
      refine wp_named fun a0 ha0 => ?_
      have hsz : a0.tmps.size = 26 := by rw [ha0]; rfl
      have s0 : a0.eval (.tmp 0) = .slice (some ⟨b, o, none⟩) n cap := by rw [ha0]; rfl
      have s1 : a0.eval (.tmp 1) = .slice (some ⟨b', o', none⟩) n cap' := by rw [ha0]; rfl
      have s5 : a0.eval (.tmp 5) = .int .i64 (t : Int) := by rw [ha0]; rfl
      obtain ⟨D, hD⟩ : ∃ D : List (Tmp × SP), D = [(17, SP.is (.slice (some ⟨b, o, none⟩) n cap)), (18, SP.is (.int .i64 (t : Int))), (19, SP.is (.pointer (some ⟨b, o + t * 4, none⟩))), (20, SP.is (.agg cx.toArray)), (21, SP.is (.slice (some ⟨b', o', none⟩) n cap')), (22, SP.is (.int .i64 (t : Int))), (23, SP.is (.pointer (some ⟨b', o' + t * 4, none⟩))), (24, SP.is (.agg cx.toArray)), (25, SP.is (.bool false))] := ⟨_, rfl⟩
      refine wp_region_down (by kernel_rfl) (fun listed ac W => listed.size = 9 ∧ Fp D a0 listed ac W ∧ Below w.heap.size w W ∧ RgAt W b (o + t * 4) cx ∧ RgAt W b' (o' + t * 4) cx) ?_ ?_ ?_
      · exact ⟨by simp, Fp.start D a0 _ _, Below.drew hb, ra.below (Below.drew (Below.refl _ _)), rb.below (Below.drew (Below.refl _ _))⟩
      · clear ha0 hb ra rb 
        intro listed ac W k hI hdn hk
        obtain ⟨hl, hF, hb, ra, rb⟩ := hI
        have hk1 : k < 9 := List.mem_range.1 (List.mem_filter.1 hk).1
        have hl2 : ∀ j, (listed.setIfInBounds j true).size = 9 := fun j => by rw [Array.size_setIfInBounds]; exact hl
        rcases (show k = 0 ∨ k = 1 ∨ k = 2 ∨ k = 3 ∨ k = 4 ∨ k = 5 ∨ k = 6 ∨ k = 7 ∨ k = 8 by omega) with rfl | rfl | rfl | rfl | rfl | rfl | rfl | rfl | rfl
        · have hk3 := hk
          exact wpOp_plain rfl rfl (wp_move_v (ac.eval (.tmp 0)) rfl rfl ⟨hl2 0, (hF.put 0 17 (SP.is (.slice (some ⟨b, o, none⟩) n cap)) (ac.eval (.tmp 0)) (by rw [hD]; rfl) (((hF.keep 0 (by rw [hD]; rfl)).trans s0)) (by rw [hD]; rfl) (by rw [hsz]; decide) (by rw [hl]; decide)), hb, ra, rb⟩)
        · have hk3 := hk
          exact wpOp_plain rfl rfl (wp_move_v (ac.eval (.tmp 5)) rfl rfl ⟨hl2 1, (hF.put 1 18 (SP.is (.int .i64 (t : Int))) (ac.eval (.tmp 5)) (by rw [hD]; rfl) (((hF.keep 5 (by rw [hD]; rfl)).trans s5)) (by rw [hD]; rfl) (by rw [hsz]; decide) (by rw [hl]; decide)), hb, ra, rb⟩)
        · have hk3 := hk
          have e1 := (hF.done 0 (17, SP.is (.slice (some ⟨b, o, none⟩) n cap)) (by rw [hD]; rfl) (ready_dep hk 0 (by kernel_rfl)))
          have e2 := (hF.done 1 (18, SP.is (.int .i64 (t : Int))) (by rw [hD]; rfl) (ready_dep hk 1 (by kernel_rfl)))
          exact wpOp_plain rfl rfl (wp_index_ws rfl b o n cap t e1 e2 hlt ⟨hl2 2, (hF.put 2 19 (SP.is (.pointer (some ⟨b, o + t * 4, none⟩))) (.pointer (some ⟨b, o + t * 4, none⟩)) (by rw [hD]; rfl) rfl (by rw [hD]; rfl) (by rw [hsz]; decide) (by rw [hl]; decide)), hb, ra, rb⟩)
        · have hk3 := hk
          have e1 := (hF.done 2 (19, SP.is (.pointer (some ⟨b, o + t * 4, none⟩))) (by rw [hD]; rfl) (ready_dep hk 2 (by kernel_rfl)))
          exact wpOp_plain rfl rfl (wp_load_mid 24 (.tmp 19) rfl b (o + t * 4) e1 cx _ ra.1 Tryd.underlying24 rfl Hx.info ⟨hl2 3, (hF.put 3 20 (SP.is (.agg cx.toArray)) (.agg cx.toArray) (by rw [hD]; rfl) rfl (by rw [hD]; rfl) (by rw [hsz]; decide) (by rw [hl]; decide)), hb, ra, rb⟩)
        · have hk3 := hk
          exact wpOp_plain rfl rfl (wp_move_v (ac.eval (.tmp 1)) rfl rfl ⟨hl2 4, (hF.put 4 21 (SP.is (.slice (some ⟨b', o', none⟩) n cap')) (ac.eval (.tmp 1)) (by rw [hD]; rfl) (((hF.keep 1 (by rw [hD]; rfl)).trans s1)) (by rw [hD]; rfl) (by rw [hsz]; decide) (by rw [hl]; decide)), hb, ra, rb⟩)
        · have hk3 := hk
          exact wpOp_plain rfl rfl (wp_move_v (ac.eval (.tmp 5)) rfl rfl ⟨hl2 5, (hF.put 5 22 (SP.is (.int .i64 (t : Int))) (ac.eval (.tmp 5)) (by rw [hD]; rfl) (((hF.keep 5 (by rw [hD]; rfl)).trans s5)) (by rw [hD]; rfl) (by rw [hsz]; decide) (by rw [hl]; decide)), hb, ra, rb⟩)
        · have hk3 := hk
          have e1 := (hF.done 4 (21, SP.is (.slice (some ⟨b', o', none⟩) n cap')) (by rw [hD]; rfl) (ready_dep hk 4 (by kernel_rfl)))
          have e2 := (hF.done 5 (22, SP.is (.int .i64 (t : Int))) (by rw [hD]; rfl) (ready_dep hk 5 (by kernel_rfl)))
          exact wpOp_plain rfl rfl (wp_index_ws rfl b' o' n cap' t e1 e2 hlt ⟨hl2 6, (hF.put 6 23 (SP.is (.pointer (some ⟨b', o' + t * 4, none⟩))) (.pointer (some ⟨b', o' + t * 4, none⟩)) (by rw [hD]; rfl) rfl (by rw [hD]; rfl) (by rw [hsz]; decide) (by rw [hl]; decide)), hb, ra, rb⟩)
        · have hk3 := hk
          have e1 := (hF.done 6 (23, SP.is (.pointer (some ⟨b', o' + t * 4, none⟩))) (by rw [hD]; rfl) (ready_dep hk 6 (by kernel_rfl)))
          exact wpOp_plain rfl rfl (wp_load_mid 24 (.tmp 23) rfl b' (o' + t * 4) e1 cx _ rb.1 Tryd.underlying24 rfl Hx.info ⟨hl2 7, (hF.put 7 24 (SP.is (.agg cx.toArray)) (.agg cx.toArray) (by rw [hD]; rfl) rfl (by rw [hD]; rfl) (by rw [hsz]; decide) (by rw [hl]; decide)), hb, ra, rb⟩)
        · have hk3 := hk
          have e1 := (hF.done 3 (20, SP.is (.agg cx.toArray)) (by rw [hD]; rfl) (ready_dep hk 3 (by kernel_rfl)))
          have e2 := (hF.done 7 (24, SP.is (.agg cx.toArray)) (by rw [hD]; rfl) (ready_dep hk 7 (by kernel_rfl)))
          exact wpOp_plain rfl rfl (wp_neq_c (.tmp 20) (.tmp 24) _ rfl Hx Hx HXT.out HXT.out e1 e2 (by simp) ⟨hl2 8, (hF.put 8 25 (SP.is (.bool false)) (.bool false) (by rw [hD]; rfl) rfl (by rw [hD]; rfl) (by rw [hsz]; decide) (by rw [hl]; decide)), hb, ra, rb⟩)
      · clear hb ra rb 
        intro listed ac W hI hr
        obtain ⟨hl, hF, hb, ra, rb⟩ := hI
        have hall := all_listed (by kernel_rfl) hl hr
        have h17 : ac.eval (.tmp 17) = .slice (some ⟨b, o, none⟩) n cap := hF.done 0 (17, SP.is (.slice (some ⟨b, o, none⟩) n cap)) (by rw [hD]; rfl) (hall 0 (by decide))
        have h18 : ac.eval (.tmp 18) = .int .i64 (t : Int) := hF.done 1 (18, SP.is (.int .i64 (t : Int))) (by rw [hD]; rfl) (hall 1 (by decide))
        have h19 : ac.eval (.tmp 19) = .pointer (some ⟨b, o + t * 4, none⟩) := hF.done 2 (19, SP.is (.pointer (some ⟨b, o + t * 4, none⟩))) (by rw [hD]; rfl) (hall 2 (by decide))
        have h20 : ac.eval (.tmp 20) = .agg cx.toArray := hF.done 3 (20, SP.is (.agg cx.toArray)) (by rw [hD]; rfl) (hall 3 (by decide))
        have h21 : ac.eval (.tmp 21) = .slice (some ⟨b', o', none⟩) n cap' := hF.done 4 (21, SP.is (.slice (some ⟨b', o', none⟩) n cap')) (by rw [hD]; rfl) (hall 4 (by decide))
        have h22 : ac.eval (.tmp 22) = .int .i64 (t : Int) := hF.done 5 (22, SP.is (.int .i64 (t : Int))) (by rw [hD]; rfl) (hall 5 (by decide))
        have h23 : ac.eval (.tmp 23) = .pointer (some ⟨b', o' + t * 4, none⟩) := hF.done 6 (23, SP.is (.pointer (some ⟨b', o' + t * 4, none⟩))) (by rw [hD]; rfl) (hall 6 (by decide))
        have h24 : ac.eval (.tmp 24) = .agg cx.toArray := hF.done 7 (24, SP.is (.agg cx.toArray)) (by rw [hD]; rfl) (hall 7 (by decide))
        have h25 : ac.eval (.tmp 25) = .bool false := hF.done 8 (25, SP.is (.bool false)) (by rw [hD]; rfl) (hall 8 (by decide))
        have ea := hF.lay [(17, .slice (some ⟨b, o, none⟩) n cap), (18, .int .i64 (t : Int)), (19, .pointer (some ⟨b, o + t * 4, none⟩)), (20, .agg cx.toArray), (21, .slice (some ⟨b', o', none⟩) n cap'), (22, .int .i64 (t : Int)), (23, .pointer (some ⟨b', o' + t * 4, none⟩)), (24, .agg cx.toArray), (25, .bool false)] (by rw [hD, hsz]; rfl) (by simp only [List.forall_mem_cons, List.not_mem_nil, false_implies, implies_true, and_true]; exact ⟨h17, h18, h19, h20, h21, h22, h23, h24, h25⟩)
        rw [ha0] at ea
        simp only [List.foldl_cons, List.foldl_nil, List.setIfInBounds_toArray, List.set_cons_zero, List.set_cons_succ] at ea
        clear hF hall hr hl hD  s0 s1 s5 ha0 hsz h17 h18 h19 h20 h21 h22 h23 h24 h25
        subst ea
        go_wp2_with fail
        exact ⟨⟨t + 1, hlt, by go_num, hb⟩, by simp [intOf]; omega⟩
    · obtain rfl : t = n := by omega
      have hlt' : ¬ (t : Int) < (t : Int) := by omega
      clear ht hlt
      go_wp2
      go_ret
      exact ⟨rfl, hb⟩

end Go.Proofs.YtehccmlbnfhhmaaDoor
