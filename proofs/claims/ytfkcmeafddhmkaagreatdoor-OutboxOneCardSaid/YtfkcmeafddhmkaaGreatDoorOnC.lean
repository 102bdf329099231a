/-
  the law OutboxOne: clash.
-/
import Derived.Test.YtfkcmeafddhmkaaGreatDoorTOneM
import Derived.Test.YtfkcmeafddhmkaaGreatDoorTRSum
namespace Go.Proofs.YtfkcmeafddhmkaaGreatDoor
open Go Go.RowKit
open Sha

set_option maxRecDepth 100000 in
set_option maxHeartbeats 4000000 in
theorem clash11_true (ts : List (List (BitVec 8))) (n : Nat) (hn : ts.length = n) (hs : n ≤ 4398046511100) (hlen : ∀ i, i < n → (ts.getD i []).length ≤ 140737488355000) (hcl : ∃ i k, k < i ∧ i < n ∧ Clsh ts i k) (b o cap : Nat) (w : World) (hG : Given w) (hv : LsAt w b o ts) :
    Calls Tryz.prog 14 #[.slice (some ⟨b, o, none⟩) n cap] w fun e w' => e = .returned (.bool true) ∧ Below w.heap.size w w' := by
  obtain ⟨vs, hvl, hrg, hsl⟩ := hv
  have HN : Hid (ts.length = n) := hn
  have HC : Hid (∃ i k, k < i ∧ i < n ∧ Clsh ts i k) := hcl
  have HCE : Hid (∀ i, i < n → ∀ W, Below w.heap.size w W → W.cell? ⟨b, o + i * 1, none⟩ = some (vs.getD i undef)) := fun i hi W k => by
    rw [Nat.mul_one]
    have q : w.cell? ⟨b, o + i, none⟩ = some (vs.getD i undef) := hrg i _ (by rw [List.getD_eq_getElem?_getD, List.getElem?_eq_getElem (by omega)]; rfl)
    exact (k.cell (p := ⟨b, o + i, none⟩) (World.block_lt_of_cell? w _ q)).trans q
  have HSE : Hid (∀ i, i < n → ∀ W, Below w.heap.size w W → SlAtT W (vs.getD i undef) (ts.getD i [])) := fun i hi W k => (hsl i (by omega)).below k (Nat.le_refl _)
  have HME : Hid (∀ i, i < n → ∀ W, Below w.heap.size w W → Calls Tryz.prog 26 #[vs.getD i undef] W fun e w' => e = .returned (.agg (vB (dig (ts.getD i []))).toArray) ∧ Below W.heap.size W w') := fun i hi W k => rsum_any (ts.getD i []) _ rfl (hlen i hi) _ W (HSE.out i hi W k) (hG.low k)
  clear hn hcl hlen hG hvl hrg hsl
  go_enter Tryz.func14, Tryz.ntmps14
  go_wp2
  go_loopw [3, 4] (fun v _ wr => ∃ i : Nat, i ≤ n ∧ v = .int .i64 (i : Int) ∧ Hid (Below w.heap.size w wr) ∧ Hid (∀ i' k', k' < i' → i' < i → ¬ Clsh ts i' k')) (fun v _ _ => n - (intOf v).toNat)
  case atStart => exact ⟨0, Nat.zero_le _, rfl, Below.refl _ _, fun i' k' h1 h2 => by omega⟩
  case round =>
    obtain ⟨i, hi, rfl, HB, HNO⟩ := hrel
    by_cases hlt : i < n
    · have hib : i ≤ 4398046511100 := by omega
      go_wp2_with fail
      go_loopw [4] (fun v wr => ∃ j : Nat, j ≤ i ∧ v = .int .i64 (j : Int) ∧ Hid (Below w.heap.size w wr) ∧ Hid (∀ k', k' < j → ¬ Clsh ts i k')) (fun v _ => i - (intOf v).toNat)
      case atStart => exact ⟨0, Nat.zero_le _, rfl, HB, fun k' h => by omega⟩
      case round =>
        obtain ⟨j, hj, rfl, HBJ, HNJ⟩ := hrel
        clear HB
        by_cases hji : j < i
        · have hjn : j < n := by omega
          have HCI : Hid (∀ W, Below w.heap.size w W → W.cell? ⟨b, o + i * 1, none⟩ = some (vs.getD i undef)) := HCE.out i hlt
          have HCJ : Hid (∀ W, Below w.heap.size w W → W.cell? ⟨b, o + j * 1, none⟩ = some (vs.getD j undef)) := HCE.out j hjn
          have HSI : Hid (∀ W, Below w.heap.size w W → SlAtT W (vs.getD i undef) (ts.getD i [])) := HSE.out i hlt
          have HSJ : Hid (∀ W, Below w.heap.size w W → SlAtT W (vs.getD j undef) (ts.getD j [])) := HSE.out j hjn
          have HMI : Hid (∀ W, Below w.heap.size w W → Calls Tryz.prog 26 #[vs.getD i undef] W fun e w' => e = .returned (.agg (vB (dig (ts.getD i []))).toArray) ∧ Below W.heap.size W w') := HME.out i hlt
          have HMJ : Hid (∀ W, Below w.heap.size w W → Calls Tryz.prog 26 #[vs.getD j undef] W fun e w' => e = .returned (.agg (vB (dig (ts.getD j []))).toArray) ∧ Below W.heap.size W w') := HME.out j hjn
          have HCL : Hid (Clsh ts i j ↔ dig (ts.getD i []) = dig (ts.getD j []) ∧ ts.getD i [] ≠ ts.getD j []) := Iff.rfl
          obtain ⟨xi, hxi⟩ : ∃ x, x = ts.getD i [] := ⟨_, rfl⟩
          obtain ⟨xj, hxj⟩ : ∃ x, x = ts.getD j [] := ⟨_, rfl⟩
          rw [← hxi] at HSI HMI HCL
          rw [← hxj] at HSJ HMJ HCL
          obtain ⟨di, hdi⟩ : ∃ x, x = dig xi := ⟨_, rfl⟩
          obtain ⟨dj, hdj⟩ : ∃ x, x = dig xj := ⟨_, rfl⟩
          rw [← hdi] at HMI HCL
          rw [← hdj] at HMJ HCL
          have Hdi : Hid (Dl di) := by rw [hdi]; exact dig_length _
          have Hdj : Hid (Dl dj) := by rw [hdj]; exact dig_length _
          generalize vs.getD i undef = vi at *
          generalize vs.getD j undef = vj at *
          have hq := HBJ.out
          clear hxi hxj hdi hdj HBJ
          by_cases hx : xi = xj
          · have HB1 : Hid ((!((str xi).toList == (str xj).toList)) = false) := by show _ = _; rw [str_beq, decide_eq_true hx]; rfl
            have HNE : Hid (¬ Clsh ts i j) := fun h => (HCL.out.1 h).2 hx
            clear hx HCL
            go_wp2_with fail
            refine wp_named fun a0 ha0 => ?_
            have hsz : a0.tmps.size = 40 := by rw [ha0]; rfl
            have zs0 : a0.eval (.tmp 0) = .slice (some ⟨b, o, none⟩) n cap := by rw [ha0]; rfl
            have zs3 : a0.eval (.tmp 3) = .int .i64 (i : Int) := by rw [ha0]; rfl
            have zs4 : a0.eval (.tmp 4) = .int .i64 (j : Int) := by rw [ha0]; rfl
            obtain ⟨D, hD⟩ : ∃ D : List (Tmp × SP), D = [(16, SP.is (.slice (some ⟨b, o, none⟩) n cap)), (17, SP.is (.int .i64 (i : Int))), (18, SP.is (.pointer (some ⟨b, o + i * 1, none⟩))), (19, SP.is (vi)), (20, SP.is (.string (str xi))), (21, SP.is (.slice (some ⟨b, o, none⟩) n cap)), (22, SP.is (.int .i64 (j : Int))), (23, SP.is (.pointer (some ⟨b, o + j * 1, none⟩))), (24, SP.is (vj)), (25, SP.is (.string (str xj))), (26, SP.is (.bool false)), (27, SP.is (.bool false)), (28, SP.is (undef)), (29, SP.is (undef)), (30, SP.is (undef)), (31, SP.is (undef)), (32, SP.is (undef)), (33, SP.is (undef)), (34, SP.is (undef)), (35, SP.is (undef)), (36, SP.is (undef)), (37, SP.is (undef)), (38, SP.is (undef)), (39, SP.is (.bool false))] := ⟨_, rfl⟩
            refine wp_region_down (by kernel_rfl) (fun listed ac W => listed.size = 24 ∧ Fp D a0 listed ac W ∧ Below w.heap.size w W) ?_ ?_ ?_
            · exact ⟨by simp, Fp.start D a0 _ _, Below.drew hq⟩
            · clear ha0 hq  
              intro listed ac W k hI hdn hk
              obtain ⟨hl, hF, hq⟩ := hI
              have hk1 : k < 24 := List.mem_range.1 (List.mem_filter.1 hk).1
              have hl2 : ∀ j, (listed.setIfInBounds j true).size = 24 := fun j => by rw [Array.size_setIfInBounds]; exact hl
              rcases (show k = 0 ∨ k = 1 ∨ k = 2 ∨ k = 3 ∨ k = 4 ∨ k = 5 ∨ k = 6 ∨ k = 7 ∨ k = 8 ∨ k = 9 ∨ k = 10 ∨ k = 11 ∨ k = 12 ∨ k = 13 ∨ k = 14 ∨ k = 15 ∨ k = 16 ∨ k = 17 ∨ k = 18 ∨ k = 19 ∨ k = 20 ∨ k = 21 ∨ k = 22 ∨ k = 23 by omega) with rfl | rfl | rfl | rfl | rfl | rfl | rfl | rfl | rfl | rfl | rfl | rfl | rfl | rfl | rfl | rfl | rfl | rfl | rfl | rfl | rfl | rfl | rfl | rfl
              · have hk3 := hk
                exact wpOp_plain rfl rfl (wp_move_v (ac.eval (.tmp 0)) rfl rfl ⟨hl2 0, (hF.put 0 16 (SP.is (.slice (some ⟨b, o, none⟩) n cap)) (ac.eval (.tmp 0)) (by rw [hD]; rfl) (((hF.keep 0 (by rw [hD]; rfl)).trans zs0)) (by rw [hD]; rfl) (by rw [hsz]; decide) (by rw [hl]; decide)), hq⟩)
              · have hk3 := hk
                exact wpOp_plain rfl rfl (wp_move_v (ac.eval (.tmp 3)) rfl rfl ⟨hl2 1, (hF.put 1 17 (SP.is (.int .i64 (i : Int))) (ac.eval (.tmp 3)) (by rw [hD]; rfl) (((hF.keep 3 (by rw [hD]; rfl)).trans zs3)) (by rw [hD]; rfl) (by rw [hsz]; decide) (by rw [hl]; decide)), hq⟩)
              · have hk3 := hk
                have ea := (hF.done 0 (16, SP.is (.slice (some ⟨b, o, none⟩) n cap)) (by rw [hD]; rfl) (ready_dep hk 0 (by kernel_rfl)))
                have eb := (hF.done 1 (17, SP.is (.int .i64 (i : Int))) (by rw [hD]; rfl) (ready_dep hk 1 (by kernel_rfl)))
                exact wpOp_plain rfl rfl (wp_index_s 50 52 rfl b o n cap i 1 ea eb hlt Tryz.underlying50 info_slbT ⟨hl2 2, (hF.put 2 18 (SP.is (.pointer (some ⟨b, o + i * 1, none⟩))) (.pointer (some ⟨b, o + i * 1, none⟩)) (by rw [hD]; rfl) rfl (by rw [hD]; rfl) (by rw [hsz]; decide) (by rw [hl]; decide)), hq⟩)
              · have hk3 := hk
                have ea := (hF.done 2 (18, SP.is (.pointer (some ⟨b, o + i * 1, none⟩))) (by rw [hD]; rfl) (ready_dep hk 2 (by kernel_rfl)))
                exact wpOp_plain rfl rfl (wp_load_1T b (o + i * 1) vi rfl ea (run_load_slb W b (o + i * 1) vi (HCI.out W hq)) ⟨hl2 3, (hF.put 3 19 (SP.is (vi)) vi (by rw [hD]; rfl) rfl (by rw [hD]; rfl) (by rw [hsz]; decide) (by rw [hl]; decide)), hq⟩)
              · have hk3 := hk
                have ea := (hF.done 3 (19, SP.is (vi)) (by rw [hD]; rfl) (ready_dep hk 3 (by kernel_rfl)))
                exact wpOp_plain rfl rfl (wp_conv_s rfl xi (by rw [show ac.eval (.tmp 19) = _ from ea]; exact HSI.out W hq) ⟨hl2 4, (hF.put 4 20 (SP.is (.string (str xi))) (.string (str xi)) (by rw [hD]; rfl) rfl (by rw [hD]; rfl) (by rw [hsz]; decide) (by rw [hl]; decide)), hq⟩)
              · have hk3 := hk
                exact wpOp_plain rfl rfl (wp_move_v (ac.eval (.tmp 0)) rfl rfl ⟨hl2 5, (hF.put 5 21 (SP.is (.slice (some ⟨b, o, none⟩) n cap)) (ac.eval (.tmp 0)) (by rw [hD]; rfl) (((hF.keep 0 (by rw [hD]; rfl)).trans zs0)) (by rw [hD]; rfl) (by rw [hsz]; decide) (by rw [hl]; decide)), hq⟩)
              · have hk3 := hk
                exact wpOp_plain rfl rfl (wp_move_v (ac.eval (.tmp 4)) rfl rfl ⟨hl2 6, (hF.put 6 22 (SP.is (.int .i64 (j : Int))) (ac.eval (.tmp 4)) (by rw [hD]; rfl) (((hF.keep 4 (by rw [hD]; rfl)).trans zs4)) (by rw [hD]; rfl) (by rw [hsz]; decide) (by rw [hl]; decide)), hq⟩)
              · have hk3 := hk
                have ea := (hF.done 5 (21, SP.is (.slice (some ⟨b, o, none⟩) n cap)) (by rw [hD]; rfl) (ready_dep hk 5 (by kernel_rfl)))
                have eb := (hF.done 6 (22, SP.is (.int .i64 (j : Int))) (by rw [hD]; rfl) (ready_dep hk 6 (by kernel_rfl)))
                exact wpOp_plain rfl rfl (wp_index_s 50 52 rfl b o n cap j 1 ea eb hjn Tryz.underlying50 info_slbT ⟨hl2 7, (hF.put 7 23 (SP.is (.pointer (some ⟨b, o + j * 1, none⟩))) (.pointer (some ⟨b, o + j * 1, none⟩)) (by rw [hD]; rfl) rfl (by rw [hD]; rfl) (by rw [hsz]; decide) (by rw [hl]; decide)), hq⟩)
              · have hk3 := hk
                have ea := (hF.done 7 (23, SP.is (.pointer (some ⟨b, o + j * 1, none⟩))) (by rw [hD]; rfl) (ready_dep hk 7 (by kernel_rfl)))
                exact wpOp_plain rfl rfl (wp_load_1T b (o + j * 1) vj rfl ea (run_load_slb W b (o + j * 1) vj (HCJ.out W hq)) ⟨hl2 8, (hF.put 8 24 (SP.is (vj)) vj (by rw [hD]; rfl) rfl (by rw [hD]; rfl) (by rw [hsz]; decide) (by rw [hl]; decide)), hq⟩)
              · have hk3 := hk
                have ea := (hF.done 8 (24, SP.is (vj)) (by rw [hD]; rfl) (ready_dep hk 8 (by kernel_rfl)))
                exact wpOp_plain rfl rfl (wp_conv_s rfl xj (by rw [show ac.eval (.tmp 24) = _ from ea]; exact HSJ.out W hq) ⟨hl2 9, (hF.put 9 25 (SP.is (.string (str xj))) (.string (str xj)) (by rw [hD]; rfl) rfl (by rw [hD]; rfl) (by rw [hsz]; decide) (by rw [hl]; decide)), hq⟩)
              · have hk3 := hk
                have ea := (hF.done 4 (20, SP.is (.string (str xi))) (by rw [hD]; rfl) (ready_dep hk 4 (by kernel_rfl)))
                have eb := (hF.done 9 (25, SP.is (.string (str xj))) (by rw [hD]; rfl) (ready_dep hk 9 (by kernel_rfl)))
                exact wpOp_plain rfl rfl (wp_neqstr_v rfl ea eb HB1.out ⟨hl2 10, (hF.put 10 26 (SP.is (.bool false)) (.bool false) (by rw [hD]; rfl) rfl (by rw [hD]; rfl) (by rw [hsz]; decide) (by rw [hl]; decide)), hq⟩)
              · have hk3 := hk
                exact wpOp_plain rfl rfl (wp_move_v (ac.eval (.tmp 26)) rfl rfl ⟨hl2 11, (hF.put 11 27 (SP.is (.bool false)) (ac.eval (.tmp 26)) (by rw [hD]; rfl) ((hF.done 10 (26, SP.is (.bool false)) (by rw [hD]; rfl) (ready_dep hk 10 (by kernel_rfl)))) (by rw [hD]; rfl) (by rw [hsz]; decide) (by rw [hl]; decide)), hq⟩)
              · have hk3 := hk
                exact wpOp_off rfl (unwanted_g (g := 11) (b := true) rfl rfl (hF.done 11 (27, SP.is (.bool false)) (by rw [hD]; rfl) (ready_dep hk 11 (by kernel_rfl))) (by rw [hF.size, hsz]; decide)) ⟨hl2 12, (hF.put 12 28 (SP.is (undef)) undef (by rw [hD]; rfl) rfl (by rw [hD]; rfl) (by rw [hsz]; decide) (by rw [hl]; decide)), hq⟩
              · have hk3 := hk
                exact wpOp_off rfl (unwanted_g (g := 11) (b := true) rfl rfl (hF.done 11 (27, SP.is (.bool false)) (by rw [hD]; rfl) (ready_dep hk 11 (by kernel_rfl))) (by rw [hF.size, hsz]; decide)) ⟨hl2 13, (hF.put 13 29 (SP.is (undef)) undef (by rw [hD]; rfl) rfl (by rw [hD]; rfl) (by rw [hsz]; decide) (by rw [hl]; decide)), hq⟩
              · have hk3 := hk
                exact wpOp_off rfl (unwanted_g (g := 11) (b := true) rfl rfl (hF.done 11 (27, SP.is (.bool false)) (by rw [hD]; rfl) (ready_dep hk 11 (by kernel_rfl))) (by rw [hF.size, hsz]; decide)) ⟨hl2 14, (hF.put 14 30 (SP.is (undef)) undef (by rw [hD]; rfl) rfl (by rw [hD]; rfl) (by rw [hsz]; decide) (by rw [hl]; decide)), hq⟩
              · have hk3 := hk
                exact wpOp_off rfl (unwanted_g (g := 11) (b := true) rfl rfl (hF.done 11 (27, SP.is (.bool false)) (by rw [hD]; rfl) (ready_dep hk 11 (by kernel_rfl))) (by rw [hF.size, hsz]; decide)) ⟨hl2 15, (hF.put 15 31 (SP.is (undef)) undef (by rw [hD]; rfl) rfl (by rw [hD]; rfl) (by rw [hsz]; decide) (by rw [hl]; decide)), hq⟩
              · have hk3 := hk
                exact wpOp_off rfl (unwanted_g (g := 11) (b := true) rfl rfl (hF.done 11 (27, SP.is (.bool false)) (by rw [hD]; rfl) (ready_dep hk 11 (by kernel_rfl))) (by rw [hF.size, hsz]; decide)) ⟨hl2 16, (hF.put 16 32 (SP.is (undef)) undef (by rw [hD]; rfl) rfl (by rw [hD]; rfl) (by rw [hsz]; decide) (by rw [hl]; decide)), hq⟩
              · have hk3 := hk
                exact wpOp_off rfl (unwanted_g (g := 11) (b := true) rfl rfl (hF.done 11 (27, SP.is (.bool false)) (by rw [hD]; rfl) (ready_dep hk 11 (by kernel_rfl))) (by rw [hF.size, hsz]; decide)) ⟨hl2 17, (hF.put 17 33 (SP.is (undef)) undef (by rw [hD]; rfl) rfl (by rw [hD]; rfl) (by rw [hsz]; decide) (by rw [hl]; decide)), hq⟩
              · have hk3 := hk
                exact wpOp_off rfl (unwanted_g (g := 11) (b := true) rfl rfl (hF.done 11 (27, SP.is (.bool false)) (by rw [hD]; rfl) (ready_dep hk 11 (by kernel_rfl))) (by rw [hF.size, hsz]; decide)) ⟨hl2 18, (hF.put 18 34 (SP.is (undef)) undef (by rw [hD]; rfl) rfl (by rw [hD]; rfl) (by rw [hsz]; decide) (by rw [hl]; decide)), hq⟩
              · have hk3 := hk
                exact wpOp_off rfl (unwanted_g (g := 11) (b := true) rfl rfl (hF.done 11 (27, SP.is (.bool false)) (by rw [hD]; rfl) (ready_dep hk 11 (by kernel_rfl))) (by rw [hF.size, hsz]; decide)) ⟨hl2 19, (hF.put 19 35 (SP.is (undef)) undef (by rw [hD]; rfl) rfl (by rw [hD]; rfl) (by rw [hsz]; decide) (by rw [hl]; decide)), hq⟩
              · have hk3 := hk
                exact wpOp_off rfl (unwanted_g (g := 11) (b := true) rfl rfl (hF.done 11 (27, SP.is (.bool false)) (by rw [hD]; rfl) (ready_dep hk 11 (by kernel_rfl))) (by rw [hF.size, hsz]; decide)) ⟨hl2 20, (hF.put 20 36 (SP.is (undef)) undef (by rw [hD]; rfl) rfl (by rw [hD]; rfl) (by rw [hsz]; decide) (by rw [hl]; decide)), hq⟩
              · have hk3 := hk
                exact wpOp_off rfl (unwanted_g (g := 11) (b := true) rfl rfl (hF.done 11 (27, SP.is (.bool false)) (by rw [hD]; rfl) (ready_dep hk 11 (by kernel_rfl))) (by rw [hF.size, hsz]; decide)) ⟨hl2 21, (hF.put 21 37 (SP.is (undef)) undef (by rw [hD]; rfl) rfl (by rw [hD]; rfl) (by rw [hsz]; decide) (by rw [hl]; decide)), hq⟩
              · have hk3 := hk
                exact wpOp_off rfl (unwanted_g (g := 11) (b := true) rfl rfl (hF.done 11 (27, SP.is (.bool false)) (by rw [hD]; rfl) (ready_dep hk 11 (by kernel_rfl))) (by rw [hF.size, hsz]; decide)) ⟨hl2 22, (hF.put 22 38 (SP.is (undef)) undef (by rw [hD]; rfl) rfl (by rw [hD]; rfl) (by rw [hsz]; decide) (by rw [hl]; decide)), hq⟩
              · have hk3 := hk
                have ea := (hF.done 11 (27, SP.is (.bool false)) (by rw [hD]; rfl) (ready_dep hk 11 (by kernel_rfl)))
                exact wpOp_plain rfl rfl (wp_pick_fT (.bool false) rfl ea rfl ⟨hl2 23, (hF.put 23 39 (SP.is (.bool false)) (.bool false) (by rw [hD]; rfl) rfl (by rw [hD]; rfl) (by rw [hsz]; decide) (by rw [hl]; decide)), hq⟩)
            · clear hq  
              intro listed ac W hI hr
              obtain ⟨hl, hF, hq⟩ := hI
              have hall := all_listed (by kernel_rfl) hl hr
              have h16 : ac.eval (.tmp 16) = .slice (some ⟨b, o, none⟩) n cap := hF.done 0 (16, SP.is (.slice (some ⟨b, o, none⟩) n cap)) (by rw [hD]; rfl) (hall 0 (by decide))
              have h17 : ac.eval (.tmp 17) = .int .i64 (i : Int) := hF.done 1 (17, SP.is (.int .i64 (i : Int))) (by rw [hD]; rfl) (hall 1 (by decide))
              have h18 : ac.eval (.tmp 18) = .pointer (some ⟨b, o + i * 1, none⟩) := hF.done 2 (18, SP.is (.pointer (some ⟨b, o + i * 1, none⟩))) (by rw [hD]; rfl) (hall 2 (by decide))
              have h19 : ac.eval (.tmp 19) = vi := hF.done 3 (19, SP.is (vi)) (by rw [hD]; rfl) (hall 3 (by decide))
              have h20 : ac.eval (.tmp 20) = .string (str xi) := hF.done 4 (20, SP.is (.string (str xi))) (by rw [hD]; rfl) (hall 4 (by decide))
              have h21 : ac.eval (.tmp 21) = .slice (some ⟨b, o, none⟩) n cap := hF.done 5 (21, SP.is (.slice (some ⟨b, o, none⟩) n cap)) (by rw [hD]; rfl) (hall 5 (by decide))
              have h22 : ac.eval (.tmp 22) = .int .i64 (j : Int) := hF.done 6 (22, SP.is (.int .i64 (j : Int))) (by rw [hD]; rfl) (hall 6 (by decide))
              have h23 : ac.eval (.tmp 23) = .pointer (some ⟨b, o + j * 1, none⟩) := hF.done 7 (23, SP.is (.pointer (some ⟨b, o + j * 1, none⟩))) (by rw [hD]; rfl) (hall 7 (by decide))
              have h24 : ac.eval (.tmp 24) = vj := hF.done 8 (24, SP.is (vj)) (by rw [hD]; rfl) (hall 8 (by decide))
              have h25 : ac.eval (.tmp 25) = .string (str xj) := hF.done 9 (25, SP.is (.string (str xj))) (by rw [hD]; rfl) (hall 9 (by decide))
              have h26 : ac.eval (.tmp 26) = .bool false := hF.done 10 (26, SP.is (.bool false)) (by rw [hD]; rfl) (hall 10 (by decide))
              have h27 : ac.eval (.tmp 27) = .bool false := hF.done 11 (27, SP.is (.bool false)) (by rw [hD]; rfl) (hall 11 (by decide))
              have h28 : ac.eval (.tmp 28) = undef := hF.done 12 (28, SP.is (undef)) (by rw [hD]; rfl) (hall 12 (by decide))
              have h29 : ac.eval (.tmp 29) = undef := hF.done 13 (29, SP.is (undef)) (by rw [hD]; rfl) (hall 13 (by decide))
              have h30 : ac.eval (.tmp 30) = undef := hF.done 14 (30, SP.is (undef)) (by rw [hD]; rfl) (hall 14 (by decide))
              have h31 : ac.eval (.tmp 31) = undef := hF.done 15 (31, SP.is (undef)) (by rw [hD]; rfl) (hall 15 (by decide))
              have h32 : ac.eval (.tmp 32) = undef := hF.done 16 (32, SP.is (undef)) (by rw [hD]; rfl) (hall 16 (by decide))
              have h33 : ac.eval (.tmp 33) = undef := hF.done 17 (33, SP.is (undef)) (by rw [hD]; rfl) (hall 17 (by decide))
              have h34 : ac.eval (.tmp 34) = undef := hF.done 18 (34, SP.is (undef)) (by rw [hD]; rfl) (hall 18 (by decide))
              have h35 : ac.eval (.tmp 35) = undef := hF.done 19 (35, SP.is (undef)) (by rw [hD]; rfl) (hall 19 (by decide))
              have h36 : ac.eval (.tmp 36) = undef := hF.done 20 (36, SP.is (undef)) (by rw [hD]; rfl) (hall 20 (by decide))
              have h37 : ac.eval (.tmp 37) = undef := hF.done 21 (37, SP.is (undef)) (by rw [hD]; rfl) (hall 21 (by decide))
              have h38 : ac.eval (.tmp 38) = undef := hF.done 22 (38, SP.is (undef)) (by rw [hD]; rfl) (hall 22 (by decide))
              have h39 : ac.eval (.tmp 39) = .bool false := hF.done 23 (39, SP.is (.bool false)) (by rw [hD]; rfl) (hall 23 (by decide))
              have ea := hF.lay [(16, .slice (some ⟨b, o, none⟩) n cap), (17, .int .i64 (i : Int)), (18, .pointer (some ⟨b, o + i * 1, none⟩)), (19, vi), (20, .string (str xi)), (21, .slice (some ⟨b, o, none⟩) n cap), (22, .int .i64 (j : Int)), (23, .pointer (some ⟨b, o + j * 1, none⟩)), (24, vj), (25, .string (str xj)), (26, .bool false), (27, .bool false), (28, undef), (29, undef), (30, undef), (31, undef), (32, undef), (33, undef), (34, undef), (35, undef), (36, undef), (37, undef), (38, undef), (39, .bool false)] (by rw [hD, hsz]; rfl) (by simp only [List.forall_mem_cons, List.not_mem_nil, false_implies, implies_true, and_true]; exact ⟨h16, h17, h18, h19, h20, h21, h22, h23, h24, h25, h26, h27, h28, h29, h30, h31, h32, h33, h34, h35, h36, h37, h38, h39⟩)
              rw [ha0] at ea
              simp only [List.foldl_cons, List.foldl_nil, List.setIfInBounds_toArray, List.set_cons_zero, List.set_cons_succ] at ea
              clear hF hall hr hl hD  zs0 zs3 zs4 ha0 hsz h16 h17 h18 h19 h20 h21 h22 h23 h24 h25 h26 h27 h28 h29 h30 h31 h32 h33 h34 h35 h36 h37 h38 h39
              subst ea

              go_wp2_with fail
              refine ⟨⟨j + 1, hji, by go_num, hq, fun k' h => ?_⟩, by simp [intOf]; omega⟩
              by_cases e : k' < j
              · exact HNJ.out k' e
              · obtain rfl : k' = j := by omega
                exact HNE.out
          · have HB1 : Hid ((!((str xi).toList == (str xj).toList)) = true) := by show _ = _; rw [str_beq, decide_eq_false hx]; rfl
            by_cases hd : di = dj
            · obtain ⟨B2, hB2⟩ : ∃ B2, decide (di = dj) = B2 := ⟨_, rfl⟩
              have HB2 : Hid (decide (di = dj) = B2) := hB2
              obtain rfl : B2 = true := by rw [← hB2]; exact decide_eq_true hd
              clear hx HCL hd hB2
              go_wp2_with fail
              refine wp_named fun a0 ha0 => ?_
              have hsz : a0.tmps.size = 40 := by rw [ha0]; rfl
              have zs0 : a0.eval (.tmp 0) = .slice (some ⟨b, o, none⟩) n cap := by rw [ha0]; rfl
              have zs3 : a0.eval (.tmp 3) = .int .i64 (i : Int) := by rw [ha0]; rfl
              have zs4 : a0.eval (.tmp 4) = .int .i64 (j : Int) := by rw [ha0]; rfl
              obtain ⟨D, hD⟩ : ∃ D : List (Tmp × SP), D = [(16, SP.is (.slice (some ⟨b, o, none⟩) n cap)), (17, SP.is (.int .i64 (i : Int))), (18, SP.is (.pointer (some ⟨b, o + i * 1, none⟩))), (19, SP.is (vi)), (20, SP.is (.string (str xi))), (21, SP.is (.slice (some ⟨b, o, none⟩) n cap)), (22, SP.is (.int .i64 (j : Int))), (23, SP.is (.pointer (some ⟨b, o + j * 1, none⟩))), (24, SP.is (vj)), (25, SP.is (.string (str xj))), (26, SP.is (.bool true)), (27, SP.is (.bool true)), (28, SP.is (.slice (some ⟨b, o, none⟩) n cap)), (29, SP.is (.int .i64 (i : Int))), (30, SP.is (.pointer (some ⟨b, o + i * 1, none⟩))), (31, SP.is (vi)), (32, SP.is (.agg (vB di).toArray)), (33, SP.is (.slice (some ⟨b, o, none⟩) n cap)), (34, SP.is (.int .i64 (j : Int))), (35, SP.is (.pointer (some ⟨b, o + j * 1, none⟩))), (36, SP.is (vj)), (37, SP.is (.agg (vB dj).toArray)), (38, SP.is (.bool true)), (39, SP.is (.bool true))] := ⟨_, rfl⟩
              refine wp_region_down (by kernel_rfl) (fun listed ac W => listed.size = 24 ∧ Fp D a0 listed ac W ∧ Below w.heap.size w W) ?_ ?_ ?_
              · exact ⟨by simp, Fp.start D a0 _ _, Below.drew hq⟩
              · clear ha0 hq  
                intro listed ac W k hI hdn hk
                obtain ⟨hl, hF, hq⟩ := hI
                have hk1 : k < 24 := List.mem_range.1 (List.mem_filter.1 hk).1
                have hl2 : ∀ j, (listed.setIfInBounds j true).size = 24 := fun j => by rw [Array.size_setIfInBounds]; exact hl
                rcases (show k = 0 ∨ k = 1 ∨ k = 2 ∨ k = 3 ∨ k = 4 ∨ k = 5 ∨ k = 6 ∨ k = 7 ∨ k = 8 ∨ k = 9 ∨ k = 10 ∨ k = 11 ∨ k = 12 ∨ k = 13 ∨ k = 14 ∨ k = 15 ∨ k = 16 ∨ k = 17 ∨ k = 18 ∨ k = 19 ∨ k = 20 ∨ k = 21 ∨ k = 22 ∨ k = 23 by omega) with rfl | rfl | rfl | rfl | rfl | rfl | rfl | rfl | rfl | rfl | rfl | rfl | rfl | rfl | rfl | rfl | rfl | rfl | rfl | rfl | rfl | rfl | rfl | rfl
                · have hk3 := hk
                  exact wpOp_plain rfl rfl (wp_move_v (ac.eval (.tmp 0)) rfl rfl ⟨hl2 0, (hF.put 0 16 (SP.is (.slice (some ⟨b, o, none⟩) n cap)) (ac.eval (.tmp 0)) (by rw [hD]; rfl) (((hF.keep 0 (by rw [hD]; rfl)).trans zs0)) (by rw [hD]; rfl) (by rw [hsz]; decide) (by rw [hl]; decide)), hq⟩)
                · have hk3 := hk
                  exact wpOp_plain rfl rfl (wp_move_v (ac.eval (.tmp 3)) rfl rfl ⟨hl2 1, (hF.put 1 17 (SP.is (.int .i64 (i : Int))) (ac.eval (.tmp 3)) (by rw [hD]; rfl) (((hF.keep 3 (by rw [hD]; rfl)).trans zs3)) (by rw [hD]; rfl) (by rw [hsz]; decide) (by rw [hl]; decide)), hq⟩)
                · have hk3 := hk
                  have ea := (hF.done 0 (16, SP.is (.slice (some ⟨b, o, none⟩) n cap)) (by rw [hD]; rfl) (ready_dep hk 0 (by kernel_rfl)))
                  have eb := (hF.done 1 (17, SP.is (.int .i64 (i : Int))) (by rw [hD]; rfl) (ready_dep hk 1 (by kernel_rfl)))
                  exact wpOp_plain rfl rfl (wp_index_s 50 52 rfl b o n cap i 1 ea eb hlt Tryz.underlying50 info_slbT ⟨hl2 2, (hF.put 2 18 (SP.is (.pointer (some ⟨b, o + i * 1, none⟩))) (.pointer (some ⟨b, o + i * 1, none⟩)) (by rw [hD]; rfl) rfl (by rw [hD]; rfl) (by rw [hsz]; decide) (by rw [hl]; decide)), hq⟩)
                · have hk3 := hk
                  have ea := (hF.done 2 (18, SP.is (.pointer (some ⟨b, o + i * 1, none⟩))) (by rw [hD]; rfl) (ready_dep hk 2 (by kernel_rfl)))
                  exact wpOp_plain rfl rfl (wp_load_1T b (o + i * 1) vi rfl ea (run_load_slb W b (o + i * 1) vi (HCI.out W hq)) ⟨hl2 3, (hF.put 3 19 (SP.is (vi)) vi (by rw [hD]; rfl) rfl (by rw [hD]; rfl) (by rw [hsz]; decide) (by rw [hl]; decide)), hq⟩)
                · have hk3 := hk
                  have ea := (hF.done 3 (19, SP.is (vi)) (by rw [hD]; rfl) (ready_dep hk 3 (by kernel_rfl)))
                  exact wpOp_plain rfl rfl (wp_conv_s rfl xi (by rw [show ac.eval (.tmp 19) = _ from ea]; exact HSI.out W hq) ⟨hl2 4, (hF.put 4 20 (SP.is (.string (str xi))) (.string (str xi)) (by rw [hD]; rfl) rfl (by rw [hD]; rfl) (by rw [hsz]; decide) (by rw [hl]; decide)), hq⟩)
                · have hk3 := hk
                  exact wpOp_plain rfl rfl (wp_move_v (ac.eval (.tmp 0)) rfl rfl ⟨hl2 5, (hF.put 5 21 (SP.is (.slice (some ⟨b, o, none⟩) n cap)) (ac.eval (.tmp 0)) (by rw [hD]; rfl) (((hF.keep 0 (by rw [hD]; rfl)).trans zs0)) (by rw [hD]; rfl) (by rw [hsz]; decide) (by rw [hl]; decide)), hq⟩)
                · have hk3 := hk
                  exact wpOp_plain rfl rfl (wp_move_v (ac.eval (.tmp 4)) rfl rfl ⟨hl2 6, (hF.put 6 22 (SP.is (.int .i64 (j : Int))) (ac.eval (.tmp 4)) (by rw [hD]; rfl) (((hF.keep 4 (by rw [hD]; rfl)).trans zs4)) (by rw [hD]; rfl) (by rw [hsz]; decide) (by rw [hl]; decide)), hq⟩)
                · have hk3 := hk
                  have ea := (hF.done 5 (21, SP.is (.slice (some ⟨b, o, none⟩) n cap)) (by rw [hD]; rfl) (ready_dep hk 5 (by kernel_rfl)))
                  have eb := (hF.done 6 (22, SP.is (.int .i64 (j : Int))) (by rw [hD]; rfl) (ready_dep hk 6 (by kernel_rfl)))
                  exact wpOp_plain rfl rfl (wp_index_s 50 52 rfl b o n cap j 1 ea eb hjn Tryz.underlying50 info_slbT ⟨hl2 7, (hF.put 7 23 (SP.is (.pointer (some ⟨b, o + j * 1, none⟩))) (.pointer (some ⟨b, o + j * 1, none⟩)) (by rw [hD]; rfl) rfl (by rw [hD]; rfl) (by rw [hsz]; decide) (by rw [hl]; decide)), hq⟩)
                · have hk3 := hk
                  have ea := (hF.done 7 (23, SP.is (.pointer (some ⟨b, o + j * 1, none⟩))) (by rw [hD]; rfl) (ready_dep hk 7 (by kernel_rfl)))
                  exact wpOp_plain rfl rfl (wp_load_1T b (o + j * 1) vj rfl ea (run_load_slb W b (o + j * 1) vj (HCJ.out W hq)) ⟨hl2 8, (hF.put 8 24 (SP.is (vj)) vj (by rw [hD]; rfl) rfl (by rw [hD]; rfl) (by rw [hsz]; decide) (by rw [hl]; decide)), hq⟩)
                · have hk3 := hk
                  have ea := (hF.done 8 (24, SP.is (vj)) (by rw [hD]; rfl) (ready_dep hk 8 (by kernel_rfl)))
                  exact wpOp_plain rfl rfl (wp_conv_s rfl xj (by rw [show ac.eval (.tmp 24) = _ from ea]; exact HSJ.out W hq) ⟨hl2 9, (hF.put 9 25 (SP.is (.string (str xj))) (.string (str xj)) (by rw [hD]; rfl) rfl (by rw [hD]; rfl) (by rw [hsz]; decide) (by rw [hl]; decide)), hq⟩)
                · have hk3 := hk
                  have ea := (hF.done 4 (20, SP.is (.string (str xi))) (by rw [hD]; rfl) (ready_dep hk 4 (by kernel_rfl)))
                  have eb := (hF.done 9 (25, SP.is (.string (str xj))) (by rw [hD]; rfl) (ready_dep hk 9 (by kernel_rfl)))
                  exact wpOp_plain rfl rfl (wp_neqstr_v rfl ea eb HB1.out ⟨hl2 10, (hF.put 10 26 (SP.is (.bool true)) (.bool true) (by rw [hD]; rfl) rfl (by rw [hD]; rfl) (by rw [hsz]; decide) (by rw [hl]; decide)), hq⟩)
                · have hk3 := hk
                  exact wpOp_plain rfl rfl (wp_move_v (ac.eval (.tmp 26)) rfl rfl ⟨hl2 11, (hF.put 11 27 (SP.is (.bool true)) (ac.eval (.tmp 26)) (by rw [hD]; rfl) ((hF.done 10 (26, SP.is (.bool true)) (by rw [hD]; rfl) (ready_dep hk 10 (by kernel_rfl)))) (by rw [hD]; rfl) (by rw [hsz]; decide) (by rw [hl]; decide)), hq⟩)
                · have hk3 := hk
                  exact wpOp_wanted rfl (wanted_g (g := 11) (b := true) rfl rfl (hF.done 11 (27, SP.is (.bool true)) (by rw [hD]; rfl) (ready_dep hk 11 (by kernel_rfl))) (by rw [hF.size, hsz]; decide)) (wp_move_v (ac.eval (.tmp 0)) rfl rfl ⟨hl2 12, (hF.put 12 28 (SP.is (.slice (some ⟨b, o, none⟩) n cap)) (ac.eval (.tmp 0)) (by rw [hD]; rfl) (((hF.keep 0 (by rw [hD]; rfl)).trans zs0)) (by rw [hD]; rfl) (by rw [hsz]; decide) (by rw [hl]; decide)), hq⟩)
                · have hk3 := hk
                  exact wpOp_wanted rfl (wanted_g (g := 11) (b := true) rfl rfl (hF.done 11 (27, SP.is (.bool true)) (by rw [hD]; rfl) (ready_dep hk 11 (by kernel_rfl))) (by rw [hF.size, hsz]; decide)) (wp_move_v (ac.eval (.tmp 3)) rfl rfl ⟨hl2 13, (hF.put 13 29 (SP.is (.int .i64 (i : Int))) (ac.eval (.tmp 3)) (by rw [hD]; rfl) (((hF.keep 3 (by rw [hD]; rfl)).trans zs3)) (by rw [hD]; rfl) (by rw [hsz]; decide) (by rw [hl]; decide)), hq⟩)
                · have hk3 := hk
                  have ea := (hF.done 12 (28, SP.is (.slice (some ⟨b, o, none⟩) n cap)) (by rw [hD]; rfl) (ready_dep hk 12 (by kernel_rfl)))
                  have eb := (hF.done 13 (29, SP.is (.int .i64 (i : Int))) (by rw [hD]; rfl) (ready_dep hk 13 (by kernel_rfl)))
                  exact wpOp_wanted rfl (wanted_g (g := 11) (b := true) rfl rfl (hF.done 11 (27, SP.is (.bool true)) (by rw [hD]; rfl) (ready_dep hk 11 (by kernel_rfl))) (by rw [hF.size, hsz]; decide)) (wp_index_s 50 52 rfl b o n cap i 1 ea eb hlt Tryz.underlying50 info_slbT ⟨hl2 14, (hF.put 14 30 (SP.is (.pointer (some ⟨b, o + i * 1, none⟩))) (.pointer (some ⟨b, o + i * 1, none⟩)) (by rw [hD]; rfl) rfl (by rw [hD]; rfl) (by rw [hsz]; decide) (by rw [hl]; decide)), hq⟩)
                · have hk3 := hk
                  have ea := (hF.done 14 (30, SP.is (.pointer (some ⟨b, o + i * 1, none⟩))) (by rw [hD]; rfl) (ready_dep hk 14 (by kernel_rfl)))
                  exact wpOp_wanted rfl (wanted_g (g := 11) (b := true) rfl rfl (hF.done 11 (27, SP.is (.bool true)) (by rw [hD]; rfl) (ready_dep hk 11 (by kernel_rfl))) (by rw [hF.size, hsz]; decide)) (wp_load_1T b (o + i * 1) vi rfl ea (run_load_slb W b (o + i * 1) vi (HCI.out W hq)) ⟨hl2 15, (hF.put 15 31 (SP.is (vi)) vi (by rw [hD]; rfl) rfl (by rw [hD]; rfl) (by rw [hsz]; decide) (by rw [hl]; decide)), hq⟩)
                · have hk3 := hk
                  have ea := (hF.done 15 (31, SP.is (vi)) (by rw [hD]; rfl) (ready_dep hk 15 (by kernel_rfl)))
                  refine wpOp_wanted rfl (wanted_g (g := 11) (b := true) rfl rfl (hF.done 11 (27, SP.is (.bool true)) (by rw [hD]; rfl) (ready_dep hk 11 (by kernel_rfl))) (by rw [hF.size, hsz]; decide)) (wp_fcall_v 26 #[vi] rfl rfl (by show [ac.eval (.tmp 31)] = _; rw [show ac.eval (.tmp 31) = _ from ea]) (by go_simp) ((HMI.out W hq).mono ?_))
                  rintro e W2 ⟨rfl, hB⟩
                  exact ⟨_, rfl, hl2 16, ((hF.world hB).put 16 32 (SP.is (.agg (vB di).toArray)) (.agg (vB di).toArray) (by rw [hD]; rfl) rfl (by rw [hD]; rfl) (by rw [hsz]; decide) (by rw [hl]; decide)), hq.trans (hB.mono hq.size)⟩
                · have hk3 := hk
                  exact wpOp_wanted rfl (wanted_g (g := 11) (b := true) rfl rfl (hF.done 11 (27, SP.is (.bool true)) (by rw [hD]; rfl) (ready_dep hk 11 (by kernel_rfl))) (by rw [hF.size, hsz]; decide)) (wp_move_v (ac.eval (.tmp 0)) rfl rfl ⟨hl2 17, (hF.put 17 33 (SP.is (.slice (some ⟨b, o, none⟩) n cap)) (ac.eval (.tmp 0)) (by rw [hD]; rfl) (((hF.keep 0 (by rw [hD]; rfl)).trans zs0)) (by rw [hD]; rfl) (by rw [hsz]; decide) (by rw [hl]; decide)), hq⟩)
                · have hk3 := hk
                  exact wpOp_wanted rfl (wanted_g (g := 11) (b := true) rfl rfl (hF.done 11 (27, SP.is (.bool true)) (by rw [hD]; rfl) (ready_dep hk 11 (by kernel_rfl))) (by rw [hF.size, hsz]; decide)) (wp_move_v (ac.eval (.tmp 4)) rfl rfl ⟨hl2 18, (hF.put 18 34 (SP.is (.int .i64 (j : Int))) (ac.eval (.tmp 4)) (by rw [hD]; rfl) (((hF.keep 4 (by rw [hD]; rfl)).trans zs4)) (by rw [hD]; rfl) (by rw [hsz]; decide) (by rw [hl]; decide)), hq⟩)
                · have hk3 := hk
                  have ea := (hF.done 17 (33, SP.is (.slice (some ⟨b, o, none⟩) n cap)) (by rw [hD]; rfl) (ready_dep hk 17 (by kernel_rfl)))
                  have eb := (hF.done 18 (34, SP.is (.int .i64 (j : Int))) (by rw [hD]; rfl) (ready_dep hk 18 (by kernel_rfl)))
                  exact wpOp_wanted rfl (wanted_g (g := 11) (b := true) rfl rfl (hF.done 11 (27, SP.is (.bool true)) (by rw [hD]; rfl) (ready_dep hk 11 (by kernel_rfl))) (by rw [hF.size, hsz]; decide)) (wp_index_s 50 52 rfl b o n cap j 1 ea eb hjn Tryz.underlying50 info_slbT ⟨hl2 19, (hF.put 19 35 (SP.is (.pointer (some ⟨b, o + j * 1, none⟩))) (.pointer (some ⟨b, o + j * 1, none⟩)) (by rw [hD]; rfl) rfl (by rw [hD]; rfl) (by rw [hsz]; decide) (by rw [hl]; decide)), hq⟩)
                · have hk3 := hk
                  have ea := (hF.done 19 (35, SP.is (.pointer (some ⟨b, o + j * 1, none⟩))) (by rw [hD]; rfl) (ready_dep hk 19 (by kernel_rfl)))
                  exact wpOp_wanted rfl (wanted_g (g := 11) (b := true) rfl rfl (hF.done 11 (27, SP.is (.bool true)) (by rw [hD]; rfl) (ready_dep hk 11 (by kernel_rfl))) (by rw [hF.size, hsz]; decide)) (wp_load_1T b (o + j * 1) vj rfl ea (run_load_slb W b (o + j * 1) vj (HCJ.out W hq)) ⟨hl2 20, (hF.put 20 36 (SP.is (vj)) vj (by rw [hD]; rfl) rfl (by rw [hD]; rfl) (by rw [hsz]; decide) (by rw [hl]; decide)), hq⟩)
                · have hk3 := hk
                  have ea := (hF.done 20 (36, SP.is (vj)) (by rw [hD]; rfl) (ready_dep hk 20 (by kernel_rfl)))
                  refine wpOp_wanted rfl (wanted_g (g := 11) (b := true) rfl rfl (hF.done 11 (27, SP.is (.bool true)) (by rw [hD]; rfl) (ready_dep hk 11 (by kernel_rfl))) (by rw [hF.size, hsz]; decide)) (wp_fcall_v 26 #[vj] rfl rfl (by show [ac.eval (.tmp 36)] = _; rw [show ac.eval (.tmp 36) = _ from ea]) (by go_simp) ((HMJ.out W hq).mono ?_))
                  rintro e W2 ⟨rfl, hB⟩
                  exact ⟨_, rfl, hl2 21, ((hF.world hB).put 21 37 (SP.is (.agg (vB dj).toArray)) (.agg (vB dj).toArray) (by rw [hD]; rfl) rfl (by rw [hD]; rfl) (by rw [hsz]; decide) (by rw [hl]; decide)), hq.trans (hB.mono hq.size)⟩
                · have hk3 := hk
                  have ea := (hF.done 16 (32, SP.is (.agg (vB di).toArray)) (by rw [hD]; rfl) (ready_dep hk 16 (by kernel_rfl)))
                  have eb := (hF.done 21 (37, SP.is (.agg (vB dj).toArray)) (by rw [hD]; rfl) (ready_dep hk 21 (by kernel_rfl)))
                  exact wpOp_wanted rfl (wanted_g (g := 11) (b := true) rfl rfl (hF.done 11 (27, SP.is (.bool true)) (by rw [hD]; rfl) (ready_dep hk 11 (by kernel_rfl))) (by rw [hF.size, hsz]; decide)) (wp_eql_d (.tmp 32) (.tmp 37) _ rfl di dj Hdi.out Hdj.out ea eb true HB2.out ⟨hl2 22, (hF.put 22 38 (SP.is (.bool true)) (.bool true) (by rw [hD]; rfl) rfl (by rw [hD]; rfl) (by rw [hsz]; decide) (by rw [hl]; decide)), hq⟩)
                · have hk3 := hk
                  have ea := (hF.done 11 (27, SP.is (.bool true)) (by rw [hD]; rfl) (ready_dep hk 11 (by kernel_rfl)))
                  have eb := (hF.done 22 (38, SP.is (.bool true)) (by rw [hD]; rfl) (ready_dep hk 22 (by kernel_rfl)))
                  exact wpOp_plain rfl rfl (wp_pick_v (.bool true) rfl ea eb ⟨hl2 23, (hF.put 23 39 (SP.is (.bool true)) (.bool true) (by rw [hD]; rfl) rfl (by rw [hD]; rfl) (by rw [hsz]; decide) (by rw [hl]; decide)), hq⟩)
              · clear hq  
                intro listed ac W hI hr
                obtain ⟨hl, hF, hq⟩ := hI
                have hall := all_listed (by kernel_rfl) hl hr
                have h16 : ac.eval (.tmp 16) = .slice (some ⟨b, o, none⟩) n cap := hF.done 0 (16, SP.is (.slice (some ⟨b, o, none⟩) n cap)) (by rw [hD]; rfl) (hall 0 (by decide))
                have h17 : ac.eval (.tmp 17) = .int .i64 (i : Int) := hF.done 1 (17, SP.is (.int .i64 (i : Int))) (by rw [hD]; rfl) (hall 1 (by decide))
                have h18 : ac.eval (.tmp 18) = .pointer (some ⟨b, o + i * 1, none⟩) := hF.done 2 (18, SP.is (.pointer (some ⟨b, o + i * 1, none⟩))) (by rw [hD]; rfl) (hall 2 (by decide))
                have h19 : ac.eval (.tmp 19) = vi := hF.done 3 (19, SP.is (vi)) (by rw [hD]; rfl) (hall 3 (by decide))
                have h20 : ac.eval (.tmp 20) = .string (str xi) := hF.done 4 (20, SP.is (.string (str xi))) (by rw [hD]; rfl) (hall 4 (by decide))
                have h21 : ac.eval (.tmp 21) = .slice (some ⟨b, o, none⟩) n cap := hF.done 5 (21, SP.is (.slice (some ⟨b, o, none⟩) n cap)) (by rw [hD]; rfl) (hall 5 (by decide))
                have h22 : ac.eval (.tmp 22) = .int .i64 (j : Int) := hF.done 6 (22, SP.is (.int .i64 (j : Int))) (by rw [hD]; rfl) (hall 6 (by decide))
                have h23 : ac.eval (.tmp 23) = .pointer (some ⟨b, o + j * 1, none⟩) := hF.done 7 (23, SP.is (.pointer (some ⟨b, o + j * 1, none⟩))) (by rw [hD]; rfl) (hall 7 (by decide))
                have h24 : ac.eval (.tmp 24) = vj := hF.done 8 (24, SP.is (vj)) (by rw [hD]; rfl) (hall 8 (by decide))
                have h25 : ac.eval (.tmp 25) = .string (str xj) := hF.done 9 (25, SP.is (.string (str xj))) (by rw [hD]; rfl) (hall 9 (by decide))
                have h26 : ac.eval (.tmp 26) = .bool true := hF.done 10 (26, SP.is (.bool true)) (by rw [hD]; rfl) (hall 10 (by decide))
                have h27 : ac.eval (.tmp 27) = .bool true := hF.done 11 (27, SP.is (.bool true)) (by rw [hD]; rfl) (hall 11 (by decide))
                have h28 : ac.eval (.tmp 28) = .slice (some ⟨b, o, none⟩) n cap := hF.done 12 (28, SP.is (.slice (some ⟨b, o, none⟩) n cap)) (by rw [hD]; rfl) (hall 12 (by decide))
                have h29 : ac.eval (.tmp 29) = .int .i64 (i : Int) := hF.done 13 (29, SP.is (.int .i64 (i : Int))) (by rw [hD]; rfl) (hall 13 (by decide))
                have h30 : ac.eval (.tmp 30) = .pointer (some ⟨b, o + i * 1, none⟩) := hF.done 14 (30, SP.is (.pointer (some ⟨b, o + i * 1, none⟩))) (by rw [hD]; rfl) (hall 14 (by decide))
                have h31 : ac.eval (.tmp 31) = vi := hF.done 15 (31, SP.is (vi)) (by rw [hD]; rfl) (hall 15 (by decide))
                have h32 : ac.eval (.tmp 32) = .agg (vB di).toArray := hF.done 16 (32, SP.is (.agg (vB di).toArray)) (by rw [hD]; rfl) (hall 16 (by decide))
                have h33 : ac.eval (.tmp 33) = .slice (some ⟨b, o, none⟩) n cap := hF.done 17 (33, SP.is (.slice (some ⟨b, o, none⟩) n cap)) (by rw [hD]; rfl) (hall 17 (by decide))
                have h34 : ac.eval (.tmp 34) = .int .i64 (j : Int) := hF.done 18 (34, SP.is (.int .i64 (j : Int))) (by rw [hD]; rfl) (hall 18 (by decide))
                have h35 : ac.eval (.tmp 35) = .pointer (some ⟨b, o + j * 1, none⟩) := hF.done 19 (35, SP.is (.pointer (some ⟨b, o + j * 1, none⟩))) (by rw [hD]; rfl) (hall 19 (by decide))
                have h36 : ac.eval (.tmp 36) = vj := hF.done 20 (36, SP.is (vj)) (by rw [hD]; rfl) (hall 20 (by decide))
                have h37 : ac.eval (.tmp 37) = .agg (vB dj).toArray := hF.done 21 (37, SP.is (.agg (vB dj).toArray)) (by rw [hD]; rfl) (hall 21 (by decide))
                have h38 : ac.eval (.tmp 38) = .bool true := hF.done 22 (38, SP.is (.bool true)) (by rw [hD]; rfl) (hall 22 (by decide))
                have h39 : ac.eval (.tmp 39) = .bool true := hF.done 23 (39, SP.is (.bool true)) (by rw [hD]; rfl) (hall 23 (by decide))
                have ea := hF.lay [(16, .slice (some ⟨b, o, none⟩) n cap), (17, .int .i64 (i : Int)), (18, .pointer (some ⟨b, o + i * 1, none⟩)), (19, vi), (20, .string (str xi)), (21, .slice (some ⟨b, o, none⟩) n cap), (22, .int .i64 (j : Int)), (23, .pointer (some ⟨b, o + j * 1, none⟩)), (24, vj), (25, .string (str xj)), (26, .bool true), (27, .bool true), (28, .slice (some ⟨b, o, none⟩) n cap), (29, .int .i64 (i : Int)), (30, .pointer (some ⟨b, o + i * 1, none⟩)), (31, vi), (32, .agg (vB di).toArray), (33, .slice (some ⟨b, o, none⟩) n cap), (34, .int .i64 (j : Int)), (35, .pointer (some ⟨b, o + j * 1, none⟩)), (36, vj), (37, .agg (vB dj).toArray), (38, .bool true), (39, .bool true)] (by rw [hD, hsz]; rfl) (by simp only [List.forall_mem_cons, List.not_mem_nil, false_implies, implies_true, and_true]; exact ⟨h16, h17, h18, h19, h20, h21, h22, h23, h24, h25, h26, h27, h28, h29, h30, h31, h32, h33, h34, h35, h36, h37, h38, h39⟩)
                rw [ha0] at ea
                simp only [List.foldl_cons, List.foldl_nil, List.setIfInBounds_toArray, List.set_cons_zero, List.set_cons_succ] at ea
                clear hF hall hr hl hD  zs0 zs3 zs4 ha0 hsz h16 h17 h18 h19 h20 h21 h22 h23 h24 h25 h26 h27 h28 h29 h30 h31 h32 h33 h34 h35 h36 h37 h38 h39
                subst ea

                go_wp2_with fail
                go_ret
                exact ⟨rfl, hq⟩
            · have HB2 : Hid (decide (di = dj) = false) := decide_eq_false hd
              have HNE : Hid (¬ Clsh ts i j) := fun h => hd (HCL.out.1 h).1
              clear hx HCL hd
              go_wp2_with fail
              refine wp_named fun a0 ha0 => ?_
              have hsz : a0.tmps.size = 40 := by rw [ha0]; rfl
              have zs0 : a0.eval (.tmp 0) = .slice (some ⟨b, o, none⟩) n cap := by rw [ha0]; rfl
              have zs3 : a0.eval (.tmp 3) = .int .i64 (i : Int) := by rw [ha0]; rfl
              have zs4 : a0.eval (.tmp 4) = .int .i64 (j : Int) := by rw [ha0]; rfl
              obtain ⟨D, hD⟩ : ∃ D : List (Tmp × SP), D = [(16, SP.is (.slice (some ⟨b, o, none⟩) n cap)), (17, SP.is (.int .i64 (i : Int))), (18, SP.is (.pointer (some ⟨b, o + i * 1, none⟩))), (19, SP.is (vi)), (20, SP.is (.string (str xi))), (21, SP.is (.slice (some ⟨b, o, none⟩) n cap)), (22, SP.is (.int .i64 (j : Int))), (23, SP.is (.pointer (some ⟨b, o + j * 1, none⟩))), (24, SP.is (vj)), (25, SP.is (.string (str xj))), (26, SP.is (.bool true)), (27, SP.is (.bool true)), (28, SP.is (.slice (some ⟨b, o, none⟩) n cap)), (29, SP.is (.int .i64 (i : Int))), (30, SP.is (.pointer (some ⟨b, o + i * 1, none⟩))), (31, SP.is (vi)), (32, SP.is (.agg (vB di).toArray)), (33, SP.is (.slice (some ⟨b, o, none⟩) n cap)), (34, SP.is (.int .i64 (j : Int))), (35, SP.is (.pointer (some ⟨b, o + j * 1, none⟩))), (36, SP.is (vj)), (37, SP.is (.agg (vB dj).toArray)), (38, SP.is (.bool false)), (39, SP.is (.bool false))] := ⟨_, rfl⟩
              refine wp_region_down (by kernel_rfl) (fun listed ac W => listed.size = 24 ∧ Fp D a0 listed ac W ∧ Below w.heap.size w W) ?_ ?_ ?_
              · exact ⟨by simp, Fp.start D a0 _ _, Below.drew hq⟩
              · clear ha0 hq  
                intro listed ac W k hI hdn hk
                obtain ⟨hl, hF, hq⟩ := hI
                have hk1 : k < 24 := List.mem_range.1 (List.mem_filter.1 hk).1
                have hl2 : ∀ j, (listed.setIfInBounds j true).size = 24 := fun j => by rw [Array.size_setIfInBounds]; exact hl
                rcases (show k = 0 ∨ k = 1 ∨ k = 2 ∨ k = 3 ∨ k = 4 ∨ k = 5 ∨ k = 6 ∨ k = 7 ∨ k = 8 ∨ k = 9 ∨ k = 10 ∨ k = 11 ∨ k = 12 ∨ k = 13 ∨ k = 14 ∨ k = 15 ∨ k = 16 ∨ k = 17 ∨ k = 18 ∨ k = 19 ∨ k = 20 ∨ k = 21 ∨ k = 22 ∨ k = 23 by omega) with rfl | rfl | rfl | rfl | rfl | rfl | rfl | rfl | rfl | rfl | rfl | rfl | rfl | rfl | rfl | rfl | rfl | rfl | rfl | rfl | rfl | rfl | rfl | rfl
                · have hk3 := hk
                  exact wpOp_plain rfl rfl (wp_move_v (ac.eval (.tmp 0)) rfl rfl ⟨hl2 0, (hF.put 0 16 (SP.is (.slice (some ⟨b, o, none⟩) n cap)) (ac.eval (.tmp 0)) (by rw [hD]; rfl) (((hF.keep 0 (by rw [hD]; rfl)).trans zs0)) (by rw [hD]; rfl) (by rw [hsz]; decide) (by rw [hl]; decide)), hq⟩)
                · have hk3 := hk
                  exact wpOp_plain rfl rfl (wp_move_v (ac.eval (.tmp 3)) rfl rfl ⟨hl2 1, (hF.put 1 17 (SP.is (.int .i64 (i : Int))) (ac.eval (.tmp 3)) (by rw [hD]; rfl) (((hF.keep 3 (by rw [hD]; rfl)).trans zs3)) (by rw [hD]; rfl) (by rw [hsz]; decide) (by rw [hl]; decide)), hq⟩)
                · have hk3 := hk
                  have ea := (hF.done 0 (16, SP.is (.slice (some ⟨b, o, none⟩) n cap)) (by rw [hD]; rfl) (ready_dep hk 0 (by kernel_rfl)))
                  have eb := (hF.done 1 (17, SP.is (.int .i64 (i : Int))) (by rw [hD]; rfl) (ready_dep hk 1 (by kernel_rfl)))
                  exact wpOp_plain rfl rfl (wp_index_s 50 52 rfl b o n cap i 1 ea eb hlt Tryz.underlying50 info_slbT ⟨hl2 2, (hF.put 2 18 (SP.is (.pointer (some ⟨b, o + i * 1, none⟩))) (.pointer (some ⟨b, o + i * 1, none⟩)) (by rw [hD]; rfl) rfl (by rw [hD]; rfl) (by rw [hsz]; decide) (by rw [hl]; decide)), hq⟩)
                · have hk3 := hk
                  have ea := (hF.done 2 (18, SP.is (.pointer (some ⟨b, o + i * 1, none⟩))) (by rw [hD]; rfl) (ready_dep hk 2 (by kernel_rfl)))
                  exact wpOp_plain rfl rfl (wp_load_1T b (o + i * 1) vi rfl ea (run_load_slb W b (o + i * 1) vi (HCI.out W hq)) ⟨hl2 3, (hF.put 3 19 (SP.is (vi)) vi (by rw [hD]; rfl) rfl (by rw [hD]; rfl) (by rw [hsz]; decide) (by rw [hl]; decide)), hq⟩)
                · have hk3 := hk
                  have ea := (hF.done 3 (19, SP.is (vi)) (by rw [hD]; rfl) (ready_dep hk 3 (by kernel_rfl)))
                  exact wpOp_plain rfl rfl (wp_conv_s rfl xi (by rw [show ac.eval (.tmp 19) = _ from ea]; exact HSI.out W hq) ⟨hl2 4, (hF.put 4 20 (SP.is (.string (str xi))) (.string (str xi)) (by rw [hD]; rfl) rfl (by rw [hD]; rfl) (by rw [hsz]; decide) (by rw [hl]; decide)), hq⟩)
                · have hk3 := hk
                  exact wpOp_plain rfl rfl (wp_move_v (ac.eval (.tmp 0)) rfl rfl ⟨hl2 5, (hF.put 5 21 (SP.is (.slice (some ⟨b, o, none⟩) n cap)) (ac.eval (.tmp 0)) (by rw [hD]; rfl) (((hF.keep 0 (by rw [hD]; rfl)).trans zs0)) (by rw [hD]; rfl) (by rw [hsz]; decide) (by rw [hl]; decide)), hq⟩)
                · have hk3 := hk
                  exact wpOp_plain rfl rfl (wp_move_v (ac.eval (.tmp 4)) rfl rfl ⟨hl2 6, (hF.put 6 22 (SP.is (.int .i64 (j : Int))) (ac.eval (.tmp 4)) (by rw [hD]; rfl) (((hF.keep 4 (by rw [hD]; rfl)).trans zs4)) (by rw [hD]; rfl) (by rw [hsz]; decide) (by rw [hl]; decide)), hq⟩)
                · have hk3 := hk
                  have ea := (hF.done 5 (21, SP.is (.slice (some ⟨b, o, none⟩) n cap)) (by rw [hD]; rfl) (ready_dep hk 5 (by kernel_rfl)))
                  have eb := (hF.done 6 (22, SP.is (.int .i64 (j : Int))) (by rw [hD]; rfl) (ready_dep hk 6 (by kernel_rfl)))
                  exact wpOp_plain rfl rfl (wp_index_s 50 52 rfl b o n cap j 1 ea eb hjn Tryz.underlying50 info_slbT ⟨hl2 7, (hF.put 7 23 (SP.is (.pointer (some ⟨b, o + j * 1, none⟩))) (.pointer (some ⟨b, o + j * 1, none⟩)) (by rw [hD]; rfl) rfl (by rw [hD]; rfl) (by rw [hsz]; decide) (by rw [hl]; decide)), hq⟩)
                · have hk3 := hk
                  have ea := (hF.done 7 (23, SP.is (.pointer (some ⟨b, o + j * 1, none⟩))) (by rw [hD]; rfl) (ready_dep hk 7 (by kernel_rfl)))
                  exact wpOp_plain rfl rfl (wp_load_1T b (o + j * 1) vj rfl ea (run_load_slb W b (o + j * 1) vj (HCJ.out W hq)) ⟨hl2 8, (hF.put 8 24 (SP.is (vj)) vj (by rw [hD]; rfl) rfl (by rw [hD]; rfl) (by rw [hsz]; decide) (by rw [hl]; decide)), hq⟩)
                · have hk3 := hk
                  have ea := (hF.done 8 (24, SP.is (vj)) (by rw [hD]; rfl) (ready_dep hk 8 (by kernel_rfl)))
                  exact wpOp_plain rfl rfl (wp_conv_s rfl xj (by rw [show ac.eval (.tmp 24) = _ from ea]; exact HSJ.out W hq) ⟨hl2 9, (hF.put 9 25 (SP.is (.string (str xj))) (.string (str xj)) (by rw [hD]; rfl) rfl (by rw [hD]; rfl) (by rw [hsz]; decide) (by rw [hl]; decide)), hq⟩)
                · have hk3 := hk
                  have ea := (hF.done 4 (20, SP.is (.string (str xi))) (by rw [hD]; rfl) (ready_dep hk 4 (by kernel_rfl)))
                  have eb := (hF.done 9 (25, SP.is (.string (str xj))) (by rw [hD]; rfl) (ready_dep hk 9 (by kernel_rfl)))
                  exact wpOp_plain rfl rfl (wp_neqstr_v rfl ea eb HB1.out ⟨hl2 10, (hF.put 10 26 (SP.is (.bool true)) (.bool true) (by rw [hD]; rfl) rfl (by rw [hD]; rfl) (by rw [hsz]; decide) (by rw [hl]; decide)), hq⟩)
                · have hk3 := hk
                  exact wpOp_plain rfl rfl (wp_move_v (ac.eval (.tmp 26)) rfl rfl ⟨hl2 11, (hF.put 11 27 (SP.is (.bool true)) (ac.eval (.tmp 26)) (by rw [hD]; rfl) ((hF.done 10 (26, SP.is (.bool true)) (by rw [hD]; rfl) (ready_dep hk 10 (by kernel_rfl)))) (by rw [hD]; rfl) (by rw [hsz]; decide) (by rw [hl]; decide)), hq⟩)
                · have hk3 := hk
                  exact wpOp_wanted rfl (wanted_g (g := 11) (b := true) rfl rfl (hF.done 11 (27, SP.is (.bool true)) (by rw [hD]; rfl) (ready_dep hk 11 (by kernel_rfl))) (by rw [hF.size, hsz]; decide)) (wp_move_v (ac.eval (.tmp 0)) rfl rfl ⟨hl2 12, (hF.put 12 28 (SP.is (.slice (some ⟨b, o, none⟩) n cap)) (ac.eval (.tmp 0)) (by rw [hD]; rfl) (((hF.keep 0 (by rw [hD]; rfl)).trans zs0)) (by rw [hD]; rfl) (by rw [hsz]; decide) (by rw [hl]; decide)), hq⟩)
                · have hk3 := hk
                  exact wpOp_wanted rfl (wanted_g (g := 11) (b := true) rfl rfl (hF.done 11 (27, SP.is (.bool true)) (by rw [hD]; rfl) (ready_dep hk 11 (by kernel_rfl))) (by rw [hF.size, hsz]; decide)) (wp_move_v (ac.eval (.tmp 3)) rfl rfl ⟨hl2 13, (hF.put 13 29 (SP.is (.int .i64 (i : Int))) (ac.eval (.tmp 3)) (by rw [hD]; rfl) (((hF.keep 3 (by rw [hD]; rfl)).trans zs3)) (by rw [hD]; rfl) (by rw [hsz]; decide) (by rw [hl]; decide)), hq⟩)
                · have hk3 := hk
                  have ea := (hF.done 12 (28, SP.is (.slice (some ⟨b, o, none⟩) n cap)) (by rw [hD]; rfl) (ready_dep hk 12 (by kernel_rfl)))
                  have eb := (hF.done 13 (29, SP.is (.int .i64 (i : Int))) (by rw [hD]; rfl) (ready_dep hk 13 (by kernel_rfl)))
                  exact wpOp_wanted rfl (wanted_g (g := 11) (b := true) rfl rfl (hF.done 11 (27, SP.is (.bool true)) (by rw [hD]; rfl) (ready_dep hk 11 (by kernel_rfl))) (by rw [hF.size, hsz]; decide)) (wp_index_s 50 52 rfl b o n cap i 1 ea eb hlt Tryz.underlying50 info_slbT ⟨hl2 14, (hF.put 14 30 (SP.is (.pointer (some ⟨b, o + i * 1, none⟩))) (.pointer (some ⟨b, o + i * 1, none⟩)) (by rw [hD]; rfl) rfl (by rw [hD]; rfl) (by rw [hsz]; decide) (by rw [hl]; decide)), hq⟩)
                · have hk3 := hk
                  have ea := (hF.done 14 (30, SP.is (.pointer (some ⟨b, o + i * 1, none⟩))) (by rw [hD]; rfl) (ready_dep hk 14 (by kernel_rfl)))
                  exact wpOp_wanted rfl (wanted_g (g := 11) (b := true) rfl rfl (hF.done 11 (27, SP.is (.bool true)) (by rw [hD]; rfl) (ready_dep hk 11 (by kernel_rfl))) (by rw [hF.size, hsz]; decide)) (wp_load_1T b (o + i * 1) vi rfl ea (run_load_slb W b (o + i * 1) vi (HCI.out W hq)) ⟨hl2 15, (hF.put 15 31 (SP.is (vi)) vi (by rw [hD]; rfl) rfl (by rw [hD]; rfl) (by rw [hsz]; decide) (by rw [hl]; decide)), hq⟩)
                · have hk3 := hk
                  have ea := (hF.done 15 (31, SP.is (vi)) (by rw [hD]; rfl) (ready_dep hk 15 (by kernel_rfl)))
                  refine wpOp_wanted rfl (wanted_g (g := 11) (b := true) rfl rfl (hF.done 11 (27, SP.is (.bool true)) (by rw [hD]; rfl) (ready_dep hk 11 (by kernel_rfl))) (by rw [hF.size, hsz]; decide)) (wp_fcall_v 26 #[vi] rfl rfl (by show [ac.eval (.tmp 31)] = _; rw [show ac.eval (.tmp 31) = _ from ea]) (by go_simp) ((HMI.out W hq).mono ?_))
                  rintro e W2 ⟨rfl, hB⟩
                  exact ⟨_, rfl, hl2 16, ((hF.world hB).put 16 32 (SP.is (.agg (vB di).toArray)) (.agg (vB di).toArray) (by rw [hD]; rfl) rfl (by rw [hD]; rfl) (by rw [hsz]; decide) (by rw [hl]; decide)), hq.trans (hB.mono hq.size)⟩
                · have hk3 := hk
                  exact wpOp_wanted rfl (wanted_g (g := 11) (b := true) rfl rfl (hF.done 11 (27, SP.is (.bool true)) (by rw [hD]; rfl) (ready_dep hk 11 (by kernel_rfl))) (by rw [hF.size, hsz]; decide)) (wp_move_v (ac.eval (.tmp 0)) rfl rfl ⟨hl2 17, (hF.put 17 33 (SP.is (.slice (some ⟨b, o, none⟩) n cap)) (ac.eval (.tmp 0)) (by rw [hD]; rfl) (((hF.keep 0 (by rw [hD]; rfl)).trans zs0)) (by rw [hD]; rfl) (by rw [hsz]; decide) (by rw [hl]; decide)), hq⟩)
                · have hk3 := hk
                  exact wpOp_wanted rfl (wanted_g (g := 11) (b := true) rfl rfl (hF.done 11 (27, SP.is (.bool true)) (by rw [hD]; rfl) (ready_dep hk 11 (by kernel_rfl))) (by rw [hF.size, hsz]; decide)) (wp_move_v (ac.eval (.tmp 4)) rfl rfl ⟨hl2 18, (hF.put 18 34 (SP.is (.int .i64 (j : Int))) (ac.eval (.tmp 4)) (by rw [hD]; rfl) (((hF.keep 4 (by rw [hD]; rfl)).trans zs4)) (by rw [hD]; rfl) (by rw [hsz]; decide) (by rw [hl]; decide)), hq⟩)
                · have hk3 := hk
                  have ea := (hF.done 17 (33, SP.is (.slice (some ⟨b, o, none⟩) n cap)) (by rw [hD]; rfl) (ready_dep hk 17 (by kernel_rfl)))
                  have eb := (hF.done 18 (34, SP.is (.int .i64 (j : Int))) (by rw [hD]; rfl) (ready_dep hk 18 (by kernel_rfl)))
                  exact wpOp_wanted rfl (wanted_g (g := 11) (b := true) rfl rfl (hF.done 11 (27, SP.is (.bool true)) (by rw [hD]; rfl) (ready_dep hk 11 (by kernel_rfl))) (by rw [hF.size, hsz]; decide)) (wp_index_s 50 52 rfl b o n cap j 1 ea eb hjn Tryz.underlying50 info_slbT ⟨hl2 19, (hF.put 19 35 (SP.is (.pointer (some ⟨b, o + j * 1, none⟩))) (.pointer (some ⟨b, o + j * 1, none⟩)) (by rw [hD]; rfl) rfl (by rw [hD]; rfl) (by rw [hsz]; decide) (by rw [hl]; decide)), hq⟩)
                · have hk3 := hk
                  have ea := (hF.done 19 (35, SP.is (.pointer (some ⟨b, o + j * 1, none⟩))) (by rw [hD]; rfl) (ready_dep hk 19 (by kernel_rfl)))
                  exact wpOp_wanted rfl (wanted_g (g := 11) (b := true) rfl rfl (hF.done 11 (27, SP.is (.bool true)) (by rw [hD]; rfl) (ready_dep hk 11 (by kernel_rfl))) (by rw [hF.size, hsz]; decide)) (wp_load_1T b (o + j * 1) vj rfl ea (run_load_slb W b (o + j * 1) vj (HCJ.out W hq)) ⟨hl2 20, (hF.put 20 36 (SP.is (vj)) vj (by rw [hD]; rfl) rfl (by rw [hD]; rfl) (by rw [hsz]; decide) (by rw [hl]; decide)), hq⟩)
                · have hk3 := hk
                  have ea := (hF.done 20 (36, SP.is (vj)) (by rw [hD]; rfl) (ready_dep hk 20 (by kernel_rfl)))
                  refine wpOp_wanted rfl (wanted_g (g := 11) (b := true) rfl rfl (hF.done 11 (27, SP.is (.bool true)) (by rw [hD]; rfl) (ready_dep hk 11 (by kernel_rfl))) (by rw [hF.size, hsz]; decide)) (wp_fcall_v 26 #[vj] rfl rfl (by show [ac.eval (.tmp 36)] = _; rw [show ac.eval (.tmp 36) = _ from ea]) (by go_simp) ((HMJ.out W hq).mono ?_))
                  rintro e W2 ⟨rfl, hB⟩
                  exact ⟨_, rfl, hl2 21, ((hF.world hB).put 21 37 (SP.is (.agg (vB dj).toArray)) (.agg (vB dj).toArray) (by rw [hD]; rfl) rfl (by rw [hD]; rfl) (by rw [hsz]; decide) (by rw [hl]; decide)), hq.trans (hB.mono hq.size)⟩
                · have hk3 := hk
                  have ea := (hF.done 16 (32, SP.is (.agg (vB di).toArray)) (by rw [hD]; rfl) (ready_dep hk 16 (by kernel_rfl)))
                  have eb := (hF.done 21 (37, SP.is (.agg (vB dj).toArray)) (by rw [hD]; rfl) (ready_dep hk 21 (by kernel_rfl)))
                  exact wpOp_wanted rfl (wanted_g (g := 11) (b := true) rfl rfl (hF.done 11 (27, SP.is (.bool true)) (by rw [hD]; rfl) (ready_dep hk 11 (by kernel_rfl))) (by rw [hF.size, hsz]; decide)) (wp_eql_d (.tmp 32) (.tmp 37) _ rfl di dj Hdi.out Hdj.out ea eb false HB2.out ⟨hl2 22, (hF.put 22 38 (SP.is (.bool false)) (.bool false) (by rw [hD]; rfl) rfl (by rw [hD]; rfl) (by rw [hsz]; decide) (by rw [hl]; decide)), hq⟩)
                · have hk3 := hk
                  have ea := (hF.done 11 (27, SP.is (.bool true)) (by rw [hD]; rfl) (ready_dep hk 11 (by kernel_rfl)))
                  have eb := (hF.done 22 (38, SP.is (.bool false)) (by rw [hD]; rfl) (ready_dep hk 22 (by kernel_rfl)))
                  exact wpOp_plain rfl rfl (wp_pick_v (.bool false) rfl ea eb ⟨hl2 23, (hF.put 23 39 (SP.is (.bool false)) (.bool false) (by rw [hD]; rfl) rfl (by rw [hD]; rfl) (by rw [hsz]; decide) (by rw [hl]; decide)), hq⟩)
              · clear hq  
                intro listed ac W hI hr
                obtain ⟨hl, hF, hq⟩ := hI
                have hall := all_listed (by kernel_rfl) hl hr
                have h16 : ac.eval (.tmp 16) = .slice (some ⟨b, o, none⟩) n cap := hF.done 0 (16, SP.is (.slice (some ⟨b, o, none⟩) n cap)) (by rw [hD]; rfl) (hall 0 (by decide))
                have h17 : ac.eval (.tmp 17) = .int .i64 (i : Int) := hF.done 1 (17, SP.is (.int .i64 (i : Int))) (by rw [hD]; rfl) (hall 1 (by decide))
                have h18 : ac.eval (.tmp 18) = .pointer (some ⟨b, o + i * 1, none⟩) := hF.done 2 (18, SP.is (.pointer (some ⟨b, o + i * 1, none⟩))) (by rw [hD]; rfl) (hall 2 (by decide))
                have h19 : ac.eval (.tmp 19) = vi := hF.done 3 (19, SP.is (vi)) (by rw [hD]; rfl) (hall 3 (by decide))
                have h20 : ac.eval (.tmp 20) = .string (str xi) := hF.done 4 (20, SP.is (.string (str xi))) (by rw [hD]; rfl) (hall 4 (by decide))
                have h21 : ac.eval (.tmp 21) = .slice (some ⟨b, o, none⟩) n cap := hF.done 5 (21, SP.is (.slice (some ⟨b, o, none⟩) n cap)) (by rw [hD]; rfl) (hall 5 (by decide))
                have h22 : ac.eval (.tmp 22) = .int .i64 (j : Int) := hF.done 6 (22, SP.is (.int .i64 (j : Int))) (by rw [hD]; rfl) (hall 6 (by decide))
                have h23 : ac.eval (.tmp 23) = .pointer (some ⟨b, o + j * 1, none⟩) := hF.done 7 (23, SP.is (.pointer (some ⟨b, o + j * 1, none⟩))) (by rw [hD]; rfl) (hall 7 (by decide))
                have h24 : ac.eval (.tmp 24) = vj := hF.done 8 (24, SP.is (vj)) (by rw [hD]; rfl) (hall 8 (by decide))
                have h25 : ac.eval (.tmp 25) = .string (str xj) := hF.done 9 (25, SP.is (.string (str xj))) (by rw [hD]; rfl) (hall 9 (by decide))
                have h26 : ac.eval (.tmp 26) = .bool true := hF.done 10 (26, SP.is (.bool true)) (by rw [hD]; rfl) (hall 10 (by decide))
                have h27 : ac.eval (.tmp 27) = .bool true := hF.done 11 (27, SP.is (.bool true)) (by rw [hD]; rfl) (hall 11 (by decide))
                have h28 : ac.eval (.tmp 28) = .slice (some ⟨b, o, none⟩) n cap := hF.done 12 (28, SP.is (.slice (some ⟨b, o, none⟩) n cap)) (by rw [hD]; rfl) (hall 12 (by decide))
                have h29 : ac.eval (.tmp 29) = .int .i64 (i : Int) := hF.done 13 (29, SP.is (.int .i64 (i : Int))) (by rw [hD]; rfl) (hall 13 (by decide))
                have h30 : ac.eval (.tmp 30) = .pointer (some ⟨b, o + i * 1, none⟩) := hF.done 14 (30, SP.is (.pointer (some ⟨b, o + i * 1, none⟩))) (by rw [hD]; rfl) (hall 14 (by decide))
                have h31 : ac.eval (.tmp 31) = vi := hF.done 15 (31, SP.is (vi)) (by rw [hD]; rfl) (hall 15 (by decide))
                have h32 : ac.eval (.tmp 32) = .agg (vB di).toArray := hF.done 16 (32, SP.is (.agg (vB di).toArray)) (by rw [hD]; rfl) (hall 16 (by decide))
                have h33 : ac.eval (.tmp 33) = .slice (some ⟨b, o, none⟩) n cap := hF.done 17 (33, SP.is (.slice (some ⟨b, o, none⟩) n cap)) (by rw [hD]; rfl) (hall 17 (by decide))
                have h34 : ac.eval (.tmp 34) = .int .i64 (j : Int) := hF.done 18 (34, SP.is (.int .i64 (j : Int))) (by rw [hD]; rfl) (hall 18 (by decide))
                have h35 : ac.eval (.tmp 35) = .pointer (some ⟨b, o + j * 1, none⟩) := hF.done 19 (35, SP.is (.pointer (some ⟨b, o + j * 1, none⟩))) (by rw [hD]; rfl) (hall 19 (by decide))
                have h36 : ac.eval (.tmp 36) = vj := hF.done 20 (36, SP.is (vj)) (by rw [hD]; rfl) (hall 20 (by decide))
                have h37 : ac.eval (.tmp 37) = .agg (vB dj).toArray := hF.done 21 (37, SP.is (.agg (vB dj).toArray)) (by rw [hD]; rfl) (hall 21 (by decide))
                have h38 : ac.eval (.tmp 38) = .bool false := hF.done 22 (38, SP.is (.bool false)) (by rw [hD]; rfl) (hall 22 (by decide))
                have h39 : ac.eval (.tmp 39) = .bool false := hF.done 23 (39, SP.is (.bool false)) (by rw [hD]; rfl) (hall 23 (by decide))
                have ea := hF.lay [(16, .slice (some ⟨b, o, none⟩) n cap), (17, .int .i64 (i : Int)), (18, .pointer (some ⟨b, o + i * 1, none⟩)), (19, vi), (20, .string (str xi)), (21, .slice (some ⟨b, o, none⟩) n cap), (22, .int .i64 (j : Int)), (23, .pointer (some ⟨b, o + j * 1, none⟩)), (24, vj), (25, .string (str xj)), (26, .bool true), (27, .bool true), (28, .slice (some ⟨b, o, none⟩) n cap), (29, .int .i64 (i : Int)), (30, .pointer (some ⟨b, o + i * 1, none⟩)), (31, vi), (32, .agg (vB di).toArray), (33, .slice (some ⟨b, o, none⟩) n cap), (34, .int .i64 (j : Int)), (35, .pointer (some ⟨b, o + j * 1, none⟩)), (36, vj), (37, .agg (vB dj).toArray), (38, .bool false), (39, .bool false)] (by rw [hD, hsz]; rfl) (by simp only [List.forall_mem_cons, List.not_mem_nil, false_implies, implies_true, and_true]; exact ⟨h16, h17, h18, h19, h20, h21, h22, h23, h24, h25, h26, h27, h28, h29, h30, h31, h32, h33, h34, h35, h36, h37, h38, h39⟩)
                rw [ha0] at ea
                simp only [List.foldl_cons, List.foldl_nil, List.setIfInBounds_toArray, List.set_cons_zero, List.set_cons_succ] at ea
                clear hF hall hr hl hD  zs0 zs3 zs4 ha0 hsz h16 h17 h18 h19 h20 h21 h22 h23 h24 h25 h26 h27 h28 h29 h30 h31 h32 h33 h34 h35 h36 h37 h38 h39
                subst ea

                go_wp2_with fail
                refine ⟨⟨j + 1, hji, by go_num, hq, fun k' h => ?_⟩, by simp [intOf]; omega⟩
                by_cases e : k' < j
                · exact HNJ.out k' e
                · obtain rfl : k' = j := by omega
                  exact HNE.out
        · obtain rfl : j = i := by omega
          go_wp2
          refine ⟨⟨j + 1, hlt, by go_num, HBJ, fun i' k' h1 h2 => ?_⟩, by simp [intOf]; omega⟩
          by_cases e : i' < j
          · exact HNO.out i' k' h1 e
          · obtain rfl : i' = j := by omega
            exact HNJ.out k' h1
    · obtain rfl : i = n := by omega
      obtain ⟨i', k', h1, h2, h3⟩ := HC.out
      exact absurd h3 (HNO.out i' k' h1 h2)

end Go.Proofs.YtfkcmeafddhmkaaGreatDoor
