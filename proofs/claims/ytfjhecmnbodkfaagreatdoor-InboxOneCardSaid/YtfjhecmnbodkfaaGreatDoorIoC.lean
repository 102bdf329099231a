/-
  Fork of any two boxes.
-/
import Derived.Test.YtfjhecmnbodkfaaGreatDoorIoB
import Derived.Test.YtfjhecmnbodkfaaGreatDoorIo0
namespace Go.Proofs.YtfjhecmnbodkfaaGreatDoor
open Go Go.RowKit
open Sha

set_option maxRecDepth 100000 in
set_option maxHeartbeats 8000000 in
theorem fork_le {w0 w1 w : World} {p p2 : Nat} {v v2 : Value} {es fs : List Ev} (h : Bx w0 w p v es) (h2 : Bx w1 w p2 v2 fs) (a b : Nat) (ha : es.length = a) (hb : fs.length = b) (hab : a ≤ b) (hN : a ≤ 1000000 ∧ b ≤ 1000000) (T : Nat) (hT : T = forkN es fs a) :
    Calls Tryz.prog 22 #[.pointer (some ⟨p, 0, none⟩), .pointer (some ⟨p2, 0, none⟩)] w fun r w' => r = .returned (.int .i64 (T : Int)) ∧ Below w.heap.size w w' := by
  have H1 : Hid (Bx w0 w p v es) := h
  have H2 : Hid (Bx w1 w p2 v2 fs) := h2
  have HA : Hid (es.length = a) := ha
  have HBB : Hid (fs.length = b) := hb
  have HT : Hid (T = forkN es fs a) := hT
  have hA1 : a ≤ 1000000 := hN.1
  have hB1 : b ≤ 1000000 := hN.2
  have HL1 : Hid (Calls Tryz.prog 28 #[.pointer (some ⟨p, 0, none⟩)] w fun r w' => r = .returned (.int .i64 (a : Int)) ∧ w' = w) := by rw [← ha]; exact blen_any h
  have HL2 : Hid (Calls Tryz.prog 28 #[.pointer (some ⟨p2, 0, none⟩)] w fun r w' => r = .returned (.int .i64 (b : Int)) ∧ w' = w) := by rw [← hb]; exact blen_any h2
  have hab2 : (a : Int) ≤ (b : Int) := by omega
  clear h h2 ha hb hT hN
  go_enter Tryz.func22, Tryz.ntmps22
  go_upto_region 2 with (first
    | (go_at_call 28; refine Calls.mono HL1.out ?_; rintro r Y1 ⟨rfl, q⟩; obtain rfl := q.symm; clear q HL1)
    | (go_at_call 28; refine Calls.mono HL2.out ?_; rintro r Y2 ⟨rfl, q⟩; obtain rfl := q.symm; clear q HL2))
  go_wp2_with fail
  clear hab2
  go_loopw [13] (fun v13 wr => ∃ i : Nat, i ≤ a ∧ v13 = .int .i64 (i : Int) ∧ Hid (Below w.heap.size w wr ∧ forkN es fs i = i)) (fun v13 _ => a - (intOf v13).toNat)
  case atStart => exact ⟨0, Nat.zero_le _, rfl, Below.refl _ _, rfl⟩
  case round =>
    obtain ⟨i, hi, rfl, HI0⟩ := hrel
    have HB : Hid (Below w.heap.size w wr) := HI0.out.1
    have HFI : Hid (forkN es fs i = i) := HI0.out.2
    clear HI0
    by_cases hlt : i < a
    · have hlt2 : (i : Int) < (a : Int) := by omega
      obtain ⟨e, he⟩ : ∃ e, es[i]? = some e := ⟨_, List.getElem?_eq_getElem (by have := HA.out; omega)⟩
      obtain ⟨f, hf⟩ : ∃ f, fs[i]? = some f := ⟨_, List.getElem?_eq_getElem (by have := HBB.out; omega)⟩
      have we := (H1.out.wf he).1
      have wf := (H2.out.wf hf).1
      obtain ⟨g, cap, A, c, hv, hrg, hsl⟩ := H1.out.ent he
      obtain ⟨g2, cap2, A2, c2, hv2, hrg2, hsl2⟩ := H2.out.ent hf
      rw [HA.out] at hv
      rw [HBB.out] at hv2
      obtain ⟨n1, hn1⟩ : ∃ n, n = e.d.length := ⟨_, rfl⟩
      obtain ⟨n2, hn2⟩ : ∃ n, n = f.d.length := ⟨_, rfl⟩
      rw [← hn1] at hrg hsl
      rw [← hn2] at hrg2 hsl2
      obtain ⟨L, hL⟩ : ∃ L, L = e.cells (.slice A n1 c) := ⟨_, rfl⟩
      obtain ⟨M, hM⟩ : ∃ L, L = f.cells (.slice A2 n2 c2) := ⟨_, rfl⟩
      rw [← hL] at hrg
      rw [← hM] at hrg2
      have HIA : Hid (i < a) := by show _ < _; omega
      have HIB : Hid (i < b) := by show _ < _; omega
      have HI : Hid ((Tryz.prog.info? 46).map (·.size) = some L.length) := by rw [hL]; exact Ev.info we _
      have HI2 : Hid ((Tryz.prog.info? 46).map (·.size) = some M.length) := by rw [hM]; exact Ev.info wf _
      obtain ⟨q, hq⟩ : ∃ q, q = 0 + i * 81 := ⟨_, rfl⟩
      have HQ : Hid (0 + i * 81 = q) := hq.symm
      rw [show i * 81 = q by omega] at hrg hrg2
      have HR : Hid (∀ X, Below w.heap.size w X → X.rangeAt g q L) := fun X k => range_be hrg k
      have HR2 : Hid (∀ X, Below w.heap.size w X → X.rangeAt g2 q M) := fun X k => range_be hrg2 k
      have HC1 : Hid (∀ X, Below w.heap.size w X → X.cell? ⟨p, 0, none⟩ = some (.slice (some ⟨g, 0, none⟩) a cap)) := fun X k => (Row.below H1.out.row k H1.out.row.lt).cell 0 _ (by rw [hv]; rfl)
      have HC2 : Hid (∀ X, Below w.heap.size w X → X.cell? ⟨p2, 0, none⟩ = some (.slice (some ⟨g2, 0, none⟩) b cap2)) := fun X k => (Row.below H2.out.row k H2.out.row.lt).cell 0 _ (by rw [hv2]; rfl)
      obtain ⟨E, hE⟩ : ∃ E, E = decide (e = f) := ⟨_, rfl⟩
      have HSA : Hid (∀ X, Below w.heap.size w X → Calls Tryz.prog 45 #[.agg L.toArray, .agg M.toArray] X fun r w' => r = .returned (.bool E) ∧ Below X.heap.size X w') := fun X k => alike_any e f we wf A A2 n1 n2 c c2 L M hL hM X (hsl.be k) (hsl2.be k) E hE
      have HEF : Hid (es[i]? = some e ∧ fs[i]? = some f ∧ E = decide (e = f)) := ⟨he, hf, hE⟩
      have HIN : Hid (i < a) := hlt
      clear he hf we wf hv hv2 hrg hrg2 hsl hsl2 hn1 hn2 hL hM hq hE
      go_upto_region 5 with fail
      have hb1 := Below.refl wr.heap.size wr
      refine wp_named fun a0 ha0 => ?_
      have hsz : a0.tmps.size = 37 := by rw [ha0]; rfl
      have zs0 : a0.eval (.tmp 0) = .pointer (some ⟨p, 0, none⟩) := by rw [ha0]; rfl
      have zs1 : a0.eval (.tmp 1) = .pointer (some ⟨p2, 0, none⟩) := by rw [ha0]; rfl
      have zs6 : a0.eval (.tmp 6) = .int .i64 (i : Int) := by rw [ha0]; rfl
      obtain ⟨D, hD⟩ : ∃ D : List (Tmp × SP), D = [(16, SP.is (.pointer (some ⟨p, 0, none⟩))), (17, SP.is (.pointer (some ⟨p, 0, none⟩))), (18, SP.is (.pointer (some ⟨p, 0, none⟩))), (19, SP.is (.slice (some ⟨g, 0, none⟩) a cap)), (20, SP.is (.int .i64 (i : Int))), (21, SP.is (.pointer (some ⟨g, q, none⟩))), (22, SP.is (.pointer (some ⟨g, q, none⟩))), (23, SP.is (.agg L.toArray)), (24, SP.is (.pointer (some ⟨p2, 0, none⟩))), (25, SP.is (.pointer (some ⟨p2, 0, none⟩))), (26, SP.is (.pointer (some ⟨p2, 0, none⟩))), (27, SP.is (.slice (some ⟨g2, 0, none⟩) b cap2)), (28, SP.is (.int .i64 (i : Int))), (29, SP.is (.pointer (some ⟨g2, q, none⟩))), (30, SP.is (.pointer (some ⟨g2, q, none⟩))), (31, SP.is (.agg M.toArray)), (32, SP.is (.bool E)), (33, SP.is (.bool (!E)))] := ⟨_, rfl⟩
      refine wp_region_down (by kernel_rfl) (fun listed ac W => listed.size = 18 ∧ Fp D a0 listed ac W ∧ Below wr.heap.size wr W) ?_ ?_ ?_
      · exact ⟨by simp, Fp.start D a0 _ _, Below.drew hb1⟩
      · clear ha0 hb1  
        intro listed ac W k hI hdn hk
        obtain ⟨hl, hF, hb1⟩ := hI
        have hk1 : k < 18 := List.mem_range.1 (List.mem_filter.1 hk).1
        have hl2 : ∀ j, (listed.setIfInBounds j true).size = 18 := fun j => by rw [Array.size_setIfInBounds]; exact hl
        rcases (show k = 0 ∨ k = 1 ∨ k = 2 ∨ k = 3 ∨ k = 4 ∨ k = 5 ∨ k = 6 ∨ k = 7 ∨ k = 8 ∨ k = 9 ∨ k = 10 ∨ k = 11 ∨ k = 12 ∨ k = 13 ∨ k = 14 ∨ k = 15 ∨ k = 16 ∨ k = 17 by omega) with rfl | rfl | rfl | rfl | rfl | rfl | rfl | rfl | rfl | rfl | rfl | rfl | rfl | rfl | rfl | rfl | rfl | rfl
        · have hk3 := hk
          exact wpOp_plain rfl rfl (wp_move_v (ac.eval (.tmp 0)) rfl rfl ⟨hl2 0, (hF.put 0 16 (SP.is (.pointer (some ⟨p, 0, none⟩))) (ac.eval (.tmp 0)) (by rw [hD]; rfl) (((hF.keep 0 (by rw [hD]; rfl)).trans zs0)) (by rw [hD]; rfl) (by rw [hsz]; decide) (by rw [hl]; decide)), hb1⟩)
        · have hk3 := hk
          have ea := (hF.done 0 (16, SP.is (.pointer (some ⟨p, 0, none⟩))) (by rw [hD]; rfl) (ready_dep hk 0 (by kernel_rfl)))
          exact wpOp_plain rfl rfl (wp_nilcI rfl p ea ⟨hl2 1, (hF.put 1 17 (SP.is (.pointer (some ⟨p, 0, none⟩))) (.pointer (some ⟨p, 0, none⟩)) (by rw [hD]; rfl) rfl (by rw [hD]; rfl) (by rw [hsz]; decide) (by rw [hl]; decide)), hb1⟩)
        · have hk3 := hk
          have ea := (hF.done 1 (17, SP.is (.pointer (some ⟨p, 0, none⟩))) (by rw [hD]; rfl) (ready_dep hk 1 (by kernel_rfl)))
          exact wpOp_plain rfl rfl (wp_fbx rfl p ea ⟨hl2 2, (hF.put 2 18 (SP.is (.pointer (some ⟨p, 0, none⟩))) (.pointer (some ⟨p, 0, none⟩)) (by rw [hD]; rfl) rfl (by rw [hD]; rfl) (by rw [hsz]; decide) (by rw [hl]; decide)), hb1⟩)
        · have hk3 := hk
          have ea := (hF.done 2 (18, SP.is (.pointer (some ⟨p, 0, none⟩))) (by rw [hD]; rfl) (ready_dep hk 2 (by kernel_rfl)))
          exact wpOp_plain rfl rfl (wp_load_1I p 0 (.slice (some ⟨g, 0, none⟩) a cap) rfl ea (ld_rows W p 0 _ (HC1.out W (HB.out.trans (hb1.mono HB.out.size)))) ⟨hl2 3, (hF.put 3 19 (SP.is (.slice (some ⟨g, 0, none⟩) a cap)) (.slice (some ⟨g, 0, none⟩) a cap) (by rw [hD]; rfl) rfl (by rw [hD]; rfl) (by rw [hsz]; decide) (by rw [hl]; decide)), hb1⟩)
        · have hk3 := hk
          exact wpOp_plain rfl rfl (wp_move_v (ac.eval (.tmp 6)) rfl rfl ⟨hl2 4, (hF.put 4 20 (SP.is (.int .i64 (i : Int))) (ac.eval (.tmp 6)) (by rw [hD]; rfl) (((hF.keep 6 (by rw [hD]; rfl)).trans zs6)) (by rw [hD]; rfl) (by rw [hsz]; decide) (by rw [hl]; decide)), hb1⟩)
        · have hk3 := hk
          have ea := (hF.done 3 (19, SP.is (.slice (some ⟨g, 0, none⟩) a cap)) (by rw [hD]; rfl) (ready_dep hk 3 (by kernel_rfl)))
          have eb := (hF.done 4 (20, SP.is (.int .i64 (i : Int))) (by rw [hD]; rfl) (ready_dep hk 4 (by kernel_rfl)))
          exact wpOp_plain rfl rfl (wp_ixO 72 90 rfl g 0 a cap i 81 q HQ.out ea eb HIA.out Tryz.underlying72 info_row ⟨hl2 5, (hF.put 5 21 (SP.is (.pointer (some ⟨g, q, none⟩))) (.pointer (some ⟨g, q, none⟩)) (by rw [hD]; rfl) rfl (by rw [hD]; rfl) (by rw [hsz]; decide) (by rw [hl]; decide)), hb1⟩)
        · have hk3 := hk
          have ea := (hF.done 5 (21, SP.is (.pointer (some ⟨g, q, none⟩))) (by rw [hD]; rfl) (ready_dep hk 5 (by kernel_rfl)))
          exact wpOp_plain rfl rfl (wp_frw0 rfl g q ea ⟨hl2 6, (hF.put 6 22 (SP.is (.pointer (some ⟨g, q, none⟩))) (.pointer (some ⟨g, q, none⟩)) (by rw [hD]; rfl) rfl (by rw [hD]; rfl) (by rw [hsz]; decide) (by rw [hl]; decide)), hb1⟩)
        · have hk3 := hk
          have ea := (hF.done 6 (22, SP.is (.pointer (some ⟨g, q, none⟩))) (by rw [hD]; rfl) (ready_dep hk 6 (by kernel_rfl)))
          exact wpOp_plain rfl rfl (wp_load_mid 46 (.tmp 22) rfl g q ea L _ (HR.out W (HB.out.trans (hb1.mono HB.out.size))) Tryz.underlying46 rfl HI.out ⟨hl2 7, (hF.put 7 23 (SP.is (.agg L.toArray)) (.agg L.toArray) (by rw [hD]; rfl) rfl (by rw [hD]; rfl) (by rw [hsz]; decide) (by rw [hl]; decide)), hb1⟩)
        · have hk3 := hk
          exact wpOp_plain rfl rfl (wp_move_v (ac.eval (.tmp 1)) rfl rfl ⟨hl2 8, (hF.put 8 24 (SP.is (.pointer (some ⟨p2, 0, none⟩))) (ac.eval (.tmp 1)) (by rw [hD]; rfl) (((hF.keep 1 (by rw [hD]; rfl)).trans zs1)) (by rw [hD]; rfl) (by rw [hsz]; decide) (by rw [hl]; decide)), hb1⟩)
        · have hk3 := hk
          have ea := (hF.done 8 (24, SP.is (.pointer (some ⟨p2, 0, none⟩))) (by rw [hD]; rfl) (ready_dep hk 8 (by kernel_rfl)))
          exact wpOp_plain rfl rfl (wp_nilcI rfl p2 ea ⟨hl2 9, (hF.put 9 25 (SP.is (.pointer (some ⟨p2, 0, none⟩))) (.pointer (some ⟨p2, 0, none⟩)) (by rw [hD]; rfl) rfl (by rw [hD]; rfl) (by rw [hsz]; decide) (by rw [hl]; decide)), hb1⟩)
        · have hk3 := hk
          have ea := (hF.done 9 (25, SP.is (.pointer (some ⟨p2, 0, none⟩))) (by rw [hD]; rfl) (ready_dep hk 9 (by kernel_rfl)))
          exact wpOp_plain rfl rfl (wp_fbx rfl p2 ea ⟨hl2 10, (hF.put 10 26 (SP.is (.pointer (some ⟨p2, 0, none⟩))) (.pointer (some ⟨p2, 0, none⟩)) (by rw [hD]; rfl) rfl (by rw [hD]; rfl) (by rw [hsz]; decide) (by rw [hl]; decide)), hb1⟩)
        · have hk3 := hk
          have ea := (hF.done 10 (26, SP.is (.pointer (some ⟨p2, 0, none⟩))) (by rw [hD]; rfl) (ready_dep hk 10 (by kernel_rfl)))
          exact wpOp_plain rfl rfl (wp_load_1I p2 0 (.slice (some ⟨g2, 0, none⟩) b cap2) rfl ea (ld_rows W p2 0 _ (HC2.out W (HB.out.trans (hb1.mono HB.out.size)))) ⟨hl2 11, (hF.put 11 27 (SP.is (.slice (some ⟨g2, 0, none⟩) b cap2)) (.slice (some ⟨g2, 0, none⟩) b cap2) (by rw [hD]; rfl) rfl (by rw [hD]; rfl) (by rw [hsz]; decide) (by rw [hl]; decide)), hb1⟩)
        · have hk3 := hk
          exact wpOp_plain rfl rfl (wp_move_v (ac.eval (.tmp 6)) rfl rfl ⟨hl2 12, (hF.put 12 28 (SP.is (.int .i64 (i : Int))) (ac.eval (.tmp 6)) (by rw [hD]; rfl) (((hF.keep 6 (by rw [hD]; rfl)).trans zs6)) (by rw [hD]; rfl) (by rw [hsz]; decide) (by rw [hl]; decide)), hb1⟩)
        · have hk3 := hk
          have ea := (hF.done 11 (27, SP.is (.slice (some ⟨g2, 0, none⟩) b cap2)) (by rw [hD]; rfl) (ready_dep hk 11 (by kernel_rfl)))
          have eb := (hF.done 12 (28, SP.is (.int .i64 (i : Int))) (by rw [hD]; rfl) (ready_dep hk 12 (by kernel_rfl)))
          exact wpOp_plain rfl rfl (wp_ixO 72 90 rfl g2 0 b cap2 i 81 q HQ.out ea eb HIB.out Tryz.underlying72 info_row ⟨hl2 13, (hF.put 13 29 (SP.is (.pointer (some ⟨g2, q, none⟩))) (.pointer (some ⟨g2, q, none⟩)) (by rw [hD]; rfl) rfl (by rw [hD]; rfl) (by rw [hsz]; decide) (by rw [hl]; decide)), hb1⟩)
        · have hk3 := hk
          have ea := (hF.done 13 (29, SP.is (.pointer (some ⟨g2, q, none⟩))) (by rw [hD]; rfl) (ready_dep hk 13 (by kernel_rfl)))
          exact wpOp_plain rfl rfl (wp_frw0 rfl g2 q ea ⟨hl2 14, (hF.put 14 30 (SP.is (.pointer (some ⟨g2, q, none⟩))) (.pointer (some ⟨g2, q, none⟩)) (by rw [hD]; rfl) rfl (by rw [hD]; rfl) (by rw [hsz]; decide) (by rw [hl]; decide)), hb1⟩)
        · have hk3 := hk
          have ea := (hF.done 14 (30, SP.is (.pointer (some ⟨g2, q, none⟩))) (by rw [hD]; rfl) (ready_dep hk 14 (by kernel_rfl)))
          exact wpOp_plain rfl rfl (wp_load_mid 46 (.tmp 30) rfl g2 q ea M _ (HR2.out W (HB.out.trans (hb1.mono HB.out.size))) Tryz.underlying46 rfl HI2.out ⟨hl2 15, (hF.put 15 31 (SP.is (.agg M.toArray)) (.agg M.toArray) (by rw [hD]; rfl) rfl (by rw [hD]; rfl) (by rw [hsz]; decide) (by rw [hl]; decide)), hb1⟩)
        · have hk3 := hk
          have e23 := (hF.done 7 (23, SP.is (.agg L.toArray)) (by rw [hD]; rfl) (ready_dep hk 7 (by kernel_rfl)))
          have e31 := (hF.done 15 (31, SP.is (.agg M.toArray)) (by rw [hD]; rfl) (ready_dep hk 15 (by kernel_rfl)))
          refine wpOp_plain rfl rfl (wp_fcall_v 45 #[.agg L.toArray, .agg M.toArray] rfl rfl (by show [ac.eval (.tmp 23), ac.eval (.tmp 31)] = _; rw [show ac.eval (.tmp 23) = _ from e23, show ac.eval (.tmp 31) = _ from e31]) (by go_simp) ((HSA.out W (HB.out.trans (hb1.mono HB.out.size))).mono ?_))
          rintro e W2 ⟨rfl, hB⟩
          exact ⟨_, rfl, hl2 16, ((hF.world hB).put 16 32 (SP.is (.bool E)) (.bool E) (by rw [hD]; rfl) rfl (by rw [hD]; rfl) (by rw [hsz]; decide) (by rw [hl]; decide)), hb1.trans (hB.mono hb1.size)⟩
        · have hk3 := hk
          have ea := (hF.done 16 (32, SP.is (.bool E)) (by rw [hD]; rfl) (ready_dep hk 16 (by kernel_rfl)))
          exact wpOp_plain rfl rfl (wp_notT E rfl ea ⟨hl2 17, (hF.put 17 33 (SP.is (.bool (!E))) (.bool (!E)) (by rw [hD]; rfl) rfl (by rw [hD]; rfl) (by rw [hsz]; decide) (by rw [hl]; decide)), hb1⟩)
      · clear hb1  
        intro listed ac W hI hr
        obtain ⟨hl, hF, hb1⟩ := hI
        have hall := all_listed (by kernel_rfl) hl hr
        have h16 : ac.eval (.tmp 16) = .pointer (some ⟨p, 0, none⟩) := hF.done 0 (16, SP.is (.pointer (some ⟨p, 0, none⟩))) (by rw [hD]; rfl) (hall 0 (by decide))
        have h17 : ac.eval (.tmp 17) = .pointer (some ⟨p, 0, none⟩) := hF.done 1 (17, SP.is (.pointer (some ⟨p, 0, none⟩))) (by rw [hD]; rfl) (hall 1 (by decide))
        have h18 : ac.eval (.tmp 18) = .pointer (some ⟨p, 0, none⟩) := hF.done 2 (18, SP.is (.pointer (some ⟨p, 0, none⟩))) (by rw [hD]; rfl) (hall 2 (by decide))
        have h19 : ac.eval (.tmp 19) = .slice (some ⟨g, 0, none⟩) a cap := hF.done 3 (19, SP.is (.slice (some ⟨g, 0, none⟩) a cap)) (by rw [hD]; rfl) (hall 3 (by decide))
        have h20 : ac.eval (.tmp 20) = .int .i64 (i : Int) := hF.done 4 (20, SP.is (.int .i64 (i : Int))) (by rw [hD]; rfl) (hall 4 (by decide))
        have h21 : ac.eval (.tmp 21) = .pointer (some ⟨g, q, none⟩) := hF.done 5 (21, SP.is (.pointer (some ⟨g, q, none⟩))) (by rw [hD]; rfl) (hall 5 (by decide))
        have h22 : ac.eval (.tmp 22) = .pointer (some ⟨g, q, none⟩) := hF.done 6 (22, SP.is (.pointer (some ⟨g, q, none⟩))) (by rw [hD]; rfl) (hall 6 (by decide))
        have h23 : ac.eval (.tmp 23) = .agg L.toArray := hF.done 7 (23, SP.is (.agg L.toArray)) (by rw [hD]; rfl) (hall 7 (by decide))
        have h24 : ac.eval (.tmp 24) = .pointer (some ⟨p2, 0, none⟩) := hF.done 8 (24, SP.is (.pointer (some ⟨p2, 0, none⟩))) (by rw [hD]; rfl) (hall 8 (by decide))
        have h25 : ac.eval (.tmp 25) = .pointer (some ⟨p2, 0, none⟩) := hF.done 9 (25, SP.is (.pointer (some ⟨p2, 0, none⟩))) (by rw [hD]; rfl) (hall 9 (by decide))
        have h26 : ac.eval (.tmp 26) = .pointer (some ⟨p2, 0, none⟩) := hF.done 10 (26, SP.is (.pointer (some ⟨p2, 0, none⟩))) (by rw [hD]; rfl) (hall 10 (by decide))
        have h27 : ac.eval (.tmp 27) = .slice (some ⟨g2, 0, none⟩) b cap2 := hF.done 11 (27, SP.is (.slice (some ⟨g2, 0, none⟩) b cap2)) (by rw [hD]; rfl) (hall 11 (by decide))
        have h28 : ac.eval (.tmp 28) = .int .i64 (i : Int) := hF.done 12 (28, SP.is (.int .i64 (i : Int))) (by rw [hD]; rfl) (hall 12 (by decide))
        have h29 : ac.eval (.tmp 29) = .pointer (some ⟨g2, q, none⟩) := hF.done 13 (29, SP.is (.pointer (some ⟨g2, q, none⟩))) (by rw [hD]; rfl) (hall 13 (by decide))
        have h30 : ac.eval (.tmp 30) = .pointer (some ⟨g2, q, none⟩) := hF.done 14 (30, SP.is (.pointer (some ⟨g2, q, none⟩))) (by rw [hD]; rfl) (hall 14 (by decide))
        have h31 : ac.eval (.tmp 31) = .agg M.toArray := hF.done 15 (31, SP.is (.agg M.toArray)) (by rw [hD]; rfl) (hall 15 (by decide))
        have h32 : ac.eval (.tmp 32) = .bool E := hF.done 16 (32, SP.is (.bool E)) (by rw [hD]; rfl) (hall 16 (by decide))
        have h33 : ac.eval (.tmp 33) = .bool (!E) := hF.done 17 (33, SP.is (.bool (!E))) (by rw [hD]; rfl) (hall 17 (by decide))
        have ea := hF.lay [(16, .pointer (some ⟨p, 0, none⟩)), (17, .pointer (some ⟨p, 0, none⟩)), (18, .pointer (some ⟨p, 0, none⟩)), (19, .slice (some ⟨g, 0, none⟩) a cap), (20, .int .i64 (i : Int)), (21, .pointer (some ⟨g, q, none⟩)), (22, .pointer (some ⟨g, q, none⟩)), (23, .agg L.toArray), (24, .pointer (some ⟨p2, 0, none⟩)), (25, .pointer (some ⟨p2, 0, none⟩)), (26, .pointer (some ⟨p2, 0, none⟩)), (27, .slice (some ⟨g2, 0, none⟩) b cap2), (28, .int .i64 (i : Int)), (29, .pointer (some ⟨g2, q, none⟩)), (30, .pointer (some ⟨g2, q, none⟩)), (31, .agg M.toArray), (32, .bool E), (33, .bool (!E))] (by rw [hD, hsz]; rfl) (by simp only [List.forall_mem_cons, List.not_mem_nil, false_implies, implies_true, and_true]; exact ⟨h16, h17, h18, h19, h20, h21, h22, h23, h24, h25, h26, h27, h28, h29, h30, h31, h32, h33⟩)
        rw [ha0] at ea
        simp only [List.foldl_cons, List.foldl_nil, List.setIfInBounds_toArray, List.set_cons_zero, List.set_cons_succ] at ea
        clear hF hall hr hl hD  zs0 zs1 zs6 ha0 hsz h16 h17 h18 h19 h20 h21 h22 h23 h24 h25 h26 h27 h28 h29 h30 h31 h32 h33
        subst ea
        have HB2 : Hid (Below w.heap.size w W) := HB.out.trans (hb1.mono HB.out.size)
        obtain ⟨h9, h8, h7⟩ := HEF.out
        clear hb1 HB HR HR2 HSA HEF
        by_cases hef : e = f
        · have HF2 : Hid (forkN es fs (i + 1) = i + 1) := by
            show _ = _
            unfold forkN
            rw [if_pos ⟨HFI.out, by rw [h9, h8, hef]⟩]
          have hE : E = true := by rw [h7]; exact decide_eq_true hef
          subst hE
          clear h9 h8 h7 hef
          go_wp2_with fail
          exact ⟨⟨i + 1, hlt, by go_num, ⟨HB2.out, HF2.out⟩⟩, by simp [intOf]; omega⟩
        · have HF2 : Hid (T = i) := by
            show _ = _
            rw [HT.out]
            exact forkN_stop es fs i (fun z => hef (by rw [h9, h8] at z; exact Option.some.inj z)) HFI.out _ (Nat.le_of_lt HIN.out)
          have hE : E = false := by rw [h7]; exact decide_eq_false hef
          subst hE
          clear h9 h8 h7 hef
          go_wp2_with fail
          go_ret
          exact ⟨by rw [HF2.out]; rfl, HB2.out⟩
    have hlt2 : ¬ ((i : Int) < (a : Int)) := by omega
    have HF2 : Hid ((T : Int) = (a : Int)) := by show _ = _; rw [HT.out, show a = i by omega, HFI.out]
    have HMN : Hid (min (a : Int) (b : Int) = (a : Int)) := by show _ = _; omega
    clear hlt
    go_wp2_with fail
    go_ret
    exact ⟨by rw [HF2.out]; exact congrArg (fun z => Ending.returned (Value.int .i64 z)) HMN.out, HB.out⟩
set_option maxRecDepth 100000 in
set_option maxHeartbeats 8000000 in
theorem fork_gt {w0 w1 w : World} {p p2 : Nat} {v v2 : Value} {es fs : List Ev} (h : Bx w0 w p v es) (h2 : Bx w1 w p2 v2 fs) (a b : Nat) (ha : es.length = a) (hb : fs.length = b) (hab : b < a) (hN : a ≤ 1000000 ∧ b ≤ 1000000) (T : Nat) (hT : T = forkN es fs b) :
    Calls Tryz.prog 22 #[.pointer (some ⟨p, 0, none⟩), .pointer (some ⟨p2, 0, none⟩)] w fun r w' => r = .returned (.int .i64 (T : Int)) ∧ Below w.heap.size w w' := by
  have H1 : Hid (Bx w0 w p v es) := h
  have H2 : Hid (Bx w1 w p2 v2 fs) := h2
  have HA : Hid (es.length = a) := ha
  have HBB : Hid (fs.length = b) := hb
  have HT : Hid (T = forkN es fs b) := hT
  have hA1 : a ≤ 1000000 := hN.1
  have hB1 : b ≤ 1000000 := hN.2
  have HL1 : Hid (Calls Tryz.prog 28 #[.pointer (some ⟨p, 0, none⟩)] w fun r w' => r = .returned (.int .i64 (a : Int)) ∧ w' = w) := by rw [← ha]; exact blen_any h
  have HL2 : Hid (Calls Tryz.prog 28 #[.pointer (some ⟨p2, 0, none⟩)] w fun r w' => r = .returned (.int .i64 (b : Int)) ∧ w' = w) := by rw [← hb]; exact blen_any h2
  have hab2 : (b : Int) < (a : Int) := by omega
  clear h h2 ha hb hT hN
  go_enter Tryz.func22, Tryz.ntmps22
  go_upto_region 2 with (first
    | (go_at_call 28; refine Calls.mono HL1.out ?_; rintro r Y1 ⟨rfl, q⟩; obtain rfl := q.symm; clear q HL1)
    | (go_at_call 28; refine Calls.mono HL2.out ?_; rintro r Y2 ⟨rfl, q⟩; obtain rfl := q.symm; clear q HL2))
  go_wp2_with fail
  clear hab2
  go_loopw [13] (fun v13 wr => ∃ i : Nat, i ≤ b ∧ v13 = .int .i64 (i : Int) ∧ Hid (Below w.heap.size w wr ∧ forkN es fs i = i)) (fun v13 _ => b - (intOf v13).toNat)
  case atStart => exact ⟨0, Nat.zero_le _, rfl, Below.refl _ _, rfl⟩
  case round =>
    obtain ⟨i, hi, rfl, HI0⟩ := hrel
    have HB : Hid (Below w.heap.size w wr) := HI0.out.1
    have HFI : Hid (forkN es fs i = i) := HI0.out.2
    clear HI0
    by_cases hlt : i < b
    · have hlt2 : (i : Int) < (b : Int) := by omega
      obtain ⟨e, he⟩ : ∃ e, es[i]? = some e := ⟨_, List.getElem?_eq_getElem (by have := HA.out; omega)⟩
      obtain ⟨f, hf⟩ : ∃ f, fs[i]? = some f := ⟨_, List.getElem?_eq_getElem (by have := HBB.out; omega)⟩
      have we := (H1.out.wf he).1
      have wf := (H2.out.wf hf).1
      obtain ⟨g, cap, A, c, hv, hrg, hsl⟩ := H1.out.ent he
      obtain ⟨g2, cap2, A2, c2, hv2, hrg2, hsl2⟩ := H2.out.ent hf
      rw [HA.out] at hv
      rw [HBB.out] at hv2
      obtain ⟨n1, hn1⟩ : ∃ n, n = e.d.length := ⟨_, rfl⟩
      obtain ⟨n2, hn2⟩ : ∃ n, n = f.d.length := ⟨_, rfl⟩
      rw [← hn1] at hrg hsl
      rw [← hn2] at hrg2 hsl2
      obtain ⟨L, hL⟩ : ∃ L, L = e.cells (.slice A n1 c) := ⟨_, rfl⟩
      obtain ⟨M, hM⟩ : ∃ L, L = f.cells (.slice A2 n2 c2) := ⟨_, rfl⟩
      rw [← hL] at hrg
      rw [← hM] at hrg2
      have HIA : Hid (i < a) := by show _ < _; omega
      have HIB : Hid (i < b) := by show _ < _; omega
      have HI : Hid ((Tryz.prog.info? 46).map (·.size) = some L.length) := by rw [hL]; exact Ev.info we _
      have HI2 : Hid ((Tryz.prog.info? 46).map (·.size) = some M.length) := by rw [hM]; exact Ev.info wf _
      obtain ⟨q, hq⟩ : ∃ q, q = 0 + i * 81 := ⟨_, rfl⟩
      have HQ : Hid (0 + i * 81 = q) := hq.symm
      rw [show i * 81 = q by omega] at hrg hrg2
      have HR : Hid (∀ X, Below w.heap.size w X → X.rangeAt g q L) := fun X k => range_be hrg k
      have HR2 : Hid (∀ X, Below w.heap.size w X → X.rangeAt g2 q M) := fun X k => range_be hrg2 k
      have HC1 : Hid (∀ X, Below w.heap.size w X → X.cell? ⟨p, 0, none⟩ = some (.slice (some ⟨g, 0, none⟩) a cap)) := fun X k => (Row.below H1.out.row k H1.out.row.lt).cell 0 _ (by rw [hv]; rfl)
      have HC2 : Hid (∀ X, Below w.heap.size w X → X.cell? ⟨p2, 0, none⟩ = some (.slice (some ⟨g2, 0, none⟩) b cap2)) := fun X k => (Row.below H2.out.row k H2.out.row.lt).cell 0 _ (by rw [hv2]; rfl)
      obtain ⟨E, hE⟩ : ∃ E, E = decide (e = f) := ⟨_, rfl⟩
      have HSA : Hid (∀ X, Below w.heap.size w X → Calls Tryz.prog 45 #[.agg L.toArray, .agg M.toArray] X fun r w' => r = .returned (.bool E) ∧ Below X.heap.size X w') := fun X k => alike_any e f we wf A A2 n1 n2 c c2 L M hL hM X (hsl.be k) (hsl2.be k) E hE
      have HEF : Hid (es[i]? = some e ∧ fs[i]? = some f ∧ E = decide (e = f)) := ⟨he, hf, hE⟩
      have HIN : Hid (i < b) := hlt
      clear he hf we wf hv hv2 hrg hrg2 hsl hsl2 hn1 hn2 hL hM hq hE
      go_upto_region 5 with fail
      have hb1 := Below.refl wr.heap.size wr
      refine wp_named fun a0 ha0 => ?_
      have hsz : a0.tmps.size = 37 := by rw [ha0]; rfl
      have zs0 : a0.eval (.tmp 0) = .pointer (some ⟨p, 0, none⟩) := by rw [ha0]; rfl
      have zs1 : a0.eval (.tmp 1) = .pointer (some ⟨p2, 0, none⟩) := by rw [ha0]; rfl
      have zs6 : a0.eval (.tmp 6) = .int .i64 (i : Int) := by rw [ha0]; rfl
      obtain ⟨D, hD⟩ : ∃ D : List (Tmp × SP), D = [(16, SP.is (.pointer (some ⟨p, 0, none⟩))), (17, SP.is (.pointer (some ⟨p, 0, none⟩))), (18, SP.is (.pointer (some ⟨p, 0, none⟩))), (19, SP.is (.slice (some ⟨g, 0, none⟩) a cap)), (20, SP.is (.int .i64 (i : Int))), (21, SP.is (.pointer (some ⟨g, q, none⟩))), (22, SP.is (.pointer (some ⟨g, q, none⟩))), (23, SP.is (.agg L.toArray)), (24, SP.is (.pointer (some ⟨p2, 0, none⟩))), (25, SP.is (.pointer (some ⟨p2, 0, none⟩))), (26, SP.is (.pointer (some ⟨p2, 0, none⟩))), (27, SP.is (.slice (some ⟨g2, 0, none⟩) b cap2)), (28, SP.is (.int .i64 (i : Int))), (29, SP.is (.pointer (some ⟨g2, q, none⟩))), (30, SP.is (.pointer (some ⟨g2, q, none⟩))), (31, SP.is (.agg M.toArray)), (32, SP.is (.bool E)), (33, SP.is (.bool (!E)))] := ⟨_, rfl⟩
      refine wp_region_down (by kernel_rfl) (fun listed ac W => listed.size = 18 ∧ Fp D a0 listed ac W ∧ Below wr.heap.size wr W) ?_ ?_ ?_
      · exact ⟨by simp, Fp.start D a0 _ _, Below.drew hb1⟩
      · clear ha0 hb1  
        intro listed ac W k hI hdn hk
        obtain ⟨hl, hF, hb1⟩ := hI
        have hk1 : k < 18 := List.mem_range.1 (List.mem_filter.1 hk).1
        have hl2 : ∀ j, (listed.setIfInBounds j true).size = 18 := fun j => by rw [Array.size_setIfInBounds]; exact hl
        rcases (show k = 0 ∨ k = 1 ∨ k = 2 ∨ k = 3 ∨ k = 4 ∨ k = 5 ∨ k = 6 ∨ k = 7 ∨ k = 8 ∨ k = 9 ∨ k = 10 ∨ k = 11 ∨ k = 12 ∨ k = 13 ∨ k = 14 ∨ k = 15 ∨ k = 16 ∨ k = 17 by omega) with rfl | rfl | rfl | rfl | rfl | rfl | rfl | rfl | rfl | rfl | rfl | rfl | rfl | rfl | rfl | rfl | rfl | rfl
        · have hk3 := hk
          exact wpOp_plain rfl rfl (wp_move_v (ac.eval (.tmp 0)) rfl rfl ⟨hl2 0, (hF.put 0 16 (SP.is (.pointer (some ⟨p, 0, none⟩))) (ac.eval (.tmp 0)) (by rw [hD]; rfl) (((hF.keep 0 (by rw [hD]; rfl)).trans zs0)) (by rw [hD]; rfl) (by rw [hsz]; decide) (by rw [hl]; decide)), hb1⟩)
        · have hk3 := hk
          have ea := (hF.done 0 (16, SP.is (.pointer (some ⟨p, 0, none⟩))) (by rw [hD]; rfl) (ready_dep hk 0 (by kernel_rfl)))
          exact wpOp_plain rfl rfl (wp_nilcI rfl p ea ⟨hl2 1, (hF.put 1 17 (SP.is (.pointer (some ⟨p, 0, none⟩))) (.pointer (some ⟨p, 0, none⟩)) (by rw [hD]; rfl) rfl (by rw [hD]; rfl) (by rw [hsz]; decide) (by rw [hl]; decide)), hb1⟩)
        · have hk3 := hk
          have ea := (hF.done 1 (17, SP.is (.pointer (some ⟨p, 0, none⟩))) (by rw [hD]; rfl) (ready_dep hk 1 (by kernel_rfl)))
          exact wpOp_plain rfl rfl (wp_fbx rfl p ea ⟨hl2 2, (hF.put 2 18 (SP.is (.pointer (some ⟨p, 0, none⟩))) (.pointer (some ⟨p, 0, none⟩)) (by rw [hD]; rfl) rfl (by rw [hD]; rfl) (by rw [hsz]; decide) (by rw [hl]; decide)), hb1⟩)
        · have hk3 := hk
          have ea := (hF.done 2 (18, SP.is (.pointer (some ⟨p, 0, none⟩))) (by rw [hD]; rfl) (ready_dep hk 2 (by kernel_rfl)))
          exact wpOp_plain rfl rfl (wp_load_1I p 0 (.slice (some ⟨g, 0, none⟩) a cap) rfl ea (ld_rows W p 0 _ (HC1.out W (HB.out.trans (hb1.mono HB.out.size)))) ⟨hl2 3, (hF.put 3 19 (SP.is (.slice (some ⟨g, 0, none⟩) a cap)) (.slice (some ⟨g, 0, none⟩) a cap) (by rw [hD]; rfl) rfl (by rw [hD]; rfl) (by rw [hsz]; decide) (by rw [hl]; decide)), hb1⟩)
        · have hk3 := hk
          exact wpOp_plain rfl rfl (wp_move_v (ac.eval (.tmp 6)) rfl rfl ⟨hl2 4, (hF.put 4 20 (SP.is (.int .i64 (i : Int))) (ac.eval (.tmp 6)) (by rw [hD]; rfl) (((hF.keep 6 (by rw [hD]; rfl)).trans zs6)) (by rw [hD]; rfl) (by rw [hsz]; decide) (by rw [hl]; decide)), hb1⟩)
        · have hk3 := hk
          have ea := (hF.done 3 (19, SP.is (.slice (some ⟨g, 0, none⟩) a cap)) (by rw [hD]; rfl) (ready_dep hk 3 (by kernel_rfl)))
          have eb := (hF.done 4 (20, SP.is (.int .i64 (i : Int))) (by rw [hD]; rfl) (ready_dep hk 4 (by kernel_rfl)))
          exact wpOp_plain rfl rfl (wp_ixO 72 90 rfl g 0 a cap i 81 q HQ.out ea eb HIA.out Tryz.underlying72 info_row ⟨hl2 5, (hF.put 5 21 (SP.is (.pointer (some ⟨g, q, none⟩))) (.pointer (some ⟨g, q, none⟩)) (by rw [hD]; rfl) rfl (by rw [hD]; rfl) (by rw [hsz]; decide) (by rw [hl]; decide)), hb1⟩)
        · have hk3 := hk
          have ea := (hF.done 5 (21, SP.is (.pointer (some ⟨g, q, none⟩))) (by rw [hD]; rfl) (ready_dep hk 5 (by kernel_rfl)))
          exact wpOp_plain rfl rfl (wp_frw0 rfl g q ea ⟨hl2 6, (hF.put 6 22 (SP.is (.pointer (some ⟨g, q, none⟩))) (.pointer (some ⟨g, q, none⟩)) (by rw [hD]; rfl) rfl (by rw [hD]; rfl) (by rw [hsz]; decide) (by rw [hl]; decide)), hb1⟩)
        · have hk3 := hk
          have ea := (hF.done 6 (22, SP.is (.pointer (some ⟨g, q, none⟩))) (by rw [hD]; rfl) (ready_dep hk 6 (by kernel_rfl)))
          exact wpOp_plain rfl rfl (wp_load_mid 46 (.tmp 22) rfl g q ea L _ (HR.out W (HB.out.trans (hb1.mono HB.out.size))) Tryz.underlying46 rfl HI.out ⟨hl2 7, (hF.put 7 23 (SP.is (.agg L.toArray)) (.agg L.toArray) (by rw [hD]; rfl) rfl (by rw [hD]; rfl) (by rw [hsz]; decide) (by rw [hl]; decide)), hb1⟩)
        · have hk3 := hk
          exact wpOp_plain rfl rfl (wp_move_v (ac.eval (.tmp 1)) rfl rfl ⟨hl2 8, (hF.put 8 24 (SP.is (.pointer (some ⟨p2, 0, none⟩))) (ac.eval (.tmp 1)) (by rw [hD]; rfl) (((hF.keep 1 (by rw [hD]; rfl)).trans zs1)) (by rw [hD]; rfl) (by rw [hsz]; decide) (by rw [hl]; decide)), hb1⟩)
        · have hk3 := hk
          have ea := (hF.done 8 (24, SP.is (.pointer (some ⟨p2, 0, none⟩))) (by rw [hD]; rfl) (ready_dep hk 8 (by kernel_rfl)))
          exact wpOp_plain rfl rfl (wp_nilcI rfl p2 ea ⟨hl2 9, (hF.put 9 25 (SP.is (.pointer (some ⟨p2, 0, none⟩))) (.pointer (some ⟨p2, 0, none⟩)) (by rw [hD]; rfl) rfl (by rw [hD]; rfl) (by rw [hsz]; decide) (by rw [hl]; decide)), hb1⟩)
        · have hk3 := hk
          have ea := (hF.done 9 (25, SP.is (.pointer (some ⟨p2, 0, none⟩))) (by rw [hD]; rfl) (ready_dep hk 9 (by kernel_rfl)))
          exact wpOp_plain rfl rfl (wp_fbx rfl p2 ea ⟨hl2 10, (hF.put 10 26 (SP.is (.pointer (some ⟨p2, 0, none⟩))) (.pointer (some ⟨p2, 0, none⟩)) (by rw [hD]; rfl) rfl (by rw [hD]; rfl) (by rw [hsz]; decide) (by rw [hl]; decide)), hb1⟩)
        · have hk3 := hk
          have ea := (hF.done 10 (26, SP.is (.pointer (some ⟨p2, 0, none⟩))) (by rw [hD]; rfl) (ready_dep hk 10 (by kernel_rfl)))
          exact wpOp_plain rfl rfl (wp_load_1I p2 0 (.slice (some ⟨g2, 0, none⟩) b cap2) rfl ea (ld_rows W p2 0 _ (HC2.out W (HB.out.trans (hb1.mono HB.out.size)))) ⟨hl2 11, (hF.put 11 27 (SP.is (.slice (some ⟨g2, 0, none⟩) b cap2)) (.slice (some ⟨g2, 0, none⟩) b cap2) (by rw [hD]; rfl) rfl (by rw [hD]; rfl) (by rw [hsz]; decide) (by rw [hl]; decide)), hb1⟩)
        · have hk3 := hk
          exact wpOp_plain rfl rfl (wp_move_v (ac.eval (.tmp 6)) rfl rfl ⟨hl2 12, (hF.put 12 28 (SP.is (.int .i64 (i : Int))) (ac.eval (.tmp 6)) (by rw [hD]; rfl) (((hF.keep 6 (by rw [hD]; rfl)).trans zs6)) (by rw [hD]; rfl) (by rw [hsz]; decide) (by rw [hl]; decide)), hb1⟩)
        · have hk3 := hk
          have ea := (hF.done 11 (27, SP.is (.slice (some ⟨g2, 0, none⟩) b cap2)) (by rw [hD]; rfl) (ready_dep hk 11 (by kernel_rfl)))
          have eb := (hF.done 12 (28, SP.is (.int .i64 (i : Int))) (by rw [hD]; rfl) (ready_dep hk 12 (by kernel_rfl)))
          exact wpOp_plain rfl rfl (wp_ixO 72 90 rfl g2 0 b cap2 i 81 q HQ.out ea eb HIB.out Tryz.underlying72 info_row ⟨hl2 13, (hF.put 13 29 (SP.is (.pointer (some ⟨g2, q, none⟩))) (.pointer (some ⟨g2, q, none⟩)) (by rw [hD]; rfl) rfl (by rw [hD]; rfl) (by rw [hsz]; decide) (by rw [hl]; decide)), hb1⟩)
        · have hk3 := hk
          have ea := (hF.done 13 (29, SP.is (.pointer (some ⟨g2, q, none⟩))) (by rw [hD]; rfl) (ready_dep hk 13 (by kernel_rfl)))
          exact wpOp_plain rfl rfl (wp_frw0 rfl g2 q ea ⟨hl2 14, (hF.put 14 30 (SP.is (.pointer (some ⟨g2, q, none⟩))) (.pointer (some ⟨g2, q, none⟩)) (by rw [hD]; rfl) rfl (by rw [hD]; rfl) (by rw [hsz]; decide) (by rw [hl]; decide)), hb1⟩)
        · have hk3 := hk
          have ea := (hF.done 14 (30, SP.is (.pointer (some ⟨g2, q, none⟩))) (by rw [hD]; rfl) (ready_dep hk 14 (by kernel_rfl)))
          exact wpOp_plain rfl rfl (wp_load_mid 46 (.tmp 30) rfl g2 q ea M _ (HR2.out W (HB.out.trans (hb1.mono HB.out.size))) Tryz.underlying46 rfl HI2.out ⟨hl2 15, (hF.put 15 31 (SP.is (.agg M.toArray)) (.agg M.toArray) (by rw [hD]; rfl) rfl (by rw [hD]; rfl) (by rw [hsz]; decide) (by rw [hl]; decide)), hb1⟩)
        · have hk3 := hk
          have e23 := (hF.done 7 (23, SP.is (.agg L.toArray)) (by rw [hD]; rfl) (ready_dep hk 7 (by kernel_rfl)))
          have e31 := (hF.done 15 (31, SP.is (.agg M.toArray)) (by rw [hD]; rfl) (ready_dep hk 15 (by kernel_rfl)))
          refine wpOp_plain rfl rfl (wp_fcall_v 45 #[.agg L.toArray, .agg M.toArray] rfl rfl (by show [ac.eval (.tmp 23), ac.eval (.tmp 31)] = _; rw [show ac.eval (.tmp 23) = _ from e23, show ac.eval (.tmp 31) = _ from e31]) (by go_simp) ((HSA.out W (HB.out.trans (hb1.mono HB.out.size))).mono ?_))
          rintro e W2 ⟨rfl, hB⟩
          exact ⟨_, rfl, hl2 16, ((hF.world hB).put 16 32 (SP.is (.bool E)) (.bool E) (by rw [hD]; rfl) rfl (by rw [hD]; rfl) (by rw [hsz]; decide) (by rw [hl]; decide)), hb1.trans (hB.mono hb1.size)⟩
        · have hk3 := hk
          have ea := (hF.done 16 (32, SP.is (.bool E)) (by rw [hD]; rfl) (ready_dep hk 16 (by kernel_rfl)))
          exact wpOp_plain rfl rfl (wp_notT E rfl ea ⟨hl2 17, (hF.put 17 33 (SP.is (.bool (!E))) (.bool (!E)) (by rw [hD]; rfl) rfl (by rw [hD]; rfl) (by rw [hsz]; decide) (by rw [hl]; decide)), hb1⟩)
      · clear hb1  
        intro listed ac W hI hr
        obtain ⟨hl, hF, hb1⟩ := hI
        have hall := all_listed (by kernel_rfl) hl hr
        have h16 : ac.eval (.tmp 16) = .pointer (some ⟨p, 0, none⟩) := hF.done 0 (16, SP.is (.pointer (some ⟨p, 0, none⟩))) (by rw [hD]; rfl) (hall 0 (by decide))
        have h17 : ac.eval (.tmp 17) = .pointer (some ⟨p, 0, none⟩) := hF.done 1 (17, SP.is (.pointer (some ⟨p, 0, none⟩))) (by rw [hD]; rfl) (hall 1 (by decide))
        have h18 : ac.eval (.tmp 18) = .pointer (some ⟨p, 0, none⟩) := hF.done 2 (18, SP.is (.pointer (some ⟨p, 0, none⟩))) (by rw [hD]; rfl) (hall 2 (by decide))
        have h19 : ac.eval (.tmp 19) = .slice (some ⟨g, 0, none⟩) a cap := hF.done 3 (19, SP.is (.slice (some ⟨g, 0, none⟩) a cap)) (by rw [hD]; rfl) (hall 3 (by decide))
        have h20 : ac.eval (.tmp 20) = .int .i64 (i : Int) := hF.done 4 (20, SP.is (.int .i64 (i : Int))) (by rw [hD]; rfl) (hall 4 (by decide))
        have h21 : ac.eval (.tmp 21) = .pointer (some ⟨g, q, none⟩) := hF.done 5 (21, SP.is (.pointer (some ⟨g, q, none⟩))) (by rw [hD]; rfl) (hall 5 (by decide))
        have h22 : ac.eval (.tmp 22) = .pointer (some ⟨g, q, none⟩) := hF.done 6 (22, SP.is (.pointer (some ⟨g, q, none⟩))) (by rw [hD]; rfl) (hall 6 (by decide))
        have h23 : ac.eval (.tmp 23) = .agg L.toArray := hF.done 7 (23, SP.is (.agg L.toArray)) (by rw [hD]; rfl) (hall 7 (by decide))
        have h24 : ac.eval (.tmp 24) = .pointer (some ⟨p2, 0, none⟩) := hF.done 8 (24, SP.is (.pointer (some ⟨p2, 0, none⟩))) (by rw [hD]; rfl) (hall 8 (by decide))
        have h25 : ac.eval (.tmp 25) = .pointer (some ⟨p2, 0, none⟩) := hF.done 9 (25, SP.is (.pointer (some ⟨p2, 0, none⟩))) (by rw [hD]; rfl) (hall 9 (by decide))
        have h26 : ac.eval (.tmp 26) = .pointer (some ⟨p2, 0, none⟩) := hF.done 10 (26, SP.is (.pointer (some ⟨p2, 0, none⟩))) (by rw [hD]; rfl) (hall 10 (by decide))
        have h27 : ac.eval (.tmp 27) = .slice (some ⟨g2, 0, none⟩) b cap2 := hF.done 11 (27, SP.is (.slice (some ⟨g2, 0, none⟩) b cap2)) (by rw [hD]; rfl) (hall 11 (by decide))
        have h28 : ac.eval (.tmp 28) = .int .i64 (i : Int) := hF.done 12 (28, SP.is (.int .i64 (i : Int))) (by rw [hD]; rfl) (hall 12 (by decide))
        have h29 : ac.eval (.tmp 29) = .pointer (some ⟨g2, q, none⟩) := hF.done 13 (29, SP.is (.pointer (some ⟨g2, q, none⟩))) (by rw [hD]; rfl) (hall 13 (by decide))
        have h30 : ac.eval (.tmp 30) = .pointer (some ⟨g2, q, none⟩) := hF.done 14 (30, SP.is (.pointer (some ⟨g2, q, none⟩))) (by rw [hD]; rfl) (hall 14 (by decide))
        have h31 : ac.eval (.tmp 31) = .agg M.toArray := hF.done 15 (31, SP.is (.agg M.toArray)) (by rw [hD]; rfl) (hall 15 (by decide))
        have h32 : ac.eval (.tmp 32) = .bool E := hF.done 16 (32, SP.is (.bool E)) (by rw [hD]; rfl) (hall 16 (by decide))
        have h33 : ac.eval (.tmp 33) = .bool (!E) := hF.done 17 (33, SP.is (.bool (!E))) (by rw [hD]; rfl) (hall 17 (by decide))
        have ea := hF.lay [(16, .pointer (some ⟨p, 0, none⟩)), (17, .pointer (some ⟨p, 0, none⟩)), (18, .pointer (some ⟨p, 0, none⟩)), (19, .slice (some ⟨g, 0, none⟩) a cap), (20, .int .i64 (i : Int)), (21, .pointer (some ⟨g, q, none⟩)), (22, .pointer (some ⟨g, q, none⟩)), (23, .agg L.toArray), (24, .pointer (some ⟨p2, 0, none⟩)), (25, .pointer (some ⟨p2, 0, none⟩)), (26, .pointer (some ⟨p2, 0, none⟩)), (27, .slice (some ⟨g2, 0, none⟩) b cap2), (28, .int .i64 (i : Int)), (29, .pointer (some ⟨g2, q, none⟩)), (30, .pointer (some ⟨g2, q, none⟩)), (31, .agg M.toArray), (32, .bool E), (33, .bool (!E))] (by rw [hD, hsz]; rfl) (by simp only [List.forall_mem_cons, List.not_mem_nil, false_implies, implies_true, and_true]; exact ⟨h16, h17, h18, h19, h20, h21, h22, h23, h24, h25, h26, h27, h28, h29, h30, h31, h32, h33⟩)
        rw [ha0] at ea
        simp only [List.foldl_cons, List.foldl_nil, List.setIfInBounds_toArray, List.set_cons_zero, List.set_cons_succ] at ea
        clear hF hall hr hl hD  zs0 zs1 zs6 ha0 hsz h16 h17 h18 h19 h20 h21 h22 h23 h24 h25 h26 h27 h28 h29 h30 h31 h32 h33
        subst ea
        have HB2 : Hid (Below w.heap.size w W) := HB.out.trans (hb1.mono HB.out.size)
        obtain ⟨h9, h8, h7⟩ := HEF.out
        clear hb1 HB HR HR2 HSA HEF
        by_cases hef : e = f
        · have HF2 : Hid (forkN es fs (i + 1) = i + 1) := by
            show _ = _
            unfold forkN
            rw [if_pos ⟨HFI.out, by rw [h9, h8, hef]⟩]
          have hE : E = true := by rw [h7]; exact decide_eq_true hef
          subst hE
          clear h9 h8 h7 hef
          go_wp2_with fail
          exact ⟨⟨i + 1, hlt, by go_num, ⟨HB2.out, HF2.out⟩⟩, by simp [intOf]; omega⟩
        · have HF2 : Hid (T = i) := by
            show _ = _
            rw [HT.out]
            exact forkN_stop es fs i (fun z => hef (by rw [h9, h8] at z; exact Option.some.inj z)) HFI.out _ (Nat.le_of_lt HIN.out)
          have hE : E = false := by rw [h7]; exact decide_eq_false hef
          subst hE
          clear h9 h8 h7 hef
          go_wp2_with fail
          go_ret
          exact ⟨by rw [HF2.out]; rfl, HB2.out⟩
    have hlt2 : ¬ ((i : Int) < (b : Int)) := by omega
    have HF2 : Hid ((T : Int) = (b : Int)) := by show _ = _; rw [HT.out, show b = i by omega, HFI.out]
    have HMN : Hid (min (a : Int) (b : Int) = (b : Int)) := by show _ = _; omega
    clear hlt
    go_wp2_with fail
    go_ret
    exact ⟨by rw [HF2.out]; exact congrArg (fun z => Ending.returned (Value.int .i64 z)) HMN.out, HB.out⟩
theorem fork_any {w0 w1 w : World} {p p2 : Nat} {v v2 : Value} {es fs : List Ev} (h : Bx w0 w p v es) (h2 : Bx w1 w p2 v2 fs) (hN : es.length ≤ 1000000 ∧ fs.length ≤ 1000000) (n : Nat) (hn : n = min es.length fs.length) (T : Nat) (hT : T = forkN es fs n) :
    Calls Tryz.prog 22 #[.pointer (some ⟨p, 0, none⟩), .pointer (some ⟨p2, 0, none⟩)] w fun r w' => r = .returned (.int .i64 (T : Int)) ∧ Below w.heap.size w w' := by
  by_cases hab : es.length ≤ fs.length
  · exact fork_le h h2 _ _ rfl rfl hab hN T (by rw [hT, hn, Nat.min_eq_left hab])
  · exact fork_gt h h2 _ _ rfl rfl (by omega) hN T (by rw [hT, hn, Nat.min_eq_right (by omega)])

end Go.Proofs.YtfjhecmnbodkfaaGreatDoor
