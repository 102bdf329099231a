/-
  the law's book of bytes: still, where there are no paths.
-/
import Derived.Test.YtehjadgmleoobaaBoC
namespace Go.Proofs.Ytehjadgmleoobaa
open Go Go.RowKit
open Sha

set_option maxRecDepth 100000 in
set_option maxHeartbeats 4000000 in
theorem stp_nil (B : Nat) (rl rw : Value) (w : World) (h : Row w B (bkc rl rw) 28) :
    Calls Try.prog 42 #[.pointer (some ⟨B, 0, none⟩)] w fun e w' => e = .returned (.bool true) ∧ Below w.heap.size w w' := by
  have c2 : w.cell? ⟨B, 2, none⟩ = some (.slice none 0 0) := h.cell 2 _ rfl
  clear h
  go_enter Try.func42, Try.ntmps42
  go_wp2
  go_loopw [3] (fun k wr => k = .int .i64 0 ∧ wr = w) (fun _ _ => 0)
  case atStart => exact ⟨rfl, rfl⟩
  case round =>
    obtain ⟨rfl, hw⟩ := hrel
    obtain rfl := hw.symm
    go_wp2
    go_loopw [4, 5] (fun k _ wr => k = .int .i64 0 ∧ wr = w) (fun _ _ _ => 0)
    case atStart => exact ⟨rfl, rfl⟩
    case round =>
      obtain ⟨rfl, hw⟩ := hrel
      obtain rfl := hw.symm
      go_wp2
      go_loopw [7, 8, 9] (fun k _ _ wr => k = .int .i64 0 ∧ wr = w) (fun _ _ _ _ => 0)
      case atStart => exact ⟨rfl, rfl⟩
      case round =>
        obtain ⟨rfl, hw⟩ := hrel
        obtain rfl := hw.symm
        go_wp2
        go_loopw [10] (fun k wr => k = .int .i64 0 ∧ wr = w) (fun _ _ => 0)
        case atStart => exact ⟨rfl, rfl⟩
        case round =>
          obtain ⟨rfl, hw⟩ := hrel
          obtain rfl := hw.symm
          go_wp2
          go_ret
          exact ⟨rfl, Below.refl _ _⟩
theorem info_u8b : ∃ ie z, Try.prog.info? 5 = some ie ∧ ie.zero = some z ∧ ie.size = 1 ∧ z.cells.size = 1 := by
  obtain ⟨ie, z, h1, h2, h3, _, h4⟩ := info_u8open
  exact ⟨ie, z, h1, h2, h3, h4⟩
theorem info_slb1b : (Try.prog.info? 29).map (·.size) = some 1 := by kernel_rfl
set_option maxRecDepth 100000 in
set_option maxHeartbeats 4000000 in
theorem still_any (w0 : World) (B : Nat) (vl vw : Value) (us ws : List Value) (ds : List (List (BitVec 8))) (hn2 : ds.length ≤ 1000000) (hdl : ∀ d ∈ ds, d.length ≤ 1000000) (w : World) (hb : Bbk w0 w B vl vw vl vw us ws ds ds) :
    Calls Try.prog 12 #[.pointer (some ⟨B, 0, none⟩)] w fun e w' => e = .returned (.bool true) ∧ Below w0.heap.size w0 w' := by
  obtain ⟨n, hn⟩ : ∃ n, n = ds.length := ⟨_, rfl⟩
  obtain ⟨Al, cl, el, _, _⟩ := Lw.form hb.ll
  obtain ⟨Aw, cw, ew, _, _⟩ := Lw.form hb.lw
  rw [← hn] at el ew
  subst el ew
  have HN : Hid (n = ds.length) := hn
  have hnb : n ≤ 1000000 := by omega
  have HDL : Hid (∀ d ∈ ds, d.length ≤ 1000000) := hdl
  have HB : Hid (Bbk w0 w B (.slice Al n cl) (.slice Aw n cw) (.slice Al n cl) (.slice Aw n cw) us ws ds ds) := hb
  clear hn hn2 hdl hb
  go_enter Try.func12, Try.ntmps12
  go_wp2
  go_loopw [3] (fun k wr => ∃ t : Nat, t ≤ n ∧ k = .int .i64 (t : Int) ∧ Hid (Bbk w0 wr B (.slice Al n cl) (.slice Aw n cw) (.slice Al n cl) (.slice Aw n cw) us ws ds ds)) (fun k _ => n - (intOf k).toNat)
  case atStart => exact ⟨0, Nat.zero_le _, rfl, HB⟩
  case round =>
    obtain ⟨t, ht, rfl, HBo⟩ := hrel
    clear HB
    have c0 : wr.cell? ⟨B, 0, none⟩ = some (.slice Al n cl) := HBo.out.row.cell 0 _ rfl
    by_cases hlt : t < n
    · obtain ⟨d, hd⟩ : ∃ d, ds[t]? = some d := ⟨_, List.getElem?_eq_getElem (by rw [← HN.out]; exact hlt)⟩
      obtain ⟨u, hu, hbu⟩ := HBo.out.eu t d hd
      obtain ⟨x, hx, hbx⟩ := HBo.out.ew t d hd
      obtain ⟨gl, cl', e1, _⟩ := Lw.open (by have q := HBo.out.ll; rwa [← HN.out] at q) (by omega)
      obtain ⟨gw, cw', e2, _⟩ := Lw.open (by have q := HBo.out.lw; rwa [← HN.out] at q) (by omega)
      simp only [Value.slice.injEq] at e1 e2
      obtain ⟨rfl, _, rfl⟩ := e1
      obtain ⟨rfl, _, rfl⟩ := e2
      have HCU : Hid (∀ W, Bbk w0 W B (.slice (some ⟨gl, 0, none⟩) n cl) (.slice (some ⟨gw, 0, none⟩) n cw) (.slice (some ⟨gl, 0, none⟩) n cl) (.slice (some ⟨gw, 0, none⟩) n cw) us ws ds ds → W.cell? ⟨gl, 0 + t * 1, none⟩ = some u) := fun W q => by rw [Nat.mul_one]; have k := q.ll; rw [← HN.out] at k; exact Lw.range k t u hu
      have HCX : Hid (∀ W, Bbk w0 W B (.slice (some ⟨gl, 0, none⟩) n cl) (.slice (some ⟨gw, 0, none⟩) n cw) (.slice (some ⟨gl, 0, none⟩) n cl) (.slice (some ⟨gw, 0, none⟩) n cw) us ws ds ds → W.cell? ⟨gw, 0 + t * 1, none⟩ = some x) := fun W q => by rw [Nat.mul_one]; have k := q.lw; rw [← HN.out] at k; exact Lw.range k t x hx
      have HSU : Hid (∀ W, Bbk w0 W B (.slice (some ⟨gl, 0, none⟩) n cl) (.slice (some ⟨gw, 0, none⟩) n cw) (.slice (some ⟨gl, 0, none⟩) n cl) (.slice (some ⟨gw, 0, none⟩) n cw) us ws ds ds → SlAt W u d) := fun W q => by obtain ⟨u', p1, p2⟩ := q.eu t d hd; rw [hu] at p1; obtain rfl := Option.some.inj p1; exact Bw.sl p2
      have HSX : Hid (∀ W, Bbk w0 W B (.slice (some ⟨gl, 0, none⟩) n cl) (.slice (some ⟨gw, 0, none⟩) n cw) (.slice (some ⟨gl, 0, none⟩) n cl) (.slice (some ⟨gw, 0, none⟩) n cw) us ws ds ds → SlAt W x d) := fun W q => by obtain ⟨u', p1, p2⟩ := q.ew t d hd; rw [hx] at p1; obtain rfl := Option.some.inj p1; exact Bw.sl p2
      have hBo := HBo.out
      have hb1 := HBo.out.be
      clear hd hu hbu hx hbx HBo
      go_wp2_with fail
      refine wp_named fun a0 ha0 => ?_
      have hsz : a0.tmps.size = 131 := by rw [ha0]; rfl
      have zs0 : a0.eval (.tmp 0) = .pointer (some ⟨B, 0, none⟩) := by rw [ha0]; rfl
      have zs3 : a0.eval (.tmp 3) = .int .i64 (t : Int) := by rw [ha0]; rfl
      obtain ⟨D, hD⟩ : ∃ D : List (Tmp × SP), D = [(20, SP.is (.pointer (some ⟨B, 0, none⟩))), (21, SP.is (.pointer (some ⟨B, 0, none⟩))), (22, SP.is (.pointer (some ⟨B, 0, none⟩))), (23, SP.is (.slice (some ⟨gl, 0, none⟩) n cl)), (24, SP.is (.int .i64 (t : Int))), (25, SP.is (.pointer (some ⟨gl, 0 + t * 1, none⟩))), (26, SP.is (u)), (27, SP.is (.string (str d))), (28, SP.is (.pointer (some ⟨B, 0, none⟩))), (29, SP.is (.pointer (some ⟨B, 0, none⟩))), (30, SP.is (.pointer (some ⟨B, 1, none⟩))), (31, SP.is (.slice (some ⟨gw, 0, none⟩) n cw)), (32, SP.is (.int .i64 (t : Int))), (33, SP.is (.pointer (some ⟨gw, 0 + t * 1, none⟩))), (34, SP.is (x)), (35, SP.is (.string (str d))), (36, SP.is (.bool false))] := ⟨_, rfl⟩
      refine wp_region_down (by kernel_rfl) (fun listed ac W => listed.size = 17 ∧ Fp D a0 listed ac W ∧ Below w0.heap.size w0 W ∧ Bbk w0 W B (.slice (some ⟨gl, 0, none⟩) n cl) (.slice (some ⟨gw, 0, none⟩) n cw) (.slice (some ⟨gl, 0, none⟩) n cl) (.slice (some ⟨gw, 0, none⟩) n cw) us ws ds ds) ?_ ?_ ?_
      · exact ⟨by simp, Fp.start D a0 _ _, Below.drew hb1, hBo.below (Below.drew (Below.refl _ _))⟩
      · clear ha0 hb1 hBo 
        intro listed ac W k hI hdn hk
        obtain ⟨hl, hF, hb1, hBo⟩ := hI
        have hk1 : k < 17 := List.mem_range.1 (List.mem_filter.1 hk).1
        have hl2 : ∀ j, (listed.setIfInBounds j true).size = 17 := fun j => by rw [Array.size_setIfInBounds]; exact hl
        rcases (show k = 0 ∨ k = 1 ∨ k = 2 ∨ k = 3 ∨ k = 4 ∨ k = 5 ∨ k = 6 ∨ k = 7 ∨ k = 8 ∨ k = 9 ∨ k = 10 ∨ k = 11 ∨ k = 12 ∨ k = 13 ∨ k = 14 ∨ k = 15 ∨ k = 16 by omega) with rfl | rfl | rfl | rfl | rfl | rfl | rfl | rfl | rfl | rfl | rfl | rfl | rfl | rfl | rfl | rfl | rfl
        · have hk3 := hk
          exact wpOp_plain rfl rfl (wp_move_v (ac.eval (.tmp 0)) rfl rfl ⟨hl2 0, (hF.put 0 20 (SP.is (.pointer (some ⟨B, 0, none⟩))) (ac.eval (.tmp 0)) (by rw [hD]; rfl) (((hF.keep 0 (by rw [hD]; rfl)).trans zs0)) (by rw [hD]; rfl) (by rw [hsz]; decide) (by rw [hl]; decide)), hb1, hBo⟩)
        · have hk3 := hk
          have e := (hF.done 0 (20, SP.is (.pointer (some ⟨B, 0, none⟩))) (by rw [hD]; rfl) (ready_dep hk 0 (by kernel_rfl)))
          exact wpOp_plain rfl rfl (wp_nilc rfl B e ⟨hl2 1, (hF.put 1 21 (SP.is (.pointer (some ⟨B, 0, none⟩))) (.pointer (some ⟨B, 0, none⟩)) (by rw [hD]; rfl) rfl (by rw [hD]; rfl) (by rw [hsz]; decide) (by rw [hl]; decide)), hb1, hBo⟩)
        · have hk3 := hk
          have e := (hF.done 1 (21, SP.is (.pointer (some ⟨B, 0, none⟩))) (by rw [hD]; rfl) (ready_dep hk 1 (by kernel_rfl)))
          exact wpOp_plain rfl rfl (wp_fb_0 rfl B e ⟨hl2 2, (hF.put 2 22 (SP.is (.pointer (some ⟨B, 0, none⟩))) (.pointer (some ⟨B, 0, none⟩)) (by rw [hD]; rfl) rfl (by rw [hD]; rfl) (by rw [hsz]; decide) (by rw [hl]; decide)), hb1, hBo⟩)
        · have hk3 := hk
          have e := (hF.done 2 (22, SP.is (.pointer (some ⟨B, 0, none⟩))) (by rw [hD]; rfl) (ready_dep hk 2 (by kernel_rfl)))
          exact wpOp_plain rfl rfl (wp_load_1 B (0) (.slice (some ⟨gl, 0, none⟩) n cl) rfl e (ld_sls W B (0) _ (hBo.row.cell 0 _ rfl)) ⟨hl2 3, (hF.put 3 23 (SP.is (.slice (some ⟨gl, 0, none⟩) n cl)) (.slice (some ⟨gl, 0, none⟩) n cl) (by rw [hD]; rfl) rfl (by rw [hD]; rfl) (by rw [hsz]; decide) (by rw [hl]; decide)), hb1, hBo⟩)
        · have hk3 := hk
          exact wpOp_plain rfl rfl (wp_move_v (ac.eval (.tmp 3)) rfl rfl ⟨hl2 4, (hF.put 4 24 (SP.is (.int .i64 (t : Int))) (ac.eval (.tmp 3)) (by rw [hD]; rfl) (((hF.keep 3 (by rw [hD]; rfl)).trans zs3)) (by rw [hD]; rfl) (by rw [hsz]; decide) (by rw [hl]; decide)), hb1, hBo⟩)
        · have hk3 := hk
          have ea := (hF.done 3 (23, SP.is (.slice (some ⟨gl, 0, none⟩) n cl)) (by rw [hD]; rfl) (ready_dep hk 3 (by kernel_rfl)))
          have eb := (hF.done 4 (24, SP.is (.int .i64 (t : Int))) (by rw [hD]; rfl) (ready_dep hk 4 (by kernel_rfl)))
          exact wpOp_plain rfl rfl (wp_ixs 23 29 rfl gl 0 n cl t 1 ea eb hlt Try.underlying23 info_slb1b ⟨hl2 5, (hF.put 5 25 (SP.is (.pointer (some ⟨gl, 0 + t * 1, none⟩))) (.pointer (some ⟨gl, 0 + t * 1, none⟩)) (by rw [hD]; rfl) rfl (by rw [hD]; rfl) (by rw [hsz]; decide) (by rw [hl]; decide)), hb1, hBo⟩)
        · have hk3 := hk
          have e := (hF.done 5 (25, SP.is (.pointer (some ⟨gl, 0 + t * 1, none⟩))) (by rw [hD]; rfl) (ready_dep hk 5 (by kernel_rfl)))
          exact wpOp_plain rfl rfl (wp_load_1 gl (0 + t * 1) (u) rfl e (ld_sl W gl (0 + t * 1) _ (HCU.out W hBo)) ⟨hl2 6, (hF.put 6 26 (SP.is (u)) u (by rw [hD]; rfl) rfl (by rw [hD]; rfl) (by rw [hsz]; decide) (by rw [hl]; decide)), hb1, hBo⟩)
        · have hk3 := hk
          have e := (hF.done 6 (26, SP.is (u)) (by rw [hD]; rfl) (ready_dep hk 6 (by kernel_rfl)))
          exact wpOp_plain rfl rfl (wp_convs rfl d u e (HSU.out W hBo) ⟨hl2 7, (hF.put 7 27 (SP.is (.string (str d))) (.string (str d)) (by rw [hD]; rfl) rfl (by rw [hD]; rfl) (by rw [hsz]; decide) (by rw [hl]; decide)), hb1, hBo⟩)
        · have hk3 := hk
          exact wpOp_plain rfl rfl (wp_move_v (ac.eval (.tmp 0)) rfl rfl ⟨hl2 8, (hF.put 8 28 (SP.is (.pointer (some ⟨B, 0, none⟩))) (ac.eval (.tmp 0)) (by rw [hD]; rfl) (((hF.keep 0 (by rw [hD]; rfl)).trans zs0)) (by rw [hD]; rfl) (by rw [hsz]; decide) (by rw [hl]; decide)), hb1, hBo⟩)
        · have hk3 := hk
          have e := (hF.done 8 (28, SP.is (.pointer (some ⟨B, 0, none⟩))) (by rw [hD]; rfl) (ready_dep hk 8 (by kernel_rfl)))
          exact wpOp_plain rfl rfl (wp_nilc rfl B e ⟨hl2 9, (hF.put 9 29 (SP.is (.pointer (some ⟨B, 0, none⟩))) (.pointer (some ⟨B, 0, none⟩)) (by rw [hD]; rfl) rfl (by rw [hD]; rfl) (by rw [hsz]; decide) (by rw [hl]; decide)), hb1, hBo⟩)
        · have hk3 := hk
          have e := (hF.done 9 (29, SP.is (.pointer (some ⟨B, 0, none⟩))) (by rw [hD]; rfl) (ready_dep hk 9 (by kernel_rfl)))
          exact wpOp_plain rfl rfl (wp_fb_1 rfl B e ⟨hl2 10, (hF.put 10 30 (SP.is (.pointer (some ⟨B, 1, none⟩))) (.pointer (some ⟨B, 1, none⟩)) (by rw [hD]; rfl) rfl (by rw [hD]; rfl) (by rw [hsz]; decide) (by rw [hl]; decide)), hb1, hBo⟩)
        · have hk3 := hk
          have e := (hF.done 10 (30, SP.is (.pointer (some ⟨B, 1, none⟩))) (by rw [hD]; rfl) (ready_dep hk 10 (by kernel_rfl)))
          exact wpOp_plain rfl rfl (wp_load_1 B (1) (.slice (some ⟨gw, 0, none⟩) n cw) rfl e (ld_sls W B (1) _ (hBo.row.cell 1 _ rfl)) ⟨hl2 11, (hF.put 11 31 (SP.is (.slice (some ⟨gw, 0, none⟩) n cw)) (.slice (some ⟨gw, 0, none⟩) n cw) (by rw [hD]; rfl) rfl (by rw [hD]; rfl) (by rw [hsz]; decide) (by rw [hl]; decide)), hb1, hBo⟩)
        · have hk3 := hk
          exact wpOp_plain rfl rfl (wp_move_v (ac.eval (.tmp 3)) rfl rfl ⟨hl2 12, (hF.put 12 32 (SP.is (.int .i64 (t : Int))) (ac.eval (.tmp 3)) (by rw [hD]; rfl) (((hF.keep 3 (by rw [hD]; rfl)).trans zs3)) (by rw [hD]; rfl) (by rw [hsz]; decide) (by rw [hl]; decide)), hb1, hBo⟩)
        · have hk3 := hk
          have ea := (hF.done 11 (31, SP.is (.slice (some ⟨gw, 0, none⟩) n cw)) (by rw [hD]; rfl) (ready_dep hk 11 (by kernel_rfl)))
          have eb := (hF.done 12 (32, SP.is (.int .i64 (t : Int))) (by rw [hD]; rfl) (ready_dep hk 12 (by kernel_rfl)))
          exact wpOp_plain rfl rfl (wp_ixs 23 29 rfl gw 0 n cw t 1 ea eb hlt Try.underlying23 info_slb1b ⟨hl2 13, (hF.put 13 33 (SP.is (.pointer (some ⟨gw, 0 + t * 1, none⟩))) (.pointer (some ⟨gw, 0 + t * 1, none⟩)) (by rw [hD]; rfl) rfl (by rw [hD]; rfl) (by rw [hsz]; decide) (by rw [hl]; decide)), hb1, hBo⟩)
        · have hk3 := hk
          have e := (hF.done 13 (33, SP.is (.pointer (some ⟨gw, 0 + t * 1, none⟩))) (by rw [hD]; rfl) (ready_dep hk 13 (by kernel_rfl)))
          exact wpOp_plain rfl rfl (wp_load_1 gw (0 + t * 1) (x) rfl e (ld_sl W gw (0 + t * 1) _ (HCX.out W hBo)) ⟨hl2 14, (hF.put 14 34 (SP.is (x)) x (by rw [hD]; rfl) rfl (by rw [hD]; rfl) (by rw [hsz]; decide) (by rw [hl]; decide)), hb1, hBo⟩)
        · have hk3 := hk
          have e := (hF.done 14 (34, SP.is (x)) (by rw [hD]; rfl) (ready_dep hk 14 (by kernel_rfl)))
          exact wpOp_plain rfl rfl (wp_convs rfl d x e (HSX.out W hBo) ⟨hl2 15, (hF.put 15 35 (SP.is (.string (str d))) (.string (str d)) (by rw [hD]; rfl) rfl (by rw [hD]; rfl) (by rw [hsz]; decide) (by rw [hl]; decide)), hb1, hBo⟩)
        · have hk3 := hk
          have ea := (hF.done 7 (27, SP.is (.string (str d))) (by rw [hD]; rfl) (ready_dep hk 7 (by kernel_rfl)))
          have eb := (hF.done 15 (35, SP.is (.string (str d))) (by rw [hD]; rfl) (ready_dep hk 15 (by kernel_rfl)))
          exact wpOp_plain rfl rfl (wp_neqs rfl d ea eb ⟨hl2 16, (hF.put 16 36 (SP.is (.bool false)) (.bool false) (by rw [hD]; rfl) rfl (by rw [hD]; rfl) (by rw [hsz]; decide) (by rw [hl]; decide)), hb1, hBo⟩)
      · clear hb1 hBo 
        intro listed ac W hI hr
        obtain ⟨hl, hF, hb1, hBo⟩ := hI
        have hall := all_listed (by kernel_rfl) hl hr
        have h20 : ac.eval (.tmp 20) = .pointer (some ⟨B, 0, none⟩) := hF.done 0 (20, SP.is (.pointer (some ⟨B, 0, none⟩))) (by rw [hD]; rfl) (hall 0 (by decide))
        have h21 : ac.eval (.tmp 21) = .pointer (some ⟨B, 0, none⟩) := hF.done 1 (21, SP.is (.pointer (some ⟨B, 0, none⟩))) (by rw [hD]; rfl) (hall 1 (by decide))
        have h22 : ac.eval (.tmp 22) = .pointer (some ⟨B, 0, none⟩) := hF.done 2 (22, SP.is (.pointer (some ⟨B, 0, none⟩))) (by rw [hD]; rfl) (hall 2 (by decide))
        have h23 : ac.eval (.tmp 23) = .slice (some ⟨gl, 0, none⟩) n cl := hF.done 3 (23, SP.is (.slice (some ⟨gl, 0, none⟩) n cl)) (by rw [hD]; rfl) (hall 3 (by decide))
        have h24 : ac.eval (.tmp 24) = .int .i64 (t : Int) := hF.done 4 (24, SP.is (.int .i64 (t : Int))) (by rw [hD]; rfl) (hall 4 (by decide))
        have h25 : ac.eval (.tmp 25) = .pointer (some ⟨gl, 0 + t * 1, none⟩) := hF.done 5 (25, SP.is (.pointer (some ⟨gl, 0 + t * 1, none⟩))) (by rw [hD]; rfl) (hall 5 (by decide))
        have h26 : ac.eval (.tmp 26) = u := hF.done 6 (26, SP.is (u)) (by rw [hD]; rfl) (hall 6 (by decide))
        have h27 : ac.eval (.tmp 27) = .string (str d) := hF.done 7 (27, SP.is (.string (str d))) (by rw [hD]; rfl) (hall 7 (by decide))
        have h28 : ac.eval (.tmp 28) = .pointer (some ⟨B, 0, none⟩) := hF.done 8 (28, SP.is (.pointer (some ⟨B, 0, none⟩))) (by rw [hD]; rfl) (hall 8 (by decide))
        have h29 : ac.eval (.tmp 29) = .pointer (some ⟨B, 0, none⟩) := hF.done 9 (29, SP.is (.pointer (some ⟨B, 0, none⟩))) (by rw [hD]; rfl) (hall 9 (by decide))
        have h30 : ac.eval (.tmp 30) = .pointer (some ⟨B, 1, none⟩) := hF.done 10 (30, SP.is (.pointer (some ⟨B, 1, none⟩))) (by rw [hD]; rfl) (hall 10 (by decide))
        have h31 : ac.eval (.tmp 31) = .slice (some ⟨gw, 0, none⟩) n cw := hF.done 11 (31, SP.is (.slice (some ⟨gw, 0, none⟩) n cw)) (by rw [hD]; rfl) (hall 11 (by decide))
        have h32 : ac.eval (.tmp 32) = .int .i64 (t : Int) := hF.done 12 (32, SP.is (.int .i64 (t : Int))) (by rw [hD]; rfl) (hall 12 (by decide))
        have h33 : ac.eval (.tmp 33) = .pointer (some ⟨gw, 0 + t * 1, none⟩) := hF.done 13 (33, SP.is (.pointer (some ⟨gw, 0 + t * 1, none⟩))) (by rw [hD]; rfl) (hall 13 (by decide))
        have h34 : ac.eval (.tmp 34) = x := hF.done 14 (34, SP.is (x)) (by rw [hD]; rfl) (hall 14 (by decide))
        have h35 : ac.eval (.tmp 35) = .string (str d) := hF.done 15 (35, SP.is (.string (str d))) (by rw [hD]; rfl) (hall 15 (by decide))
        have h36 : ac.eval (.tmp 36) = .bool false := hF.done 16 (36, SP.is (.bool false)) (by rw [hD]; rfl) (hall 16 (by decide))
        have ea := hF.lay [(20, .pointer (some ⟨B, 0, none⟩)), (21, .pointer (some ⟨B, 0, none⟩)), (22, .pointer (some ⟨B, 0, none⟩)), (23, .slice (some ⟨gl, 0, none⟩) n cl), (24, .int .i64 (t : Int)), (25, .pointer (some ⟨gl, 0 + t * 1, none⟩)), (26, u), (27, .string (str d)), (28, .pointer (some ⟨B, 0, none⟩)), (29, .pointer (some ⟨B, 0, none⟩)), (30, .pointer (some ⟨B, 1, none⟩)), (31, .slice (some ⟨gw, 0, none⟩) n cw), (32, .int .i64 (t : Int)), (33, .pointer (some ⟨gw, 0 + t * 1, none⟩)), (34, x), (35, .string (str d)), (36, .bool false)] (by rw [hD, hsz]; rfl) (by simp only [List.forall_mem_cons, List.not_mem_nil, false_implies, implies_true, and_true]; exact ⟨h20, h21, h22, h23, h24, h25, h26, h27, h28, h29, h30, h31, h32, h33, h34, h35, h36⟩)
        rw [ha0] at ea
        simp only [List.foldl_cons, List.foldl_nil, List.setIfInBounds_toArray, List.set_cons_zero, List.set_cons_succ] at ea
        clear hF hall hr hl hD  zs0 zs3 ha0 hsz h20 h21 h22 h23 h24 h25 h26 h27 h28 h29 h30 h31 h32 h33 h34 h35 h36
        subst ea
        have HBo : Hid (Bbk w0 W B (.slice (some ⟨gl, 0, none⟩) n cl) (.slice (some ⟨gw, 0, none⟩) n cw) (.slice (some ⟨gl, 0, none⟩) n cl) (.slice (some ⟨gw, 0, none⟩) n cw) us ws ds ds) := hBo
        clear hBo hb1
        go_wp2_with fail
        refine ⟨⟨t + 1, hlt, by go_num, HBo⟩, by simp [intOf]; omega⟩
    · obtain rfl : t = n := by omega
      clear hlt ht
      obtain ⟨rw, hrw⟩ : ∃ rw : Value, rw = (.slice Aw t cw) := ⟨_, rfl⟩
      have HBM0 : Hid (Bm w0 wr B rw (.slice Al t cl) us ds) := by rw [hrw]; exact HBo.out.bm
      clear HBo hrw c0
      have c0 : wr.cell? ⟨B, 0, none⟩ = some (.slice Al t cl) := HBM0.out.row.cell 0 _ rfl
      obtain ⟨n, hn⟩ : ∃ n, n = t := ⟨_, rfl⟩
      subst hn
      go_upto_region 7 with fail
      clear c0
      go_loopw [4, 5] (fun k _ wr => ∃ (t : Nat) (es : List (List (BitVec 8))), t ≤ n ∧ k = .int .i64 (t : Int) ∧ Hid (Bm w0 wr B rw (.slice Al n cl) us es) ∧ Hid (Mk ds es t)) (fun k _ _ => n - (intOf k).toNat)
      case atStart => exact ⟨0, ds, Nat.zero_le _, rfl, HBM0, Mk.start ds⟩
      case round =>
        obtain ⟨t, es, ht, rfl, HBt, HMt⟩ := hrel
        clear HBM0
        have c0 : wr.cell? ⟨B, 0, none⟩ = some (.slice Al n cl) := HBt.out.row.cell 0 _ rfl
        by_cases hlt : t < n
        · obtain ⟨d, hd⟩ : ∃ d, ds[t]? = some d := ⟨_, List.getElem?_eq_getElem (by rw [← HN.out]; exact hlt)⟩
          obtain ⟨u, hu⟩ : ∃ u, us[t]? = some u := by
            obtain ⟨u, hu, _⟩ := HBt.out.eu t _ (List.getElem?_eq_getElem (by rw [HMt.out.len, ← HN.out]; exact hlt))
            exact ⟨u, hu⟩
          obtain ⟨m, hm⟩ : ∃ m, m = d.length := ⟨_, rfl⟩
          have hmb : m ≤ 1000000 := by rw [hm]; exact HDL.out d (List.mem_of_getElem? hd)
          have HUT : Hid (us[t]? = some u) := hu
          have HDT : Hid (ds[t]? = some d) := hd
          have HMD : Hid (m = d.length) := hm
          obtain ⟨gl, cl', e1, _⟩ := Lw.open (by have q := HBt.out.ll; rwa [HMt.out.len, ← HN.out] at q) (by omega)
          simp only [Value.slice.injEq] at e1
          obtain ⟨rfl, _, rfl⟩ := e1
          obtain ⟨Au, cu, hform⟩ : ∃ Au cu, u = .slice Au m cu := by
            obtain ⟨e, he⟩ : ∃ e, es[t]? = some e := ⟨_, List.getElem?_eq_getElem (by rw [HMt.out.len, ← HN.out]; exact hlt)⟩
            obtain ⟨Au, cu, q, _, _⟩ := Bw.form (HBt.out.get t e u he hu)
            exact ⟨Au, cu, by rw [q, (HMt.out.each t d e hd he).1, ← hm]⟩
          subst hform
          have htb : t ≤ 1000000 := by omega
          clear hd hu hm
          go_upto_region 10 with fail
          clear c0
          go_loopw [5] (fun k wr => ∃ (j : Nat) (es : List (List (BitVec 8))), j ≤ m ∧ k = .int .i64 (j : Int) ∧ Hid (Bm w0 wr B rw (.slice (some ⟨gl, 0, none⟩) n cl) us es) ∧ Hid (Mk ds es t) ∧ Hid (∀ e, es[t]? = some e → ∀ q, q < j → e.getD q 0 = bmk t q)) (fun k _ => m - (intOf k).toNat)
          case atStart => exact ⟨0, es, Nat.zero_le _, rfl, HBt, HMt, fun e _ q hq => by omega⟩
          case round =>
            obtain ⟨j, es, hj, rfl, HBj, HMj, HQj⟩ := hrel
            clear HBt HMt
            obtain ⟨e, he⟩ : ∃ e, es[t]? = some e := ⟨_, List.getElem?_eq_getElem (by rw [HMj.out.len, ← HN.out]; exact hlt)⟩
            have HET : Hid (es[t]? = some e) := he
            have HEL : Hid (e.length = m) := by show _ = _; rw [(HMj.out.each t d e HDT.out he).1, HMD.out]
            have c0 : wr.cell? ⟨B, 0, none⟩ = some (.slice (some ⟨gl, 0, none⟩) n cl) := HBj.out.row.cell 0 _ rfl
            have c1 : wr.cell? ⟨gl, t, none⟩ = some (.slice Au m cu) := by
              have k := HBj.out.ll
              rw [HMj.out.len, ← HN.out] at k
              have := Lw.range k t _ HUT.out
              rwa [Nat.zero_add] at this
            clear he
            by_cases hjm : j < m
            · obtain ⟨gu, hgu⟩ : ∃ gu, Au = some ⟨gu, 0, none⟩ := by
                rcases (HBj.out.get t e _ HET.out HUT.out).2 with ⟨q, _⟩ | ⟨g', c', cur, q, _⟩
                · simp only [Value.slice.injEq] at q; omega
                · simp only [Value.slice.injEq] at q; exact ⟨g', q.1⟩
              subst hgu
              have HCU : Hid (∀ W, Bm w0 W B rw (.slice (some ⟨gl, 0, none⟩) n cl) us es → W.cell? ⟨gl, 0 + t * 1, none⟩ = some (.slice (some ⟨gu, 0, none⟩) m cu)) := fun W q => by rw [Nat.mul_one]; have k := q.ll; rw [HMj.out.len, ← HN.out] at k; exact Lw.range k t _ HUT.out
              have HBM : Hid (∀ X, Calls Try.prog 40 #[.int .i64 (t : Int), .int .i64 (j : Int)] X fun e w' => e = .returned (.int .u8 (c (bmk t j))) ∧ Below X.heap.size X w') := fun X => (byteMark_any t j (by omega) (by omega) X).mono (fun _ _ h => ⟨h.1, by rw [h.2]; exact Below.refl _ _⟩)
              have hBo := HBj.out
              have hb1 := HBj.out.be
              have hjb : j ≤ 1000000 := by omega
              clear HBj
              go_wp2_with fail
              clear c0 c1
              refine wp_named fun a0 ha0 => ?_
              have hsz : a0.tmps.size = 131 := by rw [ha0]; rfl
              have zs0 : a0.eval (.tmp 0) = .pointer (some ⟨B, 0, none⟩) := by rw [ha0]; rfl
              have zs4 : a0.eval (.tmp 4) = .int .i64 (t : Int) := by rw [ha0]; rfl
              have zs5 : a0.eval (.tmp 5) = .int .i64 (j : Int) := by rw [ha0]; rfl
              obtain ⟨D, hD⟩ : ∃ D : List (Tmp × SP), D = [(58, SP.is (.pointer (some ⟨B, 0, none⟩))), (59, SP.is (.pointer (some ⟨B, 0, none⟩))), (60, SP.is (.pointer (some ⟨B, 0, none⟩))), (61, SP.is (.slice (some ⟨gl, 0, none⟩) n cl)), (62, SP.is (.int .i64 (t : Int))), (63, SP.is (.pointer (some ⟨gl, 0 + t * 1, none⟩))), (64, SP.is (.slice (some ⟨gu, 0, none⟩) m cu)), (65, SP.is (.int .i64 (j : Int))), (66, SP.is (.int .i64 (t : Int))), (67, SP.is (.int .i64 (j : Int))), (68, SP.is (.int .u8 (c (bmk t j)))), (69, SP.is (.pointer (some ⟨gu, 0 + j * 1, none⟩))), (1000, SP.any)] := ⟨_, rfl⟩
              refine wp_region_then (by kernel_rfl) 12 (by decide) (by kernel_rfl) (fun listed ac W => Fp D a0 listed ac W ∧ Below w0.heap.size w0 W ∧ Bm w0 W B rw (.slice (some ⟨gl, 0, none⟩) n cl) us es) (fun listed ac W => Fp D a0 listed ac W ∧ Bm w0 W B rw (.slice (some ⟨gl, 0, none⟩) n cl) us (es.set t (e.set j (bmk t j)))) ?_ ?_ ?_ ?_ ?_
              · exact ⟨Fp.start D a0 _ _, Below.drew hb1, hBo.below (Below.drew (Below.refl _ _))⟩
              · clear ha0 hb1 hBo
                intro listed ac W k hl hI hdn hk hne hnl
                replace hl : listed.size = 13 := hl
                obtain ⟨hF, hb1, hBo⟩ := hI
                have hk1 : k < 13 := List.mem_range.1 (List.mem_filter.1 hk).1
                rcases (show k = 0 ∨ k = 1 ∨ k = 2 ∨ k = 3 ∨ k = 4 ∨ k = 5 ∨ k = 6 ∨ k = 7 ∨ k = 8 ∨ k = 9 ∨ k = 10 ∨ k = 11 ∨ k = 12 by omega) with rfl | rfl | rfl | rfl | rfl | rfl | rfl | rfl | rfl | rfl | rfl | rfl | rfl
                · have hk3 := hk
                  exact wpOp_plain rfl rfl (wp_move_v (ac.eval (.tmp 0)) rfl rfl ⟨(hF.put 0 58 (SP.is (.pointer (some ⟨B, 0, none⟩))) (ac.eval (.tmp 0)) (by rw [hD]; rfl) (((hF.keep 0 (by rw [hD]; rfl)).trans zs0)) (by rw [hD]; rfl) (by rw [hsz]; decide) (by rw [hl]; decide)), hb1, hBo⟩)
                · have hk3 := hk
                  have e := (hF.done 0 (58, SP.is (.pointer (some ⟨B, 0, none⟩))) (by rw [hD]; rfl) (ready_dep hk 0 (by kernel_rfl)))
                  exact wpOp_plain rfl rfl (wp_nilc rfl B e ⟨(hF.put 1 59 (SP.is (.pointer (some ⟨B, 0, none⟩))) (.pointer (some ⟨B, 0, none⟩)) (by rw [hD]; rfl) rfl (by rw [hD]; rfl) (by rw [hsz]; decide) (by rw [hl]; decide)), hb1, hBo⟩)
                · have hk3 := hk
                  have e := (hF.done 1 (59, SP.is (.pointer (some ⟨B, 0, none⟩))) (by rw [hD]; rfl) (ready_dep hk 1 (by kernel_rfl)))
                  exact wpOp_plain rfl rfl (wp_fb_0 rfl B e ⟨(hF.put 2 60 (SP.is (.pointer (some ⟨B, 0, none⟩))) (.pointer (some ⟨B, 0, none⟩)) (by rw [hD]; rfl) rfl (by rw [hD]; rfl) (by rw [hsz]; decide) (by rw [hl]; decide)), hb1, hBo⟩)
                · have hk3 := hk
                  have e := (hF.done 2 (60, SP.is (.pointer (some ⟨B, 0, none⟩))) (by rw [hD]; rfl) (ready_dep hk 2 (by kernel_rfl)))
                  exact wpOp_plain rfl rfl (wp_load_1 B (0) (.slice (some ⟨gl, 0, none⟩) n cl) rfl e (ld_sls W B (0) _ (hBo.row.cell 0 _ rfl)) ⟨(hF.put 3 61 (SP.is (.slice (some ⟨gl, 0, none⟩) n cl)) (.slice (some ⟨gl, 0, none⟩) n cl) (by rw [hD]; rfl) rfl (by rw [hD]; rfl) (by rw [hsz]; decide) (by rw [hl]; decide)), hb1, hBo⟩)
                · have hk3 := hk
                  exact wpOp_plain rfl rfl (wp_move_v (ac.eval (.tmp 4)) rfl rfl ⟨(hF.put 4 62 (SP.is (.int .i64 (t : Int))) (ac.eval (.tmp 4)) (by rw [hD]; rfl) (((hF.keep 4 (by rw [hD]; rfl)).trans zs4)) (by rw [hD]; rfl) (by rw [hsz]; decide) (by rw [hl]; decide)), hb1, hBo⟩)
                · have hk3 := hk
                  have ea := (hF.done 3 (61, SP.is (.slice (some ⟨gl, 0, none⟩) n cl)) (by rw [hD]; rfl) (ready_dep hk 3 (by kernel_rfl)))
                  have eb := (hF.done 4 (62, SP.is (.int .i64 (t : Int))) (by rw [hD]; rfl) (ready_dep hk 4 (by kernel_rfl)))
                  exact wpOp_plain rfl rfl (wp_ixs 23 29 rfl gl 0 n cl t 1 ea eb hlt Try.underlying23 info_slb1b ⟨(hF.put 5 63 (SP.is (.pointer (some ⟨gl, 0 + t * 1, none⟩))) (.pointer (some ⟨gl, 0 + t * 1, none⟩)) (by rw [hD]; rfl) rfl (by rw [hD]; rfl) (by rw [hsz]; decide) (by rw [hl]; decide)), hb1, hBo⟩)
                · have hk3 := hk
                  have e := (hF.done 5 (63, SP.is (.pointer (some ⟨gl, 0 + t * 1, none⟩))) (by rw [hD]; rfl) (ready_dep hk 5 (by kernel_rfl)))
                  exact wpOp_plain rfl rfl (wp_load_1 gl (0 + t * 1) (.slice (some ⟨gu, 0, none⟩) m cu) rfl e (ld_sl W gl (0 + t * 1) _ (HCU.out W hBo)) ⟨(hF.put 6 64 (SP.is (.slice (some ⟨gu, 0, none⟩) m cu)) (.slice (some ⟨gu, 0, none⟩) m cu) (by rw [hD]; rfl) rfl (by rw [hD]; rfl) (by rw [hsz]; decide) (by rw [hl]; decide)), hb1, hBo⟩)
                · have hk3 := hk
                  exact wpOp_plain rfl rfl (wp_move_v (ac.eval (.tmp 5)) rfl rfl ⟨(hF.put 7 65 (SP.is (.int .i64 (j : Int))) (ac.eval (.tmp 5)) (by rw [hD]; rfl) (((hF.keep 5 (by rw [hD]; rfl)).trans zs5)) (by rw [hD]; rfl) (by rw [hsz]; decide) (by rw [hl]; decide)), hb1, hBo⟩)
                · have hk3 := hk
                  exact wpOp_plain rfl rfl (wp_move_v (ac.eval (.tmp 4)) rfl rfl ⟨(hF.put 8 66 (SP.is (.int .i64 (t : Int))) (ac.eval (.tmp 4)) (by rw [hD]; rfl) (((hF.keep 4 (by rw [hD]; rfl)).trans zs4)) (by rw [hD]; rfl) (by rw [hsz]; decide) (by rw [hl]; decide)), hb1, hBo⟩)
                · have hk3 := hk
                  exact wpOp_plain rfl rfl (wp_move_v (ac.eval (.tmp 5)) rfl rfl ⟨(hF.put 9 67 (SP.is (.int .i64 (j : Int))) (ac.eval (.tmp 5)) (by rw [hD]; rfl) (((hF.keep 5 (by rw [hD]; rfl)).trans zs5)) (by rw [hD]; rfl) (by rw [hsz]; decide) (by rw [hl]; decide)), hb1, hBo⟩)
                · have hk3 := hk
                  have ea := (hF.done 8 (66, SP.is (.int .i64 (t : Int))) (by rw [hD]; rfl) (ready_dep hk 8 (by kernel_rfl)))
                  have eb := (hF.done 9 (67, SP.is (.int .i64 (j : Int))) (by rw [hD]; rfl) (ready_dep hk 9 (by kernel_rfl)))
                  refine wpOp_plain rfl rfl (wp_fcall_v 40 #[.int .i64 (t : Int), .int .i64 (j : Int)] rfl rfl (by show [ac.eval (.tmp 66), ac.eval (.tmp 67)] = _; rw [show ac.eval (.tmp 66) = _ from ea, show ac.eval (.tmp 67) = _ from eb]) (by go_simp) ((HBM.out W).mono ?_))
                  rintro e W2 ⟨rfl, hB⟩
                  exact ⟨_, rfl, ((hF.world hB).put 10 68 (SP.is (.int .u8 (c (bmk t j)))) (.int .u8 (c (bmk t j))) (by rw [hD]; rfl) rfl (by rw [hD]; rfl) (by rw [hsz]; decide) (by rw [hl]; decide)), hb1.trans (hB.mono hb1.size), hBo.below hB⟩
                · have hk3 := hk
                  have ea := (hF.done 6 (64, SP.is (.slice (some ⟨gu, 0, none⟩) m cu)) (by rw [hD]; rfl) (ready_dep hk 6 (by kernel_rfl)))
                  have eb := (hF.done 7 (65, SP.is (.int .i64 (j : Int))) (by rw [hD]; rfl) (ready_dep hk 7 (by kernel_rfl)))
                  exact wpOp_plain rfl rfl (wp_ixs 29 5 rfl gu 0 m cu j 1 ea eb hjm Try.underlying29 info_u8 ⟨(hF.put 11 69 (SP.is (.pointer (some ⟨gu, 0 + j * 1, none⟩))) (.pointer (some ⟨gu, 0 + j * 1, none⟩)) (by rw [hD]; rfl) rfl (by rw [hD]; rfl) (by rw [hsz]; decide) (by rw [hl]; decide)), hb1, hBo⟩)
                · exact absurd rfl hne
              · clear ha0 hb1 hBo
                intro listed ac W hl hI hdn hk
                replace hl : listed.size = 13 := hl
                obtain ⟨hF, hb1, hBo⟩ := hI
                have e69 := (hF.done 11 (69, SP.is (.pointer (some ⟨gu, 0 + j * 1, none⟩))) (by rw [hD]; rfl) (ready_dep hk 11 (by kernel_rfl)))
                have e68 := (hF.done 10 (68, SP.is (.int .u8 (c (bmk t j)))) (by rw [hD]; rfl) (ready_dep hk 10 (by kernel_rfl)))
                obtain ⟨cur, rr, rl1, rl2, _, _, _⟩ := bw_row2 (hBo.get t e _ HET.out HUT.out)
                refine wpOp_plain rfl rfl (wp_setb (.tmp 69) (.tmp 68) rfl gu (0 + j * 1) (c (bmk t j)) cur 5 e69 e68 rr (by omega) ?_)
                intro W2 p1
                have hz : (0 + j * 1) = j := by omega
                rw [hz] at p1
                have hT : Fp D a0 listed ac W2 := hF.turn (by rw [hD]; simp only [List.forall_mem_cons, List.not_mem_nil, false_implies, implies_true, and_true]; exact ⟨fun _ h => h, fun _ h => h, fun _ h => h, fun _ h => h, fun _ h => h, fun _ h => h, fun _ h => h, fun _ h => h, fun _ h => h, fun _ h => h, fun _ h => h, fun _ h => h, fun _ h => h⟩)
                exact ⟨(hT.skip 12 1000 (by rw [hD]; rfl) (by rw [hl]; decide)), (by rw [p1]; exact hBo.mark t e gu m cu HET.out HUT.out j hjm (bmk t j))⟩
              · clear ha0 hb1 hBo
                intro listed ac W k hl hJ hdn hk hne hyl
                replace hl : listed.size = 13 := hl
                obtain ⟨hF, hJ⟩ := hJ
                have hk1 : k < 13 := List.mem_range.1 (List.mem_filter.1 hk).1
                rcases (show k = 0 ∨ k = 1 ∨ k = 2 ∨ k = 3 ∨ k = 4 ∨ k = 5 ∨ k = 6 ∨ k = 7 ∨ k = 8 ∨ k = 9 ∨ k = 10 ∨ k = 11 ∨ k = 12 by omega) with rfl | rfl | rfl | rfl | rfl | rfl | rfl | rfl | rfl | rfl | rfl | rfl | rfl
                · exact absurd (hdn 1 (hdn 2 (hdn 3 (hdn 5 (hdn 6 (hdn 11 (hdn 12 hyl 11 (by kernel_rfl)) 6 (by kernel_rfl)) 5 (by kernel_rfl)) 3 (by kernel_rfl)) 2 (by kernel_rfl)) 1 (by kernel_rfl)) 0 (by kernel_rfl)) (not_yet hk)
                · exact absurd (hdn 2 (hdn 3 (hdn 5 (hdn 6 (hdn 11 (hdn 12 hyl 11 (by kernel_rfl)) 6 (by kernel_rfl)) 5 (by kernel_rfl)) 3 (by kernel_rfl)) 2 (by kernel_rfl)) 1 (by kernel_rfl)) (not_yet hk)
                · exact absurd (hdn 3 (hdn 5 (hdn 6 (hdn 11 (hdn 12 hyl 11 (by kernel_rfl)) 6 (by kernel_rfl)) 5 (by kernel_rfl)) 3 (by kernel_rfl)) 2 (by kernel_rfl)) (not_yet hk)
                · exact absurd (hdn 5 (hdn 6 (hdn 11 (hdn 12 hyl 11 (by kernel_rfl)) 6 (by kernel_rfl)) 5 (by kernel_rfl)) 3 (by kernel_rfl)) (not_yet hk)
                · exact absurd (hdn 5 (hdn 6 (hdn 11 (hdn 12 hyl 11 (by kernel_rfl)) 6 (by kernel_rfl)) 5 (by kernel_rfl)) 4 (by kernel_rfl)) (not_yet hk)
                · exact absurd (hdn 6 (hdn 11 (hdn 12 hyl 11 (by kernel_rfl)) 6 (by kernel_rfl)) 5 (by kernel_rfl)) (not_yet hk)
                · exact absurd (hdn 11 (hdn 12 hyl 11 (by kernel_rfl)) 6 (by kernel_rfl)) (not_yet hk)
                · exact absurd (hdn 11 (hdn 12 hyl 11 (by kernel_rfl)) 7 (by kernel_rfl)) (not_yet hk)
                · exact absurd (hdn 10 (hdn 12 hyl 10 (by kernel_rfl)) 8 (by kernel_rfl)) (not_yet hk)
                · exact absurd (hdn 10 (hdn 12 hyl 10 (by kernel_rfl)) 9 (by kernel_rfl)) (not_yet hk)
                · exact absurd (hdn 12 hyl 10 (by kernel_rfl)) (not_yet hk)
                · exact absurd (hdn 12 hyl 11 (by kernel_rfl)) (not_yet hk)
                · exact absurd rfl hne
              · clear hb1 hBo
                intro listed ac W hl hJ hr
                replace hl : listed.size = 13 := hl
                obtain ⟨hF, hJ⟩ := hJ
                have hall := all_listed (by kernel_rfl) hl hr
                have h58 : ac.eval (.tmp 58) = .pointer (some ⟨B, 0, none⟩) := hF.done 0 (58, SP.is (.pointer (some ⟨B, 0, none⟩))) (by rw [hD]; rfl) (hall 0 (by decide))
                have h59 : ac.eval (.tmp 59) = .pointer (some ⟨B, 0, none⟩) := hF.done 1 (59, SP.is (.pointer (some ⟨B, 0, none⟩))) (by rw [hD]; rfl) (hall 1 (by decide))
                have h60 : ac.eval (.tmp 60) = .pointer (some ⟨B, 0, none⟩) := hF.done 2 (60, SP.is (.pointer (some ⟨B, 0, none⟩))) (by rw [hD]; rfl) (hall 2 (by decide))
                have h61 : ac.eval (.tmp 61) = .slice (some ⟨gl, 0, none⟩) n cl := hF.done 3 (61, SP.is (.slice (some ⟨gl, 0, none⟩) n cl)) (by rw [hD]; rfl) (hall 3 (by decide))
                have h62 : ac.eval (.tmp 62) = .int .i64 (t : Int) := hF.done 4 (62, SP.is (.int .i64 (t : Int))) (by rw [hD]; rfl) (hall 4 (by decide))
                have h63 : ac.eval (.tmp 63) = .pointer (some ⟨gl, 0 + t * 1, none⟩) := hF.done 5 (63, SP.is (.pointer (some ⟨gl, 0 + t * 1, none⟩))) (by rw [hD]; rfl) (hall 5 (by decide))
                have h64 : ac.eval (.tmp 64) = .slice (some ⟨gu, 0, none⟩) m cu := hF.done 6 (64, SP.is (.slice (some ⟨gu, 0, none⟩) m cu)) (by rw [hD]; rfl) (hall 6 (by decide))
                have h65 : ac.eval (.tmp 65) = .int .i64 (j : Int) := hF.done 7 (65, SP.is (.int .i64 (j : Int))) (by rw [hD]; rfl) (hall 7 (by decide))
                have h66 : ac.eval (.tmp 66) = .int .i64 (t : Int) := hF.done 8 (66, SP.is (.int .i64 (t : Int))) (by rw [hD]; rfl) (hall 8 (by decide))
                have h67 : ac.eval (.tmp 67) = .int .i64 (j : Int) := hF.done 9 (67, SP.is (.int .i64 (j : Int))) (by rw [hD]; rfl) (hall 9 (by decide))
                have h68 : ac.eval (.tmp 68) = .int .u8 (c (bmk t j)) := hF.done 10 (68, SP.is (.int .u8 (c (bmk t j)))) (by rw [hD]; rfl) (hall 10 (by decide))
                have h69 : ac.eval (.tmp 69) = .pointer (some ⟨gu, 0 + j * 1, none⟩) := hF.done 11 (69, SP.is (.pointer (some ⟨gu, 0 + j * 1, none⟩))) (by rw [hD]; rfl) (hall 11 (by decide))
                have ea := hF.lay [(58, .pointer (some ⟨B, 0, none⟩)), (59, .pointer (some ⟨B, 0, none⟩)), (60, .pointer (some ⟨B, 0, none⟩)), (61, .slice (some ⟨gl, 0, none⟩) n cl), (62, .int .i64 (t : Int)), (63, .pointer (some ⟨gl, 0 + t * 1, none⟩)), (64, .slice (some ⟨gu, 0, none⟩) m cu), (65, .int .i64 (j : Int)), (66, .int .i64 (t : Int)), (67, .int .i64 (j : Int)), (68, .int .u8 (c (bmk t j))), (69, .pointer (some ⟨gu, 0 + j * 1, none⟩))] (by rw [hD, hsz]; rfl) (by simp only [List.forall_mem_cons, List.not_mem_nil, false_implies, implies_true, and_true]; exact ⟨h58, h59, h60, h61, h62, h63, h64, h65, h66, h67, h68, h69⟩)
                rw [ha0] at ea
                simp only [List.foldl_cons, List.foldl_nil, List.setIfInBounds_toArray, List.set_cons_zero, List.set_cons_succ] at ea
                clear hF hall hr hl hD zs0 zs4 zs5 ha0 hsz h58 h59 h60 h61 h62 h63 h64 h65 h66 h67 h68 h69
                subst ea
                have HBk : Hid (Bm w0 W B rw (.slice (some ⟨gl, 0, none⟩) n cl) us (es.set t (e.set j (bmk t j)))) := hJ
                have HMk : Hid (Mk ds (es.set t (e.set j (bmk t j))) t) := HMj.out.set e HET.out j _
                have HQk : Hid (∀ e', (es.set t (e.set j (bmk t j)))[t]? = some e' → ∀ q, q < j + 1 → e'.getD q 0 = bmk t q) := fun e' he' q hq => by
                  rw [List.getElem?_set_self (List.getElem?_eq_some_iff.1 HET.out).1] at he'
                  obtain rfl := Option.some.inj he'
                  by_cases hqj : q = j
                  · subst hqj
                    rw [List.getD_eq_getElem?_getD, List.getElem?_set_self (by rw [HEL.out]; exact hjm)]
                    rfl
                  · rw [List.getD_eq_getElem?_getD, List.getElem?_set_ne (fun h => hqj h.symm), ← List.getD_eq_getElem?_getD]
                    exact HQj.out e HET.out q (by omega)
                clear hJ HBM HCU
                go_wp2_with fail
                refine ⟨⟨j + 1, _, hjm, by go_num, HBk, HMk, HQk⟩, by simp [intOf]; omega⟩
            · obtain rfl : j = m := by omega
              have HMk : Hid (Mk ds es (t + 1)) := HMj.out.next e HET.out (fun q hq => HQj.out e HET.out q (by rw [HEL.out] at hq; exact hq))
              go_wp2_with fail
              refine ⟨⟨t + 1, es, hlt, by go_num, HBj, HMk⟩, by simp [intOf]; omega⟩
        · obtain rfl : t = n := by omega
          obtain ⟨n, hn⟩ : ∃ n, n = t := ⟨_, rfl⟩
          subst hn
          have HELN : Hid (es.length = n) := by show _ = _; rw [HMt.out.len, ← HN.out]
          have HES : Hid (∀ (i : Nat) (e : List (BitVec 8)), es[i]? = some e → e = bms i e.length ∧ e.length ≤ 1000000) := fun i e he => by
            have hi := (List.getElem?_eq_some_iff.1 he).1
            rw [HELN.out] at hi
            obtain ⟨d, hd⟩ : ∃ d, ds[i]? = some d := ⟨_, List.getElem?_eq_getElem (by rw [← HN.out]; exact hi)⟩
            have q := HMt.out.each i d e hd he
            exact ⟨by rw [q.1]; exact q.2 hi, by rw [q.1]; exact HDL.out d (List.mem_of_getElem? hd)⟩
          obtain ⟨N0, hN0⟩ : ∃ N0, N0 = wr.heap.size := ⟨_, rfl⟩
          have HGs0 : Hid (Gs w0 N0 wr B rw (.slice Al n cl) us es (.slice none 0 0) 0 []) := ⟨HBt.out, Lw.nil _ _ _, (fun g e => by cases e), (fun i e hi _ => by omega), (fun i v hv => by simp at hv), (fun u hu g e => by
            obtain ⟨i, hi, hxi⟩ := List.mem_iff_getElem.1 hu
            have hil : i < es.length := by have := Lw.len HBt.out.ll; omega
            rw [hN0]
            exact Bw.lt (HBt.out.get i _ u (List.getElem?_eq_getElem hil) (by rw [List.getElem?_eq_getElem hi, hxi])) g e), (fun g e => by rw [hN0]; exact Lw.lt HBt.out.ll g e), by rw [hN0]; exact HBt.out.be.size, by rw [hN0]; exact Nat.le_refl _⟩
          clear hN0 HMt
          go_upto_region 15 with fail
          clear c0 HBt
          go_loopw [6, 7, 8, 9] (fun vg k _ _ wr => ∃ (t : Nat) (gs : List Value) (Ag : Option Addr) (cg : Nat), t ≤ n ∧ vg = .slice Ag t cg ∧ k = .int .i64 (t : Int) ∧ Hid (Gs w0 N0 wr B rw (.slice Al n cl) us es (.slice Ag t cg) t gs)) (fun _ k _ _ _ => n - (intOf k).toNat)
          case atStart => exact ⟨0, [], none, 0, Nat.zero_le _, rfl, rfl, HGs0⟩
          case round =>
            obtain ⟨t, gs, Ag, cg, ht, rfl, rfl, HGt⟩ := hrel
            clear HGs0
            have c0 : wr.cell? ⟨B, 0, none⟩ = some (.slice Al n cl) := HGt.out.bm.row.cell 0 _ rfl
            by_cases hlt : t < n
            · obtain ⟨e, he⟩ : ∃ e, es[t]? = some e := ⟨_, List.getElem?_eq_getElem (by rw [HELN.out]; exact hlt)⟩
              obtain ⟨u, hu, hbu⟩ := HGt.out.bm.eu t e he
              obtain ⟨m, hm⟩ : ∃ m, m = e.length := ⟨_, rfl⟩
              obtain ⟨hes, heb⟩ := HES.out t e he
              rw [← hm] at hes heb
              obtain ⟨Au, cu, hf, _, _⟩ := Bw.form hbu
              rw [← hm] at hf
              subst hf
              obtain ⟨gl, cl', e1, _⟩ := Lw.open (by have q := HGt.out.bm.ll; rwa [HELN.out] at q) (by omega)
              simp only [Value.slice.injEq] at e1
              obtain ⟨rfl, _, rfl⟩ := e1
              have c1 : wr.cell? ⟨gl, t, none⟩ = some (.slice Au m cu) := by
                have k := HGt.out.bm.ll
                rw [HELN.out] at k
                have := Lw.range k t _ hu
                rwa [Nat.zero_add] at this
              have HET : Hid (es[t]? = some e) := he
              have HEM : Hid (e = bms t m) := hes
              have HUT : Hid (us[t]? = some (.slice Au m cu)) := hu
              have HGv : Hid (Gv N0 wr us gs t m 0 (.slice Au m cu) (.slice Au m cu)) := ⟨by rw [Nat.add_zero, ← hes]; exact hbu, fun g q => .inr q, fun x hx g q q' => by
                obtain ⟨i, hi, hxi⟩ := List.mem_iff_getElem.1 hx
                have hgi : gs[i]? = some x := by rw [List.getElem?_eq_getElem hi, hxi]
                have hit : i < t := by have := Lw.len HGt.out.lg; omega
                rcases HGt.out.blk i x hgi g q with r | ⟨u', r1, r2⟩
                · have := HGt.out.ult _ (List.mem_of_getElem? hu) g q'
                  omega
                · exact HGt.out.bm.apart i t u' _ (by omega) r1 hu g r2 q'⟩
              have htb : t ≤ 1000000 := by omega
              clear he hu hbu hm hes
              go_upto_region 19 with fail
              clear c0 c1
              go_loopw [8, 9] (fun v k wr => ∃ (s q : Nat) (Av : Option Addr) (cv : Nat), s ≤ 16 ∧ k = .int .i64 (s : Int) ∧ v = .slice Av q cv ∧ q ≤ 1000016 ∧ Hid (q = m + s) ∧ Hid (Gs w0 N0 wr B rw (.slice (some ⟨gl, 0, none⟩) n cl) us es (.slice Ag t cg) t gs) ∧ Hid (Gv N0 wr us gs t m s (.slice Au m cu) (.slice Av q cv))) (fun _ k _ => 16 - (intOf k).toNat)
              case atStart => exact ⟨0, m, Au, cu, by omega, rfl, rfl, by omega, rfl, HGt, HGv⟩
              case round =>
                obtain ⟨s, q, Av, cv, hs, rfl, rfl, hqb, HQ, HGw, HVw⟩ := hrel
                clear HGt HGv
                by_cases hs16 : s < 16
                · have HBM : Hid (Calls Try.prog 40 #[.int .i64 (t : Int), .int .i64 (q : Int)] wr fun e w' => e = .returned (.int .u8 (c (bmk t q))) ∧ w' = wr) := byteMark_any t q (by omega) (by omega) wr
                  obtain ⟨y, hy⟩ : ∃ y, y = bmk t q := ⟨_, rfl⟩
                  rw [← hy] at HBM
                  have HY : Hid (bms t (m + s) ++ [y] = bms t (m + s + 1)) := by show _ = _; rw [hy, HQ.out]; exact bms_snoc t (m + s)
                  clear hy
                  go_wp2_with (first
                    | (go_at_call 40; refine Calls.mono HBM.out ?_; rintro e X ⟨rfl, hq⟩; obtain rfl := hq.symm)
                    | (refine wpList_buildOne 29 5 Try.underlying29 info_u8b rfl (.tmp 94) rfl (.int .u8 (c y)) rfl rfl ?_; intro X1 q1 q2 q3; have R1 : Hid (Row X1 wr.heap.size [.int .u8 (c y)] 5) := q1; have G1 : Hid (Gs w0 N0 X1 B rw (.slice (some ⟨gl, 0, none⟩) n cl) us es (.slice Ag t cg) t gs) := HGw.out.below q2; have V1 : Hid (Gv N0 X1 us gs t m s (.slice Au m cu) (.slice Av q cv)) := HVw.out.below q2; clear q1 q2 q3; simp only [Act.put, List.setIfInBounds_toArray, List.set_cons_zero, List.set_cons_succ])
                    | (refine wpList_appByte rfl (.tmp 90) (.tmp 95) rfl (.slice Av q cv) (bms t (m + s)) y rfl V1.out.bw wr.heap.size rfl R1.out (by rw [bms_len]; omega) ?_; intro v5 X5 p1 p2 p3 p4; rw [HY.out] at p1; have pp := G1.out.grow V1.out e HET.out HEM.out HUT.out v5 p1 p2 p3 p4; obtain ⟨A5, c5, e5, _, _⟩ := Bw.form p1; rw [bms_len] at e5; have e6 : v5 = .slice A5 (q + 1) c5 := (by rw [e5, HQ.out]); subst e6; have G5 : Hid (Gs w0 N0 X5 B rw (.slice (some ⟨gl, 0, none⟩) n cl) us es (.slice Ag t cg) t gs) := pp.1; have V5 : Hid (Gv N0 X5 us gs t m (s + 1) (.slice Au m cu) (.slice A5 (q + 1) c5)) := pp.2; clear p1 p2 p3 p4 pp e5; simp only [Act.put, List.setIfInBounds_toArray, List.set_cons_zero, List.set_cons_succ]))
                  refine ⟨⟨s + 1, q + 1, A5, c5, hs16, by go_num, rfl, by have := HQ.out; omega, (by show _ = _; have := HQ.out; omega), G5, V5⟩, by simp [intOf]; omega⟩
                · obtain rfl : s = 16 := by omega
                  go_wp2_with (first
                    | (refine wpList_buildOne 23 29 Try.underlying23 info_sl4 rfl (.tmp 98) rfl (.slice Av q cv) rfl rfl ?_; intro X1 q1 q2 q3; have R1 : Hid (Row X1 wr.heap.size [.slice Av q cv] 29) := q1; have G1 : Hid (Gs w0 N0 X1 B rw (.slice (some ⟨gl, 0, none⟩) n cl) us es (.slice Ag t cg) t gs) := HGw.out.below q2; have V1 : Hid (Gv N0 X1 us gs t m 16 (.slice Au m cu) (.slice Av q cv)) := HVw.out.below q2; clear q1 q2 q3; simp only [Act.put, List.setIfInBounds_toArray, List.set_cons_zero, List.set_cons_succ])
                    | (refine wpList_appL 23 29 1 24 Try.underlying23 info_sl (by decide) (by decide) rfl (.tmp 97) (.tmp 99) rfl (.slice Ag t cg) t gs [.slice Av q cv] rfl G1.out.lg wr.heap.size rfl rfl R1.out.all (fun u hu => by obtain rfl := List.mem_singleton.1 hu; rfl) htb ?_; intro v5 X5 p1 p2 p3; obtain ⟨A5, c5, e5, _, _⟩ := Lw.form p1; subst e5; have G5 : Hid (Gs w0 N0 X5 B rw (.slice (some ⟨gl, 0, none⟩) n cl) us es (.slice A5 (t + 1) c5) (t + 1) (gs ++ [.slice Av q cv])) := G1.out.more V1.out e HET.out HEM.out HUT.out _ p1 p2 p3; clear p1 p2 p3; simp only [Act.put, List.setIfInBounds_toArray, List.set_cons_zero, List.set_cons_succ]))
                  refine ⟨⟨t + 1, _, A5, c5, hlt, rfl, by go_num, G5⟩, by simp [intOf]; omega⟩
            · obtain rfl : t = n := by omega
              obtain ⟨n, hn⟩ : ∃ n, n = t := ⟨_, rfl⟩
              subst hn
              go_upto_region 24 with fail
              clear c0
              go_loopw [10] (fun k wr => ∃ t : Nat, t ≤ n ∧ k = .int .i64 (t : Int) ∧ Hid (Gs w0 N0 wr B rw (.slice Al n cl) us es (.slice Ag n cg) n gs)) (fun k _ => n - (intOf k).toNat)
              case atStart => exact ⟨0, Nat.zero_le _, rfl, HGt⟩
              case round =>
                obtain ⟨t, ht, rfl, HGr⟩ := hrel
                clear HGt
                have c0 : wr.cell? ⟨B, 0, none⟩ = some (.slice Al n cl) := HGr.out.bm.row.cell 0 _ rfl
                by_cases hlt : t < n
                · obtain ⟨e, he⟩ : ∃ e, es[t]? = some e := ⟨_, List.getElem?_eq_getElem (by rw [HELN.out]; exact hlt)⟩
                  obtain ⟨u, hu, hbu⟩ := HGr.out.bm.eu t e he
                  obtain ⟨v, hv, hbv⟩ := HGr.out.each t e hlt he
                  obtain ⟨m, hm⟩ : ∃ m, m = e.length := ⟨_, rfl⟩
                  obtain ⟨hes, heb⟩ := HES.out t e he
                  rw [← hm] at hes heb hbv
                  obtain ⟨Au, cu, hf, _, _⟩ := Bw.form hbu
                  rw [← hm] at hf
                  subst hf
                  obtain ⟨Av, cv, hf2, _, _⟩ := Bw.form hbv
                  rw [bms_len] at hf2
                  obtain ⟨q, hq⟩ : ∃ q, q = m + 16 := ⟨_, rfl⟩
                  rw [← hq] at hf2
                  subst hf2
                  obtain ⟨gl, cl', e1, _⟩ := Lw.open (by have q := HGr.out.bm.ll; rwa [HELN.out] at q) (by omega)
                  simp only [Value.slice.injEq] at e1
                  obtain ⟨rfl, _, rfl⟩ := e1
                  obtain ⟨gg, cg', e2, _⟩ := Lw.open HGr.out.lg (by omega)
                  simp only [Value.slice.injEq] at e2
                  obtain ⟨rfl, _, rfl⟩ := e2
                  have c1 : wr.cell? ⟨gl, t, none⟩ = some (.slice Au m cu) := by
                    have k := HGr.out.bm.ll
                    rw [HELN.out] at k
                    have := Lw.range k t _ hu
                    rwa [Nat.zero_add] at this
                  have HC2 : Hid (∀ X, Gs w0 N0 X B rw (.slice (some ⟨gl, 0, none⟩) n cl) us es (.slice (some ⟨gg, 0, none⟩) n cg) n gs → X.cell? ⟨gg, t, none⟩ = some (.slice Av q cv)) := fun X k => by have := Lw.range k.lg t _ hv; rwa [Nat.zero_add] at this
                  have HA1 : Hid (Calls Try.prog 41 #[.slice Au m cu, .int .i64 (t : Int)] wr fun e w' => e = .returned (.bool true) ∧ Below wr.heap.size wr w') := all_marks t m (by omega) (by omega) Au cu wr (by rw [← hes]; exact Bw.sl hbu)
                  have HA2 : Hid (∀ X, Gs w0 N0 X B rw (.slice (some ⟨gl, 0, none⟩) n cl) us es (.slice (some ⟨gg, 0, none⟩) n cg) n gs → Calls Try.prog 41 #[.slice Av q cv, .int .i64 (t : Int)] X fun e w' => e = .returned (.bool true) ∧ Below X.heap.size X w') := fun X k => by
                    obtain ⟨v', p1, p2⟩ := k.each t e hlt he
                    rw [hv] at p1
                    obtain rfl := Option.some.inj p1
                    rw [← hm, ← hq] at p2
                    exact all_marks t q (by omega) (by omega) Av cv X (Bw.sl p2)
                  clear he hu hbu hv hbv hm hes hq
                  go_wp2_with (first
                    | (go_at_call 41; refine Calls.mono HA1.out ?_; clear HA1; rintro e X1 ⟨rfl, p⟩; have G1 : Hid (Gs w0 N0 X1 B rw (.slice (some ⟨gl, 0, none⟩) n cl) us es (.slice (some ⟨gg, 0, none⟩) n cg) n gs) := HGr.out.below p; have c2 := HC2.out X1 G1.out; clear p c0 c1)
                    | (go_at_call 41; refine Calls.mono (HA2.out X1 G1.out) ?_; rintro e X2 ⟨rfl, p⟩; have G2 : Hid (Gs w0 N0 X2 B rw (.slice (some ⟨gl, 0, none⟩) n cl) us es (.slice (some ⟨gg, 0, none⟩) n cg) n gs) := G1.out.below p; clear p))
                  refine ⟨⟨t + 1, hlt, by go_num, G2⟩, by simp [intOf]; omega⟩
                · obtain rfl : t = n := by omega
                  have HSP : Hid (Calls Try.prog 42 #[.pointer (some ⟨B, 0, none⟩)] wr fun e w' => e = .returned (.bool true) ∧ Below wr.heap.size wr w') := stp_nil B _ _ wr HGr.out.bm.row
                  have HBE : Hid (Below w0.heap.size w0 wr) := HGr.out.bm.be
                  clear HGr
                  go_wp2_with (go_at_call 42; refine Calls.mono HSP.out ?_; rintro e X9 ⟨rfl, p⟩; have B9 : Hid (Below w0.heap.size w0 X9) := HBE.out.trans (p.mono HBE.out.size); clear p)
                  go_ret
                  exact ⟨rfl, B9.out⟩

end Go.Proofs.Ytehjadgmleoobaa
