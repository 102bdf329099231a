/-
  OutboxBooks: the law's book of paths: stillPaths.
-/
import Derived.Test.YtdicgenhfmhklaaGreatDoorBkJ
import Derived.Test.YtdicgenhfmhklaaGreatDoorTRl
namespace Go.Proofs.YtdicgenhfmhklaaGreatDoor
open Go Go.RowKit
open Sha

theorem info_sd1 : (Tryz.prog.info? 64).map (·.size) = some 1 := by kernel_rfl
section
variable {Q : Exit → Act → World → Prop} {o : Oper} {a : Act} {w : World} {K : Act → World → Prop}
theorem wp_nilp {x : Operand} (ho : o.op = .nilCheck x) (B : Nat) (hx : a.eval x = .pointer (some ⟨B, 0, none⟩)) (h : K (a.put o.dst (.pointer (some ⟨B, 0, none⟩))) w) : Oper.wp Tryz.prog o a w K Q := by
  unfold Oper.wp execOp
  simp only [ho, hx]
  go_simp
  exact h
theorem wp_fp_2 {x : Operand} (ho : o.op = .fieldAddr 30 x 2) (B : Nat) (hx : a.eval x = .pointer (some ⟨B, 0, none⟩)) (h : K (a.put o.dst (.pointer (some ⟨B, 2, none⟩))) w) : Oper.wp Tryz.prog o a w K Q := by
  unfold Oper.wp execOp
  simp only [ho, hx]
  go_simp
  exact h
theorem wp_fp_3 {x : Operand} (ho : o.op = .fieldAddr 30 x 3) (B : Nat) (hx : a.eval x = .pointer (some ⟨B, 0, none⟩)) (h : K (a.put o.dst (.pointer (some ⟨B, 3, none⟩))) w) : Oper.wp Tryz.prog o a w K Q := by
  unfold Oper.wp execOp
  simp only [ho, hx]
  go_simp
  exact h
theorem ld_dss (w : World) (b f : Nat) (v : Value) (h : w.cell? ⟨b, f, none⟩ = some v) : (loadVar 28 ⟨b, f, none⟩).run Tryz.prog w = .ok v w := by
  simp [loadVar, isAgg, run_underlying Tryz.underlying28, h]
theorem ld_ds (w : World) (b f : Nat) (v : Value) (h : w.cell? ⟨b, f, none⟩ = some v) : (loadVar 64 ⟨b, f, none⟩).run Tryz.prog w = .ok v w := by
  simp [loadVar, isAgg, run_underlying Tryz.underlying64, h]
theorem wp_notP {x : Operand} {t : TypeId} (ho : o.op = .unOp .not t x) (hx : a.eval x = .bool true) (h : K (a.put o.dst (.bool false)) w) : Oper.wp Tryz.prog o a w K Q := wp_not_v ho hx h
theorem wp_setD (x y : Operand) (ho : o.op = .store 44 x y) (b i : Nat) (m : List (BitVec 8)) (hm : m.length = 32) (cs : List Value) (t : TypeId) (hx : a.eval x = .pointer (some ⟨b, i, none⟩)) (hy : a.eval y = .agg (vB m).toArray) (r : Row w b cs t) (hl : i + 32 ≤ cs.length)
    (h : ∀ X, X = w.setCells b i (vB m) → K (a.put o.dst undef) X) : Oper.wp Tryz.prog o a w K Q :=
  wp_store_mid 44 x y ho b i (vB m).toArray hx hy (r.there i _ (by rw [List.size_toArray, vB_length, hm]; exact hl)) (by rw [List.size_toArray]; exact info_dg11 m hm) (vB_all11 m) (h _ rfl)
end
set_option maxRecDepth 100000 in
set_option maxHeartbeats 4000000 in
theorem stillPaths_any (w0 : World) (B : Nat) (vl vw : Value) (us ws : List Value) (ds : List (List (List (BitVec 8)))) (hn2 : ds.length ≤ 1000000) (hdl : ∀ d ∈ ds, d.length ≤ 1000000) (hd32 : ∀ d ∈ ds, ∀ x ∈ d, x.length = 32) (w : World) (hb : Pbk w0 w B vl vw vl vw us ws ds ds) :
    Calls Tryz.prog 29 #[.pointer (some ⟨B, 0, none⟩)] w fun e w' => e = .returned (.bool true) ∧ Below w0.heap.size w0 w' := by
  obtain ⟨n, hn⟩ : ∃ n, n = ds.length := ⟨_, rfl⟩
  obtain ⟨Al, cl, el, _, _⟩ := Lw.form hb.ll
  obtain ⟨Aw, cw, ew, _, _⟩ := Lw.form hb.lw
  rw [← hn] at el ew
  subst el ew
  have HN : Hid (n = ds.length) := hn
  have hnb : n ≤ 1000000 := by omega
  have HDL : Hid (∀ d ∈ ds, d.length ≤ 1000000) := hdl
  have HD32 : Hid (∀ d ∈ ds, ∀ x ∈ d, x.length = 32) := hd32
  have HB : Hid (Pbk w0 w B (.slice Al n cl) (.slice Aw n cw) (.slice Al n cl) (.slice Aw n cw) us ws ds ds) := hb
  clear hn hn2 hdl hb hd32
  go_enter Tryz.func29, Tryz.ntmps29
  go_wp2
  go_loopw [3] (fun k wr => ∃ t : Nat, t ≤ n ∧ k = .int .i64 (t : Int) ∧ Hid (Pbk w0 wr B (.slice Al n cl) (.slice Aw n cw) (.slice Al n cl) (.slice Aw n cw) us ws ds ds)) (fun k _ => n - (intOf k).toNat)
  case atStart => exact ⟨0, Nat.zero_le _, rfl, HB⟩
  case round =>
    obtain ⟨t, ht, rfl, HBo⟩ := hrel
    clear HB
    have c0 : wr.cell? ⟨B, 2, none⟩ = some (.slice Al n cl) := HBo.out.row.cell 2 _ rfl
    by_cases hlt : t < n
    · obtain ⟨d, hd⟩ : ∃ d, ds[t]? = some d := ⟨_, List.getElem?_eq_getElem (by rw [← HN.out]; exact hlt)⟩
      obtain ⟨u, hu, hbu⟩ := HBo.out.eu t d hd
      obtain ⟨x, hx, hbx⟩ := HBo.out.ew t d hd
      obtain ⟨m, hm⟩ : ∃ m, m = d.length := ⟨_, rfl⟩
      obtain ⟨Au, cu, eu, _, _⟩ := Pw.form hbu
      obtain ⟨Ax, cx, ex, _, _⟩ := Pw.form hbx
      rw [← hm] at eu ex
      subst eu ex
      obtain ⟨gl, cl', e1, _⟩ := Lw.open (by have q := HBo.out.ll; rwa [← HN.out] at q) (by omega)
      obtain ⟨gw, cw', e2, _⟩ := Lw.open (by have q := HBo.out.lw; rwa [← HN.out] at q) (by omega)
      simp only [Value.slice.injEq] at e1 e2
      obtain ⟨rfl, _, rfl⟩ := e1
      obtain ⟨rfl, _, rfl⟩ := e2
      have hmb : m ≤ 1000000 := by rw [hm]; exact HDL.out d (List.mem_of_getElem? hd)
      have HCU : Hid (∀ W, Pbk w0 W B (.slice (some ⟨gl, 0, none⟩) n cl) (.slice (some ⟨gw, 0, none⟩) n cw) (.slice (some ⟨gl, 0, none⟩) n cl) (.slice (some ⟨gw, 0, none⟩) n cw) us ws ds ds → W.cell? ⟨gl, 0 + t * 1, none⟩ = some (.slice Au m cu)) := fun W q => by rw [Nat.mul_one]; have k := q.ll; rw [← HN.out] at k; exact Lw.range k t _ hu
      have HCX : Hid (∀ W, Pbk w0 W B (.slice (some ⟨gl, 0, none⟩) n cl) (.slice (some ⟨gw, 0, none⟩) n cw) (.slice (some ⟨gl, 0, none⟩) n cl) (.slice (some ⟨gw, 0, none⟩) n cw) us ws ds ds → W.cell? ⟨gw, 0 + t * 1, none⟩ = some (.slice Ax m cx)) := fun W q => by rw [Nat.mul_one]; have k := q.lw; rw [← HN.out] at k; exact Lw.range k t _ hx
      have HSP : Hid (∀ W, Pbk w0 W B (.slice (some ⟨gl, 0, none⟩) n cl) (.slice (some ⟨gw, 0, none⟩) n cw) (.slice (some ⟨gl, 0, none⟩) n cl) (.slice (some ⟨gw, 0, none⟩) n cw) us ws ds ds → Calls Tryz.prog 20 #[.slice Au m cu, .slice Ax m cx] W fun e w' => e = .returned (.bool true) ∧ Below W.heap.size W w') := fun W q => by
        obtain ⟨u', p1, p2⟩ := q.eu t d hd
        rw [hu] at p1
        obtain rfl := Option.some.inj p1
        obtain ⟨x', r1, r2⟩ := q.ew t d hd
        rw [hx] at r1
        obtain rfl := Option.some.inj r1
        have h32 := HD32.out d (List.mem_of_getElem? hd)
        exact samePath_any d m hm.symm (by omega) Au Ax cu cx W (Pw.pat p2 h32) (Pw.pat r2 h32)
      have hBo := HBo.out
      have hb1 := HBo.out.be
      clear hd hu hbu hx hbx HBo hm
      go_wp2_with fail
      refine wp_named fun a0 ha0 => ?_
      have hsz : a0.tmps.size = 127 := by rw [ha0]; rfl
      have zs0 : a0.eval (.tmp 0) = .pointer (some ⟨B, 0, none⟩) := by rw [ha0]; rfl
      have zs3 : a0.eval (.tmp 3) = .int .i64 (t : Int) := by rw [ha0]; rfl
      obtain ⟨D, hD⟩ : ∃ D : List (Tmp × SP), D = [(20, SP.is (.pointer (some ⟨B, 0, none⟩))), (21, SP.is (.pointer (some ⟨B, 0, none⟩))), (22, SP.is (.pointer (some ⟨B, 2, none⟩))), (23, SP.is (.slice (some ⟨gl, 0, none⟩) n cl)), (24, SP.is (.int .i64 (t : Int))), (25, SP.is (.pointer (some ⟨gl, 0 + t * 1, none⟩))), (26, SP.is (.slice Au m cu)), (27, SP.is (.pointer (some ⟨B, 0, none⟩))), (28, SP.is (.pointer (some ⟨B, 0, none⟩))), (29, SP.is (.pointer (some ⟨B, 3, none⟩))), (30, SP.is (.slice (some ⟨gw, 0, none⟩) n cw)), (31, SP.is (.int .i64 (t : Int))), (32, SP.is (.pointer (some ⟨gw, 0 + t * 1, none⟩))), (33, SP.is (.slice Ax m cx)), (34, SP.is (.bool true)), (35, SP.is (.bool false))] := ⟨_, rfl⟩
      refine wp_region_down (by kernel_rfl) (fun listed ac W => listed.size = 16 ∧ Fp D a0 listed ac W ∧ Below w0.heap.size w0 W ∧ Pbk w0 W B (.slice (some ⟨gl, 0, none⟩) n cl) (.slice (some ⟨gw, 0, none⟩) n cw) (.slice (some ⟨gl, 0, none⟩) n cl) (.slice (some ⟨gw, 0, none⟩) n cw) us ws ds ds) ?_ ?_ ?_
      · exact ⟨by simp, Fp.start D a0 _ _, Below.drew hb1, hBo.below (Below.drew (Below.refl _ _))⟩
      · clear ha0 hb1 hBo 
        intro listed ac W k hI hdn hk
        obtain ⟨hl, hF, hb1, hBo⟩ := hI
        have hk1 : k < 16 := List.mem_range.1 (List.mem_filter.1 hk).1
        have hl2 : ∀ j, (listed.setIfInBounds j true).size = 16 := fun j => by rw [Array.size_setIfInBounds]; exact hl
        rcases (show k = 0 ∨ k = 1 ∨ k = 2 ∨ k = 3 ∨ k = 4 ∨ k = 5 ∨ k = 6 ∨ k = 7 ∨ k = 8 ∨ k = 9 ∨ k = 10 ∨ k = 11 ∨ k = 12 ∨ k = 13 ∨ k = 14 ∨ k = 15 by omega) with rfl | rfl | rfl | rfl | rfl | rfl | rfl | rfl | rfl | rfl | rfl | rfl | rfl | rfl | rfl | rfl
        · have hk3 := hk
          exact wpOp_plain rfl rfl (wp_move_v (ac.eval (.tmp 0)) rfl rfl ⟨hl2 0, (hF.put 0 20 (SP.is (.pointer (some ⟨B, 0, none⟩))) (ac.eval (.tmp 0)) (by rw [hD]; rfl) (((hF.keep 0 (by rw [hD]; rfl)).trans zs0)) (by rw [hD]; rfl) (by rw [hsz]; decide) (by rw [hl]; decide)), hb1, hBo⟩)
        · have hk3 := hk
          have e := (hF.done 0 (20, SP.is (.pointer (some ⟨B, 0, none⟩))) (by rw [hD]; rfl) (ready_dep hk 0 (by kernel_rfl)))
          exact wpOp_plain rfl rfl (wp_nilp rfl B e ⟨hl2 1, (hF.put 1 21 (SP.is (.pointer (some ⟨B, 0, none⟩))) (.pointer (some ⟨B, 0, none⟩)) (by rw [hD]; rfl) rfl (by rw [hD]; rfl) (by rw [hsz]; decide) (by rw [hl]; decide)), hb1, hBo⟩)
        · have hk3 := hk
          have e := (hF.done 1 (21, SP.is (.pointer (some ⟨B, 0, none⟩))) (by rw [hD]; rfl) (ready_dep hk 1 (by kernel_rfl)))
          exact wpOp_plain rfl rfl (wp_fp_2 rfl B e ⟨hl2 2, (hF.put 2 22 (SP.is (.pointer (some ⟨B, 2, none⟩))) (.pointer (some ⟨B, 2, none⟩)) (by rw [hD]; rfl) rfl (by rw [hD]; rfl) (by rw [hsz]; decide) (by rw [hl]; decide)), hb1, hBo⟩)
        · have hk3 := hk
          have e := (hF.done 2 (22, SP.is (.pointer (some ⟨B, 2, none⟩))) (by rw [hD]; rfl) (ready_dep hk 2 (by kernel_rfl)))
          exact wpOp_plain rfl rfl (wp_load_1 B (2) (.slice (some ⟨gl, 0, none⟩) n cl) rfl e (ld_dss W B (2) _ (hBo.row.cell 2 _ rfl)) ⟨hl2 3, (hF.put 3 23 (SP.is (.slice (some ⟨gl, 0, none⟩) n cl)) (.slice (some ⟨gl, 0, none⟩) n cl) (by rw [hD]; rfl) rfl (by rw [hD]; rfl) (by rw [hsz]; decide) (by rw [hl]; decide)), hb1, hBo⟩)
        · have hk3 := hk
          exact wpOp_plain rfl rfl (wp_move_v (ac.eval (.tmp 3)) rfl rfl ⟨hl2 4, (hF.put 4 24 (SP.is (.int .i64 (t : Int))) (ac.eval (.tmp 3)) (by rw [hD]; rfl) (((hF.keep 3 (by rw [hD]; rfl)).trans zs3)) (by rw [hD]; rfl) (by rw [hsz]; decide) (by rw [hl]; decide)), hb1, hBo⟩)
        · have hk3 := hk
          have ea := (hF.done 3 (23, SP.is (.slice (some ⟨gl, 0, none⟩) n cl)) (by rw [hD]; rfl) (ready_dep hk 3 (by kernel_rfl)))
          have eb := (hF.done 4 (24, SP.is (.int .i64 (t : Int))) (by rw [hD]; rfl) (ready_dep hk 4 (by kernel_rfl)))
          exact wpOp_plain rfl rfl (wp_index_s 28 64 rfl gl 0 n cl t 1 ea eb hlt Tryz.underlying28 info_sd1 ⟨hl2 5, (hF.put 5 25 (SP.is (.pointer (some ⟨gl, 0 + t * 1, none⟩))) (.pointer (some ⟨gl, 0 + t * 1, none⟩)) (by rw [hD]; rfl) rfl (by rw [hD]; rfl) (by rw [hsz]; decide) (by rw [hl]; decide)), hb1, hBo⟩)
        · have hk3 := hk
          have e := (hF.done 5 (25, SP.is (.pointer (some ⟨gl, 0 + t * 1, none⟩))) (by rw [hD]; rfl) (ready_dep hk 5 (by kernel_rfl)))
          exact wpOp_plain rfl rfl (wp_load_1 gl (0 + t * 1) (.slice Au m cu) rfl e (ld_ds W gl (0 + t * 1) _ (HCU.out W hBo)) ⟨hl2 6, (hF.put 6 26 (SP.is (.slice Au m cu)) (.slice Au m cu) (by rw [hD]; rfl) rfl (by rw [hD]; rfl) (by rw [hsz]; decide) (by rw [hl]; decide)), hb1, hBo⟩)
        · have hk3 := hk
          exact wpOp_plain rfl rfl (wp_move_v (ac.eval (.tmp 0)) rfl rfl ⟨hl2 7, (hF.put 7 27 (SP.is (.pointer (some ⟨B, 0, none⟩))) (ac.eval (.tmp 0)) (by rw [hD]; rfl) (((hF.keep 0 (by rw [hD]; rfl)).trans zs0)) (by rw [hD]; rfl) (by rw [hsz]; decide) (by rw [hl]; decide)), hb1, hBo⟩)
        · have hk3 := hk
          have e := (hF.done 7 (27, SP.is (.pointer (some ⟨B, 0, none⟩))) (by rw [hD]; rfl) (ready_dep hk 7 (by kernel_rfl)))
          exact wpOp_plain rfl rfl (wp_nilp rfl B e ⟨hl2 8, (hF.put 8 28 (SP.is (.pointer (some ⟨B, 0, none⟩))) (.pointer (some ⟨B, 0, none⟩)) (by rw [hD]; rfl) rfl (by rw [hD]; rfl) (by rw [hsz]; decide) (by rw [hl]; decide)), hb1, hBo⟩)
        · have hk3 := hk
          have e := (hF.done 8 (28, SP.is (.pointer (some ⟨B, 0, none⟩))) (by rw [hD]; rfl) (ready_dep hk 8 (by kernel_rfl)))
          exact wpOp_plain rfl rfl (wp_fp_3 rfl B e ⟨hl2 9, (hF.put 9 29 (SP.is (.pointer (some ⟨B, 3, none⟩))) (.pointer (some ⟨B, 3, none⟩)) (by rw [hD]; rfl) rfl (by rw [hD]; rfl) (by rw [hsz]; decide) (by rw [hl]; decide)), hb1, hBo⟩)
        · have hk3 := hk
          have e := (hF.done 9 (29, SP.is (.pointer (some ⟨B, 3, none⟩))) (by rw [hD]; rfl) (ready_dep hk 9 (by kernel_rfl)))
          exact wpOp_plain rfl rfl (wp_load_1 B (3) (.slice (some ⟨gw, 0, none⟩) n cw) rfl e (ld_dss W B (3) _ (hBo.row.cell 3 _ rfl)) ⟨hl2 10, (hF.put 10 30 (SP.is (.slice (some ⟨gw, 0, none⟩) n cw)) (.slice (some ⟨gw, 0, none⟩) n cw) (by rw [hD]; rfl) rfl (by rw [hD]; rfl) (by rw [hsz]; decide) (by rw [hl]; decide)), hb1, hBo⟩)
        · have hk3 := hk
          exact wpOp_plain rfl rfl (wp_move_v (ac.eval (.tmp 3)) rfl rfl ⟨hl2 11, (hF.put 11 31 (SP.is (.int .i64 (t : Int))) (ac.eval (.tmp 3)) (by rw [hD]; rfl) (((hF.keep 3 (by rw [hD]; rfl)).trans zs3)) (by rw [hD]; rfl) (by rw [hsz]; decide) (by rw [hl]; decide)), hb1, hBo⟩)
        · have hk3 := hk
          have ea := (hF.done 10 (30, SP.is (.slice (some ⟨gw, 0, none⟩) n cw)) (by rw [hD]; rfl) (ready_dep hk 10 (by kernel_rfl)))
          have eb := (hF.done 11 (31, SP.is (.int .i64 (t : Int))) (by rw [hD]; rfl) (ready_dep hk 11 (by kernel_rfl)))
          exact wpOp_plain rfl rfl (wp_index_s 28 64 rfl gw 0 n cw t 1 ea eb hlt Tryz.underlying28 info_sd1 ⟨hl2 12, (hF.put 12 32 (SP.is (.pointer (some ⟨gw, 0 + t * 1, none⟩))) (.pointer (some ⟨gw, 0 + t * 1, none⟩)) (by rw [hD]; rfl) rfl (by rw [hD]; rfl) (by rw [hsz]; decide) (by rw [hl]; decide)), hb1, hBo⟩)
        · have hk3 := hk
          have e := (hF.done 12 (32, SP.is (.pointer (some ⟨gw, 0 + t * 1, none⟩))) (by rw [hD]; rfl) (ready_dep hk 12 (by kernel_rfl)))
          exact wpOp_plain rfl rfl (wp_load_1 gw (0 + t * 1) (.slice Ax m cx) rfl e (ld_ds W gw (0 + t * 1) _ (HCX.out W hBo)) ⟨hl2 13, (hF.put 13 33 (SP.is (.slice Ax m cx)) (.slice Ax m cx) (by rw [hD]; rfl) rfl (by rw [hD]; rfl) (by rw [hsz]; decide) (by rw [hl]; decide)), hb1, hBo⟩)
        · have hk3 := hk
          have ea := (hF.done 6 (26, SP.is (.slice Au m cu)) (by rw [hD]; rfl) (ready_dep hk 6 (by kernel_rfl)))
          have eb := (hF.done 13 (33, SP.is (.slice Ax m cx)) (by rw [hD]; rfl) (ready_dep hk 13 (by kernel_rfl)))
          refine wpOp_plain rfl rfl (wp_fcall_v 20 #[.slice Au m cu, .slice Ax m cx] rfl rfl (by show [ac.eval (.tmp 26), ac.eval (.tmp 33)] = _; rw [show ac.eval (.tmp 26) = _ from ea, show ac.eval (.tmp 33) = _ from eb]) (by go_simp) ((HSP.out W hBo).mono ?_))
          rintro e W2 ⟨rfl, hB⟩
          exact ⟨_, rfl, hl2 14, ((hF.world hB).put 14 34 (SP.is (.bool true)) (.bool true) (by rw [hD]; rfl) rfl (by rw [hD]; rfl) (by rw [hsz]; decide) (by rw [hl]; decide)), hb1.trans (hB.mono hb1.size), hBo.below hB⟩
        · have hk3 := hk
          have e := (hF.done 14 (34, SP.is (.bool true)) (by rw [hD]; rfl) (ready_dep hk 14 (by kernel_rfl)))
          exact wpOp_plain rfl rfl (wp_notP rfl e ⟨hl2 15, (hF.put 15 35 (SP.is (.bool false)) (.bool false) (by rw [hD]; rfl) rfl (by rw [hD]; rfl) (by rw [hsz]; decide) (by rw [hl]; decide)), hb1, hBo⟩)
      · clear hb1 hBo 
        intro listed ac W hI hr
        obtain ⟨hl, hF, hb1, hBo⟩ := hI
        have hall := all_listed (by kernel_rfl) hl hr
        have h20 : ac.eval (.tmp 20) = .pointer (some ⟨B, 0, none⟩) := hF.done 0 (20, SP.is (.pointer (some ⟨B, 0, none⟩))) (by rw [hD]; rfl) (hall 0 (by decide))
        have h21 : ac.eval (.tmp 21) = .pointer (some ⟨B, 0, none⟩) := hF.done 1 (21, SP.is (.pointer (some ⟨B, 0, none⟩))) (by rw [hD]; rfl) (hall 1 (by decide))
        have h22 : ac.eval (.tmp 22) = .pointer (some ⟨B, 2, none⟩) := hF.done 2 (22, SP.is (.pointer (some ⟨B, 2, none⟩))) (by rw [hD]; rfl) (hall 2 (by decide))
        have h23 : ac.eval (.tmp 23) = .slice (some ⟨gl, 0, none⟩) n cl := hF.done 3 (23, SP.is (.slice (some ⟨gl, 0, none⟩) n cl)) (by rw [hD]; rfl) (hall 3 (by decide))
        have h24 : ac.eval (.tmp 24) = .int .i64 (t : Int) := hF.done 4 (24, SP.is (.int .i64 (t : Int))) (by rw [hD]; rfl) (hall 4 (by decide))
        have h25 : ac.eval (.tmp 25) = .pointer (some ⟨gl, 0 + t * 1, none⟩) := hF.done 5 (25, SP.is (.pointer (some ⟨gl, 0 + t * 1, none⟩))) (by rw [hD]; rfl) (hall 5 (by decide))
        have h26 : ac.eval (.tmp 26) = .slice Au m cu := hF.done 6 (26, SP.is (.slice Au m cu)) (by rw [hD]; rfl) (hall 6 (by decide))
        have h27 : ac.eval (.tmp 27) = .pointer (some ⟨B, 0, none⟩) := hF.done 7 (27, SP.is (.pointer (some ⟨B, 0, none⟩))) (by rw [hD]; rfl) (hall 7 (by decide))
        have h28 : ac.eval (.tmp 28) = .pointer (some ⟨B, 0, none⟩) := hF.done 8 (28, SP.is (.pointer (some ⟨B, 0, none⟩))) (by rw [hD]; rfl) (hall 8 (by decide))
        have h29 : ac.eval (.tmp 29) = .pointer (some ⟨B, 3, none⟩) := hF.done 9 (29, SP.is (.pointer (some ⟨B, 3, none⟩))) (by rw [hD]; rfl) (hall 9 (by decide))
        have h30 : ac.eval (.tmp 30) = .slice (some ⟨gw, 0, none⟩) n cw := hF.done 10 (30, SP.is (.slice (some ⟨gw, 0, none⟩) n cw)) (by rw [hD]; rfl) (hall 10 (by decide))
        have h31 : ac.eval (.tmp 31) = .int .i64 (t : Int) := hF.done 11 (31, SP.is (.int .i64 (t : Int))) (by rw [hD]; rfl) (hall 11 (by decide))
        have h32 : ac.eval (.tmp 32) = .pointer (some ⟨gw, 0 + t * 1, none⟩) := hF.done 12 (32, SP.is (.pointer (some ⟨gw, 0 + t * 1, none⟩))) (by rw [hD]; rfl) (hall 12 (by decide))
        have h33 : ac.eval (.tmp 33) = .slice Ax m cx := hF.done 13 (33, SP.is (.slice Ax m cx)) (by rw [hD]; rfl) (hall 13 (by decide))
        have h34 : ac.eval (.tmp 34) = .bool true := hF.done 14 (34, SP.is (.bool true)) (by rw [hD]; rfl) (hall 14 (by decide))
        have h35 : ac.eval (.tmp 35) = .bool false := hF.done 15 (35, SP.is (.bool false)) (by rw [hD]; rfl) (hall 15 (by decide))
        have ea := hF.lay [(20, .pointer (some ⟨B, 0, none⟩)), (21, .pointer (some ⟨B, 0, none⟩)), (22, .pointer (some ⟨B, 2, none⟩)), (23, .slice (some ⟨gl, 0, none⟩) n cl), (24, .int .i64 (t : Int)), (25, .pointer (some ⟨gl, 0 + t * 1, none⟩)), (26, .slice Au m cu), (27, .pointer (some ⟨B, 0, none⟩)), (28, .pointer (some ⟨B, 0, none⟩)), (29, .pointer (some ⟨B, 3, none⟩)), (30, .slice (some ⟨gw, 0, none⟩) n cw), (31, .int .i64 (t : Int)), (32, .pointer (some ⟨gw, 0 + t * 1, none⟩)), (33, .slice Ax m cx), (34, .bool true), (35, .bool false)] (by rw [hD, hsz]; rfl) (by simp only [List.forall_mem_cons, List.not_mem_nil, false_implies, implies_true, and_true]; exact ⟨h20, h21, h22, h23, h24, h25, h26, h27, h28, h29, h30, h31, h32, h33, h34, h35⟩)
        rw [ha0] at ea
        simp only [List.foldl_cons, List.foldl_nil, List.setIfInBounds_toArray, List.set_cons_zero, List.set_cons_succ] at ea
        clear hF hall hr hl hD  zs0 zs3 ha0 hsz h20 h21 h22 h23 h24 h25 h26 h27 h28 h29 h30 h31 h32 h33 h34 h35
        subst ea
        have HBo : Hid (Pbk w0 W B (.slice (some ⟨gl, 0, none⟩) n cl) (.slice (some ⟨gw, 0, none⟩) n cw) (.slice (some ⟨gl, 0, none⟩) n cl) (.slice (some ⟨gw, 0, none⟩) n cw) us ws ds ds) := hBo
        clear hBo hb1
        go_wp2_with fail
        refine ⟨⟨t + 1, hlt, by go_num, HBo⟩, by simp [intOf]; omega⟩
    · obtain rfl : t = n := by omega
      clear hlt ht
      obtain ⟨rw, hrw⟩ : ∃ rw : Value, rw = (.slice Aw t cw) := ⟨_, rfl⟩
      have HBM0 : Hid (Pm w0 wr B rw (.slice Al t cl) us ds) := by rw [hrw]; exact HBo.out.pm
      clear HBo hrw c0
      have c0 : wr.cell? ⟨B, 2, none⟩ = some (.slice Al t cl) := HBM0.out.row.cell 2 _ rfl
      obtain ⟨n, hn⟩ : ∃ n, n = t := ⟨_, rfl⟩
      subst hn
      go_upto_region 7 with fail
      clear c0
      go_loopw [4, 5] (fun k _ wr => ∃ (t : Nat) (es : List (List (List (BitVec 8)))), t ≤ n ∧ k = .int .i64 (t : Int) ∧ Hid (Pm w0 wr B rw (.slice Al n cl) us es) ∧ Hid (PMk ds es t)) (fun k _ _ => n - (intOf k).toNat)
      case atStart => exact ⟨0, ds, Nat.zero_le _, rfl, HBM0, PMk.start ds HD32.out⟩
      case round =>
        obtain ⟨t, es, ht, rfl, HBt, HMt⟩ := hrel
        clear HBM0
        have c0 : wr.cell? ⟨B, 2, none⟩ = some (.slice Al n cl) := HBt.out.row.cell 2 _ rfl
        by_cases hlt : t < n
        · obtain ⟨d, hd⟩ : ∃ d, ds[t]? = some d := ⟨_, List.getElem?_eq_getElem (by rw [← HN.out]; exact hlt)⟩
          obtain ⟨u, hu⟩ : ∃ u, us[t]? = some u := ⟨_, List.getElem?_eq_getElem (by have := Lw.len HBt.out.ll; rw [HMt.out.len, ← HN.out] at this; omega)⟩
          obtain ⟨m, hm⟩ : ∃ m, m = d.length := ⟨_, rfl⟩
          have hmb : m ≤ 1000000 := by rw [hm]; exact HDL.out d (List.mem_of_getElem? hd)
          have HUT : Hid (us[t]? = some u) := hu
          have HDT : Hid (ds[t]? = some d) := hd
          have HMD : Hid (m = d.length) := hm
          obtain ⟨gl, cl', e1, _⟩ := Lw.open (by have q := HBt.out.ll; rwa [HMt.out.len, ← HN.out] at q) (by omega)
          simp only [Value.slice.injEq] at e1
          obtain ⟨rfl, _, rfl⟩ := e1
          obtain ⟨Au, cu, hform⟩ : ∃ Au cu, u = .slice Au m cu := by
            obtain ⟨e, he⟩ : ∃ e, es[t]? = some e := ⟨_, List.getElem?_eq_getElem (by rw [HMt.out.len, ← HN.out]; exact hlt)⟩
            obtain ⟨Au, cu, q, _, _⟩ := Pw.form (HBt.out.get t e u he hu)
            exact ⟨Au, cu, by rw [q, (HMt.out.each t d e hd he).1, ← hm]⟩
          subst hform
          have htb : t ≤ 1000000 := by omega
          clear hd hu hm
          go_upto_region 10 with fail
          clear c0
          obtain ⟨M, hM⟩ : ∃ M, M = mk4 t := ⟨_, rfl⟩
          have HMM : Hid (M = mk4 t) := hM
          have HM32 : Hid (M.length = 32) := by rw [hM]; exact mk4_len t
          have HMK : Hid (∀ X, Calls Tryz.prog 50 #[.int .i64 (t : Int)] X fun e w' => e = .returned (.agg (vB M).toArray) ∧ Below X.heap.size X w') := fun X => by rw [hM]; exact mark_any t (by omega) X
          clear hM
          go_loopw [5] (fun k wr => ∃ (j : Nat) (es : List (List (List (BitVec 8)))), j ≤ m ∧ k = .int .i64 (j : Int) ∧ Hid (Pm w0 wr B rw (.slice (some ⟨gl, 0, none⟩) n cl) us es) ∧ Hid (PMk ds es t) ∧ Hid (∀ e, es[t]? = some e → ∀ q, q < j → e.getD q [] = M)) (fun k _ => m - (intOf k).toNat)
          case atStart => exact ⟨0, es, Nat.zero_le _, rfl, HBt, HMt, fun e _ q hq => by omega⟩
          case round =>
            obtain ⟨j, es, hj, rfl, HBj, HMj, HQj⟩ := hrel
            clear HBt HMt
            obtain ⟨e, he⟩ : ∃ e, es[t]? = some e := ⟨_, List.getElem?_eq_getElem (by rw [HMj.out.len, ← HN.out]; exact hlt)⟩
            have HET : Hid (es[t]? = some e) := he
            have HEL : Hid (e.length = m) := by show _ = _; rw [(HMj.out.each t d e HDT.out he).1, HMD.out]
            have HE32 : Hid (∀ x ∈ e, x.length = 32) := HMj.out.p32 e (List.mem_of_getElem? he)
            have c0 : wr.cell? ⟨B, 2, none⟩ = some (.slice (some ⟨gl, 0, none⟩) n cl) := HBj.out.row.cell 2 _ rfl
            have c1 : wr.cell? ⟨gl, t, none⟩ = some (.slice Au m cu) := by
              have k := HBj.out.ll
              rw [HMj.out.len, ← HN.out] at k
              have := Lw.range k t _ HUT.out
              rwa [Nat.zero_add] at this
            clear he
            by_cases hjm : j < m
            · obtain ⟨gu, hgu⟩ : ∃ gu, Au = some ⟨gu, 0, none⟩ := by
                rcases (HBj.out.get t e _ HET.out HUT.out).2 with ⟨q, _⟩ | ⟨g', c', cur, q, _⟩
                · simp only [Value.slice.injEq] at q; omega
                · simp only [Value.slice.injEq] at q; exact ⟨g', q.1⟩
              subst hgu
              have HCU : Hid (∀ W, Pm w0 W B rw (.slice (some ⟨gl, 0, none⟩) n cl) us es → W.cell? ⟨gl, 0 + t * 1, none⟩ = some (.slice (some ⟨gu, 0, none⟩) m cu)) := fun W q => by rw [Nat.mul_one]; have k := q.ll; rw [HMj.out.len, ← HN.out] at k; exact Lw.range k t _ HUT.out
              have hBo := HBj.out
              have hb1 := HBj.out.be
              have hjb : j ≤ 1000000 := by omega
              clear HBj
              go_wp2_with fail
              clear c0 c1
              refine wp_named fun a0 ha0 => ?_
              have hsz : a0.tmps.size = 127 := by rw [ha0]; rfl
              have zs0 : a0.eval (.tmp 0) = .pointer (some ⟨B, 0, none⟩) := by rw [ha0]; rfl
              have zs4 : a0.eval (.tmp 4) = .int .i64 (t : Int) := by rw [ha0]; rfl
              have zs5 : a0.eval (.tmp 5) = .int .i64 (j : Int) := by rw [ha0]; rfl
              obtain ⟨D, hD⟩ : ∃ D : List (Tmp × SP), D = [(57, SP.is (.pointer (some ⟨B, 0, none⟩))), (58, SP.is (.pointer (some ⟨B, 0, none⟩))), (59, SP.is (.pointer (some ⟨B, 2, none⟩))), (60, SP.is (.slice (some ⟨gl, 0, none⟩) n cl)), (61, SP.is (.int .i64 (t : Int))), (62, SP.is (.pointer (some ⟨gl, 0 + t * 1, none⟩))), (63, SP.is (.slice (some ⟨gu, 0, none⟩) m cu)), (64, SP.is (.int .i64 (j : Int))), (65, SP.is (.int .i64 (t : Int))), (66, SP.is (.agg (vB M).toArray)), (67, SP.is (.pointer (some ⟨gu, 0 + j * 32, none⟩))), (1000, SP.any)] := ⟨_, rfl⟩
              refine wp_region_then (by kernel_rfl) 11 (by decide) (by kernel_rfl) (fun listed ac W => Fp D a0 listed ac W ∧ Below w0.heap.size w0 W ∧ Pm w0 W B rw (.slice (some ⟨gl, 0, none⟩) n cl) us es) (fun listed ac W => Fp D a0 listed ac W ∧ Pm w0 W B rw (.slice (some ⟨gl, 0, none⟩) n cl) us (es.set t (e.set j M))) ?_ ?_ ?_ ?_ ?_
              · exact ⟨Fp.start D a0 _ _, Below.drew hb1, hBo.below (Below.drew (Below.refl _ _))⟩
              · clear ha0 hb1 hBo
                intro listed ac W k hl hI hdn hk hne hnl
                replace hl : listed.size = 12 := hl
                obtain ⟨hF, hb1, hBo⟩ := hI
                have hk1 : k < 12 := List.mem_range.1 (List.mem_filter.1 hk).1
                rcases (show k = 0 ∨ k = 1 ∨ k = 2 ∨ k = 3 ∨ k = 4 ∨ k = 5 ∨ k = 6 ∨ k = 7 ∨ k = 8 ∨ k = 9 ∨ k = 10 ∨ k = 11 by omega) with rfl | rfl | rfl | rfl | rfl | rfl | rfl | rfl | rfl | rfl | rfl | rfl
                · have hk3 := hk
                  exact wpOp_plain rfl rfl (wp_move_v (ac.eval (.tmp 0)) rfl rfl ⟨(hF.put 0 57 (SP.is (.pointer (some ⟨B, 0, none⟩))) (ac.eval (.tmp 0)) (by rw [hD]; rfl) (((hF.keep 0 (by rw [hD]; rfl)).trans zs0)) (by rw [hD]; rfl) (by rw [hsz]; decide) (by rw [hl]; decide)), hb1, hBo⟩)
                · have hk3 := hk
                  have e := (hF.done 0 (57, SP.is (.pointer (some ⟨B, 0, none⟩))) (by rw [hD]; rfl) (ready_dep hk 0 (by kernel_rfl)))
                  exact wpOp_plain rfl rfl (wp_nilp rfl B e ⟨(hF.put 1 58 (SP.is (.pointer (some ⟨B, 0, none⟩))) (.pointer (some ⟨B, 0, none⟩)) (by rw [hD]; rfl) rfl (by rw [hD]; rfl) (by rw [hsz]; decide) (by rw [hl]; decide)), hb1, hBo⟩)
                · have hk3 := hk
                  have e := (hF.done 1 (58, SP.is (.pointer (some ⟨B, 0, none⟩))) (by rw [hD]; rfl) (ready_dep hk 1 (by kernel_rfl)))
                  exact wpOp_plain rfl rfl (wp_fp_2 rfl B e ⟨(hF.put 2 59 (SP.is (.pointer (some ⟨B, 2, none⟩))) (.pointer (some ⟨B, 2, none⟩)) (by rw [hD]; rfl) rfl (by rw [hD]; rfl) (by rw [hsz]; decide) (by rw [hl]; decide)), hb1, hBo⟩)
                · have hk3 := hk
                  have e := (hF.done 2 (59, SP.is (.pointer (some ⟨B, 2, none⟩))) (by rw [hD]; rfl) (ready_dep hk 2 (by kernel_rfl)))
                  exact wpOp_plain rfl rfl (wp_load_1 B (2) (.slice (some ⟨gl, 0, none⟩) n cl) rfl e (ld_dss W B (2) _ (hBo.row.cell 2 _ rfl)) ⟨(hF.put 3 60 (SP.is (.slice (some ⟨gl, 0, none⟩) n cl)) (.slice (some ⟨gl, 0, none⟩) n cl) (by rw [hD]; rfl) rfl (by rw [hD]; rfl) (by rw [hsz]; decide) (by rw [hl]; decide)), hb1, hBo⟩)
                · have hk3 := hk
                  exact wpOp_plain rfl rfl (wp_move_v (ac.eval (.tmp 4)) rfl rfl ⟨(hF.put 4 61 (SP.is (.int .i64 (t : Int))) (ac.eval (.tmp 4)) (by rw [hD]; rfl) (((hF.keep 4 (by rw [hD]; rfl)).trans zs4)) (by rw [hD]; rfl) (by rw [hsz]; decide) (by rw [hl]; decide)), hb1, hBo⟩)
                · have hk3 := hk
                  have ea := (hF.done 3 (60, SP.is (.slice (some ⟨gl, 0, none⟩) n cl)) (by rw [hD]; rfl) (ready_dep hk 3 (by kernel_rfl)))
                  have eb := (hF.done 4 (61, SP.is (.int .i64 (t : Int))) (by rw [hD]; rfl) (ready_dep hk 4 (by kernel_rfl)))
                  exact wpOp_plain rfl rfl (wp_index_s 28 64 rfl gl 0 n cl t 1 ea eb hlt Tryz.underlying28 info_sd1 ⟨(hF.put 5 62 (SP.is (.pointer (some ⟨gl, 0 + t * 1, none⟩))) (.pointer (some ⟨gl, 0 + t * 1, none⟩)) (by rw [hD]; rfl) rfl (by rw [hD]; rfl) (by rw [hsz]; decide) (by rw [hl]; decide)), hb1, hBo⟩)
                · have hk3 := hk
                  have e := (hF.done 5 (62, SP.is (.pointer (some ⟨gl, 0 + t * 1, none⟩))) (by rw [hD]; rfl) (ready_dep hk 5 (by kernel_rfl)))
                  exact wpOp_plain rfl rfl (wp_load_1 gl (0 + t * 1) (.slice (some ⟨gu, 0, none⟩) m cu) rfl e (ld_ds W gl (0 + t * 1) _ (HCU.out W hBo)) ⟨(hF.put 6 63 (SP.is (.slice (some ⟨gu, 0, none⟩) m cu)) (.slice (some ⟨gu, 0, none⟩) m cu) (by rw [hD]; rfl) rfl (by rw [hD]; rfl) (by rw [hsz]; decide) (by rw [hl]; decide)), hb1, hBo⟩)
                · have hk3 := hk
                  exact wpOp_plain rfl rfl (wp_move_v (ac.eval (.tmp 5)) rfl rfl ⟨(hF.put 7 64 (SP.is (.int .i64 (j : Int))) (ac.eval (.tmp 5)) (by rw [hD]; rfl) (((hF.keep 5 (by rw [hD]; rfl)).trans zs5)) (by rw [hD]; rfl) (by rw [hsz]; decide) (by rw [hl]; decide)), hb1, hBo⟩)
                · have hk3 := hk
                  exact wpOp_plain rfl rfl (wp_move_v (ac.eval (.tmp 4)) rfl rfl ⟨(hF.put 8 65 (SP.is (.int .i64 (t : Int))) (ac.eval (.tmp 4)) (by rw [hD]; rfl) (((hF.keep 4 (by rw [hD]; rfl)).trans zs4)) (by rw [hD]; rfl) (by rw [hsz]; decide) (by rw [hl]; decide)), hb1, hBo⟩)
                · have hk3 := hk
                  have ea := (hF.done 8 (65, SP.is (.int .i64 (t : Int))) (by rw [hD]; rfl) (ready_dep hk 8 (by kernel_rfl)))
                  refine wpOp_plain rfl rfl (wp_fcall_v 50 #[.int .i64 (t : Int)] rfl rfl (by show [ac.eval (.tmp 65)] = _; rw [show ac.eval (.tmp 65) = _ from ea]) (by go_simp) ((HMK.out W).mono ?_))
                  rintro e W2 ⟨rfl, hB⟩
                  exact ⟨_, rfl, ((hF.world hB).put 9 66 (SP.is (.agg (vB M).toArray)) (.agg (vB M).toArray) (by rw [hD]; rfl) rfl (by rw [hD]; rfl) (by rw [hsz]; decide) (by rw [hl]; decide)), hb1.trans (hB.mono hb1.size), hBo.below hB⟩
                · have hk3 := hk
                  have ea := (hF.done 6 (63, SP.is (.slice (some ⟨gu, 0, none⟩) m cu)) (by rw [hD]; rfl) (ready_dep hk 6 (by kernel_rfl)))
                  have eb := (hF.done 7 (64, SP.is (.int .i64 (j : Int))) (by rw [hD]; rfl) (ready_dep hk 7 (by kernel_rfl)))
                  exact wpOp_plain rfl rfl (wp_index_s 64 44 rfl gu 0 m cu j 32 ea eb hjm Tryz.underlying64 info_dig ⟨(hF.put 10 67 (SP.is (.pointer (some ⟨gu, 0 + j * 32, none⟩))) (.pointer (some ⟨gu, 0 + j * 32, none⟩)) (by rw [hD]; rfl) rfl (by rw [hD]; rfl) (by rw [hsz]; decide) (by rw [hl]; decide)), hb1, hBo⟩)
                · exact absurd rfl hne
              · clear ha0 hb1 hBo
                intro listed ac W hl hI hdn hk
                replace hl : listed.size = 12 := hl
                obtain ⟨hF, hb1, hBo⟩ := hI
                have e67 := (hF.done 10 (67, SP.is (.pointer (some ⟨gu, 0 + j * 32, none⟩))) (by rw [hD]; rfl) (ready_dep hk 10 (by kernel_rfl)))
                have e66 := (hF.done 9 (66, SP.is (.agg (vB M).toArray)) (by rw [hD]; rfl) (ready_dep hk 9 (by kernel_rfl)))
                obtain ⟨cur, rr, rl1, rl2, _, _, _⟩ := pw_row2 (hBo.get t e _ HET.out HUT.out)
                refine wpOp_plain rfl rfl (wp_setD (.tmp 67) (.tmp 66) rfl gu (0 + j * 32) M HM32.out cur 44 e67 e66 rr (by omega) ?_)
                intro W2 p1
                have hz : (0 + j * 32) = j * 32 := by omega
                rw [hz] at p1
                have hT : Fp D a0 listed ac W2 := hF.turn (by rw [hD]; simp only [List.forall_mem_cons, List.not_mem_nil, false_implies, implies_true, and_true]; exact ⟨fun _ h => h, fun _ h => h, fun _ h => h, fun _ h => h, fun _ h => h, fun _ h => h, fun _ h => h, fun _ h => h, fun _ h => h, fun _ h => h, fun _ h => h, fun _ h => h⟩)
                exact ⟨(hT.skip 11 1000 (by rw [hD]; rfl) (by rw [hl]; decide)), (by rw [p1]; exact hBo.mark t e gu m cu HET.out HUT.out j hjm M HM32.out HE32.out)⟩
              · clear ha0 hb1 hBo
                intro listed ac W k hl hJ hdn hk hne hyl
                replace hl : listed.size = 12 := hl
                obtain ⟨hF, hJ⟩ := hJ
                have hk1 : k < 12 := List.mem_range.1 (List.mem_filter.1 hk).1
                rcases (show k = 0 ∨ k = 1 ∨ k = 2 ∨ k = 3 ∨ k = 4 ∨ k = 5 ∨ k = 6 ∨ k = 7 ∨ k = 8 ∨ k = 9 ∨ k = 10 ∨ k = 11 by omega) with rfl | rfl | rfl | rfl | rfl | rfl | rfl | rfl | rfl | rfl | rfl | rfl
                · exact absurd (hdn 1 (hdn 2 (hdn 3 (hdn 5 (hdn 6 (hdn 10 (hdn 11 hyl 10 (by kernel_rfl)) 6 (by kernel_rfl)) 5 (by kernel_rfl)) 3 (by kernel_rfl)) 2 (by kernel_rfl)) 1 (by kernel_rfl)) 0 (by kernel_rfl)) (not_yet hk)
                · exact absurd (hdn 2 (hdn 3 (hdn 5 (hdn 6 (hdn 10 (hdn 11 hyl 10 (by kernel_rfl)) 6 (by kernel_rfl)) 5 (by kernel_rfl)) 3 (by kernel_rfl)) 2 (by kernel_rfl)) 1 (by kernel_rfl)) (not_yet hk)
                · exact absurd (hdn 3 (hdn 5 (hdn 6 (hdn 10 (hdn 11 hyl 10 (by kernel_rfl)) 6 (by kernel_rfl)) 5 (by kernel_rfl)) 3 (by kernel_rfl)) 2 (by kernel_rfl)) (not_yet hk)
                · exact absurd (hdn 5 (hdn 6 (hdn 10 (hdn 11 hyl 10 (by kernel_rfl)) 6 (by kernel_rfl)) 5 (by kernel_rfl)) 3 (by kernel_rfl)) (not_yet hk)
                · exact absurd (hdn 5 (hdn 6 (hdn 10 (hdn 11 hyl 10 (by kernel_rfl)) 6 (by kernel_rfl)) 5 (by kernel_rfl)) 4 (by kernel_rfl)) (not_yet hk)
                · exact absurd (hdn 6 (hdn 10 (hdn 11 hyl 10 (by kernel_rfl)) 6 (by kernel_rfl)) 5 (by kernel_rfl)) (not_yet hk)
                · exact absurd (hdn 10 (hdn 11 hyl 10 (by kernel_rfl)) 6 (by kernel_rfl)) (not_yet hk)
                · exact absurd (hdn 10 (hdn 11 hyl 10 (by kernel_rfl)) 7 (by kernel_rfl)) (not_yet hk)
                · exact absurd (hdn 9 (hdn 11 hyl 9 (by kernel_rfl)) 8 (by kernel_rfl)) (not_yet hk)
                · exact absurd (hdn 11 hyl 9 (by kernel_rfl)) (not_yet hk)
                · exact absurd (hdn 11 hyl 10 (by kernel_rfl)) (not_yet hk)
                · exact absurd rfl hne
              · clear hb1 hBo
                intro listed ac W hl hJ hr
                replace hl : listed.size = 12 := hl
                obtain ⟨hF, hJ⟩ := hJ
                have hall := all_listed (by kernel_rfl) hl hr
                have h57 : ac.eval (.tmp 57) = .pointer (some ⟨B, 0, none⟩) := hF.done 0 (57, SP.is (.pointer (some ⟨B, 0, none⟩))) (by rw [hD]; rfl) (hall 0 (by decide))
                have h58 : ac.eval (.tmp 58) = .pointer (some ⟨B, 0, none⟩) := hF.done 1 (58, SP.is (.pointer (some ⟨B, 0, none⟩))) (by rw [hD]; rfl) (hall 1 (by decide))
                have h59 : ac.eval (.tmp 59) = .pointer (some ⟨B, 2, none⟩) := hF.done 2 (59, SP.is (.pointer (some ⟨B, 2, none⟩))) (by rw [hD]; rfl) (hall 2 (by decide))
                have h60 : ac.eval (.tmp 60) = .slice (some ⟨gl, 0, none⟩) n cl := hF.done 3 (60, SP.is (.slice (some ⟨gl, 0, none⟩) n cl)) (by rw [hD]; rfl) (hall 3 (by decide))
                have h61 : ac.eval (.tmp 61) = .int .i64 (t : Int) := hF.done 4 (61, SP.is (.int .i64 (t : Int))) (by rw [hD]; rfl) (hall 4 (by decide))
                have h62 : ac.eval (.tmp 62) = .pointer (some ⟨gl, 0 + t * 1, none⟩) := hF.done 5 (62, SP.is (.pointer (some ⟨gl, 0 + t * 1, none⟩))) (by rw [hD]; rfl) (hall 5 (by decide))
                have h63 : ac.eval (.tmp 63) = .slice (some ⟨gu, 0, none⟩) m cu := hF.done 6 (63, SP.is (.slice (some ⟨gu, 0, none⟩) m cu)) (by rw [hD]; rfl) (hall 6 (by decide))
                have h64 : ac.eval (.tmp 64) = .int .i64 (j : Int) := hF.done 7 (64, SP.is (.int .i64 (j : Int))) (by rw [hD]; rfl) (hall 7 (by decide))
                have h65 : ac.eval (.tmp 65) = .int .i64 (t : Int) := hF.done 8 (65, SP.is (.int .i64 (t : Int))) (by rw [hD]; rfl) (hall 8 (by decide))
                have h66 : ac.eval (.tmp 66) = .agg (vB M).toArray := hF.done 9 (66, SP.is (.agg (vB M).toArray)) (by rw [hD]; rfl) (hall 9 (by decide))
                have h67 : ac.eval (.tmp 67) = .pointer (some ⟨gu, 0 + j * 32, none⟩) := hF.done 10 (67, SP.is (.pointer (some ⟨gu, 0 + j * 32, none⟩))) (by rw [hD]; rfl) (hall 10 (by decide))
                have ea := hF.lay [(57, .pointer (some ⟨B, 0, none⟩)), (58, .pointer (some ⟨B, 0, none⟩)), (59, .pointer (some ⟨B, 2, none⟩)), (60, .slice (some ⟨gl, 0, none⟩) n cl), (61, .int .i64 (t : Int)), (62, .pointer (some ⟨gl, 0 + t * 1, none⟩)), (63, .slice (some ⟨gu, 0, none⟩) m cu), (64, .int .i64 (j : Int)), (65, .int .i64 (t : Int)), (66, .agg (vB M).toArray), (67, .pointer (some ⟨gu, 0 + j * 32, none⟩))] (by rw [hD, hsz]; rfl) (by simp only [List.forall_mem_cons, List.not_mem_nil, false_implies, implies_true, and_true]; exact ⟨h57, h58, h59, h60, h61, h62, h63, h64, h65, h66, h67⟩)
                rw [ha0] at ea
                simp only [List.foldl_cons, List.foldl_nil, List.setIfInBounds_toArray, List.set_cons_zero, List.set_cons_succ] at ea
                clear hF hall hr hl hD zs0 zs4 zs5 ha0 hsz h57 h58 h59 h60 h61 h62 h63 h64 h65 h66 h67
                subst ea
                have HBk : Hid (Pm w0 W B rw (.slice (some ⟨gl, 0, none⟩) n cl) us (es.set t (e.set j M))) := hJ
                have HMk : Hid (PMk ds (es.set t (e.set j M)) t) := HMj.out.set e HET.out j _ HM32.out
                have HQk : Hid (∀ e', (es.set t (e.set j M))[t]? = some e' → ∀ q, q < j + 1 → e'.getD q [] = M) := fun e' he' q hq => by
                  rw [List.getElem?_set_self (List.getElem?_eq_some_iff.1 HET.out).1] at he'
                  obtain rfl := Option.some.inj he'
                  by_cases hqj : q = j
                  · subst hqj
                    rw [List.getD_eq_getElem?_getD, List.getElem?_set_self (by rw [HEL.out]; exact hjm)]
                    rfl
                  · rw [List.getD_eq_getElem?_getD, List.getElem?_set_ne (fun h => hqj h.symm), ← List.getD_eq_getElem?_getD]
                    exact HQj.out e HET.out q (by omega)
                clear hJ HCU
                go_wp2_with fail
                refine ⟨⟨j + 1, _, hjm, by go_num, HBk, HMk, HQk⟩, by simp [intOf]; omega⟩
            · obtain rfl : j = m := by omega
              have HMk : Hid (PMk ds es (t + 1)) := HMj.out.next e HET.out (fun q hq => by rw [← HMM.out]; exact HQj.out e HET.out q (by rw [HEL.out] at hq; exact hq))
              go_wp2_with fail
              refine ⟨⟨t + 1, es, hlt, by go_num, HBj, HMk⟩, by simp [intOf]; omega⟩
        · obtain rfl : t = n := by omega
          obtain ⟨n, hn⟩ : ∃ n, n = t := ⟨_, rfl⟩
          subst hn
          have HELN : Hid (es.length = n) := by show _ = _; rw [HMt.out.len, ← HN.out]
          have HES : Hid (∀ (i : Nat) (e : List (List (BitVec 8))), es[i]? = some e → e = pms i e.length ∧ e.length ≤ 1000000) := fun i e he => by
            have hi := (List.getElem?_eq_some_iff.1 he).1
            rw [HELN.out] at hi
            obtain ⟨d, hd⟩ : ∃ d, ds[i]? = some d := ⟨_, List.getElem?_eq_getElem (by rw [← HN.out]; exact hi)⟩
            have q := HMt.out.each i d e hd he
            exact ⟨by rw [q.1]; exact q.2 hi, by rw [q.1]; exact HDL.out d (List.mem_of_getElem? hd)⟩
          obtain ⟨N0, hN0⟩ : ∃ N0, N0 = wr.heap.size := ⟨_, rfl⟩
          have HGs0 : Hid (PGs w0 N0 wr B rw (.slice Al n cl) us es (.slice none 0 0) 0 []) := ⟨HBt.out, Lw.nil _ _ _, (fun g e => by cases e), (fun i e hi _ => by omega), (fun i v hv => by simp at hv), (fun u hu g e => by
            obtain ⟨i, hi, hxi⟩ := List.mem_iff_getElem.1 hu
            have hil : i < es.length := by have := Lw.len HBt.out.ll; omega
            rw [hN0]
            exact Pw.lt (HBt.out.get i _ u (List.getElem?_eq_getElem hil) (by rw [List.getElem?_eq_getElem hi, hxi])) g e), (fun g e => by rw [hN0]; exact Lw.lt HBt.out.ll g e), by rw [hN0]; exact HBt.out.be.size, by rw [hN0]; exact Nat.le_refl _⟩
          clear hN0 HMt
          go_upto_region 15 with fail
          clear c0 HBt
          go_loopw [6, 7, 8, 9] (fun vg k _ _ wr => ∃ (t : Nat) (gs : List Value) (Ag : Option Addr) (cg : Nat), t ≤ n ∧ vg = .slice Ag t cg ∧ k = .int .i64 (t : Int) ∧ Hid (PGs w0 N0 wr B rw (.slice Al n cl) us es (.slice Ag t cg) t gs)) (fun _ k _ _ _ => n - (intOf k).toNat)
          case atStart => exact ⟨0, [], none, 0, Nat.zero_le _, rfl, rfl, HGs0⟩
          case round =>
            obtain ⟨t, gs, Ag, cg, ht, rfl, rfl, HGt⟩ := hrel
            clear HGs0
            have c0 : wr.cell? ⟨B, 2, none⟩ = some (.slice Al n cl) := HGt.out.bm.row.cell 2 _ rfl
            by_cases hlt : t < n
            · obtain ⟨e, he⟩ : ∃ e, es[t]? = some e := ⟨_, List.getElem?_eq_getElem (by rw [HELN.out]; exact hlt)⟩
              obtain ⟨u, hu, hbu⟩ := HGt.out.bm.eu t e he
              obtain ⟨m, hm⟩ : ∃ m, m = e.length := ⟨_, rfl⟩
              obtain ⟨hes, heb⟩ := HES.out t e he
              rw [← hm] at hes heb
              obtain ⟨Au, cu, hf, _, _⟩ := Pw.form hbu
              rw [← hm] at hf
              subst hf
              obtain ⟨gl, cl', e1, _⟩ := Lw.open (by have q := HGt.out.bm.ll; rwa [HELN.out] at q) (by omega)
              simp only [Value.slice.injEq] at e1
              obtain ⟨rfl, _, rfl⟩ := e1
              have c1 : wr.cell? ⟨gl, t, none⟩ = some (.slice Au m cu) := by
                have k := HGt.out.bm.ll
                rw [HELN.out] at k
                have := Lw.range k t _ hu
                rwa [Nat.zero_add] at this
              have HET : Hid (es[t]? = some e) := he
              have HEM : Hid (e = pms t m) := hes
              have HUT : Hid (us[t]? = some (.slice Au m cu)) := hu
              have HGv : Hid (PGv N0 wr us gs t m 0 (.slice Au m cu) (.slice Au m cu)) := ⟨by rw [Nat.add_zero, ← hes]; exact hbu, fun g q => .inr q, fun x hx g q q' => by
                obtain ⟨i, hi, hxi⟩ := List.mem_iff_getElem.1 hx
                have hgi : gs[i]? = some x := by rw [List.getElem?_eq_getElem hi, hxi]
                have hit : i < t := by have := Lw.len HGt.out.lg; omega
                rcases HGt.out.blk i x hgi g q with r | ⟨u', r1, r2⟩
                · have := HGt.out.ult _ (List.mem_of_getElem? hu) g q'
                  omega
                · exact HGt.out.bm.apart i t u' _ (by omega) r1 hu g r2 q'⟩
              have htb : t ≤ 1000000 := by omega
              obtain ⟨M, hM⟩ : ∃ M, M = mk4 t := ⟨_, rfl⟩
              have HM32 : Hid (M.length = 32) := by rw [hM]; exact mk4_len t
              have HY : Hid (∀ s, pms t (m + s) ++ [M] = pms t (m + s + 1)) := fun s => by rw [hM]; exact pms_snoc t (m + s)
              have HMK : Hid (∀ X, Calls Tryz.prog 50 #[.int .i64 (t : Int)] X fun e w' => e = .returned (.agg (vB M).toArray) ∧ Below X.heap.size X w') := fun X => by rw [hM]; exact mark_any t (by omega) X
              clear he hu hbu hm hes hM
              go_upto_region 19 with fail
              clear c0 c1
              go_loopw [8, 9] (fun v k wr => ∃ (s q : Nat) (Av : Option Addr) (cv : Nat), s ≤ 9 ∧ k = .int .i64 (s : Int) ∧ v = .slice Av q cv ∧ q ≤ 1000016 ∧ Hid (q = m + s) ∧ Hid (PGs w0 N0 wr B rw (.slice (some ⟨gl, 0, none⟩) n cl) us es (.slice Ag t cg) t gs) ∧ Hid (PGv N0 wr us gs t m s (.slice Au m cu) (.slice Av q cv))) (fun _ k _ => 9 - (intOf k).toNat)
              case atStart => exact ⟨0, m, Au, cu, by omega, rfl, rfl, by omega, rfl, HGt, HGv⟩
              case round =>
                obtain ⟨s, q, Av, cv, hs, rfl, rfl, hqb, HQ, HGw, HVw⟩ := hrel
                clear HGt HGv
                by_cases hs16 : s < 9
                · go_wp2_with (first
                    | (go_at_call 50; refine Calls.mono (HMK.out wr) ?_; rintro e0 X0 ⟨rfl, q2⟩; have G0 : Hid (PGs w0 N0 X0 B rw (.slice (some ⟨gl, 0, none⟩) n cl) us es (.slice Ag t cg) t gs) := HGw.out.below q2; have V0 : Hid (PGv N0 X0 us gs t m s (.slice Au m cu) (.slice Av q cv)) := HVw.out.below q2; clear q2)
                    | (refine wpList_build_d rfl (.tmp 90) rfl M HM32.out rfl ?_; obtain ⟨X1, hX1⟩ : ∃ X, X = X0.alloc (.cells (vB M).toArray 44) := ⟨_, rfl⟩; rw [← hX1]; have q2 : Below X0.heap.size X0 X1 := (by rw [hX1]; exact (Below.refl _ _).alloc (Nat.le_refl _) _); have R1 : Hid (Row X1 X0.heap.size (vB M) 44) := (by rw [hX1]; exact Row.new' rfl rfl); have G1 : Hid (PGs w0 N0 X1 B rw (.slice (some ⟨gl, 0, none⟩) n cl) us es (.slice Ag t cg) t gs) := G0.out.below q2; have V1 : Hid (PGv N0 X1 us gs t m s (.slice Au m cu) (.slice Av q cv)) := V0.out.below q2; clear q2 hX1; simp only [Act.put, List.setIfInBounds_toArray, List.set_cons_zero, List.set_cons_succ])
                    | (refine wpList_appDig rfl (.tmp 88) (.tmp 91) rfl (.slice Av q cv) (pms t (m + s)) M HM32.out rfl V1.out.bw X0.heap.size rfl R1.out (by rw [pms_len]; omega) ?_; intro v5 X5 p1 p2 p3 p4; rw [HY.out s] at p1; have pp := G1.out.grow V1.out e HET.out HEM.out HUT.out v5 p1 p2 p3 p4; obtain ⟨A5, c5, e5, _, _⟩ := Pw.form p1; rw [pms_len] at e5; have e6 : v5 = .slice A5 (q + 1) c5 := (by rw [e5, HQ.out]); subst e6; have G5 : Hid (PGs w0 N0 X5 B rw (.slice (some ⟨gl, 0, none⟩) n cl) us es (.slice Ag t cg) t gs) := pp.1; have V5 : Hid (PGv N0 X5 us gs t m (s + 1) (.slice Au m cu) (.slice A5 (q + 1) c5)) := pp.2; clear p1 p2 p3 p4 pp e5; simp only [Act.put, List.setIfInBounds_toArray, List.set_cons_zero, List.set_cons_succ]))
                  refine ⟨⟨s + 1, q + 1, A5, c5, hs16, by go_num, rfl, by have := HQ.out; omega, (by show _ = _; have := HQ.out; omega), G5, V5⟩, by simp [intOf]; omega⟩
                · obtain rfl : s = 9 := by omega
                  go_wp2_with (first
                    | (refine wpList_buildOne 28 64 Tryz.underlying28 info_sd4 rfl (.tmp 94) rfl (.slice Av q cv) rfl rfl ?_; intro X1 q1 q2 q3; have R1 : Hid (Row X1 wr.heap.size [.slice Av q cv] 64) := q1; have G1 : Hid (PGs w0 N0 X1 B rw (.slice (some ⟨gl, 0, none⟩) n cl) us es (.slice Ag t cg) t gs) := HGw.out.below q2; have V1 : Hid (PGv N0 X1 us gs t m 9 (.slice Au m cu) (.slice Av q cv)) := HVw.out.below q2; clear q1 q2 q3; simp only [Act.put, List.setIfInBounds_toArray, List.set_cons_zero, List.set_cons_succ])
                    | (refine wpList_appL 28 64 1 24 Tryz.underlying28 info_sd (by decide) (by decide) rfl (.tmp 93) (.tmp 95) rfl (.slice Ag t cg) t gs [.slice Av q cv] rfl G1.out.lg wr.heap.size rfl rfl R1.out.all (fun u hu => by obtain rfl := List.mem_singleton.1 hu; rfl) htb ?_; intro v5 X5 p1 p2 p3; obtain ⟨A5, c5, e5, _, _⟩ := Lw.form p1; subst e5; have G5 : Hid (PGs w0 N0 X5 B rw (.slice (some ⟨gl, 0, none⟩) n cl) us es (.slice A5 (t + 1) c5) (t + 1) (gs ++ [.slice Av q cv])) := G1.out.more V1.out e HET.out HEM.out HUT.out _ p1 p2 p3; clear p1 p2 p3; simp only [Act.put, List.setIfInBounds_toArray, List.set_cons_zero, List.set_cons_succ]))
                  refine ⟨⟨t + 1, _, A5, c5, hlt, rfl, by go_num, G5⟩, by simp [intOf]; omega⟩
            · obtain rfl : t = n := by omega
              obtain ⟨n, hn⟩ : ∃ n, n = t := ⟨_, rfl⟩
              subst hn
              go_upto_region 24 with fail
              clear c0
              go_loopw [10] (fun k wr => ∃ t : Nat, t ≤ n ∧ k = .int .i64 (t : Int) ∧ Hid (PGs w0 N0 wr B rw (.slice Al n cl) us es (.slice Ag n cg) n gs)) (fun k _ => n - (intOf k).toNat)
              case atStart => exact ⟨0, Nat.zero_le _, rfl, HGt⟩
              case round =>
                obtain ⟨t, ht, rfl, HGr⟩ := hrel
                clear HGt
                have c0 : wr.cell? ⟨B, 2, none⟩ = some (.slice Al n cl) := HGr.out.bm.row.cell 2 _ rfl
                by_cases hlt : t < n
                · obtain ⟨e, he⟩ : ∃ e, es[t]? = some e := ⟨_, List.getElem?_eq_getElem (by rw [HELN.out]; exact hlt)⟩
                  obtain ⟨u, hu, hbu⟩ := HGr.out.bm.eu t e he
                  obtain ⟨v, hv, hbv⟩ := HGr.out.each t e hlt he
                  obtain ⟨m, hm⟩ : ∃ m, m = e.length := ⟨_, rfl⟩
                  obtain ⟨hes, heb⟩ := HES.out t e he
                  rw [← hm] at hes heb hbv
                  obtain ⟨Au, cu, hf, _, _⟩ := Pw.form hbu
                  rw [← hm] at hf
                  subst hf
                  obtain ⟨Av, cv, hf2, _, _⟩ := Pw.form hbv
                  rw [pms_len] at hf2
                  obtain ⟨q, hq⟩ : ∃ q, q = m + 9 := ⟨_, rfl⟩
                  rw [← hq] at hf2
                  subst hf2
                  obtain ⟨gl, cl', e1, _⟩ := Lw.open (by have q := HGr.out.bm.ll; rwa [HELN.out] at q) (by omega)
                  simp only [Value.slice.injEq] at e1
                  obtain ⟨rfl, _, rfl⟩ := e1
                  obtain ⟨gg, cg', e2, _⟩ := Lw.open HGr.out.lg (by omega)
                  simp only [Value.slice.injEq] at e2
                  obtain ⟨rfl, _, rfl⟩ := e2
                  obtain ⟨M, hM⟩ : ∃ M, M = mk4 t := ⟨_, rfl⟩
                  have HMK : Hid (∀ X, Calls Tryz.prog 50 #[.int .i64 (t : Int)] X fun e w' => e = .returned (.agg (vB M).toArray) ∧ Below X.heap.size X w') := fun X => by rw [hM]; exact mark_any t (by omega) X
                  have HCU : Hid (∀ W, PGs w0 N0 W B rw (.slice (some ⟨gl, 0, none⟩) n cl) us es (.slice (some ⟨gg, 0, none⟩) n cg) n gs → W.cell? ⟨gl, 0 + t * 1, none⟩ = some (.slice Au m cu)) := fun W p => by rw [Nat.mul_one]; have k := p.bm.ll; rw [HELN.out] at k; exact Lw.range k t _ hu
                  have HCV : Hid (∀ W, PGs w0 N0 W B rw (.slice (some ⟨gl, 0, none⟩) n cl) us es (.slice (some ⟨gg, 0, none⟩) n cg) n gs → W.cell? ⟨gg, 0 + t * 1, none⟩ = some (.slice Av q cv)) := fun W p => by rw [Nat.mul_one]; exact Lw.range p.lg t _ hv
                  have HA1 : Hid (∀ W, PGs w0 N0 W B rw (.slice (some ⟨gl, 0, none⟩) n cl) us es (.slice (some ⟨gg, 0, none⟩) n cg) n gs → Calls Tryz.prog 51 #[.slice Au m cu, .agg (vB M).toArray] W fun e w' => e = .returned (.bool true) ∧ Below W.heap.size W w') := fun W p => by
                    have hx := p.bm.get t e _ he hu
                    rw [hes] at hx
                    rw [hM]
                    exact allPath_ok m (by omega) (mk4 t) (mk4_len t) Au cu W (Pw.pat hx pms_32)
                  have HA2 : Hid (∀ W, PGs w0 N0 W B rw (.slice (some ⟨gl, 0, none⟩) n cl) us es (.slice (some ⟨gg, 0, none⟩) n cg) n gs → Calls Tryz.prog 51 #[.slice Av q cv, .agg (vB M).toArray] W fun e w' => e = .returned (.bool true) ∧ Below W.heap.size W w') := fun W p => by
                    obtain ⟨v', p1, p2⟩ := p.each t e hlt he
                    rw [hv] at p1
                    obtain rfl := Option.some.inj p1
                    rw [← hm, ← hq] at p2
                    rw [hM]
                    exact allPath_ok q (by omega) (mk4 t) (mk4_len t) Av cv W (Pw.pat p2 pms_32)
                  have hGs := HGr.out
                  have hb1 := HGr.out.bm.be
                  clear he hu hbu hv hbv hm hes hq hM HGr
                  go_wp2_with fail
                  refine wp_named fun a0 ha0 => ?_
                  have hsz : a0.tmps.size = 127 := by rw [ha0]; rfl
                  have zs0 : a0.eval (.tmp 0) = .pointer (some ⟨B, 0, none⟩) := by rw [ha0]; rfl
                  have zs6 : a0.eval (.tmp 6) = .slice (some ⟨gg, 0, none⟩) n cg := by rw [ha0]; rfl
                  have zs10 : a0.eval (.tmp 10) = .int .i64 (t : Int) := by rw [ha0]; rfl
                  obtain ⟨D, hD⟩ : ∃ D : List (Tmp × SP), D = [(106, SP.is (.pointer (some ⟨B, 0, none⟩))), (107, SP.is (.pointer (some ⟨B, 0, none⟩))), (108, SP.is (.pointer (some ⟨B, 2, none⟩))), (109, SP.is (.slice (some ⟨gl, 0, none⟩) n cl)), (110, SP.is (.int .i64 (t : Int))), (111, SP.is (.pointer (some ⟨gl, 0 + t * 1, none⟩))), (112, SP.is (.slice Au m cu)), (113, SP.is (.int .i64 (t : Int))), (114, SP.is (.agg (vB M).toArray)), (115, SP.is (.bool true)), (116, SP.is (.bool false)), (117, SP.is (.bool false)), (118, SP.is (.slice (some ⟨gg, 0, none⟩) n cg)), (119, SP.is (.int .i64 (t : Int))), (120, SP.is (.pointer (some ⟨gg, 0 + t * 1, none⟩))), (121, SP.is (.slice Av q cv)), (122, SP.is (.int .i64 (t : Int))), (123, SP.is (.agg (vB M).toArray)), (124, SP.is (.bool true)), (125, SP.is (.bool false)), (126, SP.is (.bool false))] := ⟨_, rfl⟩
                  refine wp_region_down (by kernel_rfl) (fun listed ac W => listed.size = 21 ∧ Fp D a0 listed ac W ∧ Below w0.heap.size w0 W ∧ PGs w0 N0 W B rw (.slice (some ⟨gl, 0, none⟩) n cl) us es (.slice (some ⟨gg, 0, none⟩) n cg) n gs) ?_ ?_ ?_
                  · exact ⟨by simp, Fp.start D a0 _ _, Below.drew hb1, hGs.below (Below.drew (Below.refl _ _))⟩
                  · clear ha0 hb1 hGs 
                    intro listed ac W k hI hdn hk
                    obtain ⟨hl, hF, hb1, hGs⟩ := hI
                    have hk1 : k < 21 := List.mem_range.1 (List.mem_filter.1 hk).1
                    have hl2 : ∀ j, (listed.setIfInBounds j true).size = 21 := fun j => by rw [Array.size_setIfInBounds]; exact hl
                    rcases (show k = 0 ∨ k = 1 ∨ k = 2 ∨ k = 3 ∨ k = 4 ∨ k = 5 ∨ k = 6 ∨ k = 7 ∨ k = 8 ∨ k = 9 ∨ k = 10 ∨ k = 11 ∨ k = 12 ∨ k = 13 ∨ k = 14 ∨ k = 15 ∨ k = 16 ∨ k = 17 ∨ k = 18 ∨ k = 19 ∨ k = 20 by omega) with rfl | rfl | rfl | rfl | rfl | rfl | rfl | rfl | rfl | rfl | rfl | rfl | rfl | rfl | rfl | rfl | rfl | rfl | rfl | rfl | rfl
                    · have hk3 := hk
                      exact wpOp_plain rfl rfl (wp_move_v (ac.eval (.tmp 0)) rfl rfl ⟨hl2 0, (hF.put 0 106 (SP.is (.pointer (some ⟨B, 0, none⟩))) (ac.eval (.tmp 0)) (by rw [hD]; rfl) (((hF.keep 0 (by rw [hD]; rfl)).trans zs0)) (by rw [hD]; rfl) (by rw [hsz]; decide) (by rw [hl]; decide)), hb1, hGs⟩)
                    · have hk3 := hk
                      have e := (hF.done 0 (106, SP.is (.pointer (some ⟨B, 0, none⟩))) (by rw [hD]; rfl) (ready_dep hk 0 (by kernel_rfl)))
                      exact wpOp_plain rfl rfl (wp_nilp rfl B e ⟨hl2 1, (hF.put 1 107 (SP.is (.pointer (some ⟨B, 0, none⟩))) (.pointer (some ⟨B, 0, none⟩)) (by rw [hD]; rfl) rfl (by rw [hD]; rfl) (by rw [hsz]; decide) (by rw [hl]; decide)), hb1, hGs⟩)
                    · have hk3 := hk
                      have e := (hF.done 1 (107, SP.is (.pointer (some ⟨B, 0, none⟩))) (by rw [hD]; rfl) (ready_dep hk 1 (by kernel_rfl)))
                      exact wpOp_plain rfl rfl (wp_fp_2 rfl B e ⟨hl2 2, (hF.put 2 108 (SP.is (.pointer (some ⟨B, 2, none⟩))) (.pointer (some ⟨B, 2, none⟩)) (by rw [hD]; rfl) rfl (by rw [hD]; rfl) (by rw [hsz]; decide) (by rw [hl]; decide)), hb1, hGs⟩)
                    · have hk3 := hk
                      have e := (hF.done 2 (108, SP.is (.pointer (some ⟨B, 2, none⟩))) (by rw [hD]; rfl) (ready_dep hk 2 (by kernel_rfl)))
                      exact wpOp_plain rfl rfl (wp_load_1 B (2) (.slice (some ⟨gl, 0, none⟩) n cl) rfl e (ld_dss W B (2) _ (hGs.bm.row.cell 2 _ rfl)) ⟨hl2 3, (hF.put 3 109 (SP.is (.slice (some ⟨gl, 0, none⟩) n cl)) (.slice (some ⟨gl, 0, none⟩) n cl) (by rw [hD]; rfl) rfl (by rw [hD]; rfl) (by rw [hsz]; decide) (by rw [hl]; decide)), hb1, hGs⟩)
                    · have hk3 := hk
                      exact wpOp_plain rfl rfl (wp_move_v (ac.eval (.tmp 10)) rfl rfl ⟨hl2 4, (hF.put 4 110 (SP.is (.int .i64 (t : Int))) (ac.eval (.tmp 10)) (by rw [hD]; rfl) (((hF.keep 10 (by rw [hD]; rfl)).trans zs10)) (by rw [hD]; rfl) (by rw [hsz]; decide) (by rw [hl]; decide)), hb1, hGs⟩)
                    · have hk3 := hk
                      have ea := (hF.done 3 (109, SP.is (.slice (some ⟨gl, 0, none⟩) n cl)) (by rw [hD]; rfl) (ready_dep hk 3 (by kernel_rfl)))
                      have eb := (hF.done 4 (110, SP.is (.int .i64 (t : Int))) (by rw [hD]; rfl) (ready_dep hk 4 (by kernel_rfl)))
                      exact wpOp_plain rfl rfl (wp_index_s 28 64 rfl gl 0 n cl t 1 ea eb hlt Tryz.underlying28 info_sd1 ⟨hl2 5, (hF.put 5 111 (SP.is (.pointer (some ⟨gl, 0 + t * 1, none⟩))) (.pointer (some ⟨gl, 0 + t * 1, none⟩)) (by rw [hD]; rfl) rfl (by rw [hD]; rfl) (by rw [hsz]; decide) (by rw [hl]; decide)), hb1, hGs⟩)
                    · have hk3 := hk
                      have e := (hF.done 5 (111, SP.is (.pointer (some ⟨gl, 0 + t * 1, none⟩))) (by rw [hD]; rfl) (ready_dep hk 5 (by kernel_rfl)))
                      exact wpOp_plain rfl rfl (wp_load_1 gl (0 + t * 1) (.slice Au m cu) rfl e (ld_ds W gl (0 + t * 1) _ (HCU.out W hGs)) ⟨hl2 6, (hF.put 6 112 (SP.is (.slice Au m cu)) (.slice Au m cu) (by rw [hD]; rfl) rfl (by rw [hD]; rfl) (by rw [hsz]; decide) (by rw [hl]; decide)), hb1, hGs⟩)
                    · have hk3 := hk
                      exact wpOp_plain rfl rfl (wp_move_v (ac.eval (.tmp 10)) rfl rfl ⟨hl2 7, (hF.put 7 113 (SP.is (.int .i64 (t : Int))) (ac.eval (.tmp 10)) (by rw [hD]; rfl) (((hF.keep 10 (by rw [hD]; rfl)).trans zs10)) (by rw [hD]; rfl) (by rw [hsz]; decide) (by rw [hl]; decide)), hb1, hGs⟩)
                    · have hk3 := hk
                      have ea := (hF.done 7 (113, SP.is (.int .i64 (t : Int))) (by rw [hD]; rfl) (ready_dep hk 7 (by kernel_rfl)))
                      refine wpOp_plain rfl rfl (wp_fcall_v 50 #[.int .i64 (t : Int)] rfl rfl (by show [ac.eval (.tmp 113)] = _; rw [show ac.eval (.tmp 113) = _ from ea]) (by go_simp) ((HMK.out W).mono ?_))
                      rintro e W2 ⟨rfl, hB⟩
                      exact ⟨_, rfl, hl2 8, ((hF.world hB).put 8 114 (SP.is (.agg (vB M).toArray)) (.agg (vB M).toArray) (by rw [hD]; rfl) rfl (by rw [hD]; rfl) (by rw [hsz]; decide) (by rw [hl]; decide)), hb1.trans (hB.mono hb1.size), hGs.below hB⟩
                    · have hk3 := hk
                      have ea := (hF.done 6 (112, SP.is (.slice Au m cu)) (by rw [hD]; rfl) (ready_dep hk 6 (by kernel_rfl)))
                      have eb := (hF.done 8 (114, SP.is (.agg (vB M).toArray)) (by rw [hD]; rfl) (ready_dep hk 8 (by kernel_rfl)))
                      refine wpOp_plain rfl rfl (wp_fcall_v 51 #[.slice Au m cu, .agg (vB M).toArray] rfl rfl (by show [ac.eval (.tmp 112), ac.eval (.tmp 114)] = _; rw [show ac.eval (.tmp 112) = _ from ea, show ac.eval (.tmp 114) = _ from eb]) (by go_simp) ((HA1.out W hGs).mono ?_))
                      rintro e W2 ⟨rfl, hB⟩
                      exact ⟨_, rfl, hl2 9, ((hF.world hB).put 9 115 (SP.is (.bool true)) (.bool true) (by rw [hD]; rfl) rfl (by rw [hD]; rfl) (by rw [hsz]; decide) (by rw [hl]; decide)), hb1.trans (hB.mono hb1.size), hGs.below hB⟩
                    · have hk3 := hk
                      have e := (hF.done 9 (115, SP.is (.bool true)) (by rw [hD]; rfl) (ready_dep hk 9 (by kernel_rfl)))
                      exact wpOp_plain rfl rfl (wp_notP rfl e ⟨hl2 10, (hF.put 10 116 (SP.is (.bool false)) (.bool false) (by rw [hD]; rfl) rfl (by rw [hD]; rfl) (by rw [hsz]; decide) (by rw [hl]; decide)), hb1, hGs⟩)
                    · have hk3 := hk
                      exact wpOp_plain rfl rfl (wp_move_v (ac.eval (.tmp 116)) rfl rfl ⟨hl2 11, (hF.put 11 117 (SP.is (.bool false)) (ac.eval (.tmp 116)) (by rw [hD]; rfl) ((hF.done 10 (116, SP.is (.bool false)) (by rw [hD]; rfl) (ready_dep hk 10 (by kernel_rfl)))) (by rw [hD]; rfl) (by rw [hsz]; decide) (by rw [hl]; decide)), hb1, hGs⟩)
                    · have hk3 := hk
                      exact wpOp_wanted rfl (wanted_g (g := 11) (b := false) rfl rfl (hF.done 11 (117, SP.is (.bool false)) (by rw [hD]; rfl) (ready_dep hk 11 (by kernel_rfl))) (by rw [hF.size, hsz]; decide)) (wp_move_v (ac.eval (.tmp 6)) rfl rfl ⟨hl2 12, (hF.put 12 118 (SP.is (.slice (some ⟨gg, 0, none⟩) n cg)) (ac.eval (.tmp 6)) (by rw [hD]; rfl) (((hF.keep 6 (by rw [hD]; rfl)).trans zs6)) (by rw [hD]; rfl) (by rw [hsz]; decide) (by rw [hl]; decide)), hb1, hGs⟩)
                    · have hk3 := hk
                      exact wpOp_wanted rfl (wanted_g (g := 11) (b := false) rfl rfl (hF.done 11 (117, SP.is (.bool false)) (by rw [hD]; rfl) (ready_dep hk 11 (by kernel_rfl))) (by rw [hF.size, hsz]; decide)) (wp_move_v (ac.eval (.tmp 10)) rfl rfl ⟨hl2 13, (hF.put 13 119 (SP.is (.int .i64 (t : Int))) (ac.eval (.tmp 10)) (by rw [hD]; rfl) (((hF.keep 10 (by rw [hD]; rfl)).trans zs10)) (by rw [hD]; rfl) (by rw [hsz]; decide) (by rw [hl]; decide)), hb1, hGs⟩)
                    · have hk3 := hk
                      have ea := (hF.done 12 (118, SP.is (.slice (some ⟨gg, 0, none⟩) n cg)) (by rw [hD]; rfl) (ready_dep hk 12 (by kernel_rfl)))
                      have eb := (hF.done 13 (119, SP.is (.int .i64 (t : Int))) (by rw [hD]; rfl) (ready_dep hk 13 (by kernel_rfl)))
                      exact wpOp_wanted rfl (wanted_g (g := 11) (b := false) rfl rfl (hF.done 11 (117, SP.is (.bool false)) (by rw [hD]; rfl) (ready_dep hk 11 (by kernel_rfl))) (by rw [hF.size, hsz]; decide)) (wp_index_s 28 64 rfl gg 0 n cg t 1 ea eb hlt Tryz.underlying28 info_sd1 ⟨hl2 14, (hF.put 14 120 (SP.is (.pointer (some ⟨gg, 0 + t * 1, none⟩))) (.pointer (some ⟨gg, 0 + t * 1, none⟩)) (by rw [hD]; rfl) rfl (by rw [hD]; rfl) (by rw [hsz]; decide) (by rw [hl]; decide)), hb1, hGs⟩)
                    · have hk3 := hk
                      have e := (hF.done 14 (120, SP.is (.pointer (some ⟨gg, 0 + t * 1, none⟩))) (by rw [hD]; rfl) (ready_dep hk 14 (by kernel_rfl)))
                      exact wpOp_wanted rfl (wanted_g (g := 11) (b := false) rfl rfl (hF.done 11 (117, SP.is (.bool false)) (by rw [hD]; rfl) (ready_dep hk 11 (by kernel_rfl))) (by rw [hF.size, hsz]; decide)) (wp_load_1 gg (0 + t * 1) (.slice Av q cv) rfl e (ld_ds W gg (0 + t * 1) _ (HCV.out W hGs)) ⟨hl2 15, (hF.put 15 121 (SP.is (.slice Av q cv)) (.slice Av q cv) (by rw [hD]; rfl) rfl (by rw [hD]; rfl) (by rw [hsz]; decide) (by rw [hl]; decide)), hb1, hGs⟩)
                    · have hk3 := hk
                      exact wpOp_wanted rfl (wanted_g (g := 11) (b := false) rfl rfl (hF.done 11 (117, SP.is (.bool false)) (by rw [hD]; rfl) (ready_dep hk 11 (by kernel_rfl))) (by rw [hF.size, hsz]; decide)) (wp_move_v (ac.eval (.tmp 10)) rfl rfl ⟨hl2 16, (hF.put 16 122 (SP.is (.int .i64 (t : Int))) (ac.eval (.tmp 10)) (by rw [hD]; rfl) (((hF.keep 10 (by rw [hD]; rfl)).trans zs10)) (by rw [hD]; rfl) (by rw [hsz]; decide) (by rw [hl]; decide)), hb1, hGs⟩)
                    · have hk3 := hk
                      have ea := (hF.done 16 (122, SP.is (.int .i64 (t : Int))) (by rw [hD]; rfl) (ready_dep hk 16 (by kernel_rfl)))
                      refine wpOp_wanted rfl (wanted_g (g := 11) (b := false) rfl rfl (hF.done 11 (117, SP.is (.bool false)) (by rw [hD]; rfl) (ready_dep hk 11 (by kernel_rfl))) (by rw [hF.size, hsz]; decide)) (wp_fcall_v 50 #[.int .i64 (t : Int)] rfl rfl (by show [ac.eval (.tmp 122)] = _; rw [show ac.eval (.tmp 122) = _ from ea]) (by go_simp) ((HMK.out W).mono ?_))
                      rintro e W2 ⟨rfl, hB⟩
                      exact ⟨_, rfl, hl2 17, ((hF.world hB).put 17 123 (SP.is (.agg (vB M).toArray)) (.agg (vB M).toArray) (by rw [hD]; rfl) rfl (by rw [hD]; rfl) (by rw [hsz]; decide) (by rw [hl]; decide)), hb1.trans (hB.mono hb1.size), hGs.below hB⟩
                    · have hk3 := hk
                      have ea := (hF.done 15 (121, SP.is (.slice Av q cv)) (by rw [hD]; rfl) (ready_dep hk 15 (by kernel_rfl)))
                      have eb := (hF.done 17 (123, SP.is (.agg (vB M).toArray)) (by rw [hD]; rfl) (ready_dep hk 17 (by kernel_rfl)))
                      refine wpOp_wanted rfl (wanted_g (g := 11) (b := false) rfl rfl (hF.done 11 (117, SP.is (.bool false)) (by rw [hD]; rfl) (ready_dep hk 11 (by kernel_rfl))) (by rw [hF.size, hsz]; decide)) (wp_fcall_v 51 #[.slice Av q cv, .agg (vB M).toArray] rfl rfl (by show [ac.eval (.tmp 121), ac.eval (.tmp 123)] = _; rw [show ac.eval (.tmp 121) = _ from ea, show ac.eval (.tmp 123) = _ from eb]) (by go_simp) ((HA2.out W hGs).mono ?_))
                      rintro e W2 ⟨rfl, hB⟩
                      exact ⟨_, rfl, hl2 18, ((hF.world hB).put 18 124 (SP.is (.bool true)) (.bool true) (by rw [hD]; rfl) rfl (by rw [hD]; rfl) (by rw [hsz]; decide) (by rw [hl]; decide)), hb1.trans (hB.mono hb1.size), hGs.below hB⟩
                    · have hk3 := hk
                      have e := (hF.done 18 (124, SP.is (.bool true)) (by rw [hD]; rfl) (ready_dep hk 18 (by kernel_rfl)))
                      exact wpOp_wanted rfl (wanted_g (g := 11) (b := false) rfl rfl (hF.done 11 (117, SP.is (.bool false)) (by rw [hD]; rfl) (ready_dep hk 11 (by kernel_rfl))) (by rw [hF.size, hsz]; decide)) (wp_notP rfl e ⟨hl2 19, (hF.put 19 125 (SP.is (.bool false)) (.bool false) (by rw [hD]; rfl) rfl (by rw [hD]; rfl) (by rw [hsz]; decide) (by rw [hl]; decide)), hb1, hGs⟩)
                    · have hk3 := hk
                      have ea := (hF.done 11 (117, SP.is (.bool false)) (by rw [hD]; rfl) (ready_dep hk 11 (by kernel_rfl)))
                      have eb := (hF.done 19 (125, SP.is (.bool false)) (by rw [hD]; rfl) (ready_dep hk 19 (by kernel_rfl)))
                      exact wpOp_plain rfl rfl (wp_pick_f (.bool false) rfl ea eb ⟨hl2 20, (hF.put 20 126 (SP.is (.bool false)) (.bool false) (by rw [hD]; rfl) rfl (by rw [hD]; rfl) (by rw [hsz]; decide) (by rw [hl]; decide)), hb1, hGs⟩)
                  · clear hb1 hGs 
                    intro listed ac W hI hr
                    obtain ⟨hl, hF, hb1, hGs⟩ := hI
                    have hall := all_listed (by kernel_rfl) hl hr
                    have h106 : ac.eval (.tmp 106) = .pointer (some ⟨B, 0, none⟩) := hF.done 0 (106, SP.is (.pointer (some ⟨B, 0, none⟩))) (by rw [hD]; rfl) (hall 0 (by decide))
                    have h107 : ac.eval (.tmp 107) = .pointer (some ⟨B, 0, none⟩) := hF.done 1 (107, SP.is (.pointer (some ⟨B, 0, none⟩))) (by rw [hD]; rfl) (hall 1 (by decide))
                    have h108 : ac.eval (.tmp 108) = .pointer (some ⟨B, 2, none⟩) := hF.done 2 (108, SP.is (.pointer (some ⟨B, 2, none⟩))) (by rw [hD]; rfl) (hall 2 (by decide))
                    have h109 : ac.eval (.tmp 109) = .slice (some ⟨gl, 0, none⟩) n cl := hF.done 3 (109, SP.is (.slice (some ⟨gl, 0, none⟩) n cl)) (by rw [hD]; rfl) (hall 3 (by decide))
                    have h110 : ac.eval (.tmp 110) = .int .i64 (t : Int) := hF.done 4 (110, SP.is (.int .i64 (t : Int))) (by rw [hD]; rfl) (hall 4 (by decide))
                    have h111 : ac.eval (.tmp 111) = .pointer (some ⟨gl, 0 + t * 1, none⟩) := hF.done 5 (111, SP.is (.pointer (some ⟨gl, 0 + t * 1, none⟩))) (by rw [hD]; rfl) (hall 5 (by decide))
                    have h112 : ac.eval (.tmp 112) = .slice Au m cu := hF.done 6 (112, SP.is (.slice Au m cu)) (by rw [hD]; rfl) (hall 6 (by decide))
                    have h113 : ac.eval (.tmp 113) = .int .i64 (t : Int) := hF.done 7 (113, SP.is (.int .i64 (t : Int))) (by rw [hD]; rfl) (hall 7 (by decide))
                    have h114 : ac.eval (.tmp 114) = .agg (vB M).toArray := hF.done 8 (114, SP.is (.agg (vB M).toArray)) (by rw [hD]; rfl) (hall 8 (by decide))
                    have h115 : ac.eval (.tmp 115) = .bool true := hF.done 9 (115, SP.is (.bool true)) (by rw [hD]; rfl) (hall 9 (by decide))
                    have h116 : ac.eval (.tmp 116) = .bool false := hF.done 10 (116, SP.is (.bool false)) (by rw [hD]; rfl) (hall 10 (by decide))
                    have h117 : ac.eval (.tmp 117) = .bool false := hF.done 11 (117, SP.is (.bool false)) (by rw [hD]; rfl) (hall 11 (by decide))
                    have h118 : ac.eval (.tmp 118) = .slice (some ⟨gg, 0, none⟩) n cg := hF.done 12 (118, SP.is (.slice (some ⟨gg, 0, none⟩) n cg)) (by rw [hD]; rfl) (hall 12 (by decide))
                    have h119 : ac.eval (.tmp 119) = .int .i64 (t : Int) := hF.done 13 (119, SP.is (.int .i64 (t : Int))) (by rw [hD]; rfl) (hall 13 (by decide))
                    have h120 : ac.eval (.tmp 120) = .pointer (some ⟨gg, 0 + t * 1, none⟩) := hF.done 14 (120, SP.is (.pointer (some ⟨gg, 0 + t * 1, none⟩))) (by rw [hD]; rfl) (hall 14 (by decide))
                    have h121 : ac.eval (.tmp 121) = .slice Av q cv := hF.done 15 (121, SP.is (.slice Av q cv)) (by rw [hD]; rfl) (hall 15 (by decide))
                    have h122 : ac.eval (.tmp 122) = .int .i64 (t : Int) := hF.done 16 (122, SP.is (.int .i64 (t : Int))) (by rw [hD]; rfl) (hall 16 (by decide))
                    have h123 : ac.eval (.tmp 123) = .agg (vB M).toArray := hF.done 17 (123, SP.is (.agg (vB M).toArray)) (by rw [hD]; rfl) (hall 17 (by decide))
                    have h124 : ac.eval (.tmp 124) = .bool true := hF.done 18 (124, SP.is (.bool true)) (by rw [hD]; rfl) (hall 18 (by decide))
                    have h125 : ac.eval (.tmp 125) = .bool false := hF.done 19 (125, SP.is (.bool false)) (by rw [hD]; rfl) (hall 19 (by decide))
                    have h126 : ac.eval (.tmp 126) = .bool false := hF.done 20 (126, SP.is (.bool false)) (by rw [hD]; rfl) (hall 20 (by decide))
                    have ea := hF.lay [(106, .pointer (some ⟨B, 0, none⟩)), (107, .pointer (some ⟨B, 0, none⟩)), (108, .pointer (some ⟨B, 2, none⟩)), (109, .slice (some ⟨gl, 0, none⟩) n cl), (110, .int .i64 (t : Int)), (111, .pointer (some ⟨gl, 0 + t * 1, none⟩)), (112, .slice Au m cu), (113, .int .i64 (t : Int)), (114, .agg (vB M).toArray), (115, .bool true), (116, .bool false), (117, .bool false), (118, .slice (some ⟨gg, 0, none⟩) n cg), (119, .int .i64 (t : Int)), (120, .pointer (some ⟨gg, 0 + t * 1, none⟩)), (121, .slice Av q cv), (122, .int .i64 (t : Int)), (123, .agg (vB M).toArray), (124, .bool true), (125, .bool false), (126, .bool false)] (by rw [hD, hsz]; rfl) (by simp only [List.forall_mem_cons, List.not_mem_nil, false_implies, implies_true, and_true]; exact ⟨h106, h107, h108, h109, h110, h111, h112, h113, h114, h115, h116, h117, h118, h119, h120, h121, h122, h123, h124, h125, h126⟩)
                    rw [ha0] at ea
                    simp only [List.foldl_cons, List.foldl_nil, List.setIfInBounds_toArray, List.set_cons_zero, List.set_cons_succ] at ea
                    clear hF hall hr hl hD  zs0 zs6 zs10 ha0 hsz h106 h107 h108 h109 h110 h111 h112 h113 h114 h115 h116 h117 h118 h119 h120 h121 h122 h123 h124 h125 h126
                    subst ea
                    have G2 : Hid (PGs w0 N0 W B rw (.slice (some ⟨gl, 0, none⟩) n cl) us es (.slice (some ⟨gg, 0, none⟩) n cg) n gs) := hGs
                    clear hGs hb1
                    go_wp2_with fail
                    refine ⟨⟨t + 1, hlt, by go_num, G2⟩, by simp [intOf]; omega⟩
                · obtain rfl : t = n := by omega
                  have HBE : Hid (Below w0.heap.size w0 wr) := HGr.out.bm.be
                  clear HGr
                  go_wp2_with fail
                  go_ret
                  exact ⟨rfl, HBE.out⟩

end Go.Proofs.YtdicgenhfmhklaaGreatDoor
