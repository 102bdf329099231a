/-
  the law OutboxCuts: pick, leaf.
-/
import Derived.Test.YtbfahgdienppoaaGreatDoorOcA
namespace Go.Proofs.YtbfahgdienppoaaGreatDoor
open Go Go.RowKit
open Sha

set_option maxRecDepth 100000 in
theorem pick11 (c n : Int) (hn : 0 < n) (h1 : -9223372036854775808 ≤ c) (h2 : c ≤ 9223372036854775807) (hn2 : n ≤ 9223372036854775807) (w : World) :
    Calls Tryz.prog 18 #[.int .i64 c, .int .i64 n] w fun e w' => e = .returned (.int .i64 (pk c n)) ∧ w' = w := by
  have hn0 : ¬ n = 0 := by omega
  have hn1 : ¬ n = -1 := by omega
  have hr := pk_range c n hn
  by_cases hc : c < 0
  · have e1 : Hid (pk c n = (-(c + 1)) % n) := by show _ = _; unfold pk; rw [if_pos hc]
    have e3 : (-(c + 1)).tmod n = pk c n := by rw [e1.out]; exact Int.tmod_eq_emod_of_nonneg (by omega)
    have e4 : (-1 + -c).tmod n = pk c n := by rw [show -1 + -c = -(c + 1) by omega]; exact e3
    have e5 : (-c + -1).tmod n = pk c n := by rw [show -c + -1 = -(c + 1) by omega]; exact e3
    generalize pk c n = r at *
    go_enter Tryz.func18, Tryz.ntmps18
    go_wp2
    go_ret
    exact ⟨by first | rfl | (simp; omega), rfl⟩
  · have e1 : Hid (pk c n = c % n) := by show _ = _; unfold pk; rw [if_neg hc]
    have e3 : c.tmod n = pk c n := by rw [e1.out]; exact Int.tmod_eq_emod_of_nonneg (by omega)
    generalize pk c n = r at *
    go_enter Tryz.func18, Tryz.ntmps18
    go_wp2
    go_ret
    exact ⟨by first | rfl | (simp; omega), rfl⟩


set_option maxRecDepth 100000 in
theorem build_lf1 (ix en tk : Int) (s0 s1 s2 s3 s4 s5 s6 s7 s8 s9 s10 s11 s12 s13 s14 s15 s16 s17 s18 s19 : BitVec 8) (a0 a1 a2 a3 : Nat) (w : World) : (Instr.build 39 #[(0, .int .i64 ix), (1, .int .i64 en), (2, .int .i64 tk), (3, .agg #[.int .u8 (c s0), .int .u8 (c s1), .int .u8 (c s2), .int .u8 (c s3), .int .u8 (c s4), .int .u8 (c s5), .int .u8 (c s6), .int .u8 (c s7), .int .u8 (c s8), .int .u8 (c s9), .int .u8 (c s10), .int .u8 (c s11), .int .u8 (c s12), .int .u8 (c s13), .int .u8 (c s14), .int .u8 (c s15), .int .u8 (c s16), .int .u8 (c s17), .int .u8 (c s18), .int .u8 (c s19)]), (4, .agg #[.int .u64 (a0 : Int), .int .u64 (a1 : Int), .int .u64 (a2 : Int), .int .u64 (a3 : Int)])]).run Tryz.prog w = .ok (.agg (lf ix en tk [s0, s1, s2, s3, s4, s5, s6, s7, s8, s9, s10, s11, s12, s13, s14, s15, s16, s17, s18, s19] [a0, a1, a2, a3]).toArray) w := by
  go_simp
  rfl
theorem build_lf (ix en tk : Int) (rc : List (BitVec 8)) (am : List Nat) (h : rc.length = 20) (h4 : am.length = 4) (w : World) : (Instr.build 39 #[(0, .int .i64 ix), (1, .int .i64 en), (2, .int .i64 tk), (3, .agg (vB rc).toArray), (4, .agg (vQ am).toArray)]).run Tryz.prog w = .ok (.agg (lf ix en tk rc am).toArray) w := by
  match rc, h, am, h4 with
  | [s0, s1, s2, s3, s4, s5, s6, s7, s8, s9, s10, s11, s12, s13, s14, s15, s16, s17, s18, s19], _, [a0, a1, a2, a3], _ => exact build_lf1 ix en tk s0 s1 s2 s3 s4 s5 s6 s7 s8 s9 s10 s11 s12 s13 s14 s15 s16 s17 s18 s19 a0 a1 a2 a3 w
section
variable {o : Oper} {a : Act} {w : World} {K : Act → World → Prop} {Q : Exit → Act → World → Prop}
theorem wp_fr0 {x : Operand} (b : Nat) (ho : o.op = .fieldAddr 42 x 0) (hx : a.eval x = .pointer (some ⟨b, 0, none⟩)) (h : K (a.put o.dst (.pointer (some ⟨b, 0, none⟩))) w) : Oper.wp Tryz.prog o a w K Q := by
  unfold Oper.wp execOp
  simp only [ho, hx]
  go_simp
  exact h
theorem wp_fr1 {x : Operand} (b : Nat) (ho : o.op = .fieldAddr 42 x 1) (hx : a.eval x = .pointer (some ⟨b, 0, none⟩)) (h : K (a.put o.dst (.pointer (some ⟨b, 1, none⟩))) w) : Oper.wp Tryz.prog o a w K Q := by
  unfold Oper.wp execOp
  simp only [ho, hx]
  go_simp
  exact h
theorem wp_fr2 {x : Operand} (b : Nat) (ho : o.op = .fieldAddr 42 x 2) (hx : a.eval x = .pointer (some ⟨b, 0, none⟩)) (h : K (a.put o.dst (.pointer (some ⟨b, 2, none⟩))) w) : Oper.wp Tryz.prog o a w K Q := by
  unfold Oper.wp execOp
  simp only [ho, hx]
  go_simp
  exact h
theorem wp_fr3 {x : Operand} (b : Nat) (ho : o.op = .fieldAddr 42 x 3) (hx : a.eval x = .pointer (some ⟨b, 0, none⟩)) (h : K (a.put o.dst (.pointer (some ⟨b, 22, none⟩))) w) : Oper.wp Tryz.prog o a w K Q := by
  unfold Oper.wp execOp
  simp only [ho, hx]
  go_simp
  exact h
theorem wp_ri {x : Operand} (ho : o.op = .load 3 x) (b f : Nat) (hx : a.eval x = .pointer (some ⟨b, f, none⟩)) (n : Int) (hc : w.cell? ⟨b, f, none⟩ = some (.int .i64 n)) (h : K (a.put o.dst (.int .i64 n)) w) : Oper.wp Tryz.prog o a w K Q := by
  unfold Oper.wp execOp
  simp only [ho, hx]
  go_simp
  exact h
set_option maxRecDepth 100000 in
theorem wp_allocL (ho : o.op = .alloc 39) (h : K (a.put o.dst (.pointer (some ⟨w.heap.size, 0, none⟩))) (w.alloc (Obj.cells zLf.toArray 39))) : Oper.wp Tryz.prog o a w K Q := by
  unfold Oper.wp execOp
  simp only [ho]
  go_simp
  exact h
theorem wp_buildL {x0 x1 x2 x3 x4 : Operand} (ho : o.op = .build 39 #[(0, x0), (1, x1), (2, x2), (3, x3), (4, x4)]) (ix en tk : Int) (rc : List (BitVec 8)) (am : List Nat) (hrc : rc.length = 20) (ham : am.length = 4) (h0 : a.eval x0 = .int .i64 ix) (h1 : a.eval x1 = .int .i64 en) (h2 : a.eval x2 = .int .i64 tk) (h3 : a.eval x3 = .agg (vB rc).toArray) (h4 : a.eval x4 = .agg (vQ am).toArray) (Lz : List Value) (hL : Lz = lf ix en tk rc am) (h : K (a.put o.dst (.agg Lz.toArray)) w) : Oper.wp Tryz.prog o a w K Q := by
  subst hL
  have hb := build_lf ix en tk rc am hrc ham w
  unfold Oper.wp execOp
  simp only [ho, List.map_toArray, List.map_cons, List.map_nil, h0, h1, h2, h3, h4, Sem.run_bind, hb, Result.andThen_ok, Sem.run_pure, Oper.upon_value]
  exact h
end
section
variable {r : Rwv} {w : World} {b : Nat}
theorem rw_en (h : Row w b (rwc r) 42) : w.cell? ⟨b, 0, none⟩ = some (.int .i64 r.en) := h.cell 0 _ rfl
theorem rw_tk (h : Row w b (rwc r) 42) : w.cell? ⟨b, 1, none⟩ = some (.int .i64 r.tk) := h.cell 1 _ rfl
theorem rw_rc (h : Row w b (rwc r) 42) : w.rangeAt b 2 (vB r.rc) := h.range 2 _ (fun j u hj => by
  have hlt : j < (vB r.rc).length := (List.getElem?_eq_some_iff.1 hj).1
  rw [show 2 + j = j + 2 by omega]
  exact (List.getElem?_append_left hlt).trans hj)
theorem rw_am (h : Row w b (rwc r) 42) (h1 : r.rc.length = 20) : w.rangeAt b 22 (vQ r.am) := h.range 22 _ (fun j u hj => by
  rw [show 22 + j = (20 + j) + 2 by omega]
  show (vB r.rc ++ vQ r.am)[20 + j]? = _
  rw [List.getElem?_append_right (by rw [vB_length, h1]; omega), vB_length, h1, Nat.add_sub_cancel_left]
  exact hj)
end
theorem am9_z {am : List Nat} (h : am = List.replicate 4 0) : am9 am = [0, 0, 0, 9] := by unfold am9; rw [if_pos h]
theorem am9_o {am : List Nat} (h : ¬ am = List.replicate 4 0) : am9 am = am := by unfold am9; rw [if_neg h]
theorem lf_set (ix en tk : Int) (rc : List (BitVec 8)) (h : rc.length = 20) : (lf ix en tk rc (List.replicate 4 0)).set 26 (.int .u64 9) = lf ix en tk rc [0, 0, 0, 9] := by
  match rc, h with
  | [s0, s1, s2, s3, s4, s5, s6, s7, s8, s9, s10, s11, s12, s13, s14, s15, s16, s17, s18, s19], _ => rfl
theorem info_u64s : (Tryz.prog.info? 35).map (·.size) = some 1 := by kernel_rfl
set_option maxRecDepth 100000 in
set_option maxHeartbeats 4000000 in
theorem rleaf_any (r : Rwv) (hr : r.Ok) (i : Nat) (R : List Value) (hR : R = rwc r) (w : World) :
    Calls Tryz.prog 9 #[.agg R.toArray, .int .i64 (i : Int)] w fun e w' => e = .returned (.agg (rwl r i).toArray) ∧ Below w.heap.size w w' := by
  have HR : Hid (R = rwc r) := hR
  have HK1 : Hid (r.rc.length = 20) := hr.rc
  have HK2 : Hid (r.am.length = 4) := hr.am
  have HIA : Hid ((Tryz.prog.info? 34).map (·.size) = some (vB r.rc).length) := info_Ad _ hr.rc
  have HIW : Hid ((Tryz.prog.info? 37).map (·.size) = some (vQ r.am).length) := info_Wd _ hr.am
  obtain ⟨en, hen⟩ : ∃ en, en = pk r.en 1099511627776 := ⟨_, rfl⟩
  obtain ⟨tk, htk⟩ : ∃ tk, tk = pk r.tk 64 := ⟨_, rfl⟩
  have HP1 : Hid (∀ W, Calls Tryz.prog 18 #[.int .i64 r.en, .int .i64 1099511627776] W fun e w' => e = .returned (.int .i64 en) ∧ Below W.heap.size W w') := fun W => by rw [hen]; exact (pick11 r.en 1099511627776 (by decide) hr.e0 hr.e1 (by decide) W).mono (fun e w' h => ⟨h.1, by rw [h.2]; exact Below.refl _ _⟩)
  have HP2 : Hid (∀ W, Calls Tryz.prog 18 #[.int .i64 r.tk, .int .i64 64] W fun e w' => e = .returned (.int .i64 tk) ∧ Below W.heap.size W w') := fun W => by rw [htk]; exact (pick11 r.tk 64 (by decide) hr.t0 hr.t1 (by decide) W).mono (fun e w' h => ⟨h.1, by rw [h.2]; exact Below.refl _ _⟩)
  obtain ⟨Lz, hLz⟩ : ∃ Lz, Lz = lf (i : Int) en tk r.rc r.am := ⟨_, rfl⟩
  obtain ⟨Ly, hLy⟩ : ∃ Ly, Ly = lf (i : Int) en tk r.rc (am9 r.am) := ⟨_, rfl⟩
  have hgo : rwl r i = Ly := by unfold rwl; rw [hLy, hen, htk]
  rw [hgo]
  have HLz : Hid (Lz = lf (i : Int) en tk r.rc r.am) := hLz
  have HLy : Hid (Ly = lf (i : Int) en tk r.rc (am9 r.am)) := hLy
  have HLN : Hid (Lz.length = 27) := by rw [hLz]; exact lf_len hr.rc hr.am
  have HLJ : Hid ((Tryz.prog.info? 39).map (·.size) = some Lz.toArray.size) := by show _ = _; rw [List.size_toArray, hLz]; exact info_lf hr.rc hr.am
  have HLO : Hid (Lz.toArray.all (·.oneCell') = true) := by rw [hLz]; exact lf_all
  have HYN : Hid (Ly.length = zLf.length) := by show _ = _; rw [hLy, lf_len hr.rc (am9_len hr.am)]; rfl
  have HYI : Hid ((Tryz.prog.info? 39).map (·.size) = some Ly.length) := by rw [hLy]; exact info_lf hr.rc (am9_len hr.am)
  have HYO : Hid (Ly.toArray.all (·.oneCell') = true) := by rw [hLy]; exact lf_all
  clear hR hr hen htk hLz hLy hgo
  go_enter Tryz.func9, Tryz.ntmps9
  go_upto_region 1 with (first
    | (refine wpList_boxG 42 rfl (.tmp 0) rfl R rfl ?_; intro X1 q1 q2 q3; rw [HR.out] at q1; have R1 : Hid (Row X1 w.heap.size (rwc r) 42) := q1; have B1 : Hid (Below w.heap.size w X1) := q2; clear q1 q2 q3; simp only [Act.put, List.setIfInBounds_toArray, List.set_cons_zero, List.set_cons_succ])
    | (refine wpList_allocLf rfl rfl ?_; intro X2 q1 q2 q3; have R2 : Hid (Row X2 X1.heap.size zLf 39) := q1; have B2 : Hid (Below X1.heap.size X1 X2) := q2; clear q1 q2 q3; simp only [Act.put, List.setIfInBounds_toArray, List.set_cons_zero, List.set_cons_succ]))
  have hxy : w.heap.size < X1.heap.size := R1.out.lt
  have rr := Row.below R1.out B2.out R1.out.lt
  have ry := R2.out
  have hb := B1.out.trans (B2.out.mono B1.out.size)
  obtain ⟨x, hx⟩ : ∃ x, x = w.heap.size := ⟨_, rfl⟩
  obtain ⟨y, hy⟩ : ∃ y, y = X1.heap.size := ⟨_, rfl⟩
  rw [← hx] at rr hxy ⊢
  rw [← hy] at ry hxy ⊢
  have HX : Hid (x = w.heap.size) := hx
  have hwx : w.heap.size ≤ y := by omega
  clear R1 R2 B1 B2 hx hy
  refine wp_named fun a0 ha0 => ?_
  have hsz : a0.tmps.size = 25 := by rw [ha0]; rfl
  have zs1 : a0.eval (.tmp 1) = .int .i64 (i : Int) := by rw [ha0]; rfl
  have zs2 : a0.eval (.tmp 2) = .pointer (some ⟨x, 0, none⟩) := by rw [ha0]; rfl
  have zs4 : a0.eval (.tmp 4) = .pointer (some ⟨y, 0, none⟩) := by rw [ha0]; rfl
  obtain ⟨D, hD⟩ : ∃ D : List (Tmp × SP), D = [(6, SP.is (.int .i64 (i : Int))), (7, SP.is (.pointer (some ⟨x, 0, none⟩))), (8, SP.is (.int .i64 r.en)), (9, SP.is (.int .i64 en)), (10, SP.is (.pointer (some ⟨x, 1, none⟩))), (11, SP.is (.int .i64 r.tk)), (12, SP.is (.int .i64 tk)), (13, SP.is (.pointer (some ⟨x, 2, none⟩))), (14, SP.is (.agg (vB r.rc).toArray)), (15, SP.is (.pointer (some ⟨x, 22, none⟩))), (16, SP.is (.agg (vQ r.am).toArray)), (17, SP.is (.agg Lz.toArray)), (5, SP.any), (1000, SP.any)] := ⟨_, rfl⟩
  refine wp_region_down (by kernel_rfl) (fun listed ac W => ∃ (bb : Nat), listed.size = 14 ∧ Fp D a0 listed ac W ∧ Below w.heap.size w W ∧ Row W x ((rwc r)) 42 ∧ Row W y zLf 39 ∧ (listed.getD 12 false = true → ac.eval (.tmp 5) = .pointer (some ⟨bb, 0, none⟩) ∧ y < bb ∧ Row W bb (if listed.getD 13 false = true then Lz else zLf) 39) ∧ (listed.getD 13 false = true → listed.getD 12 false = true)) ?_ ?_ ?_
  · exact ⟨0, by simp, Fp.start D a0 _ _, Below.drew hb, Row.drew rr, Row.drew ry, (fun h => (start_no h).elim), (fun h => (start_no h).elim)⟩
  · clear ha0 hb rr ry 
    intro listed ac W k hI hdn hk
    obtain ⟨bb, hl, hF, hb, rr, ry, al12, as12⟩ := hI
    have hk1 : k < 14 := List.mem_range.1 (List.mem_filter.1 hk).1
    have hl2 : ∀ j, (listed.setIfInBounds j true).size = 14 := fun j => by rw [Array.size_setIfInBounds]; exact hl
    rcases (show k = 0 ∨ k = 1 ∨ k = 2 ∨ k = 3 ∨ k = 4 ∨ k = 5 ∨ k = 6 ∨ k = 7 ∨ k = 8 ∨ k = 9 ∨ k = 10 ∨ k = 11 ∨ k = 12 ∨ k = 13 by omega) with rfl | rfl | rfl | rfl | rfl | rfl | rfl | rfl | rfl | rfl | rfl | rfl | rfl | rfl
    · have hk3 := hk
      exact wpOp_plain rfl rfl (wp_move_v (ac.eval (.tmp 1)) rfl rfl ⟨bb, hl2 0, (hF.put 0 6 (SP.is (.int .i64 (i : Int))) (ac.eval (.tmp 1)) (by rw [hD]; rfl) (((hF.keep 1 (by rw [hD]; rfl)).trans zs1)) (by rw [hD]; rfl) (by rw [hsz]; decide) (by rw [hl]; decide)), hb, rr, ry, (fun h => ⟨(eval_put_other ac _ (by decide)).trans ((al12 (by rwa [getD_set _ _ _ (by decide)] at h)).1), (al12 (by rwa [getD_set _ _ _ (by decide)] at h)).2.1, by rw [getD_set _ _ _ (by decide)]; exact (al12 (by rwa [getD_set _ _ _ (by decide)] at h)).2.2⟩), (fun h => by rw [getD_set _ _ _ (by decide)]; exact as12 (by rwa [getD_set _ _ _ (by decide)] at h))⟩)
    · have hk3 := hk
      have e2 := ((hF.keep 2 (by rw [hD]; rfl)).trans zs2)
      exact wpOp_plain rfl rfl (wp_fr0 x rfl e2 ⟨bb, hl2 1, (hF.put 1 7 (SP.is (.pointer (some ⟨x, 0, none⟩))) (.pointer (some ⟨x, 0, none⟩)) (by rw [hD]; rfl) rfl (by rw [hD]; rfl) (by rw [hsz]; decide) (by rw [hl]; decide)), hb, rr, ry, (fun h => ⟨(eval_put_other ac _ (by decide)).trans ((al12 (by rwa [getD_set _ _ _ (by decide)] at h)).1), (al12 (by rwa [getD_set _ _ _ (by decide)] at h)).2.1, by rw [getD_set _ _ _ (by decide)]; exact (al12 (by rwa [getD_set _ _ _ (by decide)] at h)).2.2⟩), (fun h => by rw [getD_set _ _ _ (by decide)]; exact as12 (by rwa [getD_set _ _ _ (by decide)] at h))⟩)
    · have hk3 := hk
      have ee := (hF.done 1 (7, SP.is (.pointer (some ⟨x, 0, none⟩))) (by rw [hD]; rfl) (ready_dep hk 1 (by kernel_rfl)))
      exact wpOp_plain rfl rfl (wp_ri rfl x 0 ee r.en (rw_en rr) ⟨bb, hl2 2, (hF.put 2 8 (SP.is (.int .i64 r.en)) (.int .i64 r.en) (by rw [hD]; rfl) rfl (by rw [hD]; rfl) (by rw [hsz]; decide) (by rw [hl]; decide)), hb, rr, ry, (fun h => ⟨(eval_put_other ac _ (by decide)).trans ((al12 (by rwa [getD_set _ _ _ (by decide)] at h)).1), (al12 (by rwa [getD_set _ _ _ (by decide)] at h)).2.1, by rw [getD_set _ _ _ (by decide)]; exact (al12 (by rwa [getD_set _ _ _ (by decide)] at h)).2.2⟩), (fun h => by rw [getD_set _ _ _ (by decide)]; exact as12 (by rwa [getD_set _ _ _ (by decide)] at h))⟩)
    · have hk3 := hk
      have ee := (hF.done 2 (8, SP.is (.int .i64 r.en)) (by rw [hD]; rfl) (ready_dep hk 2 (by kernel_rfl)))
      refine wpOp_plain rfl rfl (wp_fcall_v 18 #[.int .i64 r.en, .int .i64 1099511627776] rfl rfl (by show [ac.eval (.tmp 8), .int .i64 1099511627776] = _; rw [show ac.eval (.tmp 8) = .int .i64 r.en from ee]) (by go_simp) ((HP1.out W).mono ?_))
      rintro e W2 ⟨rfl, hB⟩
      exact ⟨_, rfl, bb, hl2 3, ((hF.world hB).put 3 9 (SP.is (.int .i64 en)) (.int .i64 en) (by rw [hD]; rfl) rfl (by rw [hD]; rfl) (by rw [hsz]; decide) (by rw [hl]; decide)), hb.trans (hB.mono hb.size), Row.below rr hB (Row.lt rr), Row.below ry hB (Row.lt ry), (fun h => ⟨(eval_put_other ac _ (by decide)).trans ((al12 (by rwa [getD_set _ _ _ (by decide)] at h)).1), (al12 (by rwa [getD_set _ _ _ (by decide)] at h)).2.1, by rw [getD_set _ _ _ (by decide)]; exact Row.below (al12 (by rwa [getD_set _ _ _ (by decide)] at h)).2.2 hB (Row.lt (al12 (by rwa [getD_set _ _ _ (by decide)] at h)).2.2)⟩), (fun h => by rw [getD_set _ _ _ (by decide)]; exact as12 (by rwa [getD_set _ _ _ (by decide)] at h))⟩
    · have hk3 := hk
      have e2 := ((hF.keep 2 (by rw [hD]; rfl)).trans zs2)
      exact wpOp_plain rfl rfl (wp_fr1 x rfl e2 ⟨bb, hl2 4, (hF.put 4 10 (SP.is (.pointer (some ⟨x, 1, none⟩))) (.pointer (some ⟨x, 1, none⟩)) (by rw [hD]; rfl) rfl (by rw [hD]; rfl) (by rw [hsz]; decide) (by rw [hl]; decide)), hb, rr, ry, (fun h => ⟨(eval_put_other ac _ (by decide)).trans ((al12 (by rwa [getD_set _ _ _ (by decide)] at h)).1), (al12 (by rwa [getD_set _ _ _ (by decide)] at h)).2.1, by rw [getD_set _ _ _ (by decide)]; exact (al12 (by rwa [getD_set _ _ _ (by decide)] at h)).2.2⟩), (fun h => by rw [getD_set _ _ _ (by decide)]; exact as12 (by rwa [getD_set _ _ _ (by decide)] at h))⟩)
    · have hk3 := hk
      have ee := (hF.done 4 (10, SP.is (.pointer (some ⟨x, 1, none⟩))) (by rw [hD]; rfl) (ready_dep hk 4 (by kernel_rfl)))
      exact wpOp_plain rfl rfl (wp_ri rfl x 1 ee r.tk (rw_tk rr) ⟨bb, hl2 5, (hF.put 5 11 (SP.is (.int .i64 r.tk)) (.int .i64 r.tk) (by rw [hD]; rfl) rfl (by rw [hD]; rfl) (by rw [hsz]; decide) (by rw [hl]; decide)), hb, rr, ry, (fun h => ⟨(eval_put_other ac _ (by decide)).trans ((al12 (by rwa [getD_set _ _ _ (by decide)] at h)).1), (al12 (by rwa [getD_set _ _ _ (by decide)] at h)).2.1, by rw [getD_set _ _ _ (by decide)]; exact (al12 (by rwa [getD_set _ _ _ (by decide)] at h)).2.2⟩), (fun h => by rw [getD_set _ _ _ (by decide)]; exact as12 (by rwa [getD_set _ _ _ (by decide)] at h))⟩)
    · have hk3 := hk
      have ee := (hF.done 5 (11, SP.is (.int .i64 r.tk)) (by rw [hD]; rfl) (ready_dep hk 5 (by kernel_rfl)))
      refine wpOp_plain rfl rfl (wp_fcall_v 18 #[.int .i64 r.tk, .int .i64 64] rfl rfl (by show [ac.eval (.tmp 11), .int .i64 64] = _; rw [show ac.eval (.tmp 11) = .int .i64 r.tk from ee]) (by go_simp) ((HP2.out W).mono ?_))
      rintro e W2 ⟨rfl, hB⟩
      exact ⟨_, rfl, bb, hl2 6, ((hF.world hB).put 6 12 (SP.is (.int .i64 tk)) (.int .i64 tk) (by rw [hD]; rfl) rfl (by rw [hD]; rfl) (by rw [hsz]; decide) (by rw [hl]; decide)), hb.trans (hB.mono hb.size), Row.below rr hB (Row.lt rr), Row.below ry hB (Row.lt ry), (fun h => ⟨(eval_put_other ac _ (by decide)).trans ((al12 (by rwa [getD_set _ _ _ (by decide)] at h)).1), (al12 (by rwa [getD_set _ _ _ (by decide)] at h)).2.1, by rw [getD_set _ _ _ (by decide)]; exact Row.below (al12 (by rwa [getD_set _ _ _ (by decide)] at h)).2.2 hB (Row.lt (al12 (by rwa [getD_set _ _ _ (by decide)] at h)).2.2)⟩), (fun h => by rw [getD_set _ _ _ (by decide)]; exact as12 (by rwa [getD_set _ _ _ (by decide)] at h))⟩
    · have hk3 := hk
      have e2 := ((hF.keep 2 (by rw [hD]; rfl)).trans zs2)
      exact wpOp_plain rfl rfl (wp_fr2 x rfl e2 ⟨bb, hl2 7, (hF.put 7 13 (SP.is (.pointer (some ⟨x, 2, none⟩))) (.pointer (some ⟨x, 2, none⟩)) (by rw [hD]; rfl) rfl (by rw [hD]; rfl) (by rw [hsz]; decide) (by rw [hl]; decide)), hb, rr, ry, (fun h => ⟨(eval_put_other ac _ (by decide)).trans ((al12 (by rwa [getD_set _ _ _ (by decide)] at h)).1), (al12 (by rwa [getD_set _ _ _ (by decide)] at h)).2.1, by rw [getD_set _ _ _ (by decide)]; exact (al12 (by rwa [getD_set _ _ _ (by decide)] at h)).2.2⟩), (fun h => by rw [getD_set _ _ _ (by decide)]; exact as12 (by rwa [getD_set _ _ _ (by decide)] at h))⟩)
    · have hk3 := hk
      exact wpOp_plain rfl rfl (wp_load_mid 34 (.tmp 13) rfl x 2 (hF.done 7 (13, SP.is (.pointer (some ⟨x, 2, none⟩))) (by rw [hD]; rfl) (ready_dep hk 7 (by kernel_rfl))) (vB r.rc) _ (rw_rc rr) Tryz.underlying34 rfl HIA.out ⟨bb, hl2 8, (hF.put 8 14 (SP.is (.agg (vB r.rc).toArray)) (.agg (vB r.rc).toArray) (by rw [hD]; rfl) rfl (by rw [hD]; rfl) (by rw [hsz]; decide) (by rw [hl]; decide)), hb, rr, ry, (fun h => ⟨(eval_put_other ac _ (by decide)).trans ((al12 (by rwa [getD_set _ _ _ (by decide)] at h)).1), (al12 (by rwa [getD_set _ _ _ (by decide)] at h)).2.1, by rw [getD_set _ _ _ (by decide)]; exact (al12 (by rwa [getD_set _ _ _ (by decide)] at h)).2.2⟩), (fun h => by rw [getD_set _ _ _ (by decide)]; exact as12 (by rwa [getD_set _ _ _ (by decide)] at h))⟩)
    · have hk3 := hk
      have e2 := ((hF.keep 2 (by rw [hD]; rfl)).trans zs2)
      exact wpOp_plain rfl rfl (wp_fr3 x rfl e2 ⟨bb, hl2 9, (hF.put 9 15 (SP.is (.pointer (some ⟨x, 22, none⟩))) (.pointer (some ⟨x, 22, none⟩)) (by rw [hD]; rfl) rfl (by rw [hD]; rfl) (by rw [hsz]; decide) (by rw [hl]; decide)), hb, rr, ry, (fun h => ⟨(eval_put_other ac _ (by decide)).trans ((al12 (by rwa [getD_set _ _ _ (by decide)] at h)).1), (al12 (by rwa [getD_set _ _ _ (by decide)] at h)).2.1, by rw [getD_set _ _ _ (by decide)]; exact (al12 (by rwa [getD_set _ _ _ (by decide)] at h)).2.2⟩), (fun h => by rw [getD_set _ _ _ (by decide)]; exact as12 (by rwa [getD_set _ _ _ (by decide)] at h))⟩)
    · have hk3 := hk
      exact wpOp_plain rfl rfl (wp_load_mid 37 (.tmp 15) rfl x 22 (hF.done 9 (15, SP.is (.pointer (some ⟨x, 22, none⟩))) (by rw [hD]; rfl) (ready_dep hk 9 (by kernel_rfl))) (vQ r.am) _ (rw_am rr HK1.out) Tryz.underlying37 rfl HIW.out ⟨bb, hl2 10, (hF.put 10 16 (SP.is (.agg (vQ r.am).toArray)) (.agg (vQ r.am).toArray) (by rw [hD]; rfl) rfl (by rw [hD]; rfl) (by rw [hsz]; decide) (by rw [hl]; decide)), hb, rr, ry, (fun h => ⟨(eval_put_other ac _ (by decide)).trans ((al12 (by rwa [getD_set _ _ _ (by decide)] at h)).1), (al12 (by rwa [getD_set _ _ _ (by decide)] at h)).2.1, by rw [getD_set _ _ _ (by decide)]; exact (al12 (by rwa [getD_set _ _ _ (by decide)] at h)).2.2⟩), (fun h => by rw [getD_set _ _ _ (by decide)]; exact as12 (by rwa [getD_set _ _ _ (by decide)] at h))⟩)
    · have hk3 := hk
      have e6 := (hF.done 0 (6, SP.is (.int .i64 (i : Int))) (by rw [hD]; rfl) (ready_dep hk 0 (by kernel_rfl)))
      have e9 := (hF.done 3 (9, SP.is (.int .i64 en)) (by rw [hD]; rfl) (ready_dep hk 3 (by kernel_rfl)))
      have e12 := (hF.done 6 (12, SP.is (.int .i64 tk)) (by rw [hD]; rfl) (ready_dep hk 6 (by kernel_rfl)))
      have e14 := (hF.done 8 (14, SP.is (.agg (vB r.rc).toArray)) (by rw [hD]; rfl) (ready_dep hk 8 (by kernel_rfl)))
      have e16 := (hF.done 10 (16, SP.is (.agg (vQ r.am).toArray)) (by rw [hD]; rfl) (ready_dep hk 10 (by kernel_rfl)))
      exact wpOp_plain rfl rfl (wp_buildL rfl (i : Int) en tk r.rc r.am HK1.out HK2.out e6 e9 e12 e14 e16 Lz HLz.out ⟨bb, hl2 11, (hF.put 11 17 (SP.is (.agg Lz.toArray)) (.agg Lz.toArray) (by rw [hD]; rfl) rfl (by rw [hD]; rfl) (by rw [hsz]; decide) (by rw [hl]; decide)), hb, rr, ry, (fun h => ⟨(eval_put_other ac _ (by decide)).trans ((al12 (by rwa [getD_set _ _ _ (by decide)] at h)).1), (al12 (by rwa [getD_set _ _ _ (by decide)] at h)).2.1, by rw [getD_set _ _ _ (by decide)]; exact (al12 (by rwa [getD_set _ _ _ (by decide)] at h)).2.2⟩), (fun h => by rw [getD_set _ _ _ (by decide)]; exact as12 (by rwa [getD_set _ _ _ (by decide)] at h))⟩)
    · have hk3 := hk
      have hsm : y < W.heap.size := Row.lt ry
      have hB : Below W.heap.size W (W.alloc (Obj.cells zLf.toArray 39)) := (Below.refl _ _).alloc (Nat.le_refl _) _
      have hns : ¬ listed.getD 13 false = true := fun h => not_yet hk (as12 h)
      exact wpOp_plain rfl rfl (wp_allocL rfl ⟨W.heap.size, hl2 12, ((hF.world hB).put 12 5 (SP.any) (.pointer (some ⟨W.heap.size, 0, none⟩)) (by rw [hD]; rfl) trivial (by rw [hD]; rfl) (by rw [hsz]; decide) (by rw [hl]; decide)), hb.alloc hb.size _, Row.alloc rr _, Row.alloc ry _, (fun _ => ⟨eval_put_same ac _ (by rw [hF.size, hsz]; decide), hsm, by rw [getD_set _ _ _ (by decide), if_neg hns]; exact Row.new' rfl rfl⟩), (fun _ => getD_same (by rw [hl]; decide))⟩)
    · have hk3 := hk
      have hal := ready_dep hk 12 (by kernel_rfl)
      obtain ⟨e1, m1, y2⟩ := al12 hal
      rw [if_neg (not_yet hk)] at y2
      have T := y2.there 0 Lz.toArray.size (by rw [List.size_toArray, HLN.out]; decide)
      have fin := y2.over (vs := Lz) (by rw [HLN.out]; rfl)
      have hT : Fp D a0 listed ac (W.setCells bb 0 Lz) := hF.turn (by rw [hD]; simp only [List.forall_mem_cons, List.not_mem_nil, false_implies, implies_true, and_true]; exact ⟨fun _ h => h, fun _ h => h, fun _ h => h, fun _ h => h, fun _ h => h, fun _ h => h, fun _ h => h, fun _ h => h, fun _ h => h, fun _ h => h, fun _ h => h, fun _ h => h, fun _ h => h, fun _ h => h⟩)
      exact wpOp_plain rfl rfl (wp_store_mid 39 (.tmp 5) (.tmp 17) rfl bb 0 Lz.toArray e1 (hF.done 11 (17, SP.is (.agg Lz.toArray)) (by rw [hD]; rfl) (ready_dep hk 11 (by kernel_rfl))) T HLJ.out HLO.out ⟨bb, hl2 13, (hT.skip 13 1000 (by rw [hD]; rfl) (by rw [hl]; decide)), below_setCells hb (by omega) _, Row.setCells_other rr _ _ _ (by omega), Row.setCells_other ry _ _ _ (by omega), (fun _ => ⟨e1, m1, by rw [if_pos (getD_same (by rw [hl]; decide))]; exact fin⟩), (fun _ => by rw [getD_set _ _ _ (by decide)]; exact hal)⟩)
  · clear hb rr ry 
    intro listed ac W hI hr
    obtain ⟨bb, hl, hF, hb, rr, ry, al12, as12⟩ := hI
    have hall := all_listed (by kernel_rfl) hl hr
    obtain ⟨ea5, m5, p5⟩ := al12 (hall 12 (by decide))
    rw [if_pos (hall 13 (by decide))] at p5
    have h6 : ac.eval (.tmp 6) = .int .i64 (i : Int) := hF.done 0 (6, SP.is (.int .i64 (i : Int))) (by rw [hD]; rfl) (hall 0 (by decide))
    have h7 : ac.eval (.tmp 7) = .pointer (some ⟨x, 0, none⟩) := hF.done 1 (7, SP.is (.pointer (some ⟨x, 0, none⟩))) (by rw [hD]; rfl) (hall 1 (by decide))
    have h8 : ac.eval (.tmp 8) = .int .i64 r.en := hF.done 2 (8, SP.is (.int .i64 r.en)) (by rw [hD]; rfl) (hall 2 (by decide))
    have h9 : ac.eval (.tmp 9) = .int .i64 en := hF.done 3 (9, SP.is (.int .i64 en)) (by rw [hD]; rfl) (hall 3 (by decide))
    have h10 : ac.eval (.tmp 10) = .pointer (some ⟨x, 1, none⟩) := hF.done 4 (10, SP.is (.pointer (some ⟨x, 1, none⟩))) (by rw [hD]; rfl) (hall 4 (by decide))
    have h11 : ac.eval (.tmp 11) = .int .i64 r.tk := hF.done 5 (11, SP.is (.int .i64 r.tk)) (by rw [hD]; rfl) (hall 5 (by decide))
    have h12 : ac.eval (.tmp 12) = .int .i64 tk := hF.done 6 (12, SP.is (.int .i64 tk)) (by rw [hD]; rfl) (hall 6 (by decide))
    have h13 : ac.eval (.tmp 13) = .pointer (some ⟨x, 2, none⟩) := hF.done 7 (13, SP.is (.pointer (some ⟨x, 2, none⟩))) (by rw [hD]; rfl) (hall 7 (by decide))
    have h14 : ac.eval (.tmp 14) = .agg (vB r.rc).toArray := hF.done 8 (14, SP.is (.agg (vB r.rc).toArray)) (by rw [hD]; rfl) (hall 8 (by decide))
    have h15 : ac.eval (.tmp 15) = .pointer (some ⟨x, 22, none⟩) := hF.done 9 (15, SP.is (.pointer (some ⟨x, 22, none⟩))) (by rw [hD]; rfl) (hall 9 (by decide))
    have h16 : ac.eval (.tmp 16) = .agg (vQ r.am).toArray := hF.done 10 (16, SP.is (.agg (vQ r.am).toArray)) (by rw [hD]; rfl) (hall 10 (by decide))
    have h17 : ac.eval (.tmp 17) = .agg Lz.toArray := hF.done 11 (17, SP.is (.agg Lz.toArray)) (by rw [hD]; rfl) (hall 11 (by decide))
    have ea := hF.lay [(6, .int .i64 (i : Int)), (7, .pointer (some ⟨x, 0, none⟩)), (8, .int .i64 r.en), (9, .int .i64 en), (10, .pointer (some ⟨x, 1, none⟩)), (11, .int .i64 r.tk), (12, .int .i64 tk), (13, .pointer (some ⟨x, 2, none⟩)), (14, .agg (vB r.rc).toArray), (15, .pointer (some ⟨x, 22, none⟩)), (16, .agg (vQ r.am).toArray), (17, .agg Lz.toArray), (5, .pointer (some ⟨bb, 0, none⟩))] (by rw [hD, hsz]; rfl) (by simp only [List.forall_mem_cons, List.not_mem_nil, false_implies, implies_true, and_true]; exact ⟨h6, h7, h8, h9, h10, h11, h12, h13, h14, h15, h16, h17, ea5⟩)
    rw [ha0] at ea
    simp only [List.foldl_cons, List.foldl_nil, List.setIfInBounds_toArray, List.set_cons_zero, List.set_cons_succ] at ea
    clear hF hall hr hl hD al12 as12 zs1 zs2 zs4 ha0 hsz h6 h7 h8 h9 h10 h11 h12 h13 h14 h15 h16 h17 ea5
    subst ea

    have Lb : Hid (y < bb) := by show _ < _; omega
    have HB : Hid (Below w.heap.size w W) := hb
    have RB : Hid (Row W bb Lz 39) := p5
    have RY : Hid (Row W y zLf 39) := ry
    have HWY : Hid (w.heap.size ≤ y) := hwx
    clear p5 hb rr ry HP1 HP2 hwx hxy
    have RA : Hid (W.rangeAt bb 23 (vQ r.am)) := lf_ram HK1.out (by rw [← HLz.out]; exact RB.out)
    by_cases hz : r.am = List.replicate 4 0
    · have HZ : Hid (decide (r.am = List.replicate 4 0) = true) := decide_eq_true hz
      have HS : Hid (Lz.set 26 (.int .u64 9) = Ly) := by show _ = _; rw [HLz.out, HLy.out, am9_z hz, hz]; exact lf_set _ _ _ _ HK1.out
      have HL26 : Hid (26 < Lz.length) := by show _ < _; rw [HLN.out]; decide
      have HLL : Hid (Ly.length = Lz.length) := by show _ = _; rw [← HS.out, List.length_set]
      clear hz
      go_wp2_with (first
        | (refine wpList_load_w rfl 37 (.tmp 18) rfl bb 23 rfl (vQ r.am) _ RA.out Tryz.underlying37 rfl HIW.out ?_; simp only [Act.put, List.setIfInBounds_toArray, List.set_cons_zero, List.set_cons_succ])
        | (refine wpList_eql_q rfl (.tmp 19) (.tmp 20) _ rfl r.am (List.replicate 4 0) HK2.out rfl rfl rfl true HZ.out ?_; simp only [Act.put, List.setIfInBounds_toArray, List.set_cons_zero, List.set_cons_succ])
        | (refine wpList_set1 rfl 35 (.tmp 23) (.const (.int .u64 9)) rfl bb 26 (.int .u64 9) Lz 39 rfl rfl rfl RB.out HL26.out info_u64s rfl ?_; intro X3 q1 q2 q3; rw [HS.out] at q1; have R3 : Hid (Row X3 bb Ly 39) := q1; have G3 : Hid (Gro (· = bb) W X3) := q2; have RY3 : Hid (Row X3 y zLf 39) := q2.row RY.out (Nat.ne_of_lt Lb.out); clear q1 q2 q3; simp only [Act.put])
        | (refine wpList_load_w rfl 39 (.tmp 5) rfl bb 0 rfl Ly _ R3.out.all Tryz.underlying39 rfl HYI.out ?_; simp only [Act.put, List.setIfInBounds_toArray, List.set_cons_zero, List.set_cons_succ])
        | (refine wpList_storeL rfl 39 (.tmp 4) (.tmp 24) rfl y Ly zLf 39 rfl rfl RY3.out HYN.out HYI.out HYO.out ?_; intro X9 q1 q2; have E9 : Hid (X9 = _) := q1; have R9 : Hid (Row X9 y Ly 39) := q2; clear q1 q2; simp only [Act.put]))
      have hE : Below w.heap.size w X9 := by rw [E9.out]; exact below_setCells (HB.out.trans (G3.out.to_below HB.out.size (fun k q => by rw [q]; have := Lb.out; have := HWY.out; omega))) HWY.out _
      exact bodyPost_ret (results_rowS Tryz.results9 _ _ y 39 Ly rfl R9.out Tryz.underlying39 HYI.out) rfl ⟨rfl, hE⟩
    · have HZ : Hid (decide (r.am = List.replicate 4 0) = false) := decide_eq_false hz
      have HS : Hid (Lz = Ly) := by show _ = _; rw [HLz.out, HLy.out, am9_o hz]
      rw [HS.out] at RB
      clear hz
      go_wp2_with (first
        | (refine wpList_load_w rfl 37 (.tmp 18) rfl bb 23 rfl (vQ r.am) _ RA.out Tryz.underlying37 rfl HIW.out ?_; simp only [Act.put, List.setIfInBounds_toArray, List.set_cons_zero, List.set_cons_succ])
        | (refine wpList_eql_q rfl (.tmp 19) (.tmp 20) _ rfl r.am (List.replicate 4 0) HK2.out rfl rfl rfl false HZ.out ?_; simp only [Act.put, List.setIfInBounds_toArray, List.set_cons_zero, List.set_cons_succ])
        | (refine wpList_load_w rfl 39 (.tmp 5) rfl bb 0 rfl Ly _ RB.out.all Tryz.underlying39 rfl HYI.out ?_; simp only [Act.put, List.setIfInBounds_toArray, List.set_cons_zero, List.set_cons_succ])
        | (refine wpList_storeL rfl 39 (.tmp 4) (.tmp 24) rfl y Ly zLf 39 rfl rfl RY.out HYN.out HYI.out HYO.out ?_; intro X9 q1 q2; have E9 : Hid (X9 = _) := q1; have R9 : Hid (Row X9 y Ly 39) := q2; clear q1 q2; simp only [Act.put]))
      have hE : Below w.heap.size w X9 := by rw [E9.out]; exact below_setCells HB.out HWY.out _
      exact bodyPost_ret (results_rowS Tryz.results9 _ _ y 39 Ly rfl R9.out Tryz.underlying39 HYI.out) rfl ⟨rfl, hE⟩

end Go.Proofs.YtbfahgdienppoaaGreatDoor
