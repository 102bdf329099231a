/-
  sparse: a part into which nobody looks is told; the tree of two keys that part at their last bit.
-/
import Derived.Test.YtfdgdmehgbmnkaaDoorSpR
namespace Go.Proofs.YtfdgdmehgbmnkaaDoor
open Go Go.RowKit
open Sha

/-- Two parts of s cells, laid into 2 * s cells. -/
theorem fill_twoS (c d cells : Array Value) (hc : c.size = 32) (hd : d.size = 32) (hn : cells.size = 64) : Instr.fill (fun i => some (i * 32, 32)) cells [(0, .agg c), (1, .agg d)] = some (c.toList ++ d.toList).toArray := by
  obtain ⟨r, hr, hsz, hk⟩ := Great.fill_dense (s := 32) (by decide) [.agg c, .agg d] 0 cells (fun v hv => by rcases List.mem_cons.1 hv with rfl | hv; exact hc; obtain rfl := List.mem_singleton.1 hv; exact hd) (by simp; omega)
  have hr' : Instr.fill (fun i => some (i * 32, 32)) cells [(0, .agg c), (1, .agg d)] = some r := hr
  rw [hr']
  congr 1
  apply Array.ext_getElem?
  intro k
  have hT : (c.toList ++ d.toList).toArray[k]? = (c.toList ++ d.toList)[k]? := List.getElem?_toArray
  rw [hk k, hT]
  by_cases h1 : k < 32
  · rw [if_pos (by simp; omega), List.getElem?_append_left (by simp; omega), Nat.div_eq_of_lt (by omega), Nat.mod_eq_of_lt (by omega)]
    simp [Value.cells]
  · by_cases h2 : k < 64
    · rw [if_pos (by simp; omega), List.getElem?_append_right (by simp; omega), show k / 32 = 1 by omega, show k % 32 = k - 32 by omega]
      simp [hc, Value.cells]
    · rw [if_neg (by simp; omega), Array.getElem?_eq_none (by omega), List.getElem?_eq_none (by simp; omega)]
/-- A slice of two digests that lies somewhere. -/
def SP.dd (d : List (BitVec 8)) : SP := ⟨fun W v => ∃ gb, v = .slice (some ⟨gb, 0, none⟩) 2 2 ∧ Row W gb (vB d) 29, fun _ _ _ hB ⟨g, e, r⟩ => ⟨g, e, Row.below r hB r.lt⟩⟩
theorem wp_build_dd {Q : Exit → Act → World → Prop} {o : Oper} {a : Act} {w : World} {K : Act → World → Prop} (x y : Operand) (ho : o.op = .buildSlice 30 2 #[(0, x), (1, y)]) (r s : List (BitVec 8)) (hr : r.length = 32) (hs : s.length = 32) (hx : a.eval x = .agg (vB r).toArray) (hy : a.eval y = .agg (vB s).toArray)
    (h : ∀ W2, Row W2 w.heap.size (vB (r ++ s)) 29 → Below w.heap.size w W2 → K (a.put o.dst (.slice (some ⟨w.heap.size, 0, none⟩) 2 2)) W2) : Oper.wp Tryd.prog o a w K Q := by
  obtain ⟨ie, z, h1, h2, h3, _, h4⟩ := info_d_open
  refine wp_buildSlice 30 29 2 _ ho (vB (r ++ s)).toArray ie z Tryd.underlying30 h1 h2 (by rw [h3]; decide) (by rw [h3]; decide) ?_ (h _ (Row.new' rfl rfl) ((Below.refl _ _).alloc (Nat.le_refl _) _))
  rw [show (Array.map (fun (p : Nat × Operand) => match p with | (i, x) => (i, a.eval x)) #[(0, x), (1, y)]).toList = [(0, a.eval x), (1, a.eval y)] by simp, hx, hy, h3]
  rw [vB_append]
  exact fill_twoS _ _ _ (by simp [vB_length, hr]) (by simp [vB_length, hs]) (by simp)
set_option maxRecDepth 100000 in
set_option maxHeartbeats 4000000 in

theorem tell_two0 (b H kk s : Nat) (i : Nat) (l r : Tr) (p : Value) (w : World) (hN : NodeAt w (.two l r) p) (hm : 1 < l.size + r.size) (h : TlAt w b H kk s) (hkb : kk ≤ 1099511627776) (hsb : s ≤ 1099511627776) (hmd : ¬ kk % 4 = 0) (A : Option Addr) (cp : Nat) :
    Calls Tryd.prog 48 #[pt b, p, .slice A 0 cp, .int .i64 (i : Int)] w (Told w b (kk + 1) (s + 2)) := by
  obtain ⟨bn, pl, pr, rfl, rn, hnl, hnr⟩ := hN
  obtain ⟨n, hn⟩ : ∃ n, n = l.size + r.size := ⟨_, rfl⟩
  rw [← hn] at rn hm
  have hn1 : ¬ (n : Int) = 1 := by omega
  obtain ⟨NC, hNC⟩ : ∃ NC, NC = ncs (Tr.two l r).dg n z64 pl pr := ⟨_, rfl⟩
  rw [← hNC] at rn
  have hDL : (Tr.two l r).dg.length = 32 := Tr.dg_len _
  have CN : w.cell? ⟨bn, 32, none⟩ = some (.int .i64 (n : Int)) := rn.cell 32 _ (by rw [hNC]; exact ncs_cnt _ _ _ _ _ hDL)
  have HC97 : Hid (NC[97]? = some pl) := by show _ = _; rw [hNC]; exact ncs_left _ _ _ _ _ hDL rfl
  have HC98 : Hid (NC[98]? = some pr) := by show _ = _; rw [hNC]; exact ncs_right _ _ _ _ _ hDL rfl
  have HBL : b < w.heap.size := by obtain ⟨_, _, _, _, rT, _⟩ := h; exact rT.lt
  have HKB : Hid (kk ≤ 1099511627776) := hkb
  have HSB : Hid (s ≤ 1099511627776) := hsb
  have HMD : Hid (¬ kk % 4 = 0) := hmd
  obtain ⟨dl, hdl⟩ : ∃ d, d = l.dg := ⟨_, rfl⟩
  obtain ⟨dr, hdr⟩ : ∃ d, d = r.dg := ⟨_, rfl⟩
  have HLL : Hid (dl.length = 32) := by rw [hdl]; exact Tr.dg_len _
  have HLR : Hid (dr.length = 32) := by rw [hdr]; exact Tr.dg_len _
  have HDL : Hid (∀ W, Below w.heap.size w W → Calls Tryd.prog 44 #[pl] W fun e w' => e = .returned (.agg (vB dl).toArray) ∧ Below W.heap.size W w') := fun W k => by rw [hdl]; exact digest_n l pl W (NodeAt.be k _ _ hnl)
  have HDR : Hid (∀ W, Below w.heap.size w W → Calls Tryd.prog 44 #[pr] W fun e w' => e = .returned (.agg (vB dr).toArray) ∧ Below W.heap.size W w') := fun W k => by rw [hdr]; exact digest_n r pr W (NodeAt.be k _ _ hnr)
  have hT := h
  have hb1 := Below.refl w.heap.size w
  clear h hkb hsb hmd hnl hnr hNC hDL hn hm hdl hdr
  go_enter Tryd.func48, Tryd.ntmps48
  go_upto_region 11 with fail
  clear CN
  refine wp_named fun a0 ha0 => ?_
  have hsz : a0.tmps.size = 94 := by rw [ha0]; rfl
  have zs0 : a0.eval (.tmp 0) = .pointer (some ⟨b, 0, none⟩) := by rw [ha0]; rfl
  have zs1 : a0.eval (.tmp 1) = .pointer (some ⟨bn, 0, none⟩) := by rw [ha0]; rfl
  have zs2 : a0.eval (.tmp 2) = .slice A 0 cp := by rw [ha0]; rfl
  have zs3 : a0.eval (.tmp 3) = .int .i64 (i : Int) := by rw [ha0]; rfl
  obtain ⟨D, hD⟩ : ∃ D : List (Tmp × SP), D = [(81, SP.is (.pointer (some ⟨b, 0, none⟩))), (82, SP.is (.pointer (some ⟨bn, 0, none⟩))), (83, SP.is (.pointer (some ⟨bn, 0, none⟩))), (84, SP.is (.pointer (some ⟨bn, 97, none⟩))), (85, SP.is (pl)), (86, SP.is (.agg (vB dl).toArray)), (87, SP.is (.pointer (some ⟨bn, 0, none⟩))), (88, SP.is (.pointer (some ⟨bn, 0, none⟩))), (89, SP.is (.pointer (some ⟨bn, 98, none⟩))), (90, SP.is (pr)), (91, SP.is (.agg (vB dr).toArray)), (92, SP.any), (93, SP.is (.tuple #[]))] := ⟨_, rfl⟩
  refine wp_region_then (by kernel_rfl) 12 (by decide) (by kernel_rfl) (fun listed ac W => Fp D a0 listed ac W ∧ Below w.heap.size w W ∧ Row W bn NC 113 ∧ TlAt W b H kk s ∧ (listed.getD 11 false = true → (SP.dd (dl ++ dr)).P W (ac.eval (.tmp 92)))) (fun listed ac W => Fp D a0 listed ac W ∧ TlAt W b W.heap.size (kk + 1) (s + 2) ∧ KpT w W ∧ Below b w W) ?_ ?_ ?_ ?_ ?_
  · exact ⟨Fp.start D a0 _ _, Below.drew hb1, Row.drew rn, hT.below (Below.drew (Below.refl _ _)), (fun h => (start_no h).elim)⟩
  · clear ha0 hb1 rn hT
    intro listed ac W k hl hI hdn hk hne hnl
    replace hl : listed.size = 13 := hl
    obtain ⟨hF, hb1, rn, hT, ti11⟩ := hI
    have hk1 : k < 13 := List.mem_range.1 (List.mem_filter.1 hk).1
    rcases (show k = 0 ∨ k = 1 ∨ k = 2 ∨ k = 3 ∨ k = 4 ∨ k = 5 ∨ k = 6 ∨ k = 7 ∨ k = 8 ∨ k = 9 ∨ k = 10 ∨ k = 11 ∨ k = 12 by omega) with rfl | rfl | rfl | rfl | rfl | rfl | rfl | rfl | rfl | rfl | rfl | rfl | rfl
    · have hk3 := hk
      exact wpOp_plain rfl rfl (wp_move_v (ac.eval (.tmp 0)) rfl rfl ⟨(hF.put 0 81 (SP.is (.pointer (some ⟨b, 0, none⟩))) (ac.eval (.tmp 0)) (by rw [hD]; rfl) (((hF.keep 0 (by rw [hD]; rfl)).trans zs0)) (by rw [hD]; rfl) (by rw [hsz]; decide) (by rw [hl]; decide)), hb1, rn, hT, (fun h1 => by change (SP.dd (dl ++ dr)).P _ ((ac.put (some 81) _).eval (.tmp 92)); rw [eval_put_other ac _ (by decide)]; exact ti11 (by rwa [getD_set _ _ _ (by decide)] at h1))⟩)
    · have hk3 := hk
      exact wpOp_plain rfl rfl (wp_move_v (ac.eval (.tmp 1)) rfl rfl ⟨(hF.put 1 82 (SP.is (.pointer (some ⟨bn, 0, none⟩))) (ac.eval (.tmp 1)) (by rw [hD]; rfl) (((hF.keep 1 (by rw [hD]; rfl)).trans zs1)) (by rw [hD]; rfl) (by rw [hsz]; decide) (by rw [hl]; decide)), hb1, rn, hT, (fun h1 => by change (SP.dd (dl ++ dr)).P _ ((ac.put (some 82) _).eval (.tmp 92)); rw [eval_put_other ac _ (by decide)]; exact ti11 (by rwa [getD_set _ _ _ (by decide)] at h1))⟩)
    · have hk3 := hk
      have e := (hF.done 1 (82, SP.is (.pointer (some ⟨bn, 0, none⟩))) (by rw [hD]; rfl) (ready_dep hk 1 (by kernel_rfl)))
      exact wpOp_plain rfl rfl (wp_nilS rfl bn e ⟨(hF.put 2 83 (SP.is (.pointer (some ⟨bn, 0, none⟩))) (.pointer (some ⟨bn, 0, none⟩)) (by rw [hD]; rfl) rfl (by rw [hD]; rfl) (by rw [hsz]; decide) (by rw [hl]; decide)), hb1, rn, hT, (fun h1 => by change (SP.dd (dl ++ dr)).P _ ((ac.put (some 83) _).eval (.tmp 92)); rw [eval_put_other ac _ (by decide)]; exact ti11 (by rwa [getD_set _ _ _ (by decide)] at h1))⟩)
    · have hk3 := hk
      have e := (hF.done 2 (83, SP.is (.pointer (some ⟨bn, 0, none⟩))) (by rw [hD]; rfl) (ready_dep hk 2 (by kernel_rfl)))
      exact wpOp_plain rfl rfl (wp_nf3 rfl bn e ⟨(hF.put 3 84 (SP.is (.pointer (some ⟨bn, 97, none⟩))) (.pointer (some ⟨bn, 97, none⟩)) (by rw [hD]; rfl) rfl (by rw [hD]; rfl) (by rw [hsz]; decide) (by rw [hl]; decide)), hb1, rn, hT, (fun h1 => by change (SP.dd (dl ++ dr)).P _ ((ac.put (some 84) _).eval (.tmp 92)); rw [eval_put_other ac _ (by decide)]; exact ti11 (by rwa [getD_set _ _ _ (by decide)] at h1))⟩)
    · have hk3 := hk
      have e := (hF.done 3 (84, SP.is (.pointer (some ⟨bn, 97, none⟩))) (by rw [hD]; rfl) (ready_dep hk 3 (by kernel_rfl)))
      exact wpOp_plain rfl rfl (wp_ldp bn 97 pl rfl e (rn.cell 97 _ HC97.out) ⟨(hF.put 4 85 (SP.is (pl)) pl (by rw [hD]; rfl) rfl (by rw [hD]; rfl) (by rw [hsz]; decide) (by rw [hl]; decide)), hb1, rn, hT, (fun h1 => by change (SP.dd (dl ++ dr)).P _ ((ac.put (some 85) _).eval (.tmp 92)); rw [eval_put_other ac _ (by decide)]; exact ti11 (by rwa [getD_set _ _ _ (by decide)] at h1))⟩)
    · have hk3 := hk
      have ea := (hF.done 4 (85, SP.is (pl)) (by rw [hD]; rfl) (ready_dep hk 4 (by kernel_rfl)))
      refine wpOp_plain rfl rfl (wp_fcall_v 44 #[pl] rfl rfl (by show [ac.eval (.tmp 85)] = _; rw [show ac.eval (.tmp 85) = _ from ea]) (by go_simp) ((HDL.out W hb1).mono ?_))
      rintro e W2 ⟨rfl, hB⟩
      exact ⟨_, rfl, ((hF.world hB).put 5 86 (SP.is (.agg (vB dl).toArray)) (.agg (vB dl).toArray) (by rw [hD]; rfl) rfl (by rw [hD]; rfl) (by rw [hsz]; decide) (by rw [hl]; decide)), hb1.trans (hB.mono hb1.size), Row.below rn hB (Row.lt rn), hT.below hB, (fun h1 => by change (SP.dd (dl ++ dr)).P _ ((ac.put (some 86) _).eval (.tmp 92)); rw [eval_put_other ac _ (by decide)]; exact (SP.dd (dl ++ dr)).st _ _ _ hB (ti11 (by rwa [getD_set _ _ _ (by decide)] at h1)))⟩
    · have hk3 := hk
      exact wpOp_plain rfl rfl (wp_move_v (ac.eval (.tmp 1)) rfl rfl ⟨(hF.put 6 87 (SP.is (.pointer (some ⟨bn, 0, none⟩))) (ac.eval (.tmp 1)) (by rw [hD]; rfl) (((hF.keep 1 (by rw [hD]; rfl)).trans zs1)) (by rw [hD]; rfl) (by rw [hsz]; decide) (by rw [hl]; decide)), hb1, rn, hT, (fun h1 => by change (SP.dd (dl ++ dr)).P _ ((ac.put (some 87) _).eval (.tmp 92)); rw [eval_put_other ac _ (by decide)]; exact ti11 (by rwa [getD_set _ _ _ (by decide)] at h1))⟩)
    · have hk3 := hk
      have e := (hF.done 6 (87, SP.is (.pointer (some ⟨bn, 0, none⟩))) (by rw [hD]; rfl) (ready_dep hk 6 (by kernel_rfl)))
      exact wpOp_plain rfl rfl (wp_nilS rfl bn e ⟨(hF.put 7 88 (SP.is (.pointer (some ⟨bn, 0, none⟩))) (.pointer (some ⟨bn, 0, none⟩)) (by rw [hD]; rfl) rfl (by rw [hD]; rfl) (by rw [hsz]; decide) (by rw [hl]; decide)), hb1, rn, hT, (fun h1 => by change (SP.dd (dl ++ dr)).P _ ((ac.put (some 88) _).eval (.tmp 92)); rw [eval_put_other ac _ (by decide)]; exact ti11 (by rwa [getD_set _ _ _ (by decide)] at h1))⟩)
    · have hk3 := hk
      have e := (hF.done 7 (88, SP.is (.pointer (some ⟨bn, 0, none⟩))) (by rw [hD]; rfl) (ready_dep hk 7 (by kernel_rfl)))
      exact wpOp_plain rfl rfl (wp_nf4 rfl bn e ⟨(hF.put 8 89 (SP.is (.pointer (some ⟨bn, 98, none⟩))) (.pointer (some ⟨bn, 98, none⟩)) (by rw [hD]; rfl) rfl (by rw [hD]; rfl) (by rw [hsz]; decide) (by rw [hl]; decide)), hb1, rn, hT, (fun h1 => by change (SP.dd (dl ++ dr)).P _ ((ac.put (some 89) _).eval (.tmp 92)); rw [eval_put_other ac _ (by decide)]; exact ti11 (by rwa [getD_set _ _ _ (by decide)] at h1))⟩)
    · have hk3 := hk
      have e := (hF.done 8 (89, SP.is (.pointer (some ⟨bn, 98, none⟩))) (by rw [hD]; rfl) (ready_dep hk 8 (by kernel_rfl)))
      exact wpOp_plain rfl rfl (wp_ldp bn 98 pr rfl e (rn.cell 98 _ HC98.out) ⟨(hF.put 9 90 (SP.is (pr)) pr (by rw [hD]; rfl) rfl (by rw [hD]; rfl) (by rw [hsz]; decide) (by rw [hl]; decide)), hb1, rn, hT, (fun h1 => by change (SP.dd (dl ++ dr)).P _ ((ac.put (some 90) _).eval (.tmp 92)); rw [eval_put_other ac _ (by decide)]; exact ti11 (by rwa [getD_set _ _ _ (by decide)] at h1))⟩)
    · have hk3 := hk
      have ea := (hF.done 9 (90, SP.is (pr)) (by rw [hD]; rfl) (ready_dep hk 9 (by kernel_rfl)))
      refine wpOp_plain rfl rfl (wp_fcall_v 44 #[pr] rfl rfl (by show [ac.eval (.tmp 90)] = _; rw [show ac.eval (.tmp 90) = _ from ea]) (by go_simp) ((HDR.out W hb1).mono ?_))
      rintro e W2 ⟨rfl, hB⟩
      exact ⟨_, rfl, ((hF.world hB).put 10 91 (SP.is (.agg (vB dr).toArray)) (.agg (vB dr).toArray) (by rw [hD]; rfl) rfl (by rw [hD]; rfl) (by rw [hsz]; decide) (by rw [hl]; decide)), hb1.trans (hB.mono hb1.size), Row.below rn hB (Row.lt rn), hT.below hB, (fun h1 => by change (SP.dd (dl ++ dr)).P _ ((ac.put (some 91) _).eval (.tmp 92)); rw [eval_put_other ac _ (by decide)]; exact (SP.dd (dl ++ dr)).st _ _ _ hB (ti11 (by rwa [getD_set _ _ _ (by decide)] at h1)))⟩
    · have hk3 := hk
      have e1 := (hF.done 5 (86, SP.is (.agg (vB dl).toArray)) (by rw [hD]; rfl) (ready_dep hk 5 (by kernel_rfl)))
      have e2 := (hF.done 10 (91, SP.is (.agg (vB dr).toArray)) (by rw [hD]; rfl) (ready_dep hk 10 (by kernel_rfl)))
      refine wpOp_plain rfl rfl (wp_build_dd (.tmp 86) (.tmp 91) rfl dl dr HLL.out HLR.out e1 e2 ?_)
      intro W2 r9 hB
      exact ⟨((hF.world hB).put 11 92 (SP.any) (.slice (some ⟨W.heap.size, 0, none⟩) 2 2) (by rw [hD]; rfl) trivial (by rw [hD]; rfl) (by rw [hsz]; decide) (by rw [hl]; decide)), hb1.trans (hB.mono hb1.size), Row.below rn hB (Row.lt rn), hT.below hB, (fun _ => by change (SP.dd (dl ++ dr)).P _ ((ac.put (some 92) _).eval (.tmp 92)); rw [eval_put_same ac _ (by rw [hF.size, hsz]; decide)]; exact ⟨W.heap.size, rfl, r9⟩)⟩
    · exact absurd rfl hne
  · clear ha0 hb1 rn hT
    intro listed ac W hl hI hdn hk
    replace hl : listed.size = 13 := hl
    obtain ⟨hF, hb1, rn, hT, ti11⟩ := hI
    have ea := (hF.done 0 (81, SP.is (.pointer (some ⟨b, 0, none⟩))) (by rw [hD]; rfl) (ready_dep hk 0 (by kernel_rfl)))
    obtain ⟨gb, eb, rgb⟩ := (ti11 (ready_dep hk 11 (by kernel_rfl)))
    refine wpOp_plain rfl rfl (wp_fcall_v 66 #[pt b, .int .u8 (c 3#8), .slice (some ⟨gb, 0, none⟩) 2 2] rfl rfl (by show [ac.eval (.tmp 81), .int .u8 (c 3#8), ac.eval (.tmp 92)] = _; rw [show ac.eval (.tmp 81) = _ from ea, show ac.eval (.tmp 92) = _ from eb]) (by go_simp) ((mark_B1 b H kk s 3#8 W hT HKB.out HSB.out HMD.out gb 2 2 (vB (dl ++ dr)) rgb (by rw [vB_length, List.length_append, HLL.out, HLR.out]) (vB_one _) (by decide)).mono ?_))
    rintro e W2 ⟨rfl, qT, qK, qB⟩
    have hT : Fp D a0 listed ac W2 := hF.turn (by rw [hD]; simp only [List.forall_mem_cons, List.not_mem_nil, false_implies, implies_true, and_true]; exact ⟨fun _ h => h, fun _ h => h, fun _ h => h, fun _ h => h, fun _ h => h, fun _ h => h, fun _ h => h, fun _ h => h, fun _ h => h, fun _ h => h, fun _ h => h, fun _ h => h, fun _ h => h⟩)
    exact ⟨_, rfl, (hT.put 12 93 (SP.is (.tuple #[])) _ (by rw [hD]; rfl) rfl (by rw [hD]; rfl) (by rw [hsz]; decide) (by rw [hl]; decide)), qT, (KpT.of hb1).trans qK, (hb1.mono (Nat.le_of_lt HBL)).trans qB⟩
  · clear ha0 hb1 rn hT
    intro listed ac W k hl hJ hdn hk hne hyl
    replace hl : listed.size = 13 := hl
    obtain ⟨hF, hT, hK, hQ⟩ := hJ
    have hk1 : k < 13 := List.mem_range.1 (List.mem_filter.1 hk).1
    rcases (show k = 0 ∨ k = 1 ∨ k = 2 ∨ k = 3 ∨ k = 4 ∨ k = 5 ∨ k = 6 ∨ k = 7 ∨ k = 8 ∨ k = 9 ∨ k = 10 ∨ k = 11 ∨ k = 12 by omega) with rfl | rfl | rfl | rfl | rfl | rfl | rfl | rfl | rfl | rfl | rfl | rfl | rfl
    · exact absurd (hdn 12 hyl 0 (by kernel_rfl)) (not_yet hk)
    · exact absurd (hdn 2 (hdn 3 (hdn 4 (hdn 5 (hdn 11 (hdn 12 hyl 11 (by kernel_rfl)) 5 (by kernel_rfl)) 4 (by kernel_rfl)) 3 (by kernel_rfl)) 2 (by kernel_rfl)) 1 (by kernel_rfl)) (not_yet hk)
    · exact absurd (hdn 3 (hdn 4 (hdn 5 (hdn 11 (hdn 12 hyl 11 (by kernel_rfl)) 5 (by kernel_rfl)) 4 (by kernel_rfl)) 3 (by kernel_rfl)) 2 (by kernel_rfl)) (not_yet hk)
    · exact absurd (hdn 4 (hdn 5 (hdn 11 (hdn 12 hyl 11 (by kernel_rfl)) 5 (by kernel_rfl)) 4 (by kernel_rfl)) 3 (by kernel_rfl)) (not_yet hk)
    · exact absurd (hdn 5 (hdn 11 (hdn 12 hyl 11 (by kernel_rfl)) 5 (by kernel_rfl)) 4 (by kernel_rfl)) (not_yet hk)
    · exact absurd (hdn 11 (hdn 12 hyl 11 (by kernel_rfl)) 5 (by kernel_rfl)) (not_yet hk)
    · exact absurd (hdn 7 (hdn 8 (hdn 9 (hdn 10 (hdn 11 (hdn 12 hyl 11 (by kernel_rfl)) 10 (by kernel_rfl)) 9 (by kernel_rfl)) 8 (by kernel_rfl)) 7 (by kernel_rfl)) 6 (by kernel_rfl)) (not_yet hk)
    · exact absurd (hdn 8 (hdn 9 (hdn 10 (hdn 11 (hdn 12 hyl 11 (by kernel_rfl)) 10 (by kernel_rfl)) 9 (by kernel_rfl)) 8 (by kernel_rfl)) 7 (by kernel_rfl)) (not_yet hk)
    · exact absurd (hdn 9 (hdn 10 (hdn 11 (hdn 12 hyl 11 (by kernel_rfl)) 10 (by kernel_rfl)) 9 (by kernel_rfl)) 8 (by kernel_rfl)) (not_yet hk)
    · exact absurd (hdn 10 (hdn 11 (hdn 12 hyl 11 (by kernel_rfl)) 10 (by kernel_rfl)) 9 (by kernel_rfl)) (not_yet hk)
    · exact absurd (hdn 11 (hdn 12 hyl 11 (by kernel_rfl)) 10 (by kernel_rfl)) (not_yet hk)
    · exact absurd (hdn 12 hyl 11 (by kernel_rfl)) (not_yet hk)
    · exact absurd rfl hne
  · clear hb1 rn hT
    intro listed ac W hl hJ hr
    replace hl : listed.size = 13 := hl
    obtain ⟨hF, hT, hK, hQ⟩ := hJ
    have hall := all_listed (by kernel_rfl) hl hr
    have h81 : ac.eval (.tmp 81) = .pointer (some ⟨b, 0, none⟩) := hF.done 0 (81, SP.is (.pointer (some ⟨b, 0, none⟩))) (by rw [hD]; rfl) (hall 0 (by decide))
    have h82 : ac.eval (.tmp 82) = .pointer (some ⟨bn, 0, none⟩) := hF.done 1 (82, SP.is (.pointer (some ⟨bn, 0, none⟩))) (by rw [hD]; rfl) (hall 1 (by decide))
    have h83 : ac.eval (.tmp 83) = .pointer (some ⟨bn, 0, none⟩) := hF.done 2 (83, SP.is (.pointer (some ⟨bn, 0, none⟩))) (by rw [hD]; rfl) (hall 2 (by decide))
    have h84 : ac.eval (.tmp 84) = .pointer (some ⟨bn, 97, none⟩) := hF.done 3 (84, SP.is (.pointer (some ⟨bn, 97, none⟩))) (by rw [hD]; rfl) (hall 3 (by decide))
    have h85 : ac.eval (.tmp 85) = pl := hF.done 4 (85, SP.is (pl)) (by rw [hD]; rfl) (hall 4 (by decide))
    have h86 : ac.eval (.tmp 86) = .agg (vB dl).toArray := hF.done 5 (86, SP.is (.agg (vB dl).toArray)) (by rw [hD]; rfl) (hall 5 (by decide))
    have h87 : ac.eval (.tmp 87) = .pointer (some ⟨bn, 0, none⟩) := hF.done 6 (87, SP.is (.pointer (some ⟨bn, 0, none⟩))) (by rw [hD]; rfl) (hall 6 (by decide))
    have h88 : ac.eval (.tmp 88) = .pointer (some ⟨bn, 0, none⟩) := hF.done 7 (88, SP.is (.pointer (some ⟨bn, 0, none⟩))) (by rw [hD]; rfl) (hall 7 (by decide))
    have h89 : ac.eval (.tmp 89) = .pointer (some ⟨bn, 98, none⟩) := hF.done 8 (89, SP.is (.pointer (some ⟨bn, 98, none⟩))) (by rw [hD]; rfl) (hall 8 (by decide))
    have h90 : ac.eval (.tmp 90) = pr := hF.done 9 (90, SP.is (pr)) (by rw [hD]; rfl) (hall 9 (by decide))
    have h91 : ac.eval (.tmp 91) = .agg (vB dr).toArray := hF.done 10 (91, SP.is (.agg (vB dr).toArray)) (by rw [hD]; rfl) (hall 10 (by decide))
    obtain ⟨x92, h92⟩ : ∃ x, ac.eval (.tmp 92) = x := ⟨_, rfl⟩
    have h93 : ac.eval (.tmp 93) = .tuple #[] := hF.done 12 (93, SP.is (.tuple #[])) (by rw [hD]; rfl) (hall 12 (by decide))
    have ea := hF.lay [(81, .pointer (some ⟨b, 0, none⟩)), (82, .pointer (some ⟨bn, 0, none⟩)), (83, .pointer (some ⟨bn, 0, none⟩)), (84, .pointer (some ⟨bn, 97, none⟩)), (85, pl), (86, .agg (vB dl).toArray), (87, .pointer (some ⟨bn, 0, none⟩)), (88, .pointer (some ⟨bn, 0, none⟩)), (89, .pointer (some ⟨bn, 98, none⟩)), (90, pr), (91, .agg (vB dr).toArray), (92, x92), (93, .tuple #[])] (by rw [hD, hsz]; rfl) (by simp only [List.forall_mem_cons, List.not_mem_nil, false_implies, implies_true, and_true]; exact ⟨h81, h82, h83, h84, h85, h86, h87, h88, h89, h90, h91, h92, h93⟩)
    rw [ha0] at ea
    simp only [List.foldl_cons, List.foldl_nil, List.setIfInBounds_toArray, List.set_cons_zero, List.set_cons_succ] at ea
    clear hF hall hr hl hD zs0 zs1 zs2 zs3 ha0 hsz h81 h82 h83 h84 h85 h86 h87 h88 h89 h90 h91 h92 h93
    subst ea
    go_wp2_with fail
    exact bodyPost_end (results_none rfl _ _ _) rfl ⟨rfl, hT, hK, hQ⟩
/-- Two keys that part at their last bit: so many levels above the last one. -/
def spn (l r : Tr) : Nat → Tr
  | 0 => .two l r
  | n + 1 => .two (spn l r n) .nil
theorem spn_size (l r : Tr) : ∀ n, (spn l r n).size = l.size + r.size
  | 0 => rfl
  | n + 1 => by show (spn l r n).size + 0 = _; rw [spn_size l r n]; rfl
theorem spn_two (l r : Tr) (n : Nat) : ∃ a b, spn l r n = .two a b ∧ a.size + b.size = l.size + r.size := by
  cases n with
  | zero => exact ⟨l, r, rfl, rfl⟩
  | succ n => exact ⟨spn l r n, .nil, rfl, by rw [spn_size]; rfl⟩
theorem low2_bit : ∀ i : Fin 254, bitOf (lowD 2#8) i.val = false := by decide +kernel
theorem low2_254 : bitOf (lowD 2#8) 254 = true := by decide +kernel
theorem spine_told (b : Nat) (l r : Tr) (hm : 1 < l.size + r.size) (ab ao cap : Nat) (hc1 : 1 ≤ cap) : ∀ (n : Nat), n ≤ 254 → ∀ (p : Value) (w : World) (H : Nat), NodeAt w (spn l r (n + 1)) p → TlAt w b H (254 - n) 0 → (∀ W, KpT w W → W.rangeAt ab ao (vB (lowD 2#8))) →
    Calls Tryd.prog 48 #[pt b, p, .slice (some ⟨ab, ao, none⟩) 1 cap, .int .i64 ((254 - n : Nat) : Int)] w (Told w b (257 + n) 2)
  | 0, _, p, w, H, hN, hT, hR => by
    refine tell_two1 b H 254 0 (lowD 2#8) rfl 254 (by decide) (spn l r 0) .nil p w hN (by rw [spn_size]; show 1 < l.size + r.size + 0; omega) hT (by decide) (by decide) ab ao cap hc1 hR 0 (by rw [low2_254]; rfl) 256 2 257 2 ?_ ?_
    · intro pl W H' hn ht _
      exact tell_two0 b H' 255 0 255 l r pl W hn hm ht (by decide) (by decide) (by decide) _ _
    · rintro pr W H' rfl ht _
      exact tell_nil b H' 256 2 _ 255 W ht (by decide) (by decide)
  | n + 1, hn, p, w, H, hN, hT, hR => by
    have e1 : 254 - (n + 1) + 1 = 254 - n := by omega
    refine tell_two1 b H (254 - (n + 1)) 0 (lowD 2#8) rfl (254 - (n + 1)) (by omega) (spn l r (n + 1)) .nil p w hN (by rw [spn_size]; show 1 < l.size + r.size + 0; omega) hT (by omega) (by decide) ab ao cap hc1 hR 1 (by rw [low2_bit ⟨254 - (n + 1), by omega⟩]; rfl) (257 + n) 2 (257 + (n + 1)) 2 ?_ ?_
    · intro pl W H' hn' ht k
      rw [e1] at ht ⊢
      exact spine_told b l r hm ab ao cap hc1 n (by omega) pl W H' hn' ht (fun X kX => hR X (k.trans kX))
    · rintro pr W H' rfl ht _
      exact tell_nil b H' (257 + n) 2 _ _ W ht (by omega) (by decide)

end Go.Proofs.YtfdgdmehgbmnkaaDoor
