/-
  The document's root of a log.
-/
import Derived.Test.YtkgfaioinajkjaaDoorTLog2
import Derived.Test.YtkgfaioinajkjaaDoorTRRoot
import Derived.Deep.CutRange
namespace Go.Proofs.YtkgfaioinajkjaaDoor
open Go Go.RowKit
open Sha

section
variable {P : Program} {ops : Array Oper} {rest : List Oper} {op : Oper} {a : Act} {w : World} {Q : Exit → Act → World → Prop}
theorem wpList_storeL (hgd : op.guard = none) (ty : TypeId) (x y : Operand) (ho : op.op = .store ty x y) (b : Nat) (L M : List Value) (t : TypeId) (hx : a.eval x = .pointer (some ⟨b, 0, none⟩)) (hy : a.eval y = .agg L.toArray) (r : Row w b M t) (hl : L.length = M.length) (hi : (P.info? ty).map (·.size) = some L.length) (h1 : L.toArray.all (·.oneCell') = true)
    (h : ∀ X, X = w.setCells b 0 L → Row X b L t → wpList P ops Q rest (a.put op.dst undef) X) : wpList P ops Q (op :: rest) a w :=
  wpList_store_mid hgd ty x y ho b 0 L.toArray hx hy (r.there 0 _ (by rw [List.size_toArray, hl, Nat.zero_add]; exact Nat.le_refl _)) (by rw [hi, List.size_toArray]) h1 (h _ rfl (r.over hl))
theorem wpList_boxG (ty : TypeId) (hgd : op.guard = none) (x : Operand) (ho : op.op = .box ty x) (L : List Value) (hx : a.eval x = .agg L.toArray) (h : ∀ X, Row X w.heap.size L ty → Below w.heap.size w X → X.heap.size = w.heap.size + 1 → wpList P ops Q rest (a.put op.dst (.pointer (some ⟨w.heap.size, 0, none⟩))) X) : wpList P ops Q (op :: rest) a w :=
  wpList_plain hgd fun _ hK => by
    unfold Oper.wp execOp
    simp only [ho, hx]
    go_simp
    exact hK _ _ (h _ (Row.new' rfl rfl) ((Below.refl _ _).alloc (Nat.le_refl _) _) (by simp))
end
section
variable {ops : Array Oper} {rest : List Oper} {op : Oper} {a : Act} {w : World} {Q : Exit → Act → World → Prop}
theorem wpList_allocD (hgd : op.guard = none) (ho : op.op = .alloc 42) (h : ∀ X, Row X w.heap.size (vB (List.replicate 32 0#8)) 42 → Below w.heap.size w X → X.heap.size = w.heap.size + 1 → wpList Tryd.prog ops Q rest (a.put op.dst (.pointer (some ⟨w.heap.size, 0, none⟩))) X) : wpList Tryd.prog ops Q (op :: rest) a w :=
  wpList_plain hgd fun _ hK => by
    unfold Oper.wp execOp
    simp only [ho]
    go_simp
    exact hK _ _ (h _ (Row.new' (cs := (vB (List.replicate 32 0#8))) rfl rfl) ((Below.refl _ _).alloc (Nat.le_refl _) _) (by simp))
end
theorem wp_rf1 {o : Oper} {a : Act} {w : World} {K : Act → World → Prop} {Q : Exit → Act → World → Prop} {x : Operand} (b : Nat) (ho : o.op = .fieldAddr 28 x 1) (hx : a.eval x = .pointer (some ⟨b, 0, none⟩)) (h : K (a.put o.dst (.pointer (some ⟨b, 1, none⟩))) w) : Oper.wp Tryd.prog o a w K Q := by
  unfold Oper.wp execOp
  simp only [ho, hx]
  go_simp
  exact h
set_option maxRecDepth 100000 in
set_option maxHeartbeats 4000000 in
theorem rlroot_some (m : Int) (G : List (List (BitVec 8))) (z : List (BitVec 8)) (L : Nat) (hL0 : G.length = L) (hLs : L ≤ 100) (dr : List (BitVec 8)) (hdr : dr = G.foldr nd z) (hdl : ∀ d ∈ G ++ [z], d.length = 32) (v : Value) (LG : List Value) (hLG : LG = [.int .i64 m, v]) (w : World) (fG : Given w) (ho : Ow w v (L + 1) (vB (G ++ [z]).flatten)) :
    Calls Tryd.prog 13 #[.agg LG.toArray] w fun e w' => e = .returned (.agg (vB dr).toArray) ∧ Below w.heap.size w w' := by
  have hz : z.length = 32 := hdl z (by simp)
  have hGd : ∀ d ∈ G, d.length = 32 := fun d hd => hdl d (List.mem_append_left _ hd)
  have hlen : (G ++ [z]).length = L + 1 := by simp [hL0]
  obtain ⟨g, cap, hv⟩ := ho.open (by omega)
  subst hv
  have HR0 : Hid (∀ W, Below w.heap.size w W → ∀ k, k < L + 1 → W.rangeAt g (0 + k * 32) (vB ((G ++ [z]).getD k []))) := fun W hB k hk => by rw [Nat.zero_add]; exact (ho.be hB).at hlen hdl k hk
  have HRz : Hid (∀ W, Below w.heap.size w W → W.rangeAt g (0 + L * 32) (vB z)) := fun W hB => by
    have q := HR0.out W hB L (by omega)
    rw [← hL0, getD_last] at q
    rw [← hL0]; exact q
  have HKT : Hid (∀ W, Below w.heap.size w W → Given W) := fun W hB => fG.low hB
  have HGL : Hid (G.length = L) := hL0
  have HGD : Hid (∀ d ∈ G, d.length = 32) := hGd
  have HZ : Hid (z.length = 32) := hz
  have HDR : Hid (dr = G.foldr nd z) := hdr
  have HDRL : Hid (dr.length = 32) := by show _ = _; rw [hdr]; exact fold_len G z hz
  have HLG1 : Hid (LG[1]? = some (.slice (some ⟨g, 0, none⟩) (L + 1) cap)) := by show _ = _; rw [hLG]; rfl
  have HLS : Hid (L ≤ 100) := hLs
  have n0 : ¬ ((L : Int) + 1 = 0) := by omega
  have n1 : ((L + 1 : Nat) : Int) - 1 = (L : Int) := by omega
  have n2 : ((L + 1 : Nat) : Int) - 2 = (L : Int) - 1 := by omega
  clear ho hlen hz hGd hL0 fG hdr hLG hdl
  go_enter Tryd.func13, Tryd.ntmps13
  go_upto_region 1 with (first
    | (refine wpList_boxG 28 rfl (.tmp 0) rfl LG rfl ?_; intro X0 q1 q2 q3; have Q0 : Hid (Row X0 w.heap.size LG 28) := q1; have B0 : Hid (Below w.heap.size w X0) := q2; clear q1 q2 q3; simp only [Act.put, List.setIfInBounds_toArray, List.set_cons_zero, List.set_cons_succ])
    | (refine wpList_allocD rfl rfl ?_; intro X1 q1 q2 q3; have Q1 : Hid (Row X1 X0.heap.size (vB (List.replicate 32 0#8)) 42) := q1; have B1 : Hid (Below X0.heap.size X0 X1) := q2; clear q1 q2 q3; simp only [Act.put, List.setIfInBounds_toArray, List.set_cons_zero, List.set_cons_succ]))
  obtain ⟨b1, hb1⟩ : ∃ b, b = w.heap.size := ⟨_, rfl⟩
  obtain ⟨b2, hb2⟩ : ∃ b, b = X0.heap.size := ⟨_, rfl⟩
  have R1 : Hid (Row X1 b1 LG 28) := by rw [hb1]; exact Row.below Q0.out B1.out Q0.out.lt
  have R2 : Hid (Row X1 b2 (vB (List.replicate 32 0#8)) 42) := by rw [hb2]; exact Q1.out
  have N12 : Hid (b1 ≠ b2) := by show _ ≠ _; have := Q0.out.lt; rw [hb1, hb2]; omega
  have HW2 : Hid (w.heap.size ≤ b2) := by show _ ≤ _; rw [hb2]; exact B0.out.size
  have BX : Hid (Below w.heap.size w X1) := B0.out.trans (B1.out.mono B0.out.size)
  rw [← hb1, ← hb2]
  clear hb1 hb2 Q0 Q1 B0 B1
  have cL := R1.out.cell 1 _ HLG1.out
  have SZ : Hid (X1.rangeAt g (0 + L * 32) (vB z)) := HRz.out X1 BX.out
  go_upto_region 4 with (first
    | (refine wpList_index_s rfl 26 42 (.tmp 11) (.tmp 15) rfl g 0 (L + 1) cap L 32 rfl rfl (Nat.lt_succ_self L) Tryd.underlying26 info_dig ?_; simp only [Act.put, List.setIfInBounds_toArray, List.set_cons_zero, List.set_cons_succ])
    | (refine wpList_load_w rfl 42 (.tmp 16) rfl g (0 + L * 32) rfl (vB z) _ SZ.out Tryd.underlying42 rfl (dl_info HZ.out) ?_; simp only [Act.put, List.setIfInBounds_toArray, List.set_cons_zero, List.set_cons_succ])
    | (refine wpList_allocD rfl rfl ?_; intro X3 q1 q2 q3; have Q3 : Hid (Row X3 X1.heap.size (vB (List.replicate 32 0#8)) 42) := q1; have B3 : Hid (Below X1.heap.size X1 X3) := q2; clear q1 q2 q3; simp only [Act.put, List.setIfInBounds_toArray, List.set_cons_zero, List.set_cons_succ])
    | (refine wpList_storeL rfl 42 (.tmp 3) (.tmp 17) rfl X1.heap.size (vB z) (vB (List.replicate 32 0#8)) 42 rfl rfl Q3.out (by rw [vB_length, vB_length, HZ.out]; rfl) (dl_info HZ.out) (all_oneCell_toArray (vB_one z)) ?_; intro Y q1 q2; have HY : Hid (Y = _) := q1; have RY : Hid (Row Y X1.heap.size (vB z) 42) := q2; clear q1 q2; simp only [Act.put]))
  obtain ⟨b3, hb3⟩ : ∃ b, b = X1.heap.size := ⟨_, rfl⟩
  have cb : Below X1.heap.size X1 Y := by rw [HY.out]; exact below_setCells B3.out (Nat.le_refl _) _
  have r3 : Row Y b3 (vB z) 42 := by rw [hb3]; exact RY.out
  have r1 := Row.below R1.out cb R1.out.lt
  have r2 := Row.below R2.out cb R2.out.lt
  have n13 : b1 ≠ b3 := by have := R1.out.lt; rw [hb3]; omega
  have n23 : b2 ≠ b3 := by have := R2.out.lt; rw [hb3]; omega
  have hw3 : w.heap.size ≤ b3 := by rw [hb3]; exact BX.out.size
  have hbY : Below w.heap.size w Y := BX.out.trans (cb.mono BX.out.size)
  rw [← hb3]
  have N13 : Hid (b1 ≠ b3) := n13
  have N23 : Hid (b2 ≠ b3) := n23
  have HW3 : Hid (w.heap.size ≤ b3) := hw3
  clear hb3 cb R1 R2 BX SZ cL Q3 B3 HY RY n13 n23 hw3
  have cL := r1.cell 1 _ HLG1.out
  go_wp2_with fail
  go_loopw [4] (fun i wr => ∃ t : Nat, t ≤ L ∧ i = .int .i64 ((L : Int) - 1 - (t : Int)) ∧ Row wr b3 (vB ((G.drop (L - t)).foldr nd z)) 42 ∧ Row wr b2 (vB (List.replicate 32 0#8)) 42 ∧ Row wr b1 LG 28 ∧ Below w.heap.size w wr) (fun i _ => (intOf i + 1).toNat)
  case atStart =>
    refine ⟨0, Nat.zero_le _, by first | rfl | (simp; done) | (simp; omega), ?_, r2, r1, hbY⟩
    rw [Nat.sub_zero, List.drop_of_length_le (by rw [HGL.out]; exact Nat.le_refl _)]
    exact r3
  case round =>
    clear r3 r2 r1 hbY cL
    obtain ⟨t, ht, rfl, r3, r2, r1, hb1⟩ := hrel
    by_cases hlt : t < L
    · obtain ⟨cur, hcur⟩ : ∃ cur, cur = (G.drop (L - t)).foldr nd z := ⟨_, rfl⟩
      obtain ⟨x, hx⟩ : ∃ x, x = G.getD (L - 1 - t) [] := ⟨_, rfl⟩
      obtain ⟨dd, hdd⟩ : ∃ dd, dd = nd x cur := ⟨_, rfl⟩
      have hnext : (G.drop (L - (t + 1))).foldr nd z = dd := by
        have hG := HGL.out
        rw [show L - (t + 1) = L - 1 - t by omega, drop_more G (L - 1 - t) (by omega), show L - 1 - t + 1 = L - t by omega, hdd, hx, hcur]
        rfl
      have HNX : Hid _ := hnext
      have HC0 : Hid (cur.length = 32) := by show _ = _; rw [hcur]; exact fold_len _ _ HZ.out
      have HX0 : Hid (x.length = 32) := by
        show _ = _
        have hG := HGL.out
        rw [hx, List.getD_eq_getElem?_getD, List.getElem?_eq_getElem (by omega)]
        exact HGD.out _ (List.getElem_mem _)
      have HDL : Hid (dd.length = 32) := by show _ = _; rw [hdd]; exact nd_len _ _
      have HD : Hid (dd = dig ([1#8] ++ (x ++ cur))) := hdd
      have HIC : Hid ((Tryd.prog.info? 42).map (·.size) = some (vB cur).length) := dl_info HC0.out
      have HIX : Hid ((Tryd.prog.info? 42).map (·.size) = some (vB x).length) := dl_info HX0.out
      have HID : Hid ((Tryd.prog.info? 42).map (·.size) = some (vB dd).toArray.size) := dl_info' HDL.out
      have HKL : Hid (L - 1 - t < L + 1) := by show _ < _; omega
      have HR : Hid (∀ W, Below w.heap.size w W → W.rangeAt g (0 + (L - 1 - t) * 32) (vB x)) := fun W hB => by
        have q := HR0.out W hB (L - 1 - t) HKL.out
        have hG := HGL.out
        rw [getD_pre G z _ (by omega), ← hx] at q; exact q
      have e4 : (L : Int) - 1 - (t : Int) = ((L - 1 - t : Nat) : Int) := by omega
      have c0 : (0 : Int) ≤ ((L - 1 - t : Nat) : Int) := by omega
      have HLS2 := HLS.out
      rw [← hcur] at r3
      rw [e4]
      clear hnext hx hdd hcur
      have n13 := N13.out
      have n23 := N23.out
      have n12 := N12.out
      have hw3 := HW3.out
      go_wp2_with fail
      refine wp_named fun a0 ha0 => ?_
      have hsz : a0.tmps.size = 34 := by rw [ha0]; rfl
      have zs1 : a0.eval (.tmp 1) = .pointer (some ⟨b1, 0, none⟩) := by rw [ha0]; rfl
      have zs3 : a0.eval (.tmp 3) = .pointer (some ⟨b3, 0, none⟩) := by rw [ha0]; rfl
      have zs4 : a0.eval (.tmp 4) = .int .i64 ((L - 1 - t : Nat) : Int) := by rw [ha0]; rfl
      obtain ⟨D, hD⟩ : ∃ D : List (Tmp × SP), D = [(26, SP.is (.pointer (some ⟨b1, 1, none⟩))), (27, SP.is (.slice (some ⟨g, 0, none⟩) (L + 1) cap)), (28, SP.is (.int .i64 ((L - 1 - t : Nat) : Int))), (29, SP.is (.pointer (some ⟨g, 0 + (L - 1 - t) * 32, none⟩))), (30, SP.is (.agg (vB x).toArray)), (31, SP.is (.agg (vB cur).toArray)), (32, SP.is (.agg (vB dd).toArray)), (1000, SP.any)] := ⟨_, rfl⟩
      refine wp_region_down (by kernel_rfl) (fun listed ac W => listed.size = 8 ∧ Fp D a0 listed ac W ∧ Below w.heap.size w W ∧ Row W b3 (if listed.getD 7 false = true then (vB dd) else (vB cur)) 42 ∧ Row W b1 LG 28 ∧ Row W b2 ((vB (List.replicate 32 0#8))) 42) ?_ ?_ ?_
      · exact ⟨by simp, Fp.start D a0 _ _, Below.drew hb1, (by rw [if_neg (fun h => start_no h)]; exact Row.drew r3), Row.drew r1, Row.drew r2⟩
      · clear ha0 hb1 r3 r1 r2 
        intro listed ac W k hI hdn hk
        obtain ⟨hl, hF, hb1, r3, r1, r2⟩ := hI
        have hk1 : k < 8 := List.mem_range.1 (List.mem_filter.1 hk).1
        have hl2 : ∀ j, (listed.setIfInBounds j true).size = 8 := fun j => by rw [Array.size_setIfInBounds]; exact hl
        rcases (show k = 0 ∨ k = 1 ∨ k = 2 ∨ k = 3 ∨ k = 4 ∨ k = 5 ∨ k = 6 ∨ k = 7 by omega) with rfl | rfl | rfl | rfl | rfl | rfl | rfl | rfl
        · have hk3 := hk
          have ea := ((hF.keep 1 (by rw [hD]; rfl)).trans zs1)
          exact wpOp_plain rfl rfl (wp_rf1 b1 rfl ea ⟨hl2 0, (hF.put 0 26 (SP.is (.pointer (some ⟨b1, 1, none⟩))) (.pointer (some ⟨b1, 1, none⟩)) (by rw [hD]; rfl) rfl (by rw [hD]; rfl) (by rw [hsz]; decide) (by rw [hl]; decide)), hb1, (by rw [getD_set _ _ _ (by decide)]; exact r3), r1, r2⟩)
        · have hk3 := hk
          have ea := (hF.done 0 (26, SP.is (.pointer (some ⟨b1, 1, none⟩))) (by rw [hD]; rfl) (ready_dep hk 0 (by kernel_rfl)))
          exact wpOp_plain rfl rfl (wp_load_1 b1 1 (.slice (some ⟨g, 0, none⟩) (L + 1) cap) rfl ea (run_load_ds W b1 1 _ (r1.cell 1 _ HLG1.out)) ⟨hl2 1, (hF.put 1 27 (SP.is (.slice (some ⟨g, 0, none⟩) (L + 1) cap)) (.slice (some ⟨g, 0, none⟩) (L + 1) cap) (by rw [hD]; rfl) rfl (by rw [hD]; rfl) (by rw [hsz]; decide) (by rw [hl]; decide)), hb1, (by rw [getD_set _ _ _ (by decide)]; exact r3), r1, r2⟩)
        · have hk3 := hk
          exact wpOp_plain rfl rfl (wp_move_v (ac.eval (.tmp 4)) rfl rfl ⟨hl2 2, (hF.put 2 28 (SP.is (.int .i64 ((L - 1 - t : Nat) : Int))) (ac.eval (.tmp 4)) (by rw [hD]; rfl) (((hF.keep 4 (by rw [hD]; rfl)).trans zs4)) (by rw [hD]; rfl) (by rw [hsz]; decide) (by rw [hl]; decide)), hb1, (by rw [getD_set _ _ _ (by decide)]; exact r3), r1, r2⟩)
        · have hk3 := hk
          have ea := (hF.done 1 (27, SP.is (.slice (some ⟨g, 0, none⟩) (L + 1) cap)) (by rw [hD]; rfl) (ready_dep hk 1 (by kernel_rfl)))
          have eb := (hF.done 2 (28, SP.is (.int .i64 ((L - 1 - t : Nat) : Int))) (by rw [hD]; rfl) (ready_dep hk 2 (by kernel_rfl)))
          exact wpOp_plain rfl rfl (wp_index_s 26 42 rfl g 0 (L + 1) cap (L - 1 - t) 32 ea eb HKL.out Tryd.underlying26 info_dig ⟨hl2 3, (hF.put 3 29 (SP.is (.pointer (some ⟨g, 0 + (L - 1 - t) * 32, none⟩))) (.pointer (some ⟨g, 0 + (L - 1 - t) * 32, none⟩)) (by rw [hD]; rfl) rfl (by rw [hD]; rfl) (by rw [hsz]; decide) (by rw [hl]; decide)), hb1, (by rw [getD_set _ _ _ (by decide)]; exact r3), r1, r2⟩)
        · have hk3 := hk
          have ea := (hF.done 3 (29, SP.is (.pointer (some ⟨g, 0 + (L - 1 - t) * 32, none⟩))) (by rw [hD]; rfl) (ready_dep hk 3 (by kernel_rfl)))
          exact wpOp_plain rfl rfl (wp_load_mid 42 (.tmp 29) rfl g (0 + (L - 1 - t) * 32) ea (vB x) _ (HR.out W hb1) Tryd.underlying42 rfl HIX.out ⟨hl2 4, (hF.put 4 30 (SP.is (.agg (vB x).toArray)) (.agg (vB x).toArray) (by rw [hD]; rfl) rfl (by rw [hD]; rfl) (by rw [hsz]; decide) (by rw [hl]; decide)), hb1, (by rw [getD_set _ _ _ (by decide)]; exact r3), r1, r2⟩)
        · have hk3 := hk
          have ea := ((hF.keep 3 (by rw [hD]; rfl)).trans zs3)
          exact wpOp_plain rfl rfl (wp_load_mid 42 (.tmp 3) rfl b3 0 ea (vB cur) _ (Row.all (by have h9 := r3; rw [if_neg (fun h => not_yet hk (hdn 6 (hdn 7 h 6 (by kernel_rfl)) 5 (by kernel_rfl)))] at h9; exact h9)) Tryd.underlying42 rfl HIC.out ⟨hl2 5, (hF.put 5 31 (SP.is (.agg (vB cur).toArray)) (.agg (vB cur).toArray) (by rw [hD]; rfl) rfl (by rw [hD]; rfl) (by rw [hsz]; decide) (by rw [hl]; decide)), hb1, (by rw [getD_set _ _ _ (by decide)]; exact r3), r1, r2⟩)
        · have hk3 := hk
          have ea := (hF.done 4 (30, SP.is (.agg (vB x).toArray)) (by rw [hD]; rfl) (ready_dep hk 4 (by kernel_rfl)))
          have eb := (hF.done 5 (31, SP.is (.agg (vB cur).toArray)) (by rw [hD]; rfl) (ready_dep hk 5 (by kernel_rfl)))
          refine wpOp_plain rfl rfl (wp_fcall_v 29 #[.agg (vB x).toArray, .agg (vB cur).toArray] rfl rfl (by show [ac.eval (.tmp 30), ac.eval (.tmp 31)] = _; rw [show ac.eval (.tmp 30) = _ from ea, show ac.eval (.tmp 31) = _ from eb]) (by go_simp) ((rnode_any x cur dd HX0.out HC0.out HD.out W (HKT.out W hb1)).mono ?_))
          rintro e W2 ⟨rfl, hB⟩
          exact ⟨_, rfl, hl2 6, ((hF.world hB).put 6 32 (SP.is (.agg (vB dd).toArray)) (.agg (vB dd).toArray) (by rw [hD]; rfl) rfl (by rw [hD]; rfl) (by rw [hsz]; decide) (by rw [hl]; decide)), hb1.trans (hB.mono hb1.size), (by rw [getD_set _ _ _ (by decide)]; exact Row.below r3 hB (Row.lt r3)), Row.below r1 hB (Row.lt r1), Row.below r2 hB (Row.lt r2)⟩
        · have hk3 := hk
          have hno : ¬ listed.getD 7 false = true := not_yet hk
          rw [if_neg hno] at r3
          have T := r3.there 0 (vB dd).toArray.size (by simp [vB_length, HC0.out, HDL.out])
          have fin := r3.over (vs := (vB dd)) (by rw [vB_length, vB_length, HC0.out, HDL.out])
          have hT : Fp D a0 listed ac (W.setCells b3 0 (vB dd)) := hF.turn (by rw [hD]; simp only [List.forall_mem_cons, List.not_mem_nil, false_implies, implies_true, and_true]; exact ⟨fun _ h => h, fun _ h => h, fun _ h => h, fun _ h => h, fun _ h => h, fun _ h => h, fun _ h => h, fun _ h => h⟩)
          exact wpOp_plain rfl rfl (wp_store_mid 42 (.tmp 3) (.tmp 32) rfl b3 0 (vB dd).toArray ((hF.keep 3 (by rw [hD]; rfl)).trans zs3) (hF.done 6 (32, SP.is (.agg (vB dd).toArray)) (by rw [hD]; rfl) (ready_dep hk 6 (by kernel_rfl))) T HID.out (all_oneCell_toArray (vB_one dd)) ⟨hl2 7, (hT.skip 7 1000 (by rw [hD]; rfl) (by rw [hl]; decide)), below_setCells hb1 (by omega) _, (by rw [if_pos (getD_same (by rw [hl]; decide))]; exact fin), Row.setCells_other r1 _ _ _ (by omega), Row.setCells_other r2 _ _ _ (by omega)⟩)
      · clear hb1 r3 r1 r2 
        intro listed ac W hI hr
        obtain ⟨hl, hF, hb1, r3, r1, r2⟩ := hI
        have hall := all_listed (by kernel_rfl) hl hr
        rw [if_pos (hall 7 (by decide))] at r3
        have h26 : ac.eval (.tmp 26) = .pointer (some ⟨b1, 1, none⟩) := hF.done 0 (26, SP.is (.pointer (some ⟨b1, 1, none⟩))) (by rw [hD]; rfl) (hall 0 (by decide))
        have h27 : ac.eval (.tmp 27) = .slice (some ⟨g, 0, none⟩) (L + 1) cap := hF.done 1 (27, SP.is (.slice (some ⟨g, 0, none⟩) (L + 1) cap)) (by rw [hD]; rfl) (hall 1 (by decide))
        have h28 : ac.eval (.tmp 28) = .int .i64 ((L - 1 - t : Nat) : Int) := hF.done 2 (28, SP.is (.int .i64 ((L - 1 - t : Nat) : Int))) (by rw [hD]; rfl) (hall 2 (by decide))
        have h29 : ac.eval (.tmp 29) = .pointer (some ⟨g, 0 + (L - 1 - t) * 32, none⟩) := hF.done 3 (29, SP.is (.pointer (some ⟨g, 0 + (L - 1 - t) * 32, none⟩))) (by rw [hD]; rfl) (hall 3 (by decide))
        have h30 : ac.eval (.tmp 30) = .agg (vB x).toArray := hF.done 4 (30, SP.is (.agg (vB x).toArray)) (by rw [hD]; rfl) (hall 4 (by decide))
        have h31 : ac.eval (.tmp 31) = .agg (vB cur).toArray := hF.done 5 (31, SP.is (.agg (vB cur).toArray)) (by rw [hD]; rfl) (hall 5 (by decide))
        have h32 : ac.eval (.tmp 32) = .agg (vB dd).toArray := hF.done 6 (32, SP.is (.agg (vB dd).toArray)) (by rw [hD]; rfl) (hall 6 (by decide))
        have ea := hF.lay [(26, .pointer (some ⟨b1, 1, none⟩)), (27, .slice (some ⟨g, 0, none⟩) (L + 1) cap), (28, .int .i64 ((L - 1 - t : Nat) : Int)), (29, .pointer (some ⟨g, 0 + (L - 1 - t) * 32, none⟩)), (30, .agg (vB x).toArray), (31, .agg (vB cur).toArray), (32, .agg (vB dd).toArray)] (by rw [hD, hsz]; rfl) (by simp only [List.forall_mem_cons, List.not_mem_nil, false_implies, implies_true, and_true]; exact ⟨h26, h27, h28, h29, h30, h31, h32⟩)
        rw [ha0] at ea
        simp only [List.foldl_cons, List.foldl_nil, List.setIfInBounds_toArray, List.set_cons_zero, List.set_cons_succ] at ea
        clear hF hall hr hl hD  zs1 zs3 zs4 ha0 hsz h26 h27 h28 h29 h30 h31 h32
        subst ea
        go_wp2_with fail
        exact ⟨⟨t + 1, hlt, by first | rfl | (simp; omega), by rw [HNX.out]; exact r3, r2, r1, hb1⟩, by first | (simp [intOf]; done) | (simp [intOf]; omega)⟩
    · obtain rfl : t = L := by omega
      have HE : Hid (dr = (G.drop (t - t)).foldr nd z) := by show _ = _; rw [HDR.out, Nat.sub_self, List.drop_zero]
      have c0 : ¬ ((0 : Int) ≤ (t : Int) - 1 - (t : Int)) := by omega
      rw [← HE.out] at r3
      have S3 : Hid (_) := r3.all
      have HR2 : Hid (_) := r2
      go_wp2_with (first
        | (refine wpList_load_w rfl 42 (.tmp 3) rfl b3 0 rfl (vB dr) _ S3.out Tryd.underlying42 rfl (dl_info HDRL.out) ?_; simp only [Act.put, List.setIfInBounds_toArray, List.set_cons_zero, List.set_cons_succ])
        | (refine wpList_storeL rfl 42 (.tmp 2) (.tmp 33) rfl b2 (vB dr) (vB (List.replicate 32 0#8)) 42 rfl rfl HR2.out (by rw [vB_length, vB_length, HDRL.out]; rfl) (dl_info HDRL.out) (all_oneCell_toArray (vB_one dr)) ?_; intro Y9 q1 q2; have HY9 : Hid (Y9 = _) := q1; have RY9 : Hid (Row Y9 b2 (vB dr) 42) := q2; clear q1 q2; simp only [Act.put]))
      have nB : Below w.heap.size w Y9 := by rw [HY9.out]; exact below_setCells hb1 HW2.out _
      exact bodyPost_ret (results_row Tryd.results13 _ _ b2 42 (vB dr) rfl RY9.out Tryd.underlying42 info_dig (by rw [vB_length, HDRL.out])) rfl ⟨rfl, nB⟩

end Go.Proofs.YtkgfaioinajkjaaDoor
