/-
  a ticket: its cells; mayBe; ticketBytes.
-/
import Derived.Test.YtobmhggfkgcnfaaDoorTkC
namespace Go.Proofs.YtobmhggfkgcnfaaDoor
open Go Go.RowKit Go.Maps
open Sha
open Wd

abbrev tTk : TypeId := 29
abbrev am4 : List Value := [.int .u64 256, .int .u64 0, .int .u64 0, .int .u64 0]
/-- A ticket's cells: of entry 7, token 3, amount 256. -/
def tkc (n : Int) (sd td : List (BitVec 8)) : List Value := .int .i64 n :: .int .i64 7 :: (vB sd ++ (.int .i64 3 :: (vB td ++ am4)))
structure Tl (L : List Value) (n : Int) (sd td : List (BitVec 8)) : Prop where
  eq : L = tkc n sd td
  ls : sd.length = 20
  lt : td.length = 20
theorem app_at (xs ys : List Value) (n i : Nat) (h : xs.length = n) : (xs ++ ys)[n + i]? = ys[i]? := by
  rw [List.getElem?_append_right (by omega), h, Nat.add_sub_cancel_left]
section
variable {L : List Value} {n : Int} {sd td : List (BitVec 8)} {w : World} {b : Nat} {t : TypeId}
theorem Tl.len (h : Tl L n sd td) : L.length = 47 := by
  rw [h.eq]
  simp only [tkc, List.length_cons, List.length_append, List.length_nil, vB_length, h.ls, h.lt]
theorem Tl.one (h : Tl L n sd td) : L.toArray.all (·.oneCell') = true := by
  rw [← Array.all_toList, h.eq]
  refine List.all_eq_true.2 (fun v hv => ?_)
  simp only [tkc, List.mem_cons, List.mem_append, List.not_mem_nil, or_false] at hv
  rcases hv with rfl | rfl | hv | rfl | hv | rfl | rfl | rfl | rfl
  · rfl
  · rfl
  · exact vB_one sd v hv
  · rfl
  · exact vB_one td v hv
  · rfl
  · rfl
  · rfl
  · rfl
theorem Tl.mid (h : Tl L n sd td) (i : Nat) : L[22 + i]? = (Value.int .i64 3 :: (vB td ++ am4))[i]? := by
  rw [h.eq, show 22 + i = (20 + i) + 1 + 1 by omega]
  exact app_at (vB sd) _ 20 i (by rw [vB_length, h.ls])
theorem Tl.last (h : Tl L n sd td) (i : Nat) : L[43 + i]? = am4[i]? := by
  rw [show 43 + i = 22 + ((20 + i) + 1) by omega, h.mid]
  exact app_at (vB td) _ 20 i (by rw [vB_length, h.lt])
theorem Tl.c_n (h : Tl L n sd td) : L[0]? = some (.int .i64 n) := by rw [h.eq]; rfl
theorem Tl.c_e (h : Tl L n sd td) : L[1]? = some (.int .i64 7) := by rw [h.eq]; rfl
theorem Tl.c_t (h : Tl L n sd td) : L[22]? = some (.int .i64 3) := h.mid 0
theorem Tl.r_sd (h : Tl L n sd td) (r : Row w b L t) : w.rangeAt b 2 (vB sd) := r.range 2 _ (fun j u hj => by
  have hlt : j < (vB sd).length := (List.getElem?_eq_some_iff.1 hj).1
  rw [h.eq, show 2 + j = j + 1 + 1 by omega]
  exact (List.getElem?_append_left hlt).trans hj)
theorem Tl.r_td (h : Tl L n sd td) (r : Row w b L t) : w.rangeAt b 23 (vB td) := r.range 23 _ (fun j u hj => by
  have hlt : j < (vB td).length := (List.getElem?_eq_some_iff.1 hj).1
  rw [show 23 + j = 22 + (j + 1) by omega, h.mid]
  exact (List.getElem?_append_left hlt).trans hj)
theorem Tl.r_am (h : Tl L n sd td) (r : Row w b L t) : w.rangeAt b 43 am4 := r.range 43 _ (fun j u hj => by rw [h.last]; exact hj)
end
theorem info_tk : (Tryd.prog.info? 29).map (·.size) = some 47 := by kernel_rfl
theorem info_wd : (Tryd.prog.info? 27).map (·.size) = some am4.length := by kernel_rfl
theorem zero_slb : ((Tryd.prog.info? 46).bind (·.zero)).isSome = true := by kernel_rfl
theorem info_slb : (Tryd.prog.info? 46).map (·.size) = some 1 := by kernel_rfl
theorem zero_u8 : ((Tryd.prog.info? 5).bind (·.zero)).isSome = true := by kernel_rfl
set_option maxRecDepth 100000 in
theorem mayBe_ok (L : List Value) (n : Int) (sd td : List (BitVec 8)) (hL : Tl L n sd td) (w : World) : Calls Tryd.prog 12 #[.agg L.toArray] w fun e w' => e = .returned (.bool true) ∧ Below w.heap.size w w' := by
  obtain ⟨W1, hW1, r1, b1⟩ : ∃ W, W = w.alloc (Obj.cells L.toArray 29) ∧ Row W w.heap.size L 29 ∧ Below w.heap.size w W := ⟨_, rfl, Row.new' rfl rfl, (Below.refl _ _).alloc (Nat.le_refl _) _⟩
  have g1 := r1.cell 1 _ hL.c_e
  have g22 := r1.cell 22 _ hL.c_t
  have RA : Hid (W1.rangeAt w.heap.size 43 am4) := hL.r_am r1
  have HZ : Hid (Calls Tryd.prog 25 #[.agg am4.toArray] W1 fun e w' => e = .returned (.bool false) ∧ Below W1.heap.size W1 w') := zeroS 256 (by decide) false (by decide) W1
  have HW : Hid (W1 = _) := hW1
  have HB : Hid (Below w.heap.size w W1) := b1
  clear hL hW1 r1 b1
  go_enter Tryd.func12, Tryd.ntmps12
  go_upto_region 1 with fail
  rw [← HW.out]
  clear HW
  go_wp2_with (refine wpList_load_w rfl 27 (.tmp 21) rfl w.heap.size 43 rfl am4 _ RA.out Tryd.underlying27 rfl info_wd ?_; simp only [Act.put, List.setIfInBounds_toArray, List.set_cons_zero, List.set_cons_succ])
  refine Calls.mono HZ.out ?_
  rintro e V ⟨rfl, hB⟩
  replace HB : Hid (Below w.heap.size w V) := HB.out.trans (hB.mono HB.out.size)
  clear hB HZ RA g1 g22
  go_wp2_with fail
  go_ret
  exact ⟨rfl, HB.out⟩
section
variable {o : Oper} {a : Act} {w : World} {K : Act → World → Prop} {Q : Exit → Act → World → Prop}
theorem wp_ft1 {x : Operand} (b : Nat) (ho : o.op = .fieldAddr 29 x 1) (hx : a.eval x = .pointer (some ⟨b, 0, none⟩)) (h : K (a.put o.dst (.pointer (some ⟨b, 1, none⟩))) w) : Oper.wp Tryd.prog o a w K Q := by
  unfold Oper.wp execOp
  simp only [ho, hx]
  go_simp
  exact h
theorem wp_ft2 {x : Operand} (b : Nat) (ho : o.op = .fieldAddr 29 x 2) (hx : a.eval x = .pointer (some ⟨b, 0, none⟩)) (h : K (a.put o.dst (.pointer (some ⟨b, 2, none⟩))) w) : Oper.wp Tryd.prog o a w K Q := by
  unfold Oper.wp execOp
  simp only [ho, hx]
  go_simp
  exact h
theorem wp_ft3 {x : Operand} (b : Nat) (ho : o.op = .fieldAddr 29 x 3) (hx : a.eval x = .pointer (some ⟨b, 0, none⟩)) (h : K (a.put o.dst (.pointer (some ⟨b, 22, none⟩))) w) : Oper.wp Tryd.prog o a w K Q := by
  unfold Oper.wp execOp
  simp only [ho, hx]
  go_simp
  exact h
theorem wp_ft4 {x : Operand} (b : Nat) (ho : o.op = .fieldAddr 29 x 4) (hx : a.eval x = .pointer (some ⟨b, 0, none⟩)) (h : K (a.put o.dst (.pointer (some ⟨b, 23, none⟩))) w) : Oper.wp Tryd.prog o a w K Q := by
  unfold Oper.wp execOp
  simp only [ho, hx]
  go_simp
  exact h
theorem wp_ft5 {x : Operand} (b : Nat) (ho : o.op = .fieldAddr 29 x 5) (hx : a.eval x = .pointer (some ⟨b, 0, none⟩)) (h : K (a.put o.dst (.pointer (some ⟨b, 43, none⟩))) w) : Oper.wp Tryd.prog o a w K Q := by
  unfold Oper.wp execOp
  simp only [ho, hx]
  go_simp
  exact h
theorem wp_loadi {x : Operand} (ho : o.op = .load 3 x) (b f : Nat) (hx : a.eval x = .pointer (some ⟨b, f, none⟩)) (n : Int) (hc : w.cell? ⟨b, f, none⟩ = some (.int .i64 n)) (h : K (a.put o.dst (.int .i64 n)) w) : Oper.wp Tryd.prog o a w K Q := by
  unfold Oper.wp execOp
  simp only [ho, hx]
  go_simp
  exact h
theorem wp_conv3 {x : Operand} (ho : o.op = .convert 3 5 x) (hx : a.eval x = .int .i64 3) (h : K (a.put o.dst (.int .u8 3)) w) : Oper.wp Tryd.prog o a w K Q := by
  unfold Oper.wp execOp
  simp only [ho, hx]
  go_simp
  exact h
end
/-- Bytes that are new. -/
def SP.by (n : Nat) (d : List (BitVec 8)) : SP := ⟨fun W v => ∃ N, v = .slice (some ⟨N, 0, none⟩) n n ∧ Row W N (vB d) 5, fun _ _ _ hB ⟨N, e, r⟩ => ⟨N, e, Row.below r hB (Row.lt r)⟩⟩
/-- The five pieces of a ticket. -/
def SP.five (b : Nat) (x y z : List (BitVec 8)) : SP := ⟨fun W v => ∃ N n1 n2 n3, v = .slice (some ⟨N, 0, none⟩) 5 5 ∧ Row W N [.slice (some ⟨n1, 0, none⟩) 8 8, .slice (some ⟨b, 2, none⟩) 20 20, .slice (some ⟨n2, 0, none⟩) 1 1, .slice (some ⟨b, 23, none⟩) 20 20, .slice (some ⟨n3, 0, none⟩) 32 32] 46 ∧ Row W n1 (vB x) 5 ∧ Row W n2 (vB y) 5 ∧ Row W n3 (vB z) 5,
  fun _ _ _ hB ⟨N, n1, n2, n3, e, r, r1, r2, r3⟩ => ⟨N, n1, n2, n3, e, Row.below r hB (Row.lt r), Row.below r1 hB (Row.lt r1), Row.below r2 hB (Row.lt r2), Row.below r3 hB (Row.lt r3)⟩⟩
/-- Bytes that are somebody's. -/
def SP.own (n : Nat) (d : List (BitVec 8)) : SP := ⟨fun W v => ∃ A c, v = .slice A n c ∧ Bw W (.slice A n c) d ∧ (A = none → False), fun _ _ _ hB ⟨A, c, e, r, h⟩ => ⟨A, c, e, Bw.be r hB, h⟩⟩
/-- A ticket's bytes. -/
def tkB (sd td : List (BitVec 8)) : List (BitVec 8) := [] ++ [0#8, 0#8, 0#8, 0#8, 0#8, 0#8, 0#8, 7#8] ++ sd ++ [3#8] ++ td ++ wB 256
set_option maxRecDepth 100000 in
set_option maxHeartbeats 4000000 in
theorem tbytes (L : List Value) (n : Int) (sd td : List (BitVec 8)) (hL : Tl L n sd td) (w : World) : Calls Tryd.prog 15 #[.agg L.toArray] w fun e w' => ∃ A c, e = .returned (.slice A 81 c) ∧ Bw w' (.slice A 81 c) (tkB sd td) ∧ (A = none → False) ∧ Below w.heap.size w w' := by
  obtain ⟨b, hb⟩ : ∃ b, b = w.heap.size := ⟨_, rfl⟩
  obtain ⟨W1, hW1, r0, hb1⟩ : ∃ W, W = w.alloc (Obj.cells L.toArray 29) ∧ Row W b L 29 ∧ Below w.heap.size w W := ⟨_, rfl, Row.new' hb rfl, (Below.refl _ _).alloc (Nat.le_refl _) _⟩
  have HT : Hid (Tl L n sd td) := hL
  have HW : Hid (W1 = _) := hW1
  have HBE : Hid (b = w.heap.size) := hb
  clear hL hW1 hb
  go_enter Tryd.func15, Tryd.ntmps15
  go_upto_region 1 with fail
  rw [← HW.out, ← HBE.out]
  clear HW
  refine wp_named fun a0 ha0 => ?_
  have hsz : a0.tmps.size = 19 := by rw [ha0]; rfl
  have zs1 : a0.eval (.tmp 1) = .pointer (some ⟨b, 0, none⟩) := by rw [ha0]; rfl
  obtain ⟨D, hD⟩ : ∃ D : List (Tmp × SP), D = [(3, SP.is (.pointer (some ⟨b, 1, none⟩))), (4, SP.is (.int .i64 7)), (5, SP.by 8 [0#8, 0#8, 0#8, 0#8, 0#8, 0#8, 0#8, 7#8]), (6, SP.is (.pointer (some ⟨b, 2, none⟩))), (7, SP.is (.slice (some ⟨b, 2, none⟩) 20 20)), (8, SP.is (.pointer (some ⟨b, 22, none⟩))), (9, SP.is (.int .i64 3)), (10, SP.is (.int .u8 3)), (11, SP.by 1 [3#8]), (12, SP.is (.pointer (some ⟨b, 23, none⟩))), (13, SP.is (.slice (some ⟨b, 23, none⟩) 20 20)), (14, SP.is (.pointer (some ⟨b, 43, none⟩))), (15, SP.is (.agg am4.toArray)), (16, SP.by 32 (wB 256)), (17, SP.five b [0#8, 0#8, 0#8, 0#8, 0#8, 0#8, 0#8, 7#8] [3#8] (wB 256)), (18, SP.own 81 (tkB sd td)), (2, SP.own 81 (tkB sd td))] := ⟨_, rfl⟩
  refine wp_region_down (by kernel_rfl) (fun listed ac W => listed.size = 17 ∧ Fp D a0 listed ac W ∧ Below w.heap.size w W ∧ Row W b L 29) ?_ ?_ ?_
  · exact ⟨by simp, Fp.start D a0 _ _, Below.drew hb1, Row.drew r0⟩
  · clear ha0 hb1 r0 
    intro listed ac W k hI hdn hk
    obtain ⟨hl, hF, hb1, r0⟩ := hI
    have hk1 : k < 17 := List.mem_range.1 (List.mem_filter.1 hk).1
    have hl2 : ∀ j, (listed.setIfInBounds j true).size = 17 := fun j => by rw [Array.size_setIfInBounds]; exact hl
    rcases (show k = 0 ∨ k = 1 ∨ k = 2 ∨ k = 3 ∨ k = 4 ∨ k = 5 ∨ k = 6 ∨ k = 7 ∨ k = 8 ∨ k = 9 ∨ k = 10 ∨ k = 11 ∨ k = 12 ∨ k = 13 ∨ k = 14 ∨ k = 15 ∨ k = 16 by omega) with rfl | rfl | rfl | rfl | rfl | rfl | rfl | rfl | rfl | rfl | rfl | rfl | rfl | rfl | rfl | rfl | rfl
    · have hk3 := hk
      have e1 := ((hF.keep 1 (by rw [hD]; rfl)).trans zs1)
      exact wpOp_plain rfl rfl (wp_ft1 b rfl e1 ⟨hl2 0, (hF.put 0 3 (SP.is (.pointer (some ⟨b, 1, none⟩))) (.pointer (some ⟨b, 1, none⟩)) (by rw [hD]; rfl) rfl (by rw [hD]; rfl) (by rw [hsz]; decide) (by rw [hl]; decide)), hb1, r0⟩)
    · have hk3 := hk
      have e3 := (hF.done 0 (3, SP.is (.pointer (some ⟨b, 1, none⟩))) (by rw [hD]; rfl) (ready_dep hk 0 (by kernel_rfl)))
      exact wpOp_plain rfl rfl (wp_loadi rfl b 1 e3 7 (r0.cell 1 _ HT.out.c_e) ⟨hl2 1, (hF.put 1 4 (SP.is (.int .i64 7)) (.int .i64 7) (by rw [hD]; rfl) rfl (by rw [hD]; rfl) (by rw [hsz]; decide) (by rw [hl]; decide)), hb1, r0⟩)
    · have hk3 := hk
      have e4 := (hF.done 1 (4, SP.is (.int .i64 7)) (by rw [hD]; rfl) (ready_dep hk 1 (by kernel_rfl)))
      refine wpOp_plain rfl rfl (wp_fcall_v 16 #[.int .i64 7] rfl rfl (by show [ac.eval (.tmp 4)] = _; rw [show ac.eval (.tmp 4) = .int .i64 7 from e4]) (by go_simp) ((eight_7 W).mono ?_))
      rintro e W2 ⟨N, hN, hR, rfl, hB⟩
      exact ⟨_, rfl, hl2 2, ((hF.world hB).put 2 5 (SP.by 8 [0#8, 0#8, 0#8, 0#8, 0#8, 0#8, 0#8, 7#8]) (.slice (some ⟨N, 0, none⟩) 8 8) (by rw [hD]; rfl) (⟨N, rfl, hR⟩) (by rw [hD]; rfl) (by rw [hsz]; decide) (by rw [hl]; decide)), hb1.trans (hB.mono hb1.size), Row.below r0 hB (Row.lt r0)⟩
    · have hk3 := hk
      have e1 := ((hF.keep 1 (by rw [hD]; rfl)).trans zs1)
      exact wpOp_plain rfl rfl (wp_ft2 b rfl e1 ⟨hl2 3, (hF.put 3 6 (SP.is (.pointer (some ⟨b, 2, none⟩))) (.pointer (some ⟨b, 2, none⟩)) (by rw [hD]; rfl) rfl (by rw [hD]; rfl) (by rw [hsz]; decide) (by rw [hl]; decide)), hb1, r0⟩)
    · have hk3 := hk
      have e := (hF.done 3 (6, SP.is (.pointer (some ⟨b, 2, none⟩))) (by rw [hD]; rfl) (ready_dep hk 3 (by kernel_rfl)))
      exact wpOp_plain rfl rfl (wp_slice_all 24 5 20 (.tmp 6) b 2 rfl e Tryd.underlying24 info_u8 ⟨hl2 4, (hF.put 4 7 (SP.is (.slice (some ⟨b, 2, none⟩) 20 20)) (.slice (some ⟨b, 2, none⟩) 20 20) (by rw [hD]; rfl) rfl (by rw [hD]; rfl) (by rw [hsz]; decide) (by rw [hl]; decide)), hb1, r0⟩)
    · have hk3 := hk
      have e1 := ((hF.keep 1 (by rw [hD]; rfl)).trans zs1)
      exact wpOp_plain rfl rfl (wp_ft3 b rfl e1 ⟨hl2 5, (hF.put 5 8 (SP.is (.pointer (some ⟨b, 22, none⟩))) (.pointer (some ⟨b, 22, none⟩)) (by rw [hD]; rfl) rfl (by rw [hD]; rfl) (by rw [hsz]; decide) (by rw [hl]; decide)), hb1, r0⟩)
    · have hk3 := hk
      have e8 := (hF.done 5 (8, SP.is (.pointer (some ⟨b, 22, none⟩))) (by rw [hD]; rfl) (ready_dep hk 5 (by kernel_rfl)))
      exact wpOp_plain rfl rfl (wp_loadi rfl b 22 e8 3 (r0.cell 22 _ HT.out.c_t) ⟨hl2 6, (hF.put 6 9 (SP.is (.int .i64 3)) (.int .i64 3) (by rw [hD]; rfl) rfl (by rw [hD]; rfl) (by rw [hsz]; decide) (by rw [hl]; decide)), hb1, r0⟩)
    · have hk3 := hk
      have e9 := (hF.done 6 (9, SP.is (.int .i64 3)) (by rw [hD]; rfl) (ready_dep hk 6 (by kernel_rfl)))
      exact wpOp_plain rfl rfl (wp_conv3 rfl e9 ⟨hl2 7, (hF.put 7 10 (SP.is (.int .u8 3)) (.int .u8 3) (by rw [hD]; rfl) rfl (by rw [hD]; rfl) (by rw [hsz]; decide) (by rw [hl]; decide)), hb1, r0⟩)
    · have hk3 := hk
      have e10 := (hF.done 7 (10, SP.is (.int .u8 3)) (by rw [hD]; rfl) (ready_dep hk 7 (by kernel_rfl)))
      have hB : Below W.heap.size W (W.alloc (Obj.cells ((vB [3#8]) : List Value).toArray 5)) := (Below.refl _ _).alloc (Nat.le_refl _) _
      exact wpOp_plain rfl rfl (wp_build1 46 5 1 _ (vB [3#8]) rfl Tryd.underlying46 info_u8 zero_u8 rfl (by decide) (by decide) (fun v hv => by obtain rfl := List.mem_singleton.1 hv; rfl) (by show [(0, ac.eval (.tmp 10))] = _; rw [show ac.eval (.tmp 10) = .int .u8 3 from e10]; rfl) ⟨hl2 8, ((hF.world hB).put 8 11 (SP.by 1 [3#8]) (.slice (some ⟨W.heap.size, 0, none⟩) 1 1) (by rw [hD]; rfl) (⟨W.heap.size, rfl, Row.new' rfl rfl⟩) (by rw [hD]; rfl) (by rw [hsz]; decide) (by rw [hl]; decide)), hb1.alloc hb1.size _, Row.alloc r0 _⟩)
    · have hk3 := hk
      have e1 := ((hF.keep 1 (by rw [hD]; rfl)).trans zs1)
      exact wpOp_plain rfl rfl (wp_ft4 b rfl e1 ⟨hl2 9, (hF.put 9 12 (SP.is (.pointer (some ⟨b, 23, none⟩))) (.pointer (some ⟨b, 23, none⟩)) (by rw [hD]; rfl) rfl (by rw [hD]; rfl) (by rw [hsz]; decide) (by rw [hl]; decide)), hb1, r0⟩)
    · have hk3 := hk
      have e := (hF.done 9 (12, SP.is (.pointer (some ⟨b, 23, none⟩))) (by rw [hD]; rfl) (ready_dep hk 9 (by kernel_rfl)))
      exact wpOp_plain rfl rfl (wp_slice_all 24 5 20 (.tmp 12) b 23 rfl e Tryd.underlying24 info_u8 ⟨hl2 10, (hF.put 10 13 (SP.is (.slice (some ⟨b, 23, none⟩) 20 20)) (.slice (some ⟨b, 23, none⟩) 20 20) (by rw [hD]; rfl) rfl (by rw [hD]; rfl) (by rw [hsz]; decide) (by rw [hl]; decide)), hb1, r0⟩)
    · have hk3 := hk
      have e1 := ((hF.keep 1 (by rw [hD]; rfl)).trans zs1)
      exact wpOp_plain rfl rfl (wp_ft5 b rfl e1 ⟨hl2 11, (hF.put 11 14 (SP.is (.pointer (some ⟨b, 43, none⟩))) (.pointer (some ⟨b, 43, none⟩)) (by rw [hD]; rfl) rfl (by rw [hD]; rfl) (by rw [hsz]; decide) (by rw [hl]; decide)), hb1, r0⟩)
    · have hk3 := hk
      exact wpOp_plain rfl rfl (wp_load_mid 27 (.tmp 14) rfl b 43 (hF.done 11 (14, SP.is (.pointer (some ⟨b, 43, none⟩))) (by rw [hD]; rfl) (ready_dep hk 11 (by kernel_rfl))) am4 _ (HT.out.r_am r0) Tryd.underlying27 rfl info_wd ⟨hl2 12, (hF.put 12 15 (SP.is (.agg am4.toArray)) (.agg am4.toArray) (by rw [hD]; rfl) rfl (by rw [hD]; rfl) (by rw [hsz]; decide) (by rw [hl]; decide)), hb1, r0⟩)
    · have hk3 := hk
      have e15 := (hF.done 12 (15, SP.is (.agg am4.toArray)) (by rw [hD]; rfl) (ready_dep hk 12 (by kernel_rfl)))
      refine wpOp_plain rfl rfl (wp_fcall_v 30 #[.agg am4.toArray] rfl rfl (by show [ac.eval (.tmp 15)] = _; rw [show ac.eval (.tmp 15) = .agg am4.toArray from e15]) (by go_simp) (((show Calls Tryd.prog 30 #[.agg am4.toArray] W _ from bytesS 256 (by decide) W)).mono ?_))
      rintro e W2 ⟨N, hN, hR, rfl, hB⟩
      exact ⟨_, rfl, hl2 13, ((hF.world hB).put 13 16 (SP.by 32 (wB 256)) (.slice (some ⟨N, 0, none⟩) 32 32) (by rw [hD]; rfl) (⟨N, rfl, hR⟩) (by rw [hD]; rfl) (by rw [hsz]; decide) (by rw [hl]; decide)), hb1.trans (hB.mono hb1.size), Row.below r0 hB (Row.lt r0)⟩
    · have hk3 := hk
      obtain ⟨n1, e5, q5⟩ := (hF.done 2 (5, SP.by 8 [0#8, 0#8, 0#8, 0#8, 0#8, 0#8, 0#8, 7#8]) (by rw [hD]; rfl) (ready_dep hk 2 (by kernel_rfl)))
      have e7 := (hF.done 4 (7, SP.is (.slice (some ⟨b, 2, none⟩) 20 20)) (by rw [hD]; rfl) (ready_dep hk 4 (by kernel_rfl)))
      obtain ⟨n2, e11, q11⟩ := (hF.done 8 (11, SP.by 1 [3#8]) (by rw [hD]; rfl) (ready_dep hk 8 (by kernel_rfl)))
      have e13 := (hF.done 10 (13, SP.is (.slice (some ⟨b, 23, none⟩) 20 20)) (by rw [hD]; rfl) (ready_dep hk 10 (by kernel_rfl)))
      obtain ⟨n3, e16, q16⟩ := (hF.done 13 (16, SP.by 32 (wB 256)) (by rw [hD]; rfl) (ready_dep hk 13 (by kernel_rfl)))
      have hB : Below W.heap.size W (W.alloc (Obj.cells ([.slice (some ⟨n1, 0, none⟩) 8 8, .slice (some ⟨b, 2, none⟩) 20 20, .slice (some ⟨n2, 0, none⟩) 1 1, .slice (some ⟨b, 23, none⟩) 20 20, .slice (some ⟨n3, 0, none⟩) 32 32] : List Value).toArray 46)) := (Below.refl _ _).alloc (Nat.le_refl _) _
      exact wpOp_plain rfl rfl (wp_build1 105 46 5 _ [.slice (some ⟨n1, 0, none⟩) 8 8, .slice (some ⟨b, 2, none⟩) 20 20, .slice (some ⟨n2, 0, none⟩) 1 1, .slice (some ⟨b, 23, none⟩) 20 20, .slice (some ⟨n3, 0, none⟩) 32 32] rfl Tryd.underlying105 info_slb zero_slb rfl (by decide) (by decide) (fun v hv => by simp only [List.mem_cons, List.not_mem_nil, or_false] at hv; rcases hv with rfl | rfl | rfl | rfl | rfl <;> rfl) (by show [(0, ac.eval (.tmp 5)), (1, ac.eval (.tmp 7)), (2, ac.eval (.tmp 11)), (3, ac.eval (.tmp 13)), (4, ac.eval (.tmp 16))] = _; rw [e5, show ac.eval (.tmp 7) = _ from e7, e11, show ac.eval (.tmp 13) = _ from e13, e16]; rfl) ⟨hl2 14, ((hF.world hB).put 14 17 (SP.five b [0#8, 0#8, 0#8, 0#8, 0#8, 0#8, 0#8, 7#8] [3#8] (wB 256)) (.slice (some ⟨W.heap.size, 0, none⟩) 5 5) (by rw [hD]; rfl) (⟨W.heap.size, n1, n2, n3, rfl, Row.new' rfl rfl, Row.alloc q5 _, Row.alloc q11 _, Row.alloc q16 _⟩) (by rw [hD]; rfl) (by rw [hsz]; decide) (by rw [hl]; decide)), hb1.alloc hb1.size _, Row.alloc r0 _⟩)
    · have hk3 := hk
      obtain ⟨N17, n1, n2, n3, e17, q17, u1, u2, u3⟩ := (hF.done 14 (17, SP.five b [0#8, 0#8, 0#8, 0#8, 0#8, 0#8, 0#8, 7#8] [3#8] (wB 256)) (by rw [hD]; rfl) (ready_dep hk 14 (by kernel_rfl)))
      refine wpOp_plain rfl rfl (wp_fcall_v 29 #[.slice (some ⟨N17, 0, none⟩) 5 5] rfl rfl (by show [ac.eval (.tmp 17)] = _; rw [e17]) (by go_simp) ((concat_5 N17 n1 0 [0#8, 0#8, 0#8, 0#8, 0#8, 0#8, 0#8, 7#8] rfl b 2 sd HT.out.ls n2 0 [3#8] rfl b 23 td HT.out.lt n3 0 (wB 256) (wB_len 256) (tkB sd td) rfl W q17 u1.all (HT.out.r_sd r0) u2.all (HT.out.r_td r0) u3.all).mono ?_))
      rintro e W2 ⟨A, c, rfl, hw1, hnn, hB⟩
      exact ⟨_, rfl, hl2 15, ((hF.world hB).put 15 18 (SP.own 81 (tkB sd td)) (.slice A 81 c) (by rw [hD]; rfl) (⟨A, c, rfl, hw1, hnn⟩) (by rw [hD]; rfl) (by rw [hsz]; decide) (by rw [hl]; decide)), hb1.trans (hB.mono hb1.size), Row.below r0 hB (Row.lt r0)⟩
    · have hk3 := hk
      exact wpOp_plain rfl rfl (wp_assign_v (ac.eval (.tmp 18)) rfl rfl ⟨hl2 16, (hF.put 16 2 (SP.own 81 (tkB sd td)) (ac.eval (.tmp 18)) (by rw [hD]; rfl) ((hF.done 15 (18, SP.own 81 (tkB sd td)) (by rw [hD]; rfl) (ready_dep hk 15 (by kernel_rfl)))) (by rw [hD]; rfl) (by rw [hsz]; decide) (by rw [hl]; decide)), hb1, r0⟩)
  · clear hb1 r0 
    intro listed ac W hI hr
    obtain ⟨hl, hF, hb1, r0⟩ := hI
    have hall := all_listed (by kernel_rfl) hl hr
    have h3 : ac.eval (.tmp 3) = .pointer (some ⟨b, 1, none⟩) := hF.done 0 (3, SP.is (.pointer (some ⟨b, 1, none⟩))) (by rw [hD]; rfl) (hall 0 (by decide))
    have h4 : ac.eval (.tmp 4) = .int .i64 7 := hF.done 1 (4, SP.is (.int .i64 7)) (by rw [hD]; rfl) (hall 1 (by decide))
    obtain ⟨x5, h5⟩ : ∃ x, ac.eval (.tmp 5) = x := ⟨_, rfl⟩
    have h6 : ac.eval (.tmp 6) = .pointer (some ⟨b, 2, none⟩) := hF.done 3 (6, SP.is (.pointer (some ⟨b, 2, none⟩))) (by rw [hD]; rfl) (hall 3 (by decide))
    have h7 : ac.eval (.tmp 7) = .slice (some ⟨b, 2, none⟩) 20 20 := hF.done 4 (7, SP.is (.slice (some ⟨b, 2, none⟩) 20 20)) (by rw [hD]; rfl) (hall 4 (by decide))
    have h8 : ac.eval (.tmp 8) = .pointer (some ⟨b, 22, none⟩) := hF.done 5 (8, SP.is (.pointer (some ⟨b, 22, none⟩))) (by rw [hD]; rfl) (hall 5 (by decide))
    have h9 : ac.eval (.tmp 9) = .int .i64 3 := hF.done 6 (9, SP.is (.int .i64 3)) (by rw [hD]; rfl) (hall 6 (by decide))
    have h10 : ac.eval (.tmp 10) = .int .u8 3 := hF.done 7 (10, SP.is (.int .u8 3)) (by rw [hD]; rfl) (hall 7 (by decide))
    obtain ⟨x11, h11⟩ : ∃ x, ac.eval (.tmp 11) = x := ⟨_, rfl⟩
    have h12 : ac.eval (.tmp 12) = .pointer (some ⟨b, 23, none⟩) := hF.done 9 (12, SP.is (.pointer (some ⟨b, 23, none⟩))) (by rw [hD]; rfl) (hall 9 (by decide))
    have h13 : ac.eval (.tmp 13) = .slice (some ⟨b, 23, none⟩) 20 20 := hF.done 10 (13, SP.is (.slice (some ⟨b, 23, none⟩) 20 20)) (by rw [hD]; rfl) (hall 10 (by decide))
    have h14 : ac.eval (.tmp 14) = .pointer (some ⟨b, 43, none⟩) := hF.done 11 (14, SP.is (.pointer (some ⟨b, 43, none⟩))) (by rw [hD]; rfl) (hall 11 (by decide))
    have h15 : ac.eval (.tmp 15) = .agg am4.toArray := hF.done 12 (15, SP.is (.agg am4.toArray)) (by rw [hD]; rfl) (hall 12 (by decide))
    obtain ⟨x16, h16⟩ : ∃ x, ac.eval (.tmp 16) = x := ⟨_, rfl⟩
    obtain ⟨x17, h17⟩ : ∃ x, ac.eval (.tmp 17) = x := ⟨_, rfl⟩
    have f18 := hF.done 15 (18, SP.own 81 (tkB sd td)) (by rw [hD]; rfl) (hall 15 (by decide))
    obtain ⟨x18, h18⟩ : ∃ x, ac.eval (.tmp 18) = x := ⟨_, rfl⟩
    replace f18 : (SP.own 81 (tkB sd td)).P W x18 := by rw [← h18]; exact f18
    have f2 := hF.done 16 (2, SP.own 81 (tkB sd td)) (by rw [hD]; rfl) (hall 16 (by decide))
    obtain ⟨x2, h2⟩ : ∃ x, ac.eval (.tmp 2) = x := ⟨_, rfl⟩
    replace f2 : (SP.own 81 (tkB sd td)).P W x2 := by rw [← h2]; exact f2
    have ea := hF.lay [(3, .pointer (some ⟨b, 1, none⟩)), (4, .int .i64 7), (5, x5), (6, .pointer (some ⟨b, 2, none⟩)), (7, .slice (some ⟨b, 2, none⟩) 20 20), (8, .pointer (some ⟨b, 22, none⟩)), (9, .int .i64 3), (10, .int .u8 3), (11, x11), (12, .pointer (some ⟨b, 23, none⟩)), (13, .slice (some ⟨b, 23, none⟩) 20 20), (14, .pointer (some ⟨b, 43, none⟩)), (15, .agg am4.toArray), (16, x16), (17, x17), (18, x18), (2, x2)] (by rw [hD, hsz]; rfl) (by simp only [List.forall_mem_cons, List.not_mem_nil, false_implies, implies_true, and_true]; exact ⟨h3, h4, h5, h6, h7, h8, h9, h10, h11, h12, h13, h14, h15, h16, h17, h18, h2⟩)
    rw [ha0] at ea
    simp only [List.foldl_cons, List.foldl_nil, List.setIfInBounds_toArray, List.set_cons_zero, List.set_cons_succ] at ea
    clear hF hall hr hl hD  zs1 ha0 hsz h3 h4 h5 h6 h7 h8 h9 h10 h11 h12 h13 h14 h15 h16 h17 h18 h2
    subst ea
    obtain ⟨A, c, rfl, hw1, hnn⟩ := f2
    have HW1 : Hid _ := hw1
    have HNN : Hid (A = none → False) := hnn
    have HB : Hid (Below w.heap.size w W) := hb1
    clear hw1 hnn hb1 f18
    go_wp2_with fail
    go_ret
    exact ⟨A, c, rfl, HW1.out, HNN.out, HB.out⟩

end Go.Proofs.YtobmhggfkgcnfaaDoor
