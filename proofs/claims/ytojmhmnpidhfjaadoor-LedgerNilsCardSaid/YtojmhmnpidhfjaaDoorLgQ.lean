/-
  addresses compared; lists of lines; move.
-/
import Derived.Test.YtojmhmnpidhfjaaDoorLgP
import Derived.Stop.BytesEq
namespace Go.Proofs.YtojmhmnpidhfjaaDoor
open Go Go.RowKit Go.Maps
open Sha
open Wd

def toU (l : List (BitVec 8)) : List UInt8 := l.map UInt8.ofBitVec
theorem vB_cell (l : List (BitVec 8)) : vB l = (toU l).map Extern.Stop.cell := by
  unfold vB toU; rw [List.map_map]; rfl
theorem toU_length (l : List (BitVec 8)) : (toU l).length = l.length := by simp [toU]
theorem toU_inj {l r : List (BitVec 8)} (h : toU l = toU r) : l = r := by
  unfold toU at h
  exact (List.map_inj_right (fun x y h => congrArg UInt8.toBitVec h)).1 h
theorem toU_beq (l r : List (BitVec 8)) : (toU l == toU r) = decide (l = r) := by
  rw [Bool.eq_iff_iff]; simp only [beq_iff_eq, decide_eq_true_eq]
  exact ⟨toU_inj, fun h => by rw [h]⟩

section
variable {P : Program}
theorem run_eql_vB (w : World) (t e : TypeId) (n : Nat) (ht : P.underlying t = some (.array n e)) (he : P.underlying e = some (.int .u8)) (hs : (P.info? e).map (·.size) = some 1) (l r : List (BitVec 8)) (hl : l.length = n) (hr : r.length = n) :
    (binOp .eql t (.agg (vB l).toArray) (.agg (vB r).toArray)).run P w = .ok (.bool (decide (l = r))) w := by
  have hsz : ∀ w, (sizeOf e).run P w = .ok 1 w := by
    intro w
    cases hq : P.info? e with
    | none => simp [hq] at hs
    | some i => have h1 : i.size = 1 := by simpa [hq] using hs
                simp [sizeOf, typeInfo, hq, h1]
  rw [vB_cell, vB_cell, run_eql_bytes w t e n ht he hsz (toU l) (toU r) (by rw [toU_length, hl]) (by rw [toU_length, hr]), toU_beq]

end
theorem guardA : Tryd.prog.eqGuardType Tryd.prog.depth 23 = false := by kernel_rfl
section
variable {ops : Array Oper} {rest : List Oper} {op : Oper} {a : Act} {w : World} {Q : Exit → Act → World → Prop}
theorem wpList_eqlA (hw : Region.wanted op (yielded ops a.tmps) = true) (x y : Operand) (yt : TypeId) (ho : op.op = .binOp .eql 23 x y yt) (l r : List (BitVec 8)) (hl : l.length = 20) (hr : r.length = 20) (hx : a.eval x = .agg (vB l).toArray) (hy : a.eval y = .agg (vB r).toArray)
    (B : Bool) (hB : decide (l = r) = B) (h : wpList Tryd.prog ops Q rest (a.put op.dst (.bool B)) w) : wpList Tryd.prog ops Q (op :: rest) a w :=
  BigFrame.wpList_want hw fun _ hK => by
    have hr := run_eql_vB (P := Tryd.prog) w 23 5 20 Tryd.underlying23 Tryd.underlying5 info_u8 l r hl hr
    rw [hB] at hr
    unfold Oper.wp execOp
    simp only [ho, hx, hy, Sem.run_bind, run_eqGuard_agg w .eql 23 x y _ _ guardA, Result.andThen_ok, hr, Sem.run_pure, Oper.upon_value]
    exact hK _ _ h
end
theorem info_all_L : (Tryd.prog.info? 68).map (fun i => (i.size, i.bytes)) = some (5, 48) := by kernel_rfl
theorem info_zero_L : ((Tryd.prog.info? 68).bind (·.zero)).map (·.cells.size) = some 5 := by kernel_rfl
theorem info_L_open : ∃ ie z, Tryd.prog.info? 68 = some ie ∧ ie.zero = some z ∧ ie.size = 5 ∧ z.cells.size = 5 := by
  have i1 := info_all_L
  have i2 := info_zero_L
  cases hi : Tryd.prog.info? 68 with
  | none => rw [hi] at i1; cases i1
  | some ie =>
    rw [hi] at i1 i2
    cases hz : ie.zero with
    | none => simp [hz] at i2
    | some z =>
      have i3 : ie.size = 5 ∧ ie.bytes = 48 := by simpa using i1
      exact ⟨ie, z, rfl, hz, i3.1, by simpa [hz] using i2⟩
/-- Two parts of s cells. -/
theorem fill_two (s : Nat) (hs : 0 < s) (c d cells : Array Value) (hc : c.size = s) (hd : d.size = s) (hn : cells.size = 2 * s) : Instr.fill (fun i => some (i * s, s)) cells [(0, .agg c), (1, .agg d)] = some (c ++ d) := by
  obtain ⟨r, hr, hsz, hk⟩ := Great.fill_dense (s := s) hs [.agg c, .agg d] 0 cells (fun v hv => by
    simp only [List.mem_cons, List.not_mem_nil, or_false] at hv
    rcases hv with rfl | rfl
    · exact hc
    · exact hd) (by simp; omega)
  have hr' : Instr.fill (fun i => some (i * s, s)) cells [(0, .agg c), (1, .agg d)] = some r := hr
  rw [hr']
  congr 1
  apply Array.ext_getElem?
  intro k
  rw [hk k]
  by_cases h1 : k < s
  · rw [if_pos (by simp; omega), Nat.div_eq_of_lt h1, Nat.mod_eq_of_lt h1, Array.getElem?_append_left (by omega)]
    rfl
  · by_cases h2 : k < 2 * s
    · have e1 : k / s = 1 := by
        rw [Nat.div_eq_iff hs]
        omega
      have e2 : k % s = k - s := by
        have := Nat.div_add_mod k s
        rw [e1] at this
        omega
      rw [if_pos (by simp; omega), e1, e2, Array.getElem?_append_right (by omega), hc]
      rfl
    · rw [if_neg (by simp; omega), Array.getElem?_eq_none (by omega), Array.getElem?_eq_none (by simp; omega)]
section
variable {ops : Array Oper} {rest : List Oper} {o : Oper} {a : Act} {w : World} {Q : Exit → Act → World → Prop}
theorem wpList_buildL1 (hgd : o.guard = none) (x : Operand) (ho : o.op = .buildSlice 73 1 #[(0, x)]) (L : List Value) (hl : L.length = zL.length) (hx : a.eval x = .agg L.toArray)
    (h : ∀ X, Row X w.heap.size L 68 → Below w.heap.size w X → wpList Tryd.prog ops Q rest (a.put o.dst (.slice (some ⟨w.heap.size, 0, none⟩) 1 1)) X) : wpList Tryd.prog ops Q (o :: rest) a w :=
  wpList_plain hgd fun _ hK => by
    obtain ⟨ie, z, h1, h2, h3, h4⟩ := info_L_open
    refine wp_buildSlice 73 68 1 _ ho L.toArray ie z Tryd.underlying73 h1 h2 (by rw [h3]; decide) (by rw [h3]; decide) ?_ (hK _ _ (h _ (Row.new' rfl rfl) ((Below.refl _ _).alloc (Nat.le_refl _) _)))
    rw [show (Array.map (fun (p : Nat × Operand) => match p with | (i, x) => (i, a.eval x)) #[(0, x)]).toList = [(0, a.eval x)] by simp, hx, h3]
    exact fill_one 5 (by decide) _ _ (by simpa using hl) (by simp)
theorem wpList_buildL2 (hgd : o.guard = none) (x y : Operand) (ho : o.op = .buildSlice 73 2 #[(0, x), (1, y)]) (L M : List Value) (hl : L.length = zL.length) (hm : M.length = zL.length) (hx : a.eval x = .agg L.toArray) (hy : a.eval y = .agg M.toArray)
    (h : ∀ X, Row X w.heap.size (L ++ M) 68 → Below w.heap.size w X → wpList Tryd.prog ops Q rest (a.put o.dst (.slice (some ⟨w.heap.size, 0, none⟩) 2 2)) X) : wpList Tryd.prog ops Q (o :: rest) a w :=
  wpList_plain hgd fun _ hK => by
    obtain ⟨ie, z, h1, h2, h3, h4⟩ := info_L_open
    refine wp_buildSlice 73 68 2 _ ho (L.toArray ++ M.toArray) ie z Tryd.underlying73 h1 h2 (by rw [h3]; decide) (by rw [h3]; decide) ?_ (hK _ _ (h _ (Row.new' rfl (by simp)) ((Below.refl _ _).alloc (Nat.le_refl _) _)))
    rw [show (Array.map (fun (p : Nat × Operand) => match p with | (i, x) => (i, a.eval x)) #[(0, x), (1, y)]).toList = [(0, a.eval x), (1, a.eval y)] by simp, hx, hy, h3]
    exact fill_two 5 (by decide) _ _ _ (by simpa using hl) (by simpa using hm) (by simp)
end
section
variable {o : Oper} {a : Act} {w : World} {K : Act → World → Prop} {Q : Exit → Act → World → Prop}
theorem wp_allocLn (ho : o.op = .alloc 68) (h : K (a.put o.dst (.pointer (some ⟨w.heap.size, 0, none⟩))) (w.alloc (Obj.cells zL.toArray 68))) : Oper.wp Tryd.prog o a w K Q := by
  unfold Oper.wp execOp
  simp only [ho]
  go_simp
  exact h
end
theorem info_adr {l : List (BitVec 8)} (h : l.length = 20) : (Tryd.prog.info? 23).map (·.size) = some (vB l).length := by
  rw [vB_length, h]
  kernel_rfl
theorem str_sz (l : List (BitVec 8)) : (str l).size = l.length := by unfold str; rw [strOfNums_size]; simp
theorem bK_key {who : List (BitVec 8)} (h : who.length = 20) : isK (bK who).size = true := by
  unfold bK
  rw [str_sz, List.length_append, h]
  rfl
set_option maxRecDepth 100000 in
set_option maxHeartbeats 4000000 in
theorem move_no (w0 : World) (S q : Nat) (f : ByteArray → List (BitVec 8)) (hq : q < 999990) (fr tw : List (BitVec 8)) (h1 : fr.length = 20) (h2 : tw.length = 20) (a b : Nat) (hab : a < b) (hb : b < 1000000) (hA : (∀ q' W, q' < 1000000 → Lg w0 W S q' f → Calls Tryd.prog 35 #[.agg #[.pointer (some ⟨S, 0, none⟩), .int .u8 5], .string (bK fr)] W fun e w' => e = .returned (.tuple #[.agg (sm (a : Int)), .int .i64 0]) ∧ Lg w0 w' S (q' + 1) f ∧ Kp W w')) (LP LA : List Value) (hLP : LP = [.pointer (some ⟨S, 0, none⟩), .int .u8 5]) (hLA : LA = [.int .u64 (b : Int), .int .u64 0, .int .u64 0, .int .u64 0])  (w : World) (h : Lg w0 w S q f) :
    Calls Tryd.prog 32 #[.agg LP.toArray, .agg (vB fr).toArray, .agg (vB tw).toArray, .agg LA.toArray] w fun e w' => e = .returned (.tuple #[.slice none 0 0, .int .i64 85]) ∧ Lg w0 w' S (q + 1) f ∧ Kp w w' := by
  have HPE : Hid (LP = [.pointer (some ⟨S, 0, none⟩), .int .u8 5]) := hLP
  have HPI : Hid ((Tryd.prog.info? 61).map (·.size) = some LP.length) := by show _ = _; rw [hLP]; exact info_pg
  have HAE : Hid (LA = [.int .u64 (b : Int), .int .u64 0, .int .u64 0, .int .u64 0]) := hLA
  have HAI : Hid ((Tryd.prog.info? 26).map (·.size) = some LA.length) := by show _ = _; rw [hLA]; exact info_w4l
  have Hfr : Hid (fr.length = 20) := h1
  have Htw : Hid (tw.length = 20) := h2
  have HIf : Hid ((Tryd.prog.info? 23).map (·.size) = some (vB fr).length) := info_adr h1
  have HIt : Hid ((Tryd.prog.info? 23).map (·.size) = some (vB tw).length) := info_adr h2
  have HQ : Hid (q < 999990) := hq
  have HG : Hid (Lg w0 w S q f) := h
  have HW0 : Hid (w0.heap.size ≤ w.heap.size) := h.bel.size
  have HAA : Hid _ := hA
  obtain ⟨N0, heN0⟩ : ∃ L, L = zL := ⟨_, rfl⟩
  have HEN0 : Hid (N0 = zL) := heN0
  have HIN0 : Hid ((Tryd.prog.info? 68).map (·.size) = some N0.length) := by show _ = _; rw [heN0]; exact info_line
  have HJN0 : Hid ((Tryd.prog.info? 68).map (·.size) = some N0.toArray.size) := by show _ = _; rw [List.size_toArray, heN0]; exact info_line
  have HNN0 : Hid (N0.length = zL.length) := by show _ = _; rw [heN0]
  have HON0 : Hid (N0.toArray.all (·.oneCell') = true) := by rw [heN0, ← Array.all_toList]; rfl
  have HAB : Hid (a < b ∧ b < 1000000) := ⟨hab, hb⟩
  clear hLP hLA h1 h2 hq h hA hab hb heN0
  go_enter Tryd.func32, Tryd.ntmps32
  go_upto_region 1 with (first
    | (refine wpList_boxG 61 rfl (.tmp 0) rfl LP rfl ?_; intro X0 q1 q2 q3; have R4 : Hid (Row X0 _ LP 61) := q1; have B0 : Hid (Below _ _ X0) := q2; clear q1 q2 q3; simp only [Act.put, List.setIfInBounds_toArray, List.set_cons_zero, List.set_cons_succ])
    | (refine wpList_boxG 23 rfl (.tmp 1) rfl (vB fr) rfl ?_; intro X1 q1 q2 q3; have R5 : Hid (Row X1 _ (vB fr) 23) := q1; have B1 : Hid (Below _ _ X1) := q2; clear q1 q2 q3; simp only [Act.put, List.setIfInBounds_toArray, List.set_cons_zero, List.set_cons_succ])
    | (refine wpList_boxG 23 rfl (.tmp 2) rfl (vB tw) rfl ?_; intro X2 q1 q2 q3; have R6 : Hid (Row X2 _ (vB tw) 23) := q1; have B2 : Hid (Below _ _ X2) := q2; clear q1 q2 q3; simp only [Act.put, List.setIfInBounds_toArray, List.set_cons_zero, List.set_cons_succ])
    | (refine wpList_boxG 26 rfl (.tmp 3) rfl LA rfl ?_; intro X3 q1 q2 q3; have R7 : Hid (Row X3 _ LA 26) := q1; have B3 : Hid (Below _ _ X3) := q2; clear q1 q2 q3; simp only [Act.put, List.setIfInBounds_toArray, List.set_cons_zero, List.set_cons_succ]))
  obtain ⟨b4, hb4⟩ : ∃ b, b = w.heap.size := ⟨_, rfl⟩
  obtain ⟨b5, hb5⟩ : ∃ b, b = X0.heap.size := ⟨_, rfl⟩
  obtain ⟨b6, hb6⟩ : ∃ b, b = X1.heap.size := ⟨_, rfl⟩
  obtain ⟨b7, hb7⟩ : ∃ b, b = X2.heap.size := ⟨_, rfl⟩
  have c1 := B0.out.trans (B1.out.mono B0.out.size)
  have c2 := c1.trans (B2.out.mono c1.size)
  have c3 := c2.trans (B3.out.mono c2.size)
  have d2 := B1.out.trans (B2.out.mono B1.out.size)
  have d3 := d2.trans (B3.out.mono d2.size)
  have e3 := B2.out.trans (B3.out.mono B2.out.size)
  have rp : Row X3 b4 LP 61 := by rw [hb4]; exact Row.below R4.out d3 R4.out.lt
  have r5 : Row X3 b5 (vB fr) 23 := by rw [hb5]; exact Row.below R5.out e3 R5.out.lt
  have r6 : Row X3 b6 (vB tw) 23 := by rw [hb6]; exact Row.below R6.out B3.out R6.out.lt
  have rq : Row X3 b7 LA 26 := by rw [hb7]; exact R7.out
  have hG := HG.out.be c3
  have hK := Kp.of_below c3
  have hw0 : w0.heap.size ≤ X3.heap.size := Nat.le_trans HW0.out c3.size
  have hwf : w.heap.size ≤ X3.heap.size := c3.size
  have hb1 := Below.refl X3.heap.size X3
  rw [← hb4, ← hb5, ← hb6, ← hb7]
  clear hb4 hb5 hb6 hb7 c1 c2 c3 d2 d3 e3 R4 R5 R6 R7 B0 B1 B2 B3 HG
  refine wp_named fun a0 ha0 => ?_
  have hsz : a0.tmps.size = 49 := by rw [ha0]; rfl
  have zs4 : a0.eval (.tmp 4) = .pointer (some ⟨b4, 0, none⟩) := by rw [ha0]; rfl
  have zs5 : a0.eval (.tmp 5) = .pointer (some ⟨b5, 0, none⟩) := by rw [ha0]; rfl
  have zs6 : a0.eval (.tmp 6) = .pointer (some ⟨b6, 0, none⟩) := by rw [ha0]; rfl
  have zs7 : a0.eval (.tmp 7) = .pointer (some ⟨b7, 0, none⟩) := by rw [ha0]; rfl
  have lt_rp : b4 < X3.heap.size := rp.lt
  have lt_r5 : b5 < X3.heap.size := r5.lt
  have lt_r6 : b6 < X3.heap.size := r6.lt
  have lt_rq : b7 < X3.heap.size := rq.lt
  obtain ⟨D, hD⟩ : ∃ D : List (Tmp × SP), D = [(14, SP.is (.agg LP.toArray)), (15, SP.is (.agg LP.toArray)), (16, SP.is (.agg (vB fr).toArray)), (17, SP.is (.string (bK fr))), (18, SP.is (.agg LA.toArray)), (19, SP.is (.tuple #[.agg N0.toArray, .int .i64 85])), (13, SP.is (.tuple #[.agg N0.toArray, .int .i64 85])), (20, SP.is (.agg N0.toArray)), (21, SP.is (.int .i64 85)), (10, SP.any), (1000, SP.any), (11, SP.is (.int .i64 85))] := ⟨_, rfl⟩
  refine wp_region_then (by kernel_rfl) 5 (by decide) (by kernel_rfl) (fun listed ac W => Fp D a0 listed ac W ∧ Below X3.heap.size X3 W ∧ Row W b4 LP 61 ∧ Row W b5 ((vB fr)) 23 ∧ Row W b6 ((vB tw)) 23 ∧ Row W b7 LA 26 ∧ Lg w0 W S (q) f ∧ Kp w W ∧ (listed.getD 9 false = true → ∃ N, ac.eval (.tmp 10) = .pointer (some ⟨N, 0, none⟩) ∧ X3.heap.size ≤ N ∧ Row W N zL 68)) (fun listed ac W => Fp D a0 listed ac W ∧ X3.heap.size ≤ W.heap.size ∧ Row W b4 LP 61 ∧ Row W b5 ((vB fr)) 23 ∧ Row W b6 ((vB tw)) 23 ∧ Row W b7 LA 26 ∧ Lg w0 W S (q + 1) f ∧ Kp w W ∧ (listed.getD 9 false = true → ∃ N, ac.eval (.tmp 10) = .pointer (some ⟨N, 0, none⟩) ∧ X3.heap.size ≤ N ∧ Row W N (if listed.getD 10 false = true then N0 else zL) 68)) ?_ ?_ ?_ ?_ ?_
  · exact ⟨Fp.start D a0 _ _, Below.drew hb1, Row.drew rp, Row.drew r5, Row.drew r6, Row.drew rq, hG.below (Below.drew (Below.refl _ _)), hK.below (Below.drew (Below.refl _ _)), (fun h => (start_no h).elim)⟩
  · clear ha0 hb1 rp r5 r6 rq hG hK
    intro listed ac W k hl hI hdn hk hne hnl
    replace hl : listed.size = 12 := hl
    obtain ⟨hF, hb1, rp, r5, r6, rq, hG, hK, al9⟩ := hI
    have hk1 : k < 12 := List.mem_range.1 (List.mem_filter.1 hk).1
    rcases (show k = 0 ∨ k = 1 ∨ k = 2 ∨ k = 3 ∨ k = 4 ∨ k = 5 ∨ k = 6 ∨ k = 7 ∨ k = 8 ∨ k = 9 ∨ k = 10 ∨ k = 11 by omega) with rfl | rfl | rfl | rfl | rfl | rfl | rfl | rfl | rfl | rfl | rfl | rfl
    · have hk3 := hk
      exact wpOp_plain rfl rfl (wp_load_mid 61 (.tmp 4) rfl b4 0 ((hF.keep 4 (by rw [hD]; rfl)).trans zs4) LP _ rp.all Tryd.underlying61 rfl HPI.out ⟨(hF.put 0 14 (SP.is (.agg LP.toArray)) (.agg LP.toArray) (by rw [hD]; rfl) rfl (by rw [hD]; rfl) (by rw [hsz]; decide) (by rw [hl]; decide)), hb1, rp, r5, r6, rq, hG, hK, (fun h => by obtain ⟨N, e, hN, r⟩ := al9 (by rwa [getD_set _ _ _ (by decide)] at h); exact ⟨N, (eval_put_other ac _ (by decide)).trans e, hN, r⟩)⟩)
    · have hk3 := hk
      exact wpOp_plain rfl rfl (wp_load_mid 61 (.tmp 4) rfl b4 0 ((hF.keep 4 (by rw [hD]; rfl)).trans zs4) LP _ rp.all Tryd.underlying61 rfl HPI.out ⟨(hF.put 1 15 (SP.is (.agg LP.toArray)) (.agg LP.toArray) (by rw [hD]; rfl) rfl (by rw [hD]; rfl) (by rw [hsz]; decide) (by rw [hl]; decide)), hb1, rp, r5, r6, rq, hG, hK, (fun h => by obtain ⟨N, e, hN, r⟩ := al9 (by rwa [getD_set _ _ _ (by decide)] at h); exact ⟨N, (eval_put_other ac _ (by decide)).trans e, hN, r⟩)⟩)
    · have hk3 := hk
      exact wpOp_plain rfl rfl (wp_load_mid 23 (.tmp 5) rfl b5 0 ((hF.keep 5 (by rw [hD]; rfl)).trans zs5) ((vB fr)) _ r5.all Tryd.underlying23 rfl HIf.out ⟨(hF.put 2 16 (SP.is (.agg (vB fr).toArray)) (.agg (vB fr).toArray) (by rw [hD]; rfl) rfl (by rw [hD]; rfl) (by rw [hsz]; decide) (by rw [hl]; decide)), hb1, rp, r5, r6, rq, hG, hK, (fun h => by obtain ⟨N, e, hN, r⟩ := al9 (by rwa [getD_set _ _ _ (by decide)] at h); exact ⟨N, (eval_put_other ac _ (by decide)).trans e, hN, r⟩)⟩)
    · have hk3 := hk
      have ea1 := (hF.done 1 (15, SP.is (.agg LP.toArray)) (by rw [hD]; rfl) (ready_dep hk 1 (by kernel_rfl)))
      have ea2 := (hF.done 2 (16, SP.is (.agg (vB fr).toArray)) (by rw [hD]; rfl) (ready_dep hk 2 (by kernel_rfl)))
      refine wpOp_plain rfl rfl (wp_fcall_v 30 #[.agg LP.toArray, .agg (vB fr).toArray] rfl rfl (by show [ac.eval (.tmp 15), ac.eval (.tmp 16)] = _; rw [show ac.eval (.tmp 15) = .agg LP.toArray from ea1, show ac.eval (.tmp 16) = .agg (vB fr).toArray from ea2]) (by go_simp) (((show Calls Tryd.prog 30 #[.agg LP.toArray, .agg (vB fr).toArray] W _ by rw [HPE.out]; exact bkey S fr Hfr.out W)).mono ?_))
      rintro e W2 ⟨rfl, hB⟩
      exact ⟨_, rfl, ((hF.world hB).put 3 17 (SP.is (.string (bK fr))) (.string (bK fr)) (by rw [hD]; rfl) rfl (by rw [hD]; rfl) (by rw [hsz]; decide) (by rw [hl]; decide)), hb1.trans (hB.mono hb1.size), Row.below rp hB (Row.lt rp), Row.below r5 hB (Row.lt r5), Row.below r6 hB (Row.lt r6), Row.below rq hB (Row.lt rq), hG.below hB, hK.below hB, (fun h => by obtain ⟨N, e, hN, r⟩ := al9 (by rwa [getD_set _ _ _ (by decide)] at h); exact ⟨N, (eval_put_other ac _ (by decide)).trans e, hN, Row.below r hB (Row.lt r)⟩)⟩
    · have hk3 := hk
      exact wpOp_plain rfl rfl (wp_load_mid 26 (.tmp 7) rfl b7 0 ((hF.keep 7 (by rw [hD]; rfl)).trans zs7) LA _ rq.all Tryd.underlying26 rfl HAI.out ⟨(hF.put 4 18 (SP.is (.agg LA.toArray)) (.agg LA.toArray) (by rw [hD]; rfl) rfl (by rw [hD]; rfl) (by rw [hsz]; decide) (by rw [hl]; decide)), hb1, rp, r5, r6, rq, hG, hK, (fun h => by obtain ⟨N, e, hN, r⟩ := al9 (by rwa [getD_set _ _ _ (by decide)] at h); exact ⟨N, (eval_put_other ac _ (by decide)).trans e, hN, r⟩)⟩)
    · exact absurd rfl hne
    · exact absurd (ready_dep hk 5 (by kernel_rfl)) hnl
    · exact absurd (hdn 6 (ready_dep hk 6 (by kernel_rfl)) 5 (by kernel_rfl)) hnl
    · exact absurd (hdn 6 (ready_dep hk 6 (by kernel_rfl)) 5 (by kernel_rfl)) hnl
    · have hk3 := hk
      have hB : Below W.heap.size W (W.alloc (Obj.cells zL.toArray 68)) := (Below.refl _ _).alloc (Nat.le_refl _) _
      exact wpOp_plain rfl rfl (wp_allocLn rfl ⟨((hF.world hB).put 9 10 (SP.any) (.pointer (some ⟨W.heap.size, 0, none⟩)) (by rw [hD]; rfl) trivial (by rw [hD]; rfl) (by rw [hsz]; decide) (by rw [hl]; decide)), hb1.trans (hB.mono hb1.size), Row.alloc rp _, Row.alloc r5 _, Row.alloc r6 _, Row.alloc rq _, hG.below hB, hK.below hB, (fun _ => ⟨W.heap.size, eval_put_same ac _ (by rw [hF.size, hsz]; decide), hb1.size, Row.new' rfl rfl⟩)⟩)
    · exact absurd (hdn 6 (hdn 7 (ready_dep hk 7 (by kernel_rfl)) 6 (by kernel_rfl)) 5 (by kernel_rfl)) hnl
    · exact absurd (hdn 6 (hdn 8 (ready_dep hk 8 (by kernel_rfl)) 6 (by kernel_rfl)) 5 (by kernel_rfl)) hnl
  · clear ha0 hb1 rp r5 r6 rq hG hK
    intro listed ac W hl hI hdn hk
    replace hl : listed.size = 12 := hl
    obtain ⟨hF, hb1, rp, r5, r6, rq, hG, hK, al9⟩ := hI
    have eb1 := (hF.done 0 (14, SP.is (.agg LP.toArray)) (by rw [hD]; rfl) (ready_dep hk 0 (by kernel_rfl)))
    have eb2 := (hF.done 3 (17, SP.is (.string (bK fr))) (by rw [hD]; rfl) (ready_dep hk 3 (by kernel_rfl)))
    have eb3 := (hF.done 4 (18, SP.is (.agg LA.toArray)) (by rw [hD]; rfl) (ready_dep hk 4 (by kernel_rfl)))
    have hns10 : ¬ listed.getD 10 false = true := fun h => not_yet hk (hdn 6 (hdn 7 (hdn 10 h 7 (by kernel_rfl)) 6 (by kernel_rfl)) 5 (by kernel_rfl))
    refine wpOp_plain rfl rfl (wp_fcall_v 37 #[.agg LP.toArray, .string (bK fr), .agg LA.toArray, .int .i64 85] rfl rfl (by show [ac.eval (.tmp 14), ac.eval (.tmp 17), ac.eval (.tmp 18), .int .i64 85] = _; rw [show ac.eval (.tmp 14) = .agg LP.toArray from eb1, show ac.eval (.tmp 17) = .string (bK fr) from eb2, show ac.eval (.tmp 18) = .agg LA.toArray from eb3]) (by go_simp) (((show Calls Tryd.prog 37 #[.agg LP.toArray, .string (bK fr), .agg LA.toArray, .int .i64 85] W fun e w' => e = .returned (.tuple #[.agg N0.toArray, .int .i64 85]) ∧ Lg w0 w' S (q + 1) f ∧ Kp W w' by rw [HPE.out, HAE.out, HEN0.out]; exact less_no w0 S q f (bK fr) a b HAB.out.1 HAB.out.2 (fun W hW => HAA.out q W (by have := HQ.out; omega) hW) 85 W hG)).mono ?_))
    rintro e W2 ⟨rfl, hG2, hK2⟩
    have hT : Fp D a0 listed ac W2 := hF.turn (by rw [hD]; simp only [List.forall_mem_cons, List.not_mem_nil, false_implies, implies_true, and_true]; exact ⟨fun _ h => h, fun _ h => h, fun _ h => h, fun _ h => h, fun _ h => h, fun _ h => h, fun _ h => h, fun _ h => h, fun _ h => h, fun _ h => h, fun _ h => h, fun _ h => h⟩)
    exact ⟨_, rfl, (hT.put 5 19 (SP.is (.tuple #[.agg N0.toArray, .int .i64 85])) (_) (by rw [hD]; rfl) rfl (by rw [hD]; rfl) (by rw [hsz]; decide) (by rw [hl]; decide)), Nat.le_trans hb1.size hK2.size, hK2.row _ _ _ (by decide) rp, hK2.row _ _ _ (by decide) r5, hK2.row _ _ _ (by decide) r6, hK2.row _ _ _ (by decide) rq, hG2, hK.trans hK2, (fun h => by obtain ⟨N, e, hN, r⟩ := al9 (by rwa [getD_set _ _ _ (by decide)] at h); exact ⟨N, (eval_put_other ac _ (by decide)).trans e, hN, by rw [getD_set _ _ _ (by decide), if_neg hns10]; exact hK2.row _ _ _ (by decide) r⟩)⟩
  · clear ha0 hb1 rp r5 r6 rq hG hK
    intro listed ac W k hl hJ hdn hk hne hyl
    replace hl : listed.size = 12 := hl
    obtain ⟨hF, hS, rp, r5, r6, rq, hG, hK, al9⟩ := hJ
    have hk1 : k < 12 := List.mem_range.1 (List.mem_filter.1 hk).1
    rcases (show k = 0 ∨ k = 1 ∨ k = 2 ∨ k = 3 ∨ k = 4 ∨ k = 5 ∨ k = 6 ∨ k = 7 ∨ k = 8 ∨ k = 9 ∨ k = 10 ∨ k = 11 by omega) with rfl | rfl | rfl | rfl | rfl | rfl | rfl | rfl | rfl | rfl | rfl | rfl
    · exact absurd (hdn 5 hyl 0 (by kernel_rfl)) (not_yet hk)
    · exact absurd (hdn 3 (hdn 5 hyl 3 (by kernel_rfl)) 1 (by kernel_rfl)) (not_yet hk)
    · exact absurd (hdn 3 (hdn 5 hyl 3 (by kernel_rfl)) 2 (by kernel_rfl)) (not_yet hk)
    · exact absurd (hdn 5 hyl 3 (by kernel_rfl)) (not_yet hk)
    · exact absurd (hdn 5 hyl 4 (by kernel_rfl)) (not_yet hk)
    · exact absurd rfl hne
    · have hk3 := hk
      exact wpOp_plain rfl rfl (wp_move_v (ac.eval (.tmp 19)) rfl rfl ⟨(hF.put 6 13 (SP.is (.tuple #[.agg N0.toArray, .int .i64 85])) (ac.eval (.tmp 19)) (by rw [hD]; rfl) ((hF.done 5 (19, SP.is (.tuple #[.agg N0.toArray, .int .i64 85])) (by rw [hD]; rfl) (ready_dep hk 5 (by kernel_rfl)))) (by rw [hD]; rfl) (by rw [hsz]; decide) (by rw [hl]; decide)), hS, rp, r5, r6, rq, hG, hK, (fun h => by obtain ⟨N, e, hN, r⟩ := al9 (by rwa [getD_set _ _ _ (by decide)] at h); exact ⟨N, (eval_put_other ac _ (by decide)).trans e, hN, by rw [getD_set _ _ _ (by decide)]; exact r⟩)⟩)
    · have hk3 := hk
      exact wpOp_plain rfl rfl (wp_extract (.tmp 13) 0 rfl _ (hF.done 6 (13, SP.is (.tuple #[.agg N0.toArray, .int .i64 85])) (by rw [hD]; rfl) (ready_dep hk 6 (by kernel_rfl))) (.agg N0.toArray) rfl ⟨(hF.put 7 20 (SP.is (.agg N0.toArray)) (.agg N0.toArray) (by rw [hD]; rfl) rfl (by rw [hD]; rfl) (by rw [hsz]; decide) (by rw [hl]; decide)), hS, rp, r5, r6, rq, hG, hK, (fun h => by obtain ⟨N, e, hN, r⟩ := al9 (by rwa [getD_set _ _ _ (by decide)] at h); exact ⟨N, (eval_put_other ac _ (by decide)).trans e, hN, by rw [getD_set _ _ _ (by decide)]; exact r⟩)⟩)
    · have hk3 := hk
      exact wpOp_plain rfl rfl (wp_extract (.tmp 13) 1 rfl _ (hF.done 6 (13, SP.is (.tuple #[.agg N0.toArray, .int .i64 85])) (by rw [hD]; rfl) (ready_dep hk 6 (by kernel_rfl))) (.int .i64 85) rfl ⟨(hF.put 8 21 (SP.is (.int .i64 85)) (.int .i64 85) (by rw [hD]; rfl) rfl (by rw [hD]; rfl) (by rw [hsz]; decide) (by rw [hl]; decide)), hS, rp, r5, r6, rq, hG, hK, (fun h => by obtain ⟨N, e, hN, r⟩ := al9 (by rwa [getD_set _ _ _ (by decide)] at h); exact ⟨N, (eval_put_other ac _ (by decide)).trans e, hN, by rw [getD_set _ _ _ (by decide)]; exact r⟩)⟩)
    · have hk3 := hk
      have hB : Below W.heap.size W (W.alloc (Obj.cells zL.toArray 68)) := (Below.refl _ _).alloc (Nat.le_refl _) _
      have hns : ¬ listed.getD 10 false = true := fun h => not_yet hk (hdn 10 h 9 (by kernel_rfl))
      exact wpOp_plain rfl rfl (wp_allocLn rfl ⟨((hF.world hB).put 9 10 (SP.any) (.pointer (some ⟨W.heap.size, 0, none⟩)) (by rw [hD]; rfl) trivial (by rw [hD]; rfl) (by rw [hsz]; decide) (by rw [hl]; decide)), Nat.le_trans hS hB.size, Row.alloc rp _, Row.alloc r5 _, Row.alloc r6 _, Row.alloc rq _, hG.below hB, hK.below hB, (fun _ => ⟨W.heap.size, eval_put_same ac _ (by rw [hF.size, hsz]; decide), hS, (by rw [getD_set _ _ _ (by decide), if_neg hns]; exact Row.new' rfl rfl)⟩)⟩)
    · have hk3 := hk
      obtain ⟨N, e, hN, r⟩ := al9 (ready_dep hk 9 (by kernel_rfl))
      rw [if_neg (not_yet hk)] at r
      have hT : Fp D a0 listed ac (W.setCells N 0 N0) := hF.turn (by rw [hD]; simp only [List.forall_mem_cons, List.not_mem_nil, false_implies, implies_true, and_true]; exact ⟨fun _ h => h, fun _ h => h, fun _ h => h, fun _ h => h, fun _ h => h, fun _ h => h, fun _ h => h, fun _ h => h, fun _ h => h, fun _ h => h, fun _ h => h, fun _ h => h⟩)
      exact wpOp_plain rfl rfl (wp_store_mid 68 (.tmp 10) (.tmp 20) rfl N 0 N0.toArray e (hF.done 7 (20, SP.is (.agg N0.toArray)) (by rw [hD]; rfl) (ready_dep hk 7 (by kernel_rfl))) (r.there 0 _ (by rw [List.size_toArray, HNN0.out]; decide)) HJN0.out HON0.out ⟨(hT.skip 10 1000 (by rw [hD]; rfl) (by rw [hl]; decide)), (by rw [size_setCells]; exact hS), Row.setCells_other rp _ _ _ (by omega), Row.setCells_other r5 _ _ _ (by omega), Row.setCells_other r6 _ _ _ (by omega), Row.setCells_other rq _ _ _ (by omega), hG.kept r (by decide) (by decide) (by decide) (by decide) (fun k hk => heap_sets _ _ _ _ _ hk) (below_setCells hG.bel (Nat.le_trans hw0 hN) _), Kp.kept N (Nat.le_trans hwf hN) hK (fun k hk => heap_sets _ _ _ _ _ hk) (below_setCells (Below.refl 0 _) (Nat.zero_le N) _).size, (fun _ => ⟨N, e, hN, by rw [if_pos (getD_same (by rw [hl]; decide))]; exact r.over HNN0.out⟩)⟩)
    · have hk3 := hk
      exact wpOp_plain rfl rfl (wp_assign_v (ac.eval (.tmp 21)) rfl rfl ⟨(hF.put 11 11 (SP.is (.int .i64 85)) (ac.eval (.tmp 21)) (by rw [hD]; rfl) ((hF.done 8 (21, SP.is (.int .i64 85)) (by rw [hD]; rfl) (ready_dep hk 8 (by kernel_rfl)))) (by rw [hD]; rfl) (by rw [hsz]; decide) (by rw [hl]; decide)), hS, rp, r5, r6, rq, hG, hK, (fun h => by obtain ⟨N, e, hN, r⟩ := al9 (by rwa [getD_set _ _ _ (by decide)] at h); exact ⟨N, (eval_put_other ac _ (by decide)).trans e, hN, by rw [getD_set _ _ _ (by decide)]; exact r⟩)⟩)
  · clear hb1 rp r5 r6 rq hG hK
    intro listed ac W hl hJ hr
    replace hl : listed.size = 12 := hl
    obtain ⟨hF, hS, rp, r5, r6, rq, hG, hK, al9⟩ := hJ
    have hall := all_listed (by kernel_rfl) hl hr
    obtain ⟨N9, ea10, hN9, rN9⟩ := al9 (hall 9 (by decide))
    rw [if_pos (hall 10 (by decide))] at rN9
    have h14 : ac.eval (.tmp 14) = .agg LP.toArray := hF.done 0 (14, SP.is (.agg LP.toArray)) (by rw [hD]; rfl) (hall 0 (by decide))
    have h15 : ac.eval (.tmp 15) = .agg LP.toArray := hF.done 1 (15, SP.is (.agg LP.toArray)) (by rw [hD]; rfl) (hall 1 (by decide))
    have h16 : ac.eval (.tmp 16) = .agg (vB fr).toArray := hF.done 2 (16, SP.is (.agg (vB fr).toArray)) (by rw [hD]; rfl) (hall 2 (by decide))
    have h17 : ac.eval (.tmp 17) = .string (bK fr) := hF.done 3 (17, SP.is (.string (bK fr))) (by rw [hD]; rfl) (hall 3 (by decide))
    have h18 : ac.eval (.tmp 18) = .agg LA.toArray := hF.done 4 (18, SP.is (.agg LA.toArray)) (by rw [hD]; rfl) (hall 4 (by decide))
    have h19 : ac.eval (.tmp 19) = .tuple #[.agg N0.toArray, .int .i64 85] := hF.done 5 (19, SP.is (.tuple #[.agg N0.toArray, .int .i64 85])) (by rw [hD]; rfl) (hall 5 (by decide))
    have h13 : ac.eval (.tmp 13) = .tuple #[.agg N0.toArray, .int .i64 85] := hF.done 6 (13, SP.is (.tuple #[.agg N0.toArray, .int .i64 85])) (by rw [hD]; rfl) (hall 6 (by decide))
    have h20 : ac.eval (.tmp 20) = .agg N0.toArray := hF.done 7 (20, SP.is (.agg N0.toArray)) (by rw [hD]; rfl) (hall 7 (by decide))
    have h21 : ac.eval (.tmp 21) = .int .i64 85 := hF.done 8 (21, SP.is (.int .i64 85)) (by rw [hD]; rfl) (hall 8 (by decide))
    have h11 : ac.eval (.tmp 11) = .int .i64 85 := hF.done 11 (11, SP.is (.int .i64 85)) (by rw [hD]; rfl) (hall 11 (by decide))
    have ea := hF.lay [(14, .agg LP.toArray), (15, .agg LP.toArray), (16, .agg (vB fr).toArray), (17, .string (bK fr)), (18, .agg LA.toArray), (19, .tuple #[.agg N0.toArray, .int .i64 85]), (13, .tuple #[.agg N0.toArray, .int .i64 85]), (20, .agg N0.toArray), (21, .int .i64 85), (10, .pointer (some ⟨N9, 0, none⟩)), (11, .int .i64 85)] (by rw [hD, hsz]; rfl) (by simp only [List.forall_mem_cons, List.not_mem_nil, false_implies, implies_true, and_true]; exact ⟨h14, h15, h16, h17, h18, h19, h13, h20, h21, ea10, h11⟩)
    rw [ha0] at ea
    simp only [List.foldl_cons, List.foldl_nil, List.setIfInBounds_toArray, List.set_cons_zero, List.set_cons_succ] at ea
    clear hF hall hr hl hD zs4 zs5 zs6 zs7 ha0 hsz h14 h15 h16 h17 h18 h19 h13 h20 h21 ea10 h11 al9 lt_rp lt_r5 lt_r6 lt_rq
    subst ea
    have HG : Hid (Lg w0 W S (q + 1) f) := hG
    have HK : Hid (Kp w W) := hK
    clear hG hK rp r5 r6 rq hS rN9 hN9 hw0 hwf
    go_wp2_with fail
    go_ret2
    exact ⟨rfl, HG.out, HK.out⟩
set_option maxRecDepth 100000 in
set_option maxHeartbeats 4000000 in
theorem move_ok (w0 : World) (S q : Nat) (f : ByteArray → List (BitVec 8)) (hq : q < 999990) (fr tw : List (BitVec 8)) (h1 : fr.length = 20) (h2 : tw.length = 20) (a b : Nat) (hab : b ≤ a) (ha : a < 1000000) (d : Nat) (hdb : d + b < 1000000) (hb0 : b ≠ 0) (hne : fr ≠ tw) (hA : (∀ q' W, q' < 1000000 → Lg w0 W S q' f → Calls Tryd.prog 35 #[.agg #[.pointer (some ⟨S, 0, none⟩), .int .u8 5], .string (bK fr)] W fun e w' => e = .returned (.tuple #[.agg (sm (a : Int)), .int .i64 0]) ∧ Lg w0 w' S (q' + 1) f ∧ Kp W w')) (hC : (∀ q' W, q' < 1000000 → Lg w0 W S q' f → Calls Tryd.prog 35 #[.agg #[.pointer (some ⟨S, 0, none⟩), .int .u8 5], .string (bK tw)] W fun e w' => e = .returned (.tuple #[.agg (sm (d : Int)), .int .i64 0]) ∧ Lg w0 w' S (q' + 1) f ∧ Kp W w')) (LP LA : List Value) (hLP : LP = [.pointer (some ⟨S, 0, none⟩), .int .u8 5]) (hLA : LA = [.int .u64 (b : Int), .int .u64 0, .int .u64 0, .int .u64 0]) (N0 N1 : List Value) (heN0 : N0 = [.string (bK fr), .int .u64 ((a - b : Nat) : Int), .int .u64 0, .int .u64 0, .int .u64 0]) (heN1 : N1 = [.string (bK tw), .int .u64 ((d + b : Nat) : Int), .int .u64 0, .int .u64 0, .int .u64 0]) (w : World) (h : Lg w0 w S q f) :
    Calls Tryd.prog 32 #[.agg LP.toArray, .agg (vB fr).toArray, .agg (vB tw).toArray, .agg LA.toArray] w fun e w' => ∃ g, e = .returned (.tuple #[.slice (some ⟨g, 0, none⟩) 2 2, .int .i64 0]) ∧ Row w' g (N0 ++ N1) 68 ∧ Lg w0 w' S (q + 1 + 1) f ∧ Kp w w' := by
  have HPE : Hid (LP = [.pointer (some ⟨S, 0, none⟩), .int .u8 5]) := hLP
  have HPI : Hid ((Tryd.prog.info? 61).map (·.size) = some LP.length) := by show _ = _; rw [hLP]; exact info_pg
  have HAE : Hid (LA = [.int .u64 (b : Int), .int .u64 0, .int .u64 0, .int .u64 0]) := hLA
  have HAI : Hid ((Tryd.prog.info? 26).map (·.size) = some LA.length) := by show _ = _; rw [hLA]; exact info_w4l
  have Hfr : Hid (fr.length = 20) := h1
  have Htw : Hid (tw.length = 20) := h2
  have HIf : Hid ((Tryd.prog.info? 23).map (·.size) = some (vB fr).length) := info_adr h1
  have HIt : Hid ((Tryd.prog.info? 23).map (·.size) = some (vB tw).length) := info_adr h2
  have HQ : Hid (q < 999990) := hq
  have HG : Hid (Lg w0 w S q f) := h
  have HW0 : Hid (w0.heap.size ≤ w.heap.size) := h.bel.size
  have HAA : Hid _ := hA
  have HEN0 : Hid (N0 = [.string (bK fr), .int .u64 ((a - b : Nat) : Int), .int .u64 0, .int .u64 0, .int .u64 0]) := heN0
  have HIN0 : Hid ((Tryd.prog.info? 68).map (·.size) = some N0.length) := by show _ = _; rw [heN0]; exact info_line
  have HJN0 : Hid ((Tryd.prog.info? 68).map (·.size) = some N0.toArray.size) := by show _ = _; rw [List.size_toArray, heN0]; exact info_line
  have HNN0 : Hid (N0.length = zL.length) := by show _ = _; rw [heN0]; rfl
  have HON0 : Hid (N0.toArray.all (·.oneCell') = true) := line_one heN0
  have HEN1 : Hid (N1 = [.string (bK tw), .int .u64 ((d + b : Nat) : Int), .int .u64 0, .int .u64 0, .int .u64 0]) := heN1
  have HIN1 : Hid ((Tryd.prog.info? 68).map (·.size) = some N1.length) := by show _ = _; rw [heN1]; exact info_line
  have HJN1 : Hid ((Tryd.prog.info? 68).map (·.size) = some N1.toArray.size) := by show _ = _; rw [List.size_toArray, heN1]; exact info_line
  have HNN1 : Hid (N1.length = zL.length) := by show _ = _; rw [heN1]; rfl
  have HON1 : Hid (N1.toArray.all (·.oneCell') = true) := line_one heN1
  have HCC : Hid _ := hC
  have HAB : Hid (b ≤ a ∧ a < 1000000) := ⟨hab, ha⟩
  have HDB : Hid (d + b < 1000000) := hdb
  have HB0 : Hid (b ≠ 0) := hb0
  have HNE : Hid (decide (fr = tw) = false) := decide_eq_false hne
  clear hLP hLA h1 h2 hq h hA hC hab ha hdb hb0 hne heN0 heN1
  go_enter Tryd.func32, Tryd.ntmps32
  go_upto_region 1 with (first
    | (refine wpList_boxG 61 rfl (.tmp 0) rfl LP rfl ?_; intro X0 q1 q2 q3; have R4 : Hid (Row X0 _ LP 61) := q1; have B0 : Hid (Below _ _ X0) := q2; clear q1 q2 q3; simp only [Act.put, List.setIfInBounds_toArray, List.set_cons_zero, List.set_cons_succ])
    | (refine wpList_boxG 23 rfl (.tmp 1) rfl (vB fr) rfl ?_; intro X1 q1 q2 q3; have R5 : Hid (Row X1 _ (vB fr) 23) := q1; have B1 : Hid (Below _ _ X1) := q2; clear q1 q2 q3; simp only [Act.put, List.setIfInBounds_toArray, List.set_cons_zero, List.set_cons_succ])
    | (refine wpList_boxG 23 rfl (.tmp 2) rfl (vB tw) rfl ?_; intro X2 q1 q2 q3; have R6 : Hid (Row X2 _ (vB tw) 23) := q1; have B2 : Hid (Below _ _ X2) := q2; clear q1 q2 q3; simp only [Act.put, List.setIfInBounds_toArray, List.set_cons_zero, List.set_cons_succ])
    | (refine wpList_boxG 26 rfl (.tmp 3) rfl LA rfl ?_; intro X3 q1 q2 q3; have R7 : Hid (Row X3 _ LA 26) := q1; have B3 : Hid (Below _ _ X3) := q2; clear q1 q2 q3; simp only [Act.put, List.setIfInBounds_toArray, List.set_cons_zero, List.set_cons_succ]))
  obtain ⟨b4, hb4⟩ : ∃ b, b = w.heap.size := ⟨_, rfl⟩
  obtain ⟨b5, hb5⟩ : ∃ b, b = X0.heap.size := ⟨_, rfl⟩
  obtain ⟨b6, hb6⟩ : ∃ b, b = X1.heap.size := ⟨_, rfl⟩
  obtain ⟨b7, hb7⟩ : ∃ b, b = X2.heap.size := ⟨_, rfl⟩
  have c1 := B0.out.trans (B1.out.mono B0.out.size)
  have c2 := c1.trans (B2.out.mono c1.size)
  have c3 := c2.trans (B3.out.mono c2.size)
  have d2 := B1.out.trans (B2.out.mono B1.out.size)
  have d3 := d2.trans (B3.out.mono d2.size)
  have e3 := B2.out.trans (B3.out.mono B2.out.size)
  have rp : Row X3 b4 LP 61 := by rw [hb4]; exact Row.below R4.out d3 R4.out.lt
  have r5 : Row X3 b5 (vB fr) 23 := by rw [hb5]; exact Row.below R5.out e3 R5.out.lt
  have r6 : Row X3 b6 (vB tw) 23 := by rw [hb6]; exact Row.below R6.out B3.out R6.out.lt
  have rq : Row X3 b7 LA 26 := by rw [hb7]; exact R7.out
  have hG := HG.out.be c3
  have hK := Kp.of_below c3
  have hw0 : w0.heap.size ≤ X3.heap.size := Nat.le_trans HW0.out c3.size
  have hwf : w.heap.size ≤ X3.heap.size := c3.size
  have hb1 := Below.refl X3.heap.size X3
  rw [← hb4, ← hb5, ← hb6, ← hb7]
  clear hb4 hb5 hb6 hb7 c1 c2 c3 d2 d3 e3 R4 R5 R6 R7 B0 B1 B2 B3 HG
  refine wp_named fun a0 ha0 => ?_
  have hsz : a0.tmps.size = 49 := by rw [ha0]; rfl
  have zs4 : a0.eval (.tmp 4) = .pointer (some ⟨b4, 0, none⟩) := by rw [ha0]; rfl
  have zs5 : a0.eval (.tmp 5) = .pointer (some ⟨b5, 0, none⟩) := by rw [ha0]; rfl
  have zs6 : a0.eval (.tmp 6) = .pointer (some ⟨b6, 0, none⟩) := by rw [ha0]; rfl
  have zs7 : a0.eval (.tmp 7) = .pointer (some ⟨b7, 0, none⟩) := by rw [ha0]; rfl
  have lt_rp : b4 < X3.heap.size := rp.lt
  have lt_r5 : b5 < X3.heap.size := r5.lt
  have lt_r6 : b6 < X3.heap.size := r6.lt
  have lt_rq : b7 < X3.heap.size := rq.lt
  obtain ⟨D, hD⟩ : ∃ D : List (Tmp × SP), D = [(14, SP.is (.agg LP.toArray)), (15, SP.is (.agg LP.toArray)), (16, SP.is (.agg (vB fr).toArray)), (17, SP.is (.string (bK fr))), (18, SP.is (.agg LA.toArray)), (19, SP.is (.tuple #[.agg N0.toArray, .int .i64 0])), (13, SP.is (.tuple #[.agg N0.toArray, .int .i64 0])), (20, SP.is (.agg N0.toArray)), (21, SP.is (.int .i64 0)), (10, SP.any), (1000, SP.any), (11, SP.is (.int .i64 0))] := ⟨_, rfl⟩
  refine wp_region_then (by kernel_rfl) 5 (by decide) (by kernel_rfl) (fun listed ac W => Fp D a0 listed ac W ∧ Below X3.heap.size X3 W ∧ Row W b4 LP 61 ∧ Row W b5 ((vB fr)) 23 ∧ Row W b6 ((vB tw)) 23 ∧ Row W b7 LA 26 ∧ Lg w0 W S (q) f ∧ Kp w W ∧ (listed.getD 9 false = true → ∃ N, ac.eval (.tmp 10) = .pointer (some ⟨N, 0, none⟩) ∧ X3.heap.size ≤ N ∧ Row W N zL 68)) (fun listed ac W => Fp D a0 listed ac W ∧ X3.heap.size ≤ W.heap.size ∧ Row W b4 LP 61 ∧ Row W b5 ((vB fr)) 23 ∧ Row W b6 ((vB tw)) 23 ∧ Row W b7 LA 26 ∧ Lg w0 W S (q + 1) f ∧ Kp w W ∧ (listed.getD 9 false = true → ∃ N, ac.eval (.tmp 10) = .pointer (some ⟨N, 0, none⟩) ∧ X3.heap.size ≤ N ∧ Row W N (if listed.getD 10 false = true then N0 else zL) 68)) ?_ ?_ ?_ ?_ ?_
  · exact ⟨Fp.start D a0 _ _, Below.drew hb1, Row.drew rp, Row.drew r5, Row.drew r6, Row.drew rq, hG.below (Below.drew (Below.refl _ _)), hK.below (Below.drew (Below.refl _ _)), (fun h => (start_no h).elim)⟩
  · clear ha0 hb1 rp r5 r6 rq hG hK
    intro listed ac W k hl hI hdn hk hne hnl
    replace hl : listed.size = 12 := hl
    obtain ⟨hF, hb1, rp, r5, r6, rq, hG, hK, al9⟩ := hI
    have hk1 : k < 12 := List.mem_range.1 (List.mem_filter.1 hk).1
    rcases (show k = 0 ∨ k = 1 ∨ k = 2 ∨ k = 3 ∨ k = 4 ∨ k = 5 ∨ k = 6 ∨ k = 7 ∨ k = 8 ∨ k = 9 ∨ k = 10 ∨ k = 11 by omega) with rfl | rfl | rfl | rfl | rfl | rfl | rfl | rfl | rfl | rfl | rfl | rfl
    · have hk3 := hk
      exact wpOp_plain rfl rfl (wp_load_mid 61 (.tmp 4) rfl b4 0 ((hF.keep 4 (by rw [hD]; rfl)).trans zs4) LP _ rp.all Tryd.underlying61 rfl HPI.out ⟨(hF.put 0 14 (SP.is (.agg LP.toArray)) (.agg LP.toArray) (by rw [hD]; rfl) rfl (by rw [hD]; rfl) (by rw [hsz]; decide) (by rw [hl]; decide)), hb1, rp, r5, r6, rq, hG, hK, (fun h => by obtain ⟨N, e, hN, r⟩ := al9 (by rwa [getD_set _ _ _ (by decide)] at h); exact ⟨N, (eval_put_other ac _ (by decide)).trans e, hN, r⟩)⟩)
    · have hk3 := hk
      exact wpOp_plain rfl rfl (wp_load_mid 61 (.tmp 4) rfl b4 0 ((hF.keep 4 (by rw [hD]; rfl)).trans zs4) LP _ rp.all Tryd.underlying61 rfl HPI.out ⟨(hF.put 1 15 (SP.is (.agg LP.toArray)) (.agg LP.toArray) (by rw [hD]; rfl) rfl (by rw [hD]; rfl) (by rw [hsz]; decide) (by rw [hl]; decide)), hb1, rp, r5, r6, rq, hG, hK, (fun h => by obtain ⟨N, e, hN, r⟩ := al9 (by rwa [getD_set _ _ _ (by decide)] at h); exact ⟨N, (eval_put_other ac _ (by decide)).trans e, hN, r⟩)⟩)
    · have hk3 := hk
      exact wpOp_plain rfl rfl (wp_load_mid 23 (.tmp 5) rfl b5 0 ((hF.keep 5 (by rw [hD]; rfl)).trans zs5) ((vB fr)) _ r5.all Tryd.underlying23 rfl HIf.out ⟨(hF.put 2 16 (SP.is (.agg (vB fr).toArray)) (.agg (vB fr).toArray) (by rw [hD]; rfl) rfl (by rw [hD]; rfl) (by rw [hsz]; decide) (by rw [hl]; decide)), hb1, rp, r5, r6, rq, hG, hK, (fun h => by obtain ⟨N, e, hN, r⟩ := al9 (by rwa [getD_set _ _ _ (by decide)] at h); exact ⟨N, (eval_put_other ac _ (by decide)).trans e, hN, r⟩)⟩)
    · have hk3 := hk
      have ea1 := (hF.done 1 (15, SP.is (.agg LP.toArray)) (by rw [hD]; rfl) (ready_dep hk 1 (by kernel_rfl)))
      have ea2 := (hF.done 2 (16, SP.is (.agg (vB fr).toArray)) (by rw [hD]; rfl) (ready_dep hk 2 (by kernel_rfl)))
      refine wpOp_plain rfl rfl (wp_fcall_v 30 #[.agg LP.toArray, .agg (vB fr).toArray] rfl rfl (by show [ac.eval (.tmp 15), ac.eval (.tmp 16)] = _; rw [show ac.eval (.tmp 15) = .agg LP.toArray from ea1, show ac.eval (.tmp 16) = .agg (vB fr).toArray from ea2]) (by go_simp) (((show Calls Tryd.prog 30 #[.agg LP.toArray, .agg (vB fr).toArray] W _ by rw [HPE.out]; exact bkey S fr Hfr.out W)).mono ?_))
      rintro e W2 ⟨rfl, hB⟩
      exact ⟨_, rfl, ((hF.world hB).put 3 17 (SP.is (.string (bK fr))) (.string (bK fr)) (by rw [hD]; rfl) rfl (by rw [hD]; rfl) (by rw [hsz]; decide) (by rw [hl]; decide)), hb1.trans (hB.mono hb1.size), Row.below rp hB (Row.lt rp), Row.below r5 hB (Row.lt r5), Row.below r6 hB (Row.lt r6), Row.below rq hB (Row.lt rq), hG.below hB, hK.below hB, (fun h => by obtain ⟨N, e, hN, r⟩ := al9 (by rwa [getD_set _ _ _ (by decide)] at h); exact ⟨N, (eval_put_other ac _ (by decide)).trans e, hN, Row.below r hB (Row.lt r)⟩)⟩
    · have hk3 := hk
      exact wpOp_plain rfl rfl (wp_load_mid 26 (.tmp 7) rfl b7 0 ((hF.keep 7 (by rw [hD]; rfl)).trans zs7) LA _ rq.all Tryd.underlying26 rfl HAI.out ⟨(hF.put 4 18 (SP.is (.agg LA.toArray)) (.agg LA.toArray) (by rw [hD]; rfl) rfl (by rw [hD]; rfl) (by rw [hsz]; decide) (by rw [hl]; decide)), hb1, rp, r5, r6, rq, hG, hK, (fun h => by obtain ⟨N, e, hN, r⟩ := al9 (by rwa [getD_set _ _ _ (by decide)] at h); exact ⟨N, (eval_put_other ac _ (by decide)).trans e, hN, r⟩)⟩)
    · exact absurd rfl hne
    · exact absurd (ready_dep hk 5 (by kernel_rfl)) hnl
    · exact absurd (hdn 6 (ready_dep hk 6 (by kernel_rfl)) 5 (by kernel_rfl)) hnl
    · exact absurd (hdn 6 (ready_dep hk 6 (by kernel_rfl)) 5 (by kernel_rfl)) hnl
    · have hk3 := hk
      have hB : Below W.heap.size W (W.alloc (Obj.cells zL.toArray 68)) := (Below.refl _ _).alloc (Nat.le_refl _) _
      exact wpOp_plain rfl rfl (wp_allocLn rfl ⟨((hF.world hB).put 9 10 (SP.any) (.pointer (some ⟨W.heap.size, 0, none⟩)) (by rw [hD]; rfl) trivial (by rw [hD]; rfl) (by rw [hsz]; decide) (by rw [hl]; decide)), hb1.trans (hB.mono hb1.size), Row.alloc rp _, Row.alloc r5 _, Row.alloc r6 _, Row.alloc rq _, hG.below hB, hK.below hB, (fun _ => ⟨W.heap.size, eval_put_same ac _ (by rw [hF.size, hsz]; decide), hb1.size, Row.new' rfl rfl⟩)⟩)
    · exact absurd (hdn 6 (hdn 7 (ready_dep hk 7 (by kernel_rfl)) 6 (by kernel_rfl)) 5 (by kernel_rfl)) hnl
    · exact absurd (hdn 6 (hdn 8 (ready_dep hk 8 (by kernel_rfl)) 6 (by kernel_rfl)) 5 (by kernel_rfl)) hnl
  · clear ha0 hb1 rp r5 r6 rq hG hK
    intro listed ac W hl hI hdn hk
    replace hl : listed.size = 12 := hl
    obtain ⟨hF, hb1, rp, r5, r6, rq, hG, hK, al9⟩ := hI
    have eb1 := (hF.done 0 (14, SP.is (.agg LP.toArray)) (by rw [hD]; rfl) (ready_dep hk 0 (by kernel_rfl)))
    have eb2 := (hF.done 3 (17, SP.is (.string (bK fr))) (by rw [hD]; rfl) (ready_dep hk 3 (by kernel_rfl)))
    have eb3 := (hF.done 4 (18, SP.is (.agg LA.toArray)) (by rw [hD]; rfl) (ready_dep hk 4 (by kernel_rfl)))
    have hns10 : ¬ listed.getD 10 false = true := fun h => not_yet hk (hdn 6 (hdn 7 (hdn 10 h 7 (by kernel_rfl)) 6 (by kernel_rfl)) 5 (by kernel_rfl))
    refine wpOp_plain rfl rfl (wp_fcall_v 37 #[.agg LP.toArray, .string (bK fr), .agg LA.toArray, .int .i64 85] rfl rfl (by show [ac.eval (.tmp 14), ac.eval (.tmp 17), ac.eval (.tmp 18), .int .i64 85] = _; rw [show ac.eval (.tmp 14) = .agg LP.toArray from eb1, show ac.eval (.tmp 17) = .string (bK fr) from eb2, show ac.eval (.tmp 18) = .agg LA.toArray from eb3]) (by go_simp) (((show Calls Tryd.prog 37 #[.agg LP.toArray, .string (bK fr), .agg LA.toArray, .int .i64 85] W fun e w' => e = .returned (.tuple #[.agg N0.toArray, .int .i64 0]) ∧ Lg w0 w' S (q + 1) f ∧ Kp W w' by rw [HPE.out, HAE.out, HEN0.out]; exact less_ok w0 S q f (bK fr) a b HAB.out.2 HAB.out.1 (fun W hW => HAA.out q W (by have := HQ.out; omega) hW) 85 W hG)).mono ?_))
    rintro e W2 ⟨rfl, hG2, hK2⟩
    have hT : Fp D a0 listed ac W2 := hF.turn (by rw [hD]; simp only [List.forall_mem_cons, List.not_mem_nil, false_implies, implies_true, and_true]; exact ⟨fun _ h => h, fun _ h => h, fun _ h => h, fun _ h => h, fun _ h => h, fun _ h => h, fun _ h => h, fun _ h => h, fun _ h => h, fun _ h => h, fun _ h => h, fun _ h => h⟩)
    exact ⟨_, rfl, (hT.put 5 19 (SP.is (.tuple #[.agg N0.toArray, .int .i64 0])) (_) (by rw [hD]; rfl) rfl (by rw [hD]; rfl) (by rw [hsz]; decide) (by rw [hl]; decide)), Nat.le_trans hb1.size hK2.size, hK2.row _ _ _ (by decide) rp, hK2.row _ _ _ (by decide) r5, hK2.row _ _ _ (by decide) r6, hK2.row _ _ _ (by decide) rq, hG2, hK.trans hK2, (fun h => by obtain ⟨N, e, hN, r⟩ := al9 (by rwa [getD_set _ _ _ (by decide)] at h); exact ⟨N, (eval_put_other ac _ (by decide)).trans e, hN, by rw [getD_set _ _ _ (by decide), if_neg hns10]; exact hK2.row _ _ _ (by decide) r⟩)⟩
  · clear ha0 hb1 rp r5 r6 rq hG hK
    intro listed ac W k hl hJ hdn hk hne hyl
    replace hl : listed.size = 12 := hl
    obtain ⟨hF, hS, rp, r5, r6, rq, hG, hK, al9⟩ := hJ
    have hk1 : k < 12 := List.mem_range.1 (List.mem_filter.1 hk).1
    rcases (show k = 0 ∨ k = 1 ∨ k = 2 ∨ k = 3 ∨ k = 4 ∨ k = 5 ∨ k = 6 ∨ k = 7 ∨ k = 8 ∨ k = 9 ∨ k = 10 ∨ k = 11 by omega) with rfl | rfl | rfl | rfl | rfl | rfl | rfl | rfl | rfl | rfl | rfl | rfl
    · exact absurd (hdn 5 hyl 0 (by kernel_rfl)) (not_yet hk)
    · exact absurd (hdn 3 (hdn 5 hyl 3 (by kernel_rfl)) 1 (by kernel_rfl)) (not_yet hk)
    · exact absurd (hdn 3 (hdn 5 hyl 3 (by kernel_rfl)) 2 (by kernel_rfl)) (not_yet hk)
    · exact absurd (hdn 5 hyl 3 (by kernel_rfl)) (not_yet hk)
    · exact absurd (hdn 5 hyl 4 (by kernel_rfl)) (not_yet hk)
    · exact absurd rfl hne
    · have hk3 := hk
      exact wpOp_plain rfl rfl (wp_move_v (ac.eval (.tmp 19)) rfl rfl ⟨(hF.put 6 13 (SP.is (.tuple #[.agg N0.toArray, .int .i64 0])) (ac.eval (.tmp 19)) (by rw [hD]; rfl) ((hF.done 5 (19, SP.is (.tuple #[.agg N0.toArray, .int .i64 0])) (by rw [hD]; rfl) (ready_dep hk 5 (by kernel_rfl)))) (by rw [hD]; rfl) (by rw [hsz]; decide) (by rw [hl]; decide)), hS, rp, r5, r6, rq, hG, hK, (fun h => by obtain ⟨N, e, hN, r⟩ := al9 (by rwa [getD_set _ _ _ (by decide)] at h); exact ⟨N, (eval_put_other ac _ (by decide)).trans e, hN, by rw [getD_set _ _ _ (by decide)]; exact r⟩)⟩)
    · have hk3 := hk
      exact wpOp_plain rfl rfl (wp_extract (.tmp 13) 0 rfl _ (hF.done 6 (13, SP.is (.tuple #[.agg N0.toArray, .int .i64 0])) (by rw [hD]; rfl) (ready_dep hk 6 (by kernel_rfl))) (.agg N0.toArray) rfl ⟨(hF.put 7 20 (SP.is (.agg N0.toArray)) (.agg N0.toArray) (by rw [hD]; rfl) rfl (by rw [hD]; rfl) (by rw [hsz]; decide) (by rw [hl]; decide)), hS, rp, r5, r6, rq, hG, hK, (fun h => by obtain ⟨N, e, hN, r⟩ := al9 (by rwa [getD_set _ _ _ (by decide)] at h); exact ⟨N, (eval_put_other ac _ (by decide)).trans e, hN, by rw [getD_set _ _ _ (by decide)]; exact r⟩)⟩)
    · have hk3 := hk
      exact wpOp_plain rfl rfl (wp_extract (.tmp 13) 1 rfl _ (hF.done 6 (13, SP.is (.tuple #[.agg N0.toArray, .int .i64 0])) (by rw [hD]; rfl) (ready_dep hk 6 (by kernel_rfl))) (.int .i64 0) rfl ⟨(hF.put 8 21 (SP.is (.int .i64 0)) (.int .i64 0) (by rw [hD]; rfl) rfl (by rw [hD]; rfl) (by rw [hsz]; decide) (by rw [hl]; decide)), hS, rp, r5, r6, rq, hG, hK, (fun h => by obtain ⟨N, e, hN, r⟩ := al9 (by rwa [getD_set _ _ _ (by decide)] at h); exact ⟨N, (eval_put_other ac _ (by decide)).trans e, hN, by rw [getD_set _ _ _ (by decide)]; exact r⟩)⟩)
    · have hk3 := hk
      have hB : Below W.heap.size W (W.alloc (Obj.cells zL.toArray 68)) := (Below.refl _ _).alloc (Nat.le_refl _) _
      have hns : ¬ listed.getD 10 false = true := fun h => not_yet hk (hdn 10 h 9 (by kernel_rfl))
      exact wpOp_plain rfl rfl (wp_allocLn rfl ⟨((hF.world hB).put 9 10 (SP.any) (.pointer (some ⟨W.heap.size, 0, none⟩)) (by rw [hD]; rfl) trivial (by rw [hD]; rfl) (by rw [hsz]; decide) (by rw [hl]; decide)), Nat.le_trans hS hB.size, Row.alloc rp _, Row.alloc r5 _, Row.alloc r6 _, Row.alloc rq _, hG.below hB, hK.below hB, (fun _ => ⟨W.heap.size, eval_put_same ac _ (by rw [hF.size, hsz]; decide), hS, (by rw [getD_set _ _ _ (by decide), if_neg hns]; exact Row.new' rfl rfl)⟩)⟩)
    · have hk3 := hk
      obtain ⟨N, e, hN, r⟩ := al9 (ready_dep hk 9 (by kernel_rfl))
      rw [if_neg (not_yet hk)] at r
      have hT : Fp D a0 listed ac (W.setCells N 0 N0) := hF.turn (by rw [hD]; simp only [List.forall_mem_cons, List.not_mem_nil, false_implies, implies_true, and_true]; exact ⟨fun _ h => h, fun _ h => h, fun _ h => h, fun _ h => h, fun _ h => h, fun _ h => h, fun _ h => h, fun _ h => h, fun _ h => h, fun _ h => h, fun _ h => h, fun _ h => h⟩)
      exact wpOp_plain rfl rfl (wp_store_mid 68 (.tmp 10) (.tmp 20) rfl N 0 N0.toArray e (hF.done 7 (20, SP.is (.agg N0.toArray)) (by rw [hD]; rfl) (ready_dep hk 7 (by kernel_rfl))) (r.there 0 _ (by rw [List.size_toArray, HNN0.out]; decide)) HJN0.out HON0.out ⟨(hT.skip 10 1000 (by rw [hD]; rfl) (by rw [hl]; decide)), (by rw [size_setCells]; exact hS), Row.setCells_other rp _ _ _ (by omega), Row.setCells_other r5 _ _ _ (by omega), Row.setCells_other r6 _ _ _ (by omega), Row.setCells_other rq _ _ _ (by omega), hG.kept r (by decide) (by decide) (by decide) (by decide) (fun k hk => heap_sets _ _ _ _ _ hk) (below_setCells hG.bel (Nat.le_trans hw0 hN) _), Kp.kept N (Nat.le_trans hwf hN) hK (fun k hk => heap_sets _ _ _ _ _ hk) (below_setCells (Below.refl 0 _) (Nat.zero_le N) _).size, (fun _ => ⟨N, e, hN, by rw [if_pos (getD_same (by rw [hl]; decide))]; exact r.over HNN0.out⟩)⟩)
    · have hk3 := hk
      exact wpOp_plain rfl rfl (wp_assign_v (ac.eval (.tmp 21)) rfl rfl ⟨(hF.put 11 11 (SP.is (.int .i64 0)) (ac.eval (.tmp 21)) (by rw [hD]; rfl) ((hF.done 8 (21, SP.is (.int .i64 0)) (by rw [hD]; rfl) (ready_dep hk 8 (by kernel_rfl)))) (by rw [hD]; rfl) (by rw [hsz]; decide) (by rw [hl]; decide)), hS, rp, r5, r6, rq, hG, hK, (fun h => by obtain ⟨N, e, hN, r⟩ := al9 (by rwa [getD_set _ _ _ (by decide)] at h); exact ⟨N, (eval_put_other ac _ (by decide)).trans e, hN, by rw [getD_set _ _ _ (by decide)]; exact r⟩)⟩)
  · clear hb1 rp r5 r6 rq hG hK
    intro listed ac W hl hJ hr
    replace hl : listed.size = 12 := hl
    obtain ⟨hF, hS, rp, r5, r6, rq, hG, hK, al9⟩ := hJ
    have hall := all_listed (by kernel_rfl) hl hr
    obtain ⟨N9, ea10, hN9, rN9⟩ := al9 (hall 9 (by decide))
    rw [if_pos (hall 10 (by decide))] at rN9
    have h14 : ac.eval (.tmp 14) = .agg LP.toArray := hF.done 0 (14, SP.is (.agg LP.toArray)) (by rw [hD]; rfl) (hall 0 (by decide))
    have h15 : ac.eval (.tmp 15) = .agg LP.toArray := hF.done 1 (15, SP.is (.agg LP.toArray)) (by rw [hD]; rfl) (hall 1 (by decide))
    have h16 : ac.eval (.tmp 16) = .agg (vB fr).toArray := hF.done 2 (16, SP.is (.agg (vB fr).toArray)) (by rw [hD]; rfl) (hall 2 (by decide))
    have h17 : ac.eval (.tmp 17) = .string (bK fr) := hF.done 3 (17, SP.is (.string (bK fr))) (by rw [hD]; rfl) (hall 3 (by decide))
    have h18 : ac.eval (.tmp 18) = .agg LA.toArray := hF.done 4 (18, SP.is (.agg LA.toArray)) (by rw [hD]; rfl) (hall 4 (by decide))
    have h19 : ac.eval (.tmp 19) = .tuple #[.agg N0.toArray, .int .i64 0] := hF.done 5 (19, SP.is (.tuple #[.agg N0.toArray, .int .i64 0])) (by rw [hD]; rfl) (hall 5 (by decide))
    have h13 : ac.eval (.tmp 13) = .tuple #[.agg N0.toArray, .int .i64 0] := hF.done 6 (13, SP.is (.tuple #[.agg N0.toArray, .int .i64 0])) (by rw [hD]; rfl) (hall 6 (by decide))
    have h20 : ac.eval (.tmp 20) = .agg N0.toArray := hF.done 7 (20, SP.is (.agg N0.toArray)) (by rw [hD]; rfl) (hall 7 (by decide))
    have h21 : ac.eval (.tmp 21) = .int .i64 0 := hF.done 8 (21, SP.is (.int .i64 0)) (by rw [hD]; rfl) (hall 8 (by decide))
    have h11 : ac.eval (.tmp 11) = .int .i64 0 := hF.done 11 (11, SP.is (.int .i64 0)) (by rw [hD]; rfl) (hall 11 (by decide))
    have ea := hF.lay [(14, .agg LP.toArray), (15, .agg LP.toArray), (16, .agg (vB fr).toArray), (17, .string (bK fr)), (18, .agg LA.toArray), (19, .tuple #[.agg N0.toArray, .int .i64 0]), (13, .tuple #[.agg N0.toArray, .int .i64 0]), (20, .agg N0.toArray), (21, .int .i64 0), (10, .pointer (some ⟨N9, 0, none⟩)), (11, .int .i64 0)] (by rw [hD, hsz]; rfl) (by simp only [List.forall_mem_cons, List.not_mem_nil, false_implies, implies_true, and_true]; exact ⟨h14, h15, h16, h17, h18, h19, h13, h20, h21, ea10, h11⟩)
    rw [ha0] at ea
    simp only [List.foldl_cons, List.foldl_nil, List.setIfInBounds_toArray, List.set_cons_zero, List.set_cons_succ] at ea
    clear hF hall hr hl hD zs4 zs5 zs6 zs7 ha0 hsz h14 h15 h16 h17 h18 h19 h13 h20 h21 ea10 h11 al9 lt_rp lt_r5 lt_r6 lt_rq
    subst ea
    obtain ⟨V, hV⟩ : ∃ V, V = W := ⟨_, rfl⟩
    rw [← hV]
    rw [← hV] at hG hK rp r5 r6 rq rN9 hS
    have hw0' : w0.heap.size ≤ V.heap.size := Nat.le_trans hw0 hS
    have hwf' : w.heap.size ≤ V.heap.size := Nat.le_trans hwf hS
    have HG : Hid (Lg w0 V S (q + 1) f) := hG
    have HK : Hid (Kp w V) := hK
    have RP : Hid (Row V b4 LP 61) := rp
    have R5 : Hid (Row V b5 (vB fr) 23) := r5
    have R6 : Hid (Row V b6 (vB tw) 23) := r6
    have RW : Hid (Row V b7 LA 26) := rq
    have R9 : Hid (Row V N9 N0 68) := rN9
    have RA5 : Hid (V.rangeAt b5 0 (vB fr)) := r5.all
    have RA6 : Hid (V.rangeAt b6 0 (vB tw)) := r6.all
    have HW0' : Hid (w0.heap.size ≤ V.heap.size) := hw0'
    have HWF' : Hid (w.heap.size ≤ V.heap.size) := hwf'
    clear hV hG hK rp r5 r6 rq rN9 hS hN9 hw0 hwf hw0' hwf'
    go_upto_region 4 with (first
      | (refine wpList_load_w rfl 23 (.tmp 5) rfl b5 0 rfl (vB fr) _ RA5.out Tryd.underlying23 rfl HIf.out ?_; simp only [Act.put, List.setIfInBounds_toArray, List.set_cons_zero, List.set_cons_succ])
      | (refine wpList_load_w rfl 23 (.tmp 6) rfl b6 0 rfl (vB tw) _ RA6.out Tryd.underlying23 rfl HIt.out ?_; simp only [Act.put, List.setIfInBounds_toArray, List.set_cons_zero, List.set_cons_succ])
      | (refine wpList_eqlA rfl (.tmp 25) (.tmp 26) _ rfl fr tw Hfr.out Htw.out rfl rfl false HNE.out ?_; simp only [Act.put, List.setIfInBounds_toArray, List.set_cons_zero, List.set_cons_succ]))
    have rp := RP.out
    have r6 := R6.out
    have rq := RW.out
    have r9 := R9.out
    have hG := HG.out
    have hK := HK.out
    have hw0 := HW0'.out
    have hwf := HWF'.out
    have hb1 := Below.refl V.heap.size V
    clear RP R5 R6 RW R9 RA5 RA6 HG HK HW0' HWF'
    refine wp_named fun a0 ha0 => ?_
    have hsz : a0.tmps.size = 49 := by rw [ha0]; rfl
    have zs4 : a0.eval (.tmp 4) = .pointer (some ⟨b4, 0, none⟩) := by rw [ha0]; rfl
    have zs6 : a0.eval (.tmp 6) = .pointer (some ⟨b6, 0, none⟩) := by rw [ha0]; rfl
    have zs7 : a0.eval (.tmp 7) = .pointer (some ⟨b7, 0, none⟩) := by rw [ha0]; rfl
    have lt_rp : b4 < V.heap.size := rp.lt
    have lt_r6 : b6 < V.heap.size := r6.lt
    have lt_rq : b7 < V.heap.size := rq.lt
    have lt_r9 : N9 < V.heap.size := r9.lt
    obtain ⟨D, hD⟩ : ∃ D : List (Tmp × SP), D = [(31, SP.is (.agg LP.toArray)), (32, SP.is (.agg LP.toArray)), (33, SP.is (.agg (vB tw).toArray)), (34, SP.is (.string (bK tw))), (35, SP.is (.agg LA.toArray)), (36, SP.is (.tuple #[.agg N1.toArray, .int .i64 0])), (30, SP.is (.tuple #[.agg N1.toArray, .int .i64 0])), (37, SP.is (.agg N1.toArray)), (38, SP.is (.int .i64 0)), (12, SP.any), (1000, SP.any), (11, SP.is (.int .i64 0))] := ⟨_, rfl⟩
    refine wp_region_then (by kernel_rfl) 5 (by decide) (by kernel_rfl) (fun listed ac W => Fp D a0 listed ac W ∧ Below V.heap.size V W ∧ Row W b4 LP 61 ∧ Row W b6 ((vB tw)) 23 ∧ Row W b7 LA 26 ∧ Row W N9 N0 68 ∧ Lg w0 W S (q + 1) f ∧ Kp w W ∧ (listed.getD 9 false = true → ∃ N, ac.eval (.tmp 12) = .pointer (some ⟨N, 0, none⟩) ∧ V.heap.size ≤ N ∧ Row W N zL 68)) (fun listed ac W => Fp D a0 listed ac W ∧ V.heap.size ≤ W.heap.size ∧ Row W b4 LP 61 ∧ Row W b6 ((vB tw)) 23 ∧ Row W b7 LA 26 ∧ Row W N9 N0 68 ∧ Lg w0 W S (q + 1 + 1) f ∧ Kp w W ∧ (listed.getD 9 false = true → ∃ N, ac.eval (.tmp 12) = .pointer (some ⟨N, 0, none⟩) ∧ V.heap.size ≤ N ∧ Row W N (if listed.getD 10 false = true then N1 else zL) 68)) ?_ ?_ ?_ ?_ ?_
    · exact ⟨Fp.start D a0 _ _, Below.drew hb1, Row.drew rp, Row.drew r6, Row.drew rq, Row.drew r9, hG.below (Below.drew (Below.refl _ _)), hK.below (Below.drew (Below.refl _ _)), (fun h => (start_no h).elim)⟩
    · clear ha0 hb1 rp r6 rq r9 hG hK
      intro listed ac W k hl hI hdn hk hne hnl
      replace hl : listed.size = 12 := hl
      obtain ⟨hF, hb1, rp, r6, rq, r9, hG, hK, al9⟩ := hI
      have hk1 : k < 12 := List.mem_range.1 (List.mem_filter.1 hk).1
      rcases (show k = 0 ∨ k = 1 ∨ k = 2 ∨ k = 3 ∨ k = 4 ∨ k = 5 ∨ k = 6 ∨ k = 7 ∨ k = 8 ∨ k = 9 ∨ k = 10 ∨ k = 11 by omega) with rfl | rfl | rfl | rfl | rfl | rfl | rfl | rfl | rfl | rfl | rfl | rfl
      · have hk3 := hk
        exact wpOp_plain rfl rfl (wp_load_mid 61 (.tmp 4) rfl b4 0 ((hF.keep 4 (by rw [hD]; rfl)).trans zs4) LP _ rp.all Tryd.underlying61 rfl HPI.out ⟨(hF.put 0 31 (SP.is (.agg LP.toArray)) (.agg LP.toArray) (by rw [hD]; rfl) rfl (by rw [hD]; rfl) (by rw [hsz]; decide) (by rw [hl]; decide)), hb1, rp, r6, rq, r9, hG, hK, (fun h => by obtain ⟨N, e, hN, r⟩ := al9 (by rwa [getD_set _ _ _ (by decide)] at h); exact ⟨N, (eval_put_other ac _ (by decide)).trans e, hN, r⟩)⟩)
      · have hk3 := hk
        exact wpOp_plain rfl rfl (wp_load_mid 61 (.tmp 4) rfl b4 0 ((hF.keep 4 (by rw [hD]; rfl)).trans zs4) LP _ rp.all Tryd.underlying61 rfl HPI.out ⟨(hF.put 1 32 (SP.is (.agg LP.toArray)) (.agg LP.toArray) (by rw [hD]; rfl) rfl (by rw [hD]; rfl) (by rw [hsz]; decide) (by rw [hl]; decide)), hb1, rp, r6, rq, r9, hG, hK, (fun h => by obtain ⟨N, e, hN, r⟩ := al9 (by rwa [getD_set _ _ _ (by decide)] at h); exact ⟨N, (eval_put_other ac _ (by decide)).trans e, hN, r⟩)⟩)
      · have hk3 := hk
        exact wpOp_plain rfl rfl (wp_load_mid 23 (.tmp 6) rfl b6 0 ((hF.keep 6 (by rw [hD]; rfl)).trans zs6) ((vB tw)) _ r6.all Tryd.underlying23 rfl HIt.out ⟨(hF.put 2 33 (SP.is (.agg (vB tw).toArray)) (.agg (vB tw).toArray) (by rw [hD]; rfl) rfl (by rw [hD]; rfl) (by rw [hsz]; decide) (by rw [hl]; decide)), hb1, rp, r6, rq, r9, hG, hK, (fun h => by obtain ⟨N, e, hN, r⟩ := al9 (by rwa [getD_set _ _ _ (by decide)] at h); exact ⟨N, (eval_put_other ac _ (by decide)).trans e, hN, r⟩)⟩)
      · have hk3 := hk
        have ea1 := (hF.done 1 (32, SP.is (.agg LP.toArray)) (by rw [hD]; rfl) (ready_dep hk 1 (by kernel_rfl)))
        have ea2 := (hF.done 2 (33, SP.is (.agg (vB tw).toArray)) (by rw [hD]; rfl) (ready_dep hk 2 (by kernel_rfl)))
        refine wpOp_plain rfl rfl (wp_fcall_v 30 #[.agg LP.toArray, .agg (vB tw).toArray] rfl rfl (by show [ac.eval (.tmp 32), ac.eval (.tmp 33)] = _; rw [show ac.eval (.tmp 32) = .agg LP.toArray from ea1, show ac.eval (.tmp 33) = .agg (vB tw).toArray from ea2]) (by go_simp) (((show Calls Tryd.prog 30 #[.agg LP.toArray, .agg (vB tw).toArray] W _ by rw [HPE.out]; exact bkey S tw Htw.out W)).mono ?_))
        rintro e W2 ⟨rfl, hB⟩
        exact ⟨_, rfl, ((hF.world hB).put 3 34 (SP.is (.string (bK tw))) (.string (bK tw)) (by rw [hD]; rfl) rfl (by rw [hD]; rfl) (by rw [hsz]; decide) (by rw [hl]; decide)), hb1.trans (hB.mono hb1.size), Row.below rp hB (Row.lt rp), Row.below r6 hB (Row.lt r6), Row.below rq hB (Row.lt rq), Row.below r9 hB (Row.lt r9), hG.below hB, hK.below hB, (fun h => by obtain ⟨N, e, hN, r⟩ := al9 (by rwa [getD_set _ _ _ (by decide)] at h); exact ⟨N, (eval_put_other ac _ (by decide)).trans e, hN, Row.below r hB (Row.lt r)⟩)⟩
      · have hk3 := hk
        exact wpOp_plain rfl rfl (wp_load_mid 26 (.tmp 7) rfl b7 0 ((hF.keep 7 (by rw [hD]; rfl)).trans zs7) LA _ rq.all Tryd.underlying26 rfl HAI.out ⟨(hF.put 4 35 (SP.is (.agg LA.toArray)) (.agg LA.toArray) (by rw [hD]; rfl) rfl (by rw [hD]; rfl) (by rw [hsz]; decide) (by rw [hl]; decide)), hb1, rp, r6, rq, r9, hG, hK, (fun h => by obtain ⟨N, e, hN, r⟩ := al9 (by rwa [getD_set _ _ _ (by decide)] at h); exact ⟨N, (eval_put_other ac _ (by decide)).trans e, hN, r⟩)⟩)
      · exact absurd rfl hne
      · exact absurd (ready_dep hk 5 (by kernel_rfl)) hnl
      · exact absurd (hdn 6 (ready_dep hk 6 (by kernel_rfl)) 5 (by kernel_rfl)) hnl
      · exact absurd (hdn 6 (ready_dep hk 6 (by kernel_rfl)) 5 (by kernel_rfl)) hnl
      · have hk3 := hk
        have hB : Below W.heap.size W (W.alloc (Obj.cells zL.toArray 68)) := (Below.refl _ _).alloc (Nat.le_refl _) _
        exact wpOp_plain rfl rfl (wp_allocLn rfl ⟨((hF.world hB).put 9 12 (SP.any) (.pointer (some ⟨W.heap.size, 0, none⟩)) (by rw [hD]; rfl) trivial (by rw [hD]; rfl) (by rw [hsz]; decide) (by rw [hl]; decide)), hb1.trans (hB.mono hb1.size), Row.alloc rp _, Row.alloc r6 _, Row.alloc rq _, Row.alloc r9 _, hG.below hB, hK.below hB, (fun _ => ⟨W.heap.size, eval_put_same ac _ (by rw [hF.size, hsz]; decide), hb1.size, Row.new' rfl rfl⟩)⟩)
      · exact absurd (hdn 6 (hdn 7 (ready_dep hk 7 (by kernel_rfl)) 6 (by kernel_rfl)) 5 (by kernel_rfl)) hnl
      · exact absurd (hdn 6 (hdn 8 (ready_dep hk 8 (by kernel_rfl)) 6 (by kernel_rfl)) 5 (by kernel_rfl)) hnl
    · clear ha0 hb1 rp r6 rq r9 hG hK
      intro listed ac W hl hI hdn hk
      replace hl : listed.size = 12 := hl
      obtain ⟨hF, hb1, rp, r6, rq, r9, hG, hK, al9⟩ := hI
      have eb1 := (hF.done 0 (31, SP.is (.agg LP.toArray)) (by rw [hD]; rfl) (ready_dep hk 0 (by kernel_rfl)))
      have eb2 := (hF.done 3 (34, SP.is (.string (bK tw))) (by rw [hD]; rfl) (ready_dep hk 3 (by kernel_rfl)))
      have eb3 := (hF.done 4 (35, SP.is (.agg LA.toArray)) (by rw [hD]; rfl) (ready_dep hk 4 (by kernel_rfl)))
      have hns10 : ¬ listed.getD 10 false = true := fun h => not_yet hk (hdn 6 (hdn 7 (hdn 10 h 7 (by kernel_rfl)) 6 (by kernel_rfl)) 5 (by kernel_rfl))
      refine wpOp_plain rfl rfl (wp_fcall_v 29 #[.agg LP.toArray, .string (bK tw), .agg LA.toArray] rfl rfl (by show [ac.eval (.tmp 31), ac.eval (.tmp 34), ac.eval (.tmp 35)] = _; rw [show ac.eval (.tmp 31) = .agg LP.toArray from eb1, show ac.eval (.tmp 34) = .string (bK tw) from eb2, show ac.eval (.tmp 35) = .agg LA.toArray from eb3]) (by go_simp) (((show Calls Tryd.prog 29 #[.agg LP.toArray, .string (bK tw), .agg LA.toArray] W fun e w' => e = .returned (.tuple #[.agg N1.toArray, .int .i64 0]) ∧ Lg w0 w' S (q + 1 + 1) f ∧ Kp W w' by rw [HPE.out, HAE.out, HEN1.out]; exact greater_ok w0 S (q + 1) f (bK tw) d b HDB.out (fun W hW => HCC.out (q + 1) W (by have := HQ.out; omega) hW) W hG)).mono ?_))
      rintro e W2 ⟨rfl, hG2, hK2⟩
      have hT : Fp D a0 listed ac W2 := hF.turn (by rw [hD]; simp only [List.forall_mem_cons, List.not_mem_nil, false_implies, implies_true, and_true]; exact ⟨fun _ h => h, fun _ h => h, fun _ h => h, fun _ h => h, fun _ h => h, fun _ h => h, fun _ h => h, fun _ h => h, fun _ h => h, fun _ h => h, fun _ h => h, fun _ h => h⟩)
      exact ⟨_, rfl, (hT.put 5 36 (SP.is (.tuple #[.agg N1.toArray, .int .i64 0])) (_) (by rw [hD]; rfl) rfl (by rw [hD]; rfl) (by rw [hsz]; decide) (by rw [hl]; decide)), Nat.le_trans hb1.size hK2.size, hK2.row _ _ _ (by decide) rp, hK2.row _ _ _ (by decide) r6, hK2.row _ _ _ (by decide) rq, hK2.row _ _ _ (by decide) r9, hG2, hK.trans hK2, (fun h => by obtain ⟨N, e, hN, r⟩ := al9 (by rwa [getD_set _ _ _ (by decide)] at h); exact ⟨N, (eval_put_other ac _ (by decide)).trans e, hN, by rw [getD_set _ _ _ (by decide), if_neg hns10]; exact hK2.row _ _ _ (by decide) r⟩)⟩
    · clear ha0 hb1 rp r6 rq r9 hG hK
      intro listed ac W k hl hJ hdn hk hne hyl
      replace hl : listed.size = 12 := hl
      obtain ⟨hF, hS, rp, r6, rq, r9, hG, hK, al9⟩ := hJ
      have hk1 : k < 12 := List.mem_range.1 (List.mem_filter.1 hk).1
      rcases (show k = 0 ∨ k = 1 ∨ k = 2 ∨ k = 3 ∨ k = 4 ∨ k = 5 ∨ k = 6 ∨ k = 7 ∨ k = 8 ∨ k = 9 ∨ k = 10 ∨ k = 11 by omega) with rfl | rfl | rfl | rfl | rfl | rfl | rfl | rfl | rfl | rfl | rfl | rfl
      · exact absurd (hdn 5 hyl 0 (by kernel_rfl)) (not_yet hk)
      · exact absurd (hdn 3 (hdn 5 hyl 3 (by kernel_rfl)) 1 (by kernel_rfl)) (not_yet hk)
      · exact absurd (hdn 3 (hdn 5 hyl 3 (by kernel_rfl)) 2 (by kernel_rfl)) (not_yet hk)
      · exact absurd (hdn 5 hyl 3 (by kernel_rfl)) (not_yet hk)
      · exact absurd (hdn 5 hyl 4 (by kernel_rfl)) (not_yet hk)
      · exact absurd rfl hne
      · have hk3 := hk
        exact wpOp_plain rfl rfl (wp_move_v (ac.eval (.tmp 36)) rfl rfl ⟨(hF.put 6 30 (SP.is (.tuple #[.agg N1.toArray, .int .i64 0])) (ac.eval (.tmp 36)) (by rw [hD]; rfl) ((hF.done 5 (36, SP.is (.tuple #[.agg N1.toArray, .int .i64 0])) (by rw [hD]; rfl) (ready_dep hk 5 (by kernel_rfl)))) (by rw [hD]; rfl) (by rw [hsz]; decide) (by rw [hl]; decide)), hS, rp, r6, rq, r9, hG, hK, (fun h => by obtain ⟨N, e, hN, r⟩ := al9 (by rwa [getD_set _ _ _ (by decide)] at h); exact ⟨N, (eval_put_other ac _ (by decide)).trans e, hN, by rw [getD_set _ _ _ (by decide)]; exact r⟩)⟩)
      · have hk3 := hk
        exact wpOp_plain rfl rfl (wp_extract (.tmp 30) 0 rfl _ (hF.done 6 (30, SP.is (.tuple #[.agg N1.toArray, .int .i64 0])) (by rw [hD]; rfl) (ready_dep hk 6 (by kernel_rfl))) (.agg N1.toArray) rfl ⟨(hF.put 7 37 (SP.is (.agg N1.toArray)) (.agg N1.toArray) (by rw [hD]; rfl) rfl (by rw [hD]; rfl) (by rw [hsz]; decide) (by rw [hl]; decide)), hS, rp, r6, rq, r9, hG, hK, (fun h => by obtain ⟨N, e, hN, r⟩ := al9 (by rwa [getD_set _ _ _ (by decide)] at h); exact ⟨N, (eval_put_other ac _ (by decide)).trans e, hN, by rw [getD_set _ _ _ (by decide)]; exact r⟩)⟩)
      · have hk3 := hk
        exact wpOp_plain rfl rfl (wp_extract (.tmp 30) 1 rfl _ (hF.done 6 (30, SP.is (.tuple #[.agg N1.toArray, .int .i64 0])) (by rw [hD]; rfl) (ready_dep hk 6 (by kernel_rfl))) (.int .i64 0) rfl ⟨(hF.put 8 38 (SP.is (.int .i64 0)) (.int .i64 0) (by rw [hD]; rfl) rfl (by rw [hD]; rfl) (by rw [hsz]; decide) (by rw [hl]; decide)), hS, rp, r6, rq, r9, hG, hK, (fun h => by obtain ⟨N, e, hN, r⟩ := al9 (by rwa [getD_set _ _ _ (by decide)] at h); exact ⟨N, (eval_put_other ac _ (by decide)).trans e, hN, by rw [getD_set _ _ _ (by decide)]; exact r⟩)⟩)
      · have hk3 := hk
        have hB : Below W.heap.size W (W.alloc (Obj.cells zL.toArray 68)) := (Below.refl _ _).alloc (Nat.le_refl _) _
        have hns : ¬ listed.getD 10 false = true := fun h => not_yet hk (hdn 10 h 9 (by kernel_rfl))
        exact wpOp_plain rfl rfl (wp_allocLn rfl ⟨((hF.world hB).put 9 12 (SP.any) (.pointer (some ⟨W.heap.size, 0, none⟩)) (by rw [hD]; rfl) trivial (by rw [hD]; rfl) (by rw [hsz]; decide) (by rw [hl]; decide)), Nat.le_trans hS hB.size, Row.alloc rp _, Row.alloc r6 _, Row.alloc rq _, Row.alloc r9 _, hG.below hB, hK.below hB, (fun _ => ⟨W.heap.size, eval_put_same ac _ (by rw [hF.size, hsz]; decide), hS, (by rw [getD_set _ _ _ (by decide), if_neg hns]; exact Row.new' rfl rfl)⟩)⟩)
      · have hk3 := hk
        obtain ⟨N, e, hN, r⟩ := al9 (ready_dep hk 9 (by kernel_rfl))
        rw [if_neg (not_yet hk)] at r
        have hT : Fp D a0 listed ac (W.setCells N 0 N1) := hF.turn (by rw [hD]; simp only [List.forall_mem_cons, List.not_mem_nil, false_implies, implies_true, and_true]; exact ⟨fun _ h => h, fun _ h => h, fun _ h => h, fun _ h => h, fun _ h => h, fun _ h => h, fun _ h => h, fun _ h => h, fun _ h => h, fun _ h => h, fun _ h => h, fun _ h => h⟩)
        exact wpOp_plain rfl rfl (wp_store_mid 68 (.tmp 12) (.tmp 37) rfl N 0 N1.toArray e (hF.done 7 (37, SP.is (.agg N1.toArray)) (by rw [hD]; rfl) (ready_dep hk 7 (by kernel_rfl))) (r.there 0 _ (by rw [List.size_toArray, HNN1.out]; decide)) HJN1.out HON1.out ⟨(hT.skip 10 1000 (by rw [hD]; rfl) (by rw [hl]; decide)), (by rw [size_setCells]; exact hS), Row.setCells_other rp _ _ _ (by omega), Row.setCells_other r6 _ _ _ (by omega), Row.setCells_other rq _ _ _ (by omega), Row.setCells_other r9 _ _ _ (by omega), hG.kept r (by decide) (by decide) (by decide) (by decide) (fun k hk => heap_sets _ _ _ _ _ hk) (below_setCells hG.bel (Nat.le_trans hw0 hN) _), Kp.kept N (Nat.le_trans hwf hN) hK (fun k hk => heap_sets _ _ _ _ _ hk) (below_setCells (Below.refl 0 _) (Nat.zero_le N) _).size, (fun _ => ⟨N, e, hN, by rw [if_pos (getD_same (by rw [hl]; decide))]; exact r.over HNN1.out⟩)⟩)
      · have hk3 := hk
        exact wpOp_plain rfl rfl (wp_assign_v (ac.eval (.tmp 38)) rfl rfl ⟨(hF.put 11 11 (SP.is (.int .i64 0)) (ac.eval (.tmp 38)) (by rw [hD]; rfl) ((hF.done 8 (38, SP.is (.int .i64 0)) (by rw [hD]; rfl) (ready_dep hk 8 (by kernel_rfl)))) (by rw [hD]; rfl) (by rw [hsz]; decide) (by rw [hl]; decide)), hS, rp, r6, rq, r9, hG, hK, (fun h => by obtain ⟨N, e, hN, r⟩ := al9 (by rwa [getD_set _ _ _ (by decide)] at h); exact ⟨N, (eval_put_other ac _ (by decide)).trans e, hN, by rw [getD_set _ _ _ (by decide)]; exact r⟩)⟩)
    · clear hb1 rp r6 rq r9 hG hK
      intro listed ac W hl hJ hr
      replace hl : listed.size = 12 := hl
      obtain ⟨hF, hS, rp, r6, rq, r9, hG, hK, al9⟩ := hJ
      have hall := all_listed (by kernel_rfl) hl hr
      obtain ⟨M9, ea12, hM9, rM9⟩ := al9 (hall 9 (by decide))
      rw [if_pos (hall 10 (by decide))] at rM9
      have h31 : ac.eval (.tmp 31) = .agg LP.toArray := hF.done 0 (31, SP.is (.agg LP.toArray)) (by rw [hD]; rfl) (hall 0 (by decide))
      have h32 : ac.eval (.tmp 32) = .agg LP.toArray := hF.done 1 (32, SP.is (.agg LP.toArray)) (by rw [hD]; rfl) (hall 1 (by decide))
      have h33 : ac.eval (.tmp 33) = .agg (vB tw).toArray := hF.done 2 (33, SP.is (.agg (vB tw).toArray)) (by rw [hD]; rfl) (hall 2 (by decide))
      have h34 : ac.eval (.tmp 34) = .string (bK tw) := hF.done 3 (34, SP.is (.string (bK tw))) (by rw [hD]; rfl) (hall 3 (by decide))
      have h35 : ac.eval (.tmp 35) = .agg LA.toArray := hF.done 4 (35, SP.is (.agg LA.toArray)) (by rw [hD]; rfl) (hall 4 (by decide))
      have h36 : ac.eval (.tmp 36) = .tuple #[.agg N1.toArray, .int .i64 0] := hF.done 5 (36, SP.is (.tuple #[.agg N1.toArray, .int .i64 0])) (by rw [hD]; rfl) (hall 5 (by decide))
      have h30 : ac.eval (.tmp 30) = .tuple #[.agg N1.toArray, .int .i64 0] := hF.done 6 (30, SP.is (.tuple #[.agg N1.toArray, .int .i64 0])) (by rw [hD]; rfl) (hall 6 (by decide))
      have h37 : ac.eval (.tmp 37) = .agg N1.toArray := hF.done 7 (37, SP.is (.agg N1.toArray)) (by rw [hD]; rfl) (hall 7 (by decide))
      have h38 : ac.eval (.tmp 38) = .int .i64 0 := hF.done 8 (38, SP.is (.int .i64 0)) (by rw [hD]; rfl) (hall 8 (by decide))
      have h11 : ac.eval (.tmp 11) = .int .i64 0 := hF.done 11 (11, SP.is (.int .i64 0)) (by rw [hD]; rfl) (hall 11 (by decide))
      have ea := hF.lay [(31, .agg LP.toArray), (32, .agg LP.toArray), (33, .agg (vB tw).toArray), (34, .string (bK tw)), (35, .agg LA.toArray), (36, .tuple #[.agg N1.toArray, .int .i64 0]), (30, .tuple #[.agg N1.toArray, .int .i64 0]), (37, .agg N1.toArray), (38, .int .i64 0), (12, .pointer (some ⟨M9, 0, none⟩)), (11, .int .i64 0)] (by rw [hD, hsz]; rfl) (by simp only [List.forall_mem_cons, List.not_mem_nil, false_implies, implies_true, and_true]; exact ⟨h31, h32, h33, h34, h35, h36, h30, h37, h38, ea12, h11⟩)
      rw [ha0] at ea
      simp only [List.foldl_cons, List.foldl_nil, List.setIfInBounds_toArray, List.set_cons_zero, List.set_cons_succ] at ea
      clear hF hall hr hl hD zs4 zs6 zs7 ha0 hsz h31 h32 h33 h34 h35 h36 h30 h37 h38 ea12 h11 al9 lt_rp lt_r6 lt_rq lt_r9
      subst ea
      obtain ⟨V2, hV⟩ : ∃ V, V = W := ⟨_, rfl⟩
      rw [← hV]
      rw [← hV] at hG hK rp r6 rq r9 rM9 hS
      have HG : Hid (Lg w0 V2 S (q + 1 + 1) f) := hG
      have HK : Hid (Kp w V2) := hK
      have RAW : Hid (V2.rangeAt b7 0 LA) := rq.all
      have R9 : Hid (Row V2 N9 N0 68) := r9
      have R12 : Hid (Row V2 M9 N1 68) := rM9
      have HZ : Hid (Calls Tryd.prog 40 #[.agg LA.toArray] V2 fun e w' => e = .returned (.bool false) ∧ Below V2.heap.size V2 w') := by show Calls _ _ _ _ _; rw [HAE.out]; exact zeroS b (by have := HDB.out; omega) false (decide_eq_false HB0.out) V2
      clear hV hG hK rp r6 rq r9 rM9 hS hM9 hw0 hwf
      go_wp2_with (refine wpList_load_w rfl 26 (.tmp 7) rfl b7 0 rfl LA _ RAW.out Tryd.underlying26 rfl HAI.out ?_; simp only [Act.put, List.setIfInBounds_toArray, List.set_cons_zero, List.set_cons_succ])
      refine Calls.mono HZ.out ?_
      rintro e V3 ⟨rfl, hB⟩
      replace HG : Hid (Lg w0 V3 S (q + 1 + 1) f) := HG.out.be hB
      replace HK : Hid (Kp w V3) := HK.out.trans (Kp.of_below hB)
      have S9 : Hid (V3.rangeAt N9 0 N0) := (Row.below R9.out hB R9.out.lt).all
      have S12 : Hid (V3.rangeAt M9 0 N1) := (Row.below R12.out hB R12.out.lt).all
      clear hB HZ RAW R9 R12
      go_wp2_with (first
        | (refine wpList_load_w rfl 68 (.tmp 10) rfl N9 0 rfl N0 _ S9.out Tryd.underlying68 rfl HIN0.out ?_; simp only [Act.put, List.setIfInBounds_toArray, List.set_cons_zero, List.set_cons_succ])
        | (refine wpList_load_w rfl 68 (.tmp 12) rfl M9 0 rfl N1 _ S12.out Tryd.underlying68 rfl HIN1.out ?_; simp only [Act.put, List.setIfInBounds_toArray, List.set_cons_zero, List.set_cons_succ])
        | (refine wpList_buildL2 rfl (.tmp 46) (.tmp 47) rfl N0 N1 HNN0.out HNN1.out rfl rfl ?_; intro V4 q1 q2; have R4' : Hid (Row V4 V3.heap.size (N0 ++ N1) 68) := q1; have B4 : Hid (Below V3.heap.size V3 V4) := q2; clear q1 q2; simp only [Act.put, List.setIfInBounds_toArray, List.set_cons_zero, List.set_cons_succ]))
      go_ret2
      exact ⟨V3.heap.size, rfl, R4'.out, HG.out.be B4.out, HK.out.trans (Kp.of_below B4.out)⟩

end Go.Proofs.YtojmhmnpidhfjaaDoor
