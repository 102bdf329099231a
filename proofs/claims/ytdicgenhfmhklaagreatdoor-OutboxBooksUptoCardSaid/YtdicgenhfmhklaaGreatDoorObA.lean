/-
  the outbox: laws of the walk; a leaf; its bytes.
-/
import Derived.Test.YtdicgenhfmhklaaGreatDoorLbW
namespace Go.Proofs.YtdicgenhfmhklaaGreatDoor
open Go Go.RowKit
open Sha

/-- A leaf's cells. -/
def lf (ix en tk : Int) (rc : List (BitVec 8)) (am : List Nat) : List Value := .int .i64 ix :: .int .i64 en :: .int .i64 tk :: (vB rc ++ vQ am)
def zLf : List Value := lf 0 0 0 (List.replicate 20 0#8) (List.replicate 4 0)
section
variable {P : Program} {ops : Array Oper} {rest : List Oper} {op : Oper} {a : Act} {w : World} {Q : Exit → Act → World → Prop}
theorem wpList_allocLf (hgd : op.guard = none) (ho : op.op = .alloc 40) (h : ∀ X, Row X w.heap.size zLf 40 → Below w.heap.size w X → X.heap.size = w.heap.size + 1 → wpList Tryz.prog ops Q rest (a.put op.dst (.pointer (some ⟨w.heap.size, 0, none⟩))) X) : wpList Tryz.prog ops Q (op :: rest) a w :=
  wpList_plain hgd fun _ hK => by
    unfold Oper.wp execOp
    simp only [ho]
    go_simp
    exact hK _ _ (h _ (Row.new' (cs := zLf) rfl rfl) ((Below.refl _ _).alloc (Nat.le_refl _) _) (by simp))
end
section
variable {ix en tk : Int} {rc : List (BitVec 8)} {am : List Nat} {b : Nat} {w : World}
theorem lf_len (h1 : rc.length = 20) (h2 : am.length = 4) : (lf ix en tk rc am).length = 27 := by
  simp only [lf, List.length_cons, List.length_append, vB_length, vQ_len, h1, h2]
theorem lf_to (i : Nat) : (lf ix en tk rc am)[3 + i]? = (vB rc ++ vQ am)[i]? := by
  rw [show 3 + i = i + 1 + 1 + 1 by omega]
  rfl
theorem lf_am (h1 : rc.length = 20) (i : Nat) : (lf ix en tk rc am)[23 + i]? = (vQ am)[i]? := by
  rw [show 23 + i = 3 + (20 + i) by omega, lf_to]
  exact app_at (vB rc) _ 20 i (by rw [vB_length, h1])
theorem lf_one : ∀ v ∈ lf ix en tk rc am, v.oneCell' = true := by
  intro v hv
  simp only [lf, List.mem_cons, List.mem_append] at hv
  rcases hv with rfl | rfl | rfl | h | h
  · rfl
  · rfl
  · rfl
  · exact vB_one rc v h
  · obtain ⟨x, _, rfl⟩ := List.mem_map.1 h
    rfl
theorem lf_all : (lf ix en tk rc am).toArray.all (·.oneCell') = true := all_oneCell_toArray lf_one
theorem lf_rto (h : Row w b (lf ix en tk rc am) 40) : w.rangeAt b 3 (vB rc) := h.range 3 _ (fun j u hj => by
  have hlt : j < (vB rc).length := (List.getElem?_eq_some_iff.1 hj).1
  rw [lf_to]
  exact (List.getElem?_append_left hlt).trans hj)
theorem lf_ram (h1 : rc.length = 20) (h : Row w b (lf ix en tk rc am) 40) : w.rangeAt b 23 (vQ am) := h.range 23 _ (fun j u hj => by
  rw [lf_am h1]
  exact hj)
theorem info_lf (h1 : rc.length = 20) (h2 : am.length = 4) : (Tryz.prog.info? 40).map (·.size) = some (lf ix en tk rc am).length := by rw [lf_len h1 h2]; kernel_rfl
end
theorem info_Ad (rc : List (BitVec 8)) (h : rc.length = 20) : (Tryz.prog.info? 35).map (·.size) = some (vB rc).length := by rw [vB_length, h]; kernel_rfl
/-- May a leaf be? -/
def may (ix en tk : Int) (am : List Nat) : Bool := decide (0 ≤ ix ∧ ix < 1099511627776 ∧ 0 ≤ en ∧ en < 1099511627776 ∧ 0 ≤ tk ∧ tk < 64 ∧ am ≠ List.replicate 4 0)
set_option maxRecDepth 100000 in
set_option maxHeartbeats 4000000 in
theorem mayBe_any (ix en tk : Int) (rc : List (BitVec 8)) (am : List Nat) (hto : rc.length = 20) (ham : am.length = 4) (L : List Value) (hL : L = lf ix en tk rc am) (w : World) : Calls Tryz.prog 30 #[.agg L.toArray] w fun e w' => e = .returned (.bool (may ix en tk am)) ∧ Below w.heap.size w w' := by
  have HL : Hid (L = lf ix en tk rc am) := hL
  have HTO : Hid (rc.length = 20) := hto
  have HAM : Hid (am.length = 4) := ham
  have HI : Hid ((Tryz.prog.info? 38).map (·.size) = some (vQ am).length) := info_Wd am ham
  obtain ⟨B, hB⟩ : ∃ B, B = decide (am = (List.replicate 4 0)) := ⟨_, rfl⟩
  have HB : Hid (decide (am = (List.replicate 4 0)) = B) := hB.symm
  have HNO : Hid (¬ (0 ≤ ix ∧ ix < 1099511627776 ∧ 0 ≤ en ∧ en < 1099511627776 ∧ 0 ≤ tk ∧ tk < 64) → may ix en tk am = false) := fun h => decide_eq_false (fun q => h ⟨q.1, q.2.1, q.2.2.1, q.2.2.2.1, q.2.2.2.2.1, q.2.2.2.2.2.1⟩)
  clear hL hto ham
  by_cases hall : 0 ≤ ix ∧ ix < 1099511627776 ∧ 0 ≤ en ∧ en < 1099511627776 ∧ 0 ≤ tk ∧ tk < 64
  · have HY : Hid (may ix en tk am = !B) := by
      show _ = _
      unfold may
      rw [hB]
      cases hd : decide (am = List.replicate 4 0) with
      | true => exact decide_eq_false (fun q => q.2.2.2.2.2.2 (of_decide_eq_true hd))
      | false => exact decide_eq_true ⟨hall.1, hall.2.1, hall.2.2.1, hall.2.2.2.1, hall.2.2.2.2.1, hall.2.2.2.2.2, of_decide_eq_false hd⟩
    obtain ⟨h1, h2, h3, h4, h5, h6⟩ := hall
    have f1 : ¬ ix < 0 := by omega
    have f2 : ¬ (1099511627776 : Int) ≤ ix := by omega
    have f3 : ¬ en < 0 := by omega
    have f4 : ¬ (1099511627776 : Int) ≤ en := by omega
    have f5 : ¬ tk < 0 := by omega
    have f6 : ¬ (64 : Int) ≤ tk := by omega
    clear hB HNO h1 h2 h3 h4 h5 h6
    go_enter Tryz.func30, Tryz.ntmps30
    go_wp2_with (first
      | (refine wpList_boxG 40 rfl (.tmp 0) rfl L rfl ?_; intro X q1 q2 q3; rw [HL.out] at q1; have c0 := q1.cell 0 _ rfl; have c1 := q1.cell 1 _ rfl; have c2 := q1.cell 2 _ rfl; have RA : Hid (X.rangeAt w.heap.size 23 (vQ am)) := lf_ram HTO.out q1; have B1 : Hid (Below w.heap.size w X) := q2; clear q1 q2 q3; simp only [Act.put, List.setIfInBounds_toArray, List.set_cons_zero, List.set_cons_succ])
      | (refine wpList_load_w rfl 38 (.tmp 30) rfl w.heap.size 23 rfl (vQ am) _ RA.out Tryz.underlying38 rfl HI.out ?_; simp only [Act.put, List.setIfInBounds_toArray, List.set_cons_zero, List.set_cons_succ])
      | (refine wpList_neq_q rfl (.tmp 31) (.tmp 32) _ rfl am (List.replicate 4 0) HAM.out rfl rfl rfl (!B) (congrArg not HB.out) ?_; simp only [Act.put, List.setIfInBounds_toArray, List.set_cons_zero, List.set_cons_succ]))
    go_ret
    exact ⟨by first | (rw [HY.out]; rfl) | rw [HY.out] | simp [HY.out], B1.out⟩
  · have HF : Hid (may ix en tk am = false) := HNO.out hall
    clear hB HNO
    by_cases l0 : ix < 0
    · clear hall
      go_enter Tryz.func30, Tryz.ntmps30
      go_wp2_with (first
        | (refine wpList_boxG 40 rfl (.tmp 0) rfl L rfl ?_; intro X q1 q2 q3; rw [HL.out] at q1; have c0 := q1.cell 0 _ rfl; have c1 := q1.cell 1 _ rfl; have c2 := q1.cell 2 _ rfl; have RA : Hid (X.rangeAt w.heap.size 23 (vQ am)) := lf_ram HTO.out q1; have B1 : Hid (Below w.heap.size w X) := q2; clear q1 q2 q3; simp only [Act.put, List.setIfInBounds_toArray, List.set_cons_zero, List.set_cons_succ])
        | (refine wpList_load_w rfl 38 (.tmp 30) rfl w.heap.size 23 rfl (vQ am) _ RA.out Tryz.underlying38 rfl HI.out ?_; simp only [Act.put, List.setIfInBounds_toArray, List.set_cons_zero, List.set_cons_succ])
        | (refine wpList_neq_q rfl (.tmp 31) (.tmp 32) _ rfl am (List.replicate 4 0) HAM.out rfl rfl rfl (!B) (congrArg not HB.out) ?_; simp only [Act.put, List.setIfInBounds_toArray, List.set_cons_zero, List.set_cons_succ]))
      go_ret
      exact ⟨by rw [HF.out]; rfl, B1.out⟩
    by_cases u0 : (1099511627776 : Int) ≤ ix
    · clear hall
      go_enter Tryz.func30, Tryz.ntmps30
      go_wp2_with (first
        | (refine wpList_boxG 40 rfl (.tmp 0) rfl L rfl ?_; intro X q1 q2 q3; rw [HL.out] at q1; have c0 := q1.cell 0 _ rfl; have c1 := q1.cell 1 _ rfl; have c2 := q1.cell 2 _ rfl; have RA : Hid (X.rangeAt w.heap.size 23 (vQ am)) := lf_ram HTO.out q1; have B1 : Hid (Below w.heap.size w X) := q2; clear q1 q2 q3; simp only [Act.put, List.setIfInBounds_toArray, List.set_cons_zero, List.set_cons_succ])
        | (refine wpList_load_w rfl 38 (.tmp 30) rfl w.heap.size 23 rfl (vQ am) _ RA.out Tryz.underlying38 rfl HI.out ?_; simp only [Act.put, List.setIfInBounds_toArray, List.set_cons_zero, List.set_cons_succ])
        | (refine wpList_neq_q rfl (.tmp 31) (.tmp 32) _ rfl am (List.replicate 4 0) HAM.out rfl rfl rfl (!B) (congrArg not HB.out) ?_; simp only [Act.put, List.setIfInBounds_toArray, List.set_cons_zero, List.set_cons_succ]))
      go_ret
      exact ⟨by rw [HF.out]; rfl, B1.out⟩
    by_cases l1 : en < 0
    · clear hall
      go_enter Tryz.func30, Tryz.ntmps30
      go_wp2_with (first
        | (refine wpList_boxG 40 rfl (.tmp 0) rfl L rfl ?_; intro X q1 q2 q3; rw [HL.out] at q1; have c0 := q1.cell 0 _ rfl; have c1 := q1.cell 1 _ rfl; have c2 := q1.cell 2 _ rfl; have RA : Hid (X.rangeAt w.heap.size 23 (vQ am)) := lf_ram HTO.out q1; have B1 : Hid (Below w.heap.size w X) := q2; clear q1 q2 q3; simp only [Act.put, List.setIfInBounds_toArray, List.set_cons_zero, List.set_cons_succ])
        | (refine wpList_load_w rfl 38 (.tmp 30) rfl w.heap.size 23 rfl (vQ am) _ RA.out Tryz.underlying38 rfl HI.out ?_; simp only [Act.put, List.setIfInBounds_toArray, List.set_cons_zero, List.set_cons_succ])
        | (refine wpList_neq_q rfl (.tmp 31) (.tmp 32) _ rfl am (List.replicate 4 0) HAM.out rfl rfl rfl (!B) (congrArg not HB.out) ?_; simp only [Act.put, List.setIfInBounds_toArray, List.set_cons_zero, List.set_cons_succ]))
      go_ret
      exact ⟨by rw [HF.out]; rfl, B1.out⟩
    by_cases u1 : (1099511627776 : Int) ≤ en
    · clear hall
      go_enter Tryz.func30, Tryz.ntmps30
      go_wp2_with (first
        | (refine wpList_boxG 40 rfl (.tmp 0) rfl L rfl ?_; intro X q1 q2 q3; rw [HL.out] at q1; have c0 := q1.cell 0 _ rfl; have c1 := q1.cell 1 _ rfl; have c2 := q1.cell 2 _ rfl; have RA : Hid (X.rangeAt w.heap.size 23 (vQ am)) := lf_ram HTO.out q1; have B1 : Hid (Below w.heap.size w X) := q2; clear q1 q2 q3; simp only [Act.put, List.setIfInBounds_toArray, List.set_cons_zero, List.set_cons_succ])
        | (refine wpList_load_w rfl 38 (.tmp 30) rfl w.heap.size 23 rfl (vQ am) _ RA.out Tryz.underlying38 rfl HI.out ?_; simp only [Act.put, List.setIfInBounds_toArray, List.set_cons_zero, List.set_cons_succ])
        | (refine wpList_neq_q rfl (.tmp 31) (.tmp 32) _ rfl am (List.replicate 4 0) HAM.out rfl rfl rfl (!B) (congrArg not HB.out) ?_; simp only [Act.put, List.setIfInBounds_toArray, List.set_cons_zero, List.set_cons_succ]))
      go_ret
      exact ⟨by rw [HF.out]; rfl, B1.out⟩
    by_cases l2 : tk < 0
    · clear hall
      go_enter Tryz.func30, Tryz.ntmps30
      go_wp2_with (first
        | (refine wpList_boxG 40 rfl (.tmp 0) rfl L rfl ?_; intro X q1 q2 q3; rw [HL.out] at q1; have c0 := q1.cell 0 _ rfl; have c1 := q1.cell 1 _ rfl; have c2 := q1.cell 2 _ rfl; have RA : Hid (X.rangeAt w.heap.size 23 (vQ am)) := lf_ram HTO.out q1; have B1 : Hid (Below w.heap.size w X) := q2; clear q1 q2 q3; simp only [Act.put, List.setIfInBounds_toArray, List.set_cons_zero, List.set_cons_succ])
        | (refine wpList_load_w rfl 38 (.tmp 30) rfl w.heap.size 23 rfl (vQ am) _ RA.out Tryz.underlying38 rfl HI.out ?_; simp only [Act.put, List.setIfInBounds_toArray, List.set_cons_zero, List.set_cons_succ])
        | (refine wpList_neq_q rfl (.tmp 31) (.tmp 32) _ rfl am (List.replicate 4 0) HAM.out rfl rfl rfl (!B) (congrArg not HB.out) ?_; simp only [Act.put, List.setIfInBounds_toArray, List.set_cons_zero, List.set_cons_succ]))
      go_ret
      exact ⟨by rw [HF.out]; rfl, B1.out⟩
    by_cases u2 : (64 : Int) ≤ tk
    · clear hall
      go_enter Tryz.func30, Tryz.ntmps30
      go_wp2_with (first
        | (refine wpList_boxG 40 rfl (.tmp 0) rfl L rfl ?_; intro X q1 q2 q3; rw [HL.out] at q1; have c0 := q1.cell 0 _ rfl; have c1 := q1.cell 1 _ rfl; have c2 := q1.cell 2 _ rfl; have RA : Hid (X.rangeAt w.heap.size 23 (vQ am)) := lf_ram HTO.out q1; have B1 : Hid (Below w.heap.size w X) := q2; clear q1 q2 q3; simp only [Act.put, List.setIfInBounds_toArray, List.set_cons_zero, List.set_cons_succ])
        | (refine wpList_load_w rfl 38 (.tmp 30) rfl w.heap.size 23 rfl (vQ am) _ RA.out Tryz.underlying38 rfl HI.out ?_; simp only [Act.put, List.setIfInBounds_toArray, List.set_cons_zero, List.set_cons_succ])
        | (refine wpList_neq_q rfl (.tmp 31) (.tmp 32) _ rfl am (List.replicate 4 0) HAM.out rfl rfl rfl (!B) (congrArg not HB.out) ?_; simp only [Act.put, List.setIfInBounds_toArray, List.set_cons_zero, List.set_cons_succ]))
      go_ret
      exact ⟨by rw [HF.out]; rfl, B1.out⟩
    exact absurd ⟨by omega, by omega, by omega, by omega, by omega, by omega⟩ hall
/-- A leaf's bytes. -/
def lfb (ix en tk : Int) (rc : List (BitVec 8)) (am : List Nat) : List (BitVec 8) := [76#8] ++ nf ix ++ nf en ++ nf tk ++ rc ++ wf am
theorem may_in {ix en tk : Int} {am : List Nat} (h : may ix en tk am = true) : 0 ≤ ix ∧ ix < 1099511627776 ∧ 0 ≤ en ∧ en < 1099511627776 ∧ 0 ≤ tk ∧ tk < 64 := by
  have q := of_decide_eq_true h
  exact ⟨q.1, q.2.1, q.2.2.1, q.2.2.2.1, q.2.2.2.2.1, q.2.2.2.2.2.1⟩
theorem lfb_len (ix en tk : Int) (rc : List (BitVec 8)) (am : List Nat) (hto : rc.length = 20) : (lfb ix en tk rc am).length ≤ 153 := by
  have h1 := nf_len ix
  have h2 := nf_len en
  have h3 := nf_len tk
  have h4 := wf_len am
  unfold lfb
  simp only [List.length_append, List.length_singleton]
  omega
set_option maxRecDepth 100000 in
set_option maxHeartbeats 4000000 in
theorem bytes_no (ix en tk : Int) (rc : List (BitVec 8)) (am : List Nat) (hto : rc.length = 20) (ham : am.length = 4) (hm : may ix en tk am = false) (L : List Value) (hL : L = lf ix en tk rc am) (w : World) : Calls Tryz.prog 11 #[.agg L.toArray] w fun e w' => e = .returned (.tuple #[.slice none 0 0, .int .i64 110]) ∧ Below w.heap.size w w' := by
  have HM : Hid (∀ X, Calls Tryz.prog 30 #[.agg L.toArray] X fun e w' => e = .returned (.bool false) ∧ Below X.heap.size X w') := fun X => by have := mayBe_any ix en tk rc am hto ham L hL X; rwa [hm] at this
  have HI : Hid ((Tryz.prog.info? 40).map (·.size) = some L.length) := by rw [hL]; exact info_lf hto ham
  clear hL
  go_enter Tryz.func11, Tryz.ntmps11
  go_wp2_with (first
    | (refine wpList_boxG 40 rfl (.tmp 0) rfl L rfl ?_; intro X1 q1 q2 q3; have R1 : Hid (Row X1 w.heap.size L 40) := q1; have B1 : Hid (Below w.heap.size w X1) := q2; clear q1 q2 q3; simp only [Act.put, List.setIfInBounds_toArray, List.set_cons_zero, List.set_cons_succ])
    | (refine wpList_load_w rfl 40 (.tmp 1) rfl w.heap.size 0 rfl L _ R1.out.all Tryz.underlying40 rfl HI.out ?_; simp only [Act.put, List.setIfInBounds_toArray, List.set_cons_zero, List.set_cons_succ])
    | (go_at_call 30; refine Calls.mono (HM.out X1) ?_; rintro e X2 ⟨rfl, q⟩; have B2 : Hid (Below w.heap.size w X2) := B1.out.trans (q.mono B1.out.size); clear q))
  go_ret2
  exact ⟨rfl, B2.out⟩
set_option maxRecDepth 100000 in
set_option maxHeartbeats 4000000 in
theorem bytes_ok (ix en tk : Int) (rc : List (BitVec 8)) (am : List Nat) (hto : rc.length = 20) (ham : am.length = 4) (hq4 : ∀ x ∈ am, x < 18446744073709551616) (hm : may ix en tk am = true) (L : List Value) (hL : L = lf ix en tk rc am) (w : World) : Calls Tryz.prog 11 #[.agg L.toArray] w fun e w' => ∃ A n cap, n = (lfb ix en tk rc am).length ∧ e = .returned (.tuple #[.slice A n cap, .int .i64 0]) ∧ Bw w' (.slice A n cap) (lfb ix en tk rc am) ∧ Fresh w.heap.size (.slice A n cap) ∧ Below w.heap.size w w' := by
  have HM : Hid (∀ X, Calls Tryz.prog 30 #[.agg L.toArray] X fun e w' => e = .returned (.bool true) ∧ Below X.heap.size X w') := fun X => by have := mayBe_any ix en tk rc am hto ham L hL X; rwa [hm] at this
  have HI : Hid ((Tryz.prog.info? 40).map (·.size) = some L.length) := by rw [hL]; exact info_lf hto ham
  have HIA : Hid ((Tryz.prog.info? 35).map (·.size) = some (vB rc).length) := info_Ad rc hto
  have HIW : Hid ((Tryz.prog.info? 38).map (·.size) = some (vQ am).length) := info_Wd am ham
  have HL : Hid (L = lf ix en tk rc am) := hL
  have HTO : Hid (rc.length = 20) := hto
  have HAM : Hid (am.length = 4) := ham
  have HQ : Hid (∀ x ∈ am, x < 18446744073709551616) := hq4
  have HIN : Hid (0 ≤ ix ∧ ix < 1099511627776 ∧ 0 ≤ en ∧ en < 1099511627776 ∧ 0 ≤ tk ∧ tk < 64) := may_in hm
  clear hL hto ham hq4 hm
  go_enter Tryz.func11, Tryz.ntmps11
  go_upto_region 3 with (first
    | (refine wpList_boxG 40 rfl (.tmp 0) rfl L rfl ?_; intro X1 q1 q2 q3; have R1 : Hid (Row X1 w.heap.size L 40) := q1; have B1 : Hid (Below w.heap.size w X1) := q2; clear q1 q2 q3; simp only [Act.put, List.setIfInBounds_toArray, List.set_cons_zero, List.set_cons_succ])
    | (refine wpList_load_w rfl 40 (.tmp 1) rfl w.heap.size 0 rfl L _ R1.out.all Tryz.underlying40 rfl HI.out ?_; simp only [Act.put, List.setIfInBounds_toArray, List.set_cons_zero, List.set_cons_succ])
    | (go_at_call 30; refine Calls.mono (HM.out X1) ?_; rintro e X2 ⟨rfl, q⟩; have R2 : Hid (Row X2 w.heap.size L 40) := Row.below R1.out q R1.out.lt; have B2 : Hid (Below w.heap.size w X2) := B1.out.trans (q.mono B1.out.size); clear q))
  obtain ⟨b, hb⟩ : ∃ b, b = w.heap.size := ⟨_, rfl⟩
  have HB0 : Hid (b = w.heap.size) := hb
  have hR2 := R2.out
  rw [HL.out] at hR2
  have hlt : b < X2.heap.size := by rw [hb]; exact hR2.lt
  rw [← hb] at hR2 ⊢
  have RL : Hid (∀ Y, Below X2.heap.size X2 Y → Row Y b (lf ix en tk rc am) 40) := fun Y k => Row.below hR2 k hlt
  obtain ⟨P, hP⟩ : ∃ P, P = X2.heap.size := ⟨_, rfl⟩
  have HP : Hid (P = X2.heap.size) := hP
  have LN : Hid (([76#8] : List (BitVec 8)).length ≤ 1000000 ∧ ([76#8] ++ nf ix).length ≤ 1000000 ∧ ([76#8] ++ nf ix ++ nf en).length ≤ 1000000 ∧ ([76#8] ++ nf ix ++ nf en ++ nf tk).length ≤ 1000000 ∧ ([76#8] ++ nf ix ++ nf en ++ nf tk ++ rc).length ≤ 1000000 ∧ (lfb ix en tk rc am).length ≤ 1000000) := by
    have h1 := nf_len ix
    have h2 := nf_len en
    have h3 := nf_len tk
    have h4 := lfb_len ix en tk rc am HTO.out
    have h5 := HTO.out
    simp only [List.length_append, List.length_singleton]
    refine ⟨?_, ?_, ?_, ?_, ?_, ?_⟩ <;> omega
  clear hb hP hR2 hlt R2 R1 B1 HM HL HI
  go_upto_region 4 with (go_at_call 31; refine Calls.mono (wm_new X2) ?_; rintro e X3 ⟨rfl, q⟩; have M3 : Hid (Wm X2 X3 P []) := (by rw [HP.out]; exact q); clear q; rw [← HP.out])
  go_upto_region 5 with (go_at_call 32; refine Calls.mono (wm_byte X2 P [] (Nat.zero_le _) 76#8 76 rfl X3 M3.out) ?_; rintro e X4 ⟨rfl, q⟩; have M4 : Hid (Wm X2 X4 P [76#8]) := q; have c0 := (RL.out X4 q.below).cell 0 _ rfl; clear q M3)
  go_upto_region 6 with (go_at_call 33; refine Calls.mono (wm_number X2 P [76#8] LN.out.1 ix HIN.out.1 (by have := HIN.out.2.1; omega) X4 M4.out) ?_; rintro e X5 ⟨rfl, q⟩; have M5 : Hid (Wm X2 X5 P ([76#8] ++ nf ix)) := q; have c1 := (RL.out X5 q.below).cell 1 _ rfl; clear q M4 c0)
  go_upto_region 7 with (go_at_call 33; refine Calls.mono (wm_number X2 P ([76#8] ++ nf ix) LN.out.2.1 en HIN.out.2.2.1 (by have := HIN.out.2.2.2.1; omega) X5 M5.out) ?_; rintro e X6 ⟨rfl, q⟩; have M6 : Hid (Wm X2 X6 P ([76#8] ++ nf ix ++ nf en)) := q; have c2 := (RL.out X6 q.below).cell 2 _ rfl; clear q M5 c1)
  go_upto_region 8 with (go_at_call 33; refine Calls.mono (wm_number X2 P ([76#8] ++ nf ix ++ nf en) LN.out.2.2.1 tk HIN.out.2.2.2.2.1 (by have := HIN.out.2.2.2.2.2; omega) X6 M6.out) ?_; rintro e X7 ⟨rfl, q⟩; have M7 : Hid (Wm X2 X7 P ([76#8] ++ nf ix ++ nf en ++ nf tk)) := q; have RT : Hid (X7.rangeAt b 3 (vB rc)) := lf_rto (RL.out X7 q.below); clear q M6 c2)
  go_upto_region 9 with (first
    | (refine wpList_load_w rfl 35 (.tmp 24) rfl b 3 rfl (vB rc) _ RT.out Tryz.underlying35 rfl HIA.out ?_; simp only [Act.put, List.setIfInBounds_toArray, List.set_cons_zero, List.set_cons_succ])
    | (go_at_call 34; refine Calls.mono (wm_address X2 P ([76#8] ++ nf ix ++ nf en ++ nf tk) LN.out.2.2.2.1 rc HTO.out X7 M7.out) ?_; rintro e X8 ⟨rfl, q⟩; have M8 : Hid (Wm X2 X8 P ([76#8] ++ nf ix ++ nf en ++ nf tk ++ rc)) := q; have RA : Hid (X8.rangeAt b 23 (vQ am)) := lf_ram HTO.out (RL.out X8 q.below); clear q M7 RT))
  go_upto_region 10 with (first
    | (refine wpList_load_w rfl 38 (.tmp 28) rfl b 23 rfl (vQ am) _ RA.out Tryz.underlying38 rfl HIW.out ?_; simp only [Act.put, List.setIfInBounds_toArray, List.set_cons_zero, List.set_cons_succ])
    | (go_at_call 35; refine Calls.mono (wm_wide X2 P ([76#8] ++ nf ix ++ nf en ++ nf tk ++ rc) LN.out.2.2.2.2.1 am HAM.out HQ.out X8 M8.out) ?_; rintro e X9 ⟨rfl, q⟩; have M9 : Hid (Wm X2 X9 P (lfb ix en tk rc am)) := q; clear q M8 RA))
  obtain ⟨bs, hbs⟩ : ∃ bs, bs = lfb ix en tk rc am := ⟨_, rfl⟩
  have HBS : Hid (bs = lfb ix en tk rc am) := hbs
  rw [← hbs] at M9 LN
  obtain ⟨n, hn⟩ : ∃ n, n = bs.length := ⟨_, rfl⟩
  have HN : Hid (n = bs.length) := hn
  clear hbs hn
  go_wp2_with (go_at_call 36; refine Calls.mono (wm_done X2 P bs LN.out.2.2.2.2.2 X9 M9.out) ?_; rintro e Y ⟨A, cap, rfl, q1, q2, q3⟩; rw [← HN.out] at q1 q2 ⊢; have E1 : Hid (Bw Y (.slice A n cap) bs) := q1; have E2 : Hid (Fresh X2.heap.size (.slice A n cap)) := q2; have E3 : Hid (Below X2.heap.size X2 Y) := q3; clear q1 q2 q3)
  go_ret2
  exact ⟨A, n, cap, by rw [HN.out, HBS.out], rfl, by rw [← HBS.out]; exact E1.out, E2.out.more B2.out.size, B2.out.trans (E3.out.mono B2.out.size)⟩

end Go.Proofs.YtdicgenhfmhklaaGreatDoor
