/-
  an entry of any values: its cells; which fields are zero, which may be.
-/
import Derived.Test.YtknabkoddickaaaGreatDoorLtC
namespace Go.Proofs.YtknabkoddickaaaGreatDoor
open Go Go.RowKit
open Sha

/-- An entry's cells. -/
def ent (k : Int) (sd : List (BitVec 8)) (tm tk : Int) (rc : List (BitVec 8)) (am : List Nat) (gs : Int) (v : Value) : List Value :=
  .int .i64 k :: (vB sd ++ (.int .i64 tm :: .int .i64 tk :: (vB rc ++ (vQ am ++ [.int .i64 gs, v]))))
/-- An entry in memory. -/
structure En (w : World) (b : Nat) (k : Int) (sd : List (BitVec 8)) (tm tk : Int) (rc : List (BitVec 8)) (am : List Nat) (gs : Int) (v : Value) : Prop where
  row : Row w b (ent k sd tm tk rc am gs v) tEnt
  ls : sd.length = 20
  lt : rc.length = 20
  la : am.length = 4
section
variable {k tm tk gs : Int} {sd rc : List (BitVec 8)} {am : List Nat} {v : Value} {b : Nat} {w : World}
theorem vQ_len (l : List Nat) : (vQ l).length = l.length := by simp [vQ]
theorem app_at (xs ys : List Value) (n i : Nat) (h : xs.length = n) : (xs ++ ys)[n + i]? = ys[i]? := by
  rw [List.getElem?_append_right (by omega), h, Nat.add_sub_cancel_left]
theorem ent_mid (h1 : sd.length = 20) (i : Nat) : (ent k sd tm tk rc am gs v)[21 + i]? = (Value.int .i64 tm :: .int .i64 tk :: (vB rc ++ (vQ am ++ [.int .i64 gs, v])))[i]? := by
  rw [show 21 + i = (20 + i) + 1 by omega]
  exact app_at (vB sd) _ 20 i (by rw [vB_length, h1])
theorem ent_to (h1 : sd.length = 20) (i : Nat) : (ent k sd tm tk rc am gs v)[23 + i]? = (vB rc ++ (vQ am ++ [.int .i64 gs, v]))[i]? := by
  rw [show 23 + i = 21 + (i + 1 + 1) by omega, ent_mid h1]
  rfl
theorem ent_am (h1 : sd.length = 20) (h2 : rc.length = 20) (i : Nat) : (ent k sd tm tk rc am gs v)[43 + i]? = (vQ am ++ [.int .i64 gs, v])[i]? := by
  rw [show 43 + i = 23 + (20 + i) by omega, ent_to h1]
  exact app_at (vB rc) _ 20 i (by rw [vB_length, h2])
theorem ent_gs (h1 : sd.length = 20) (h2 : rc.length = 20) (h3 : am.length = 4) (i : Nat) : (ent k sd tm tk rc am gs v)[47 + i]? = ([.int .i64 gs, v] : List Value)[i]? := by
  rw [show 47 + i = 43 + (4 + i) by omega, ent_am h1 h2]
  exact app_at (vQ am) _ 4 i (by rw [vQ_len, h3])
theorem En.c_kind (h : En w b k sd tm tk rc am gs v) : w.cell? ⟨b, 0, none⟩ = some (.int .i64 k) := h.row.cell 0 _ rfl
theorem En.c_time (h : En w b k sd tm tk rc am gs v) : w.cell? ⟨b, 21, none⟩ = some (.int .i64 tm) := h.row.cell 21 _ (ent_mid h.ls 0)
theorem En.c_token (h : En w b k sd tm tk rc am gs v) : w.cell? ⟨b, 22, none⟩ = some (.int .i64 tk) := h.row.cell 22 _ (ent_mid h.ls 1)
theorem En.c_gas (h : En w b k sd tm tk rc am gs v) : w.cell? ⟨b, 47, none⟩ = some (.int .i64 gs) := h.row.cell 47 _ (ent_gs h.ls h.lt h.la 0)
theorem En.c_body (h : En w b k sd tm tk rc am gs v) : w.cell? ⟨b, 48, none⟩ = some v := h.row.cell 48 _ (ent_gs h.ls h.lt h.la 1)
theorem En.r_sender (h : En w b k sd tm tk rc am gs v) : w.rangeAt b 1 (vB sd) := h.row.range 1 _ (fun j u hj => by
  have hlt : j < (vB sd).length := (List.getElem?_eq_some_iff.1 hj).1
  rw [show 1 + j = j + 1 by omega]
  exact (List.getElem?_append_left hlt).trans hj)
theorem En.r_to (h : En w b k sd tm tk rc am gs v) : w.rangeAt b 23 (vB rc) := h.row.range 23 _ (fun j u hj => by
  have hlt : j < (vB rc).length := (List.getElem?_eq_some_iff.1 hj).1
  rw [ent_to h.ls]
  exact (List.getElem?_append_left hlt).trans hj)
theorem En.r_amount (h : En w b k sd tm tk rc am gs v) : w.rangeAt b 43 (vQ am) := h.row.range 43 _ (fun j u hj => by
  have hlt : j < (vQ am).length := (List.getElem?_eq_some_iff.1 hj).1
  rw [ent_am h.ls h.lt]
  exact (List.getElem?_append_left hlt).trans hj)
theorem En.be {w' : World} (h : En w b k sd tm tk rc am gs v) (q : Below w.heap.size w w') : En w' b k sd tm tk rc am gs v := ⟨Row.below h.row q h.row.lt, h.ls, h.lt, h.la⟩
end
section
variable {ops : Array Oper} {rest : List Oper} {op : Oper} {a : Act} {w : World} {Q : Exit → Act → World → Prop}
theorem wpList_neq_q (hw : Region.wanted op (yielded ops a.tmps) = true) (x y : Operand) (yt : TypeId) (ho : op.op = .binOp .neq 43 x y yt) (l r : List Nat) (hl : l.length = 4) (hr : r.length = 4) (hx : a.eval x = .agg (vQ l).toArray) (hy : a.eval y = .agg (vQ r).toArray)
    (B : Bool) (hB : (!decide (l = r)) = B) (h : wpList Tryz.prog ops Q rest (a.put op.dst (.bool B)) w) : wpList Tryz.prog ops Q (op :: rest) a w :=
  BigFrame.wpList_want hw fun _ hK => by
    subst hB
    unfold Oper.wp execOp
    simp only [ho, hx, hy, Sem.run_bind, run_eqGuard_agg w .neq _ x y _ _ guard_wide, Result.andThen_ok, run_neq_w w l r hl hr, Sem.run_pure, Oper.upon_value]
    exact hK _ _ h
end
set_option maxRecDepth 100000 in
theorem isToken_any (n : Int) (w : World) : Calls Tryz.prog 75 #[.int .i64 n] w fun e w' => e = .returned (.bool (decide (0 ≤ n) && decide (n ≤ 63))) ∧ w' = w := by
  have HW : Hid _ := within_any n 0 63 w
  go_enter Tryz.func75, Tryz.ntmps75
  go_wp2_with (go_at_call 68; refine Calls.mono HW.out ?_; rintro e W ⟨rfl, rfl⟩)
  go_ret
  exact ⟨rfl, rfl⟩

set_option maxRecDepth 100000 in
theorem e_entryFields_4 (k tm tk gs : Int) (sd rc : List (BitVec 8)) (am : List Nat) (v : Value) (b : Nat) (w : World) (h : En w b k sd tm tk rc am gs v) : Calls Tryz.prog 67 #[.pointer (some ⟨b, 0, none⟩)] w fun e w' => e = .returned (.bool (decide (0 ≤ tm) && decide (tm ≤ 4611686018427387904))) ∧ w' = w := by
  have g := h.c_time
  clear h
  go_enter Tryz.func67, Tryz.ntmps67
  go_wp2_with (go_at_call 68; refine Calls.mono (within_any tm 0 4611686018427387904 _) ?_; rintro e W ⟨rfl, rfl⟩)
  go_ret
  exact ⟨by first | rfl | simp, rfl⟩

set_option maxRecDepth 100000 in
theorem e_entryFields_8 (k tm tk gs : Int) (sd rc : List (BitVec 8)) (am : List Nat) (v : Value) (b : Nat) (w : World) (h : En w b k sd tm tk rc am gs v) : Calls Tryz.prog 74 #[.pointer (some ⟨b, 0, none⟩)] w fun e w' => e = .returned (.bool (decide (0 ≤ tk) && decide (tk ≤ 63))) ∧ w' = w := by
  have g := h.c_token
  clear h
  go_enter Tryz.func74, Tryz.ntmps74
  go_wp2_with (go_at_call 75; refine Calls.mono (isToken_any tk _) ?_; rintro e W ⟨rfl, rfl⟩)
  go_ret
  exact ⟨by first | rfl | simp, rfl⟩

set_option maxRecDepth 100000 in
theorem e_entryFields_9 (k tm tk gs : Int) (sd rc : List (BitVec 8)) (am : List Nat) (v : Value) (b : Nat) (w : World) (h : En w b k sd tm tk rc am gs v) : Calls Tryz.prog 76 #[.pointer (some ⟨b, 0, none⟩)] w fun e w' => e = .returned (.bool (tk == 0)) ∧ w' = w := by
  have g := h.c_token
  clear h
  go_enter Tryz.func76, Tryz.ntmps76
  go_wp2
  go_ret
  exact ⟨by first | rfl | simp, rfl⟩

set_option maxRecDepth 100000 in
theorem e_entryFields_12 (k tm tk gs : Int) (sd rc : List (BitVec 8)) (am : List Nat) (v : Value) (b : Nat) (w : World) (h : En w b k sd tm tk rc am gs v) : Calls Tryz.prog 79 #[.pointer (some ⟨b, 0, none⟩)] w fun e w' => e = .returned (.bool (decide (rc = (List.replicate 20 0#8)))) ∧ w' = w := by
  have R : Hid (w.rangeAt b 23 (vB rc)) := h.r_to
  have HN : Hid (rc.length = 20) := h.lt
  obtain ⟨B, hB⟩ : ∃ B, B = decide (rc = (List.replicate 20 0#8)) := ⟨_, rfl⟩
  have HB : Hid (decide (rc = (List.replicate 20 0#8)) = B) := hB.symm
  have HI : Hid ((Tryz.prog.info? 40).map (·.size) = some (vB rc).length) := by show _ = _; rw [vB_length, HN.out]; kernel_rfl
  rw [← hB]
  clear h hB
  go_enter Tryz.func79, Tryz.ntmps79
  go_wp2_with (first
    | (refine wpList_load_w rfl 40 (.tmp 5) rfl b 23 rfl (vB rc) _ R.out Tryz.underlying40 rfl HI.out ?_; simp only [Act.put, List.setIfInBounds_toArray, List.set_cons_zero, List.set_cons_succ])
    | (refine wpList_eql_b rfl 40 (.tmp 6) (.tmp 7) _ rfl 5 20 rc (List.replicate 20 0#8) rfl rfl Tryz.underlying40 Tryz.underlying5 info_u8 HN.out rfl guardA B HB.out ?_; simp only [Act.put, List.setIfInBounds_toArray, List.set_cons_zero, List.set_cons_succ]))
  go_ret
  exact ⟨by first | rfl | simp, rfl⟩

set_option maxRecDepth 100000 in
theorem e_entryFields_15 (k tm tk gs : Int) (sd rc : List (BitVec 8)) (am : List Nat) (v : Value) (b : Nat) (w : World) (h : En w b k sd tm tk rc am gs v) : Calls Tryz.prog 82 #[.pointer (some ⟨b, 0, none⟩)] w fun e w' => e = .returned (.bool (!decide (am = (List.replicate 4 0)))) ∧ w' = w := by
  have R : Hid (w.rangeAt b 43 (vQ am)) := h.r_amount
  have HN : Hid (am.length = 4) := h.la
  obtain ⟨B, hB⟩ : ∃ B, B = decide (am = (List.replicate 4 0)) := ⟨_, rfl⟩
  have HB : Hid (decide (am = (List.replicate 4 0)) = B) := hB.symm
  have HI : Hid ((Tryz.prog.info? 43).map (·.size) = some (vQ am).length) := by show _ = _; rw [vQ_len, HN.out]; kernel_rfl
  rw [← hB]
  clear h hB
  go_enter Tryz.func82, Tryz.ntmps82
  go_wp2_with (first
    | (refine wpList_load_w rfl 43 (.tmp 5) rfl b 43 rfl (vQ am) _ R.out Tryz.underlying43 rfl HI.out ?_; simp only [Act.put, List.setIfInBounds_toArray, List.set_cons_zero, List.set_cons_succ])
    | (refine wpList_neq_q rfl (.tmp 6) (.tmp 7) _ rfl am (List.replicate 4 0) HN.out rfl rfl rfl (!B) (congrArg not HB.out) ?_; simp only [Act.put, List.setIfInBounds_toArray, List.set_cons_zero, List.set_cons_succ]))
  go_ret
  exact ⟨by first | rfl | simp, rfl⟩

set_option maxRecDepth 100000 in
theorem e_entryFields_16 (k tm tk gs : Int) (sd rc : List (BitVec 8)) (am : List Nat) (v : Value) (b : Nat) (w : World) (h : En w b k sd tm tk rc am gs v) : Calls Tryz.prog 83 #[.pointer (some ⟨b, 0, none⟩)] w fun e w' => e = .returned (.bool (decide (am = (List.replicate 4 0)))) ∧ w' = w := by
  have R : Hid (w.rangeAt b 43 (vQ am)) := h.r_amount
  have HN : Hid (am.length = 4) := h.la
  obtain ⟨B, hB⟩ : ∃ B, B = decide (am = (List.replicate 4 0)) := ⟨_, rfl⟩
  have HB : Hid (decide (am = (List.replicate 4 0)) = B) := hB.symm
  have HI : Hid ((Tryz.prog.info? 43).map (·.size) = some (vQ am).length) := by show _ = _; rw [vQ_len, HN.out]; kernel_rfl
  rw [← hB]
  clear h hB
  go_enter Tryz.func83, Tryz.ntmps83
  go_wp2_with (first
    | (refine wpList_load_w rfl 43 (.tmp 5) rfl b 43 rfl (vQ am) _ R.out Tryz.underlying43 rfl HI.out ?_; simp only [Act.put, List.setIfInBounds_toArray, List.set_cons_zero, List.set_cons_succ])
    | (refine wpList_eql_q rfl (.tmp 6) (.tmp 7) _ rfl am (List.replicate 4 0) HN.out rfl rfl rfl B HB.out ?_; simp only [Act.put, List.setIfInBounds_toArray, List.set_cons_zero, List.set_cons_succ]))
  go_ret
  exact ⟨by first | rfl | simp, rfl⟩

set_option maxRecDepth 100000 in
theorem e_entryFields_19 (k tm tk gs : Int) (sd rc : List (BitVec 8)) (am : List Nat) (v : Value) (b : Nat) (w : World) (h : En w b k sd tm tk rc am gs v) : Calls Tryz.prog 88 #[.pointer (some ⟨b, 0, none⟩)] w fun e w' => e = .returned (.bool (decide (0 ≤ gs) && decide (gs ≤ 1099511627776))) ∧ w' = w := by
  have g := h.c_gas
  clear h
  go_enter Tryz.func88, Tryz.ntmps88
  go_wp2_with (go_at_call 68; refine Calls.mono (within_any gs 0 1099511627776 _) ?_; rintro e W ⟨rfl, rfl⟩)
  go_ret
  exact ⟨by first | rfl | simp, rfl⟩

set_option maxRecDepth 100000 in
theorem e_entryFields_20 (k tm tk gs : Int) (sd rc : List (BitVec 8)) (am : List Nat) (v : Value) (b : Nat) (w : World) (h : En w b k sd tm tk rc am gs v) : Calls Tryz.prog 89 #[.pointer (some ⟨b, 0, none⟩)] w fun e w' => e = .returned (.bool (gs == 0)) ∧ w' = w := by
  have g := h.c_gas
  clear h
  go_enter Tryz.func89, Tryz.ntmps89
  go_wp2
  go_ret
  exact ⟨by first | rfl | simp, rfl⟩

set_option maxRecDepth 100000 in
theorem e_entryFields_23 (k tm tk gs : Int) (sd rc : List (BitVec 8)) (am : List Nat) (A : Option Addr) (n cap : Nat) (b : Nat) (w : World) (h : En w b k sd tm tk rc am gs (.slice A n cap)) : Calls Tryz.prog 92 #[.pointer (some ⟨b, 0, none⟩)] w fun e w' => e = .returned (.bool (decide ((n : Int) ≤ 4096))) ∧ w' = w := by
  have g := h.c_body
  clear h
  go_enter Tryz.func92, Tryz.ntmps92
  go_wp2
  go_ret
  exact ⟨by first | rfl | simp, rfl⟩

set_option maxRecDepth 100000 in
theorem e_entryFields_24 (k tm tk gs : Int) (sd rc : List (BitVec 8)) (am : List Nat) (A : Option Addr) (n cap : Nat) (b : Nat) (w : World) (h : En w b k sd tm tk rc am gs (.slice A n cap)) : Calls Tryz.prog 93 #[.pointer (some ⟨b, 0, none⟩)] w fun e w' => e = .returned (.bool ((n : Int) == 0)) ∧ w' = w := by
  have g := h.c_body
  clear h
  go_enter Tryz.func93, Tryz.ntmps93
  go_wp2
  go_ret
  exact ⟨by first | rfl | simp, rfl⟩

end Go.Proofs.YtknabkoddickaaaGreatDoor
