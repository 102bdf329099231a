/-
  the fields of a letter: which are zero, which may be.
-/
import Derived.Test.YtaaehdlenigomaaGreatLtA
import Derived.Test.YtaaehdlenigomaaGreatXFpL
namespace Go.Proofs.YtaaehdlenigomaaGreat
open Go Go.RowKit
open Sha

theorem range_sub {w : World} {b : Nat} {cs l : List Value} {t : TypeId} (h : Row w b cs t) (o n : Nat) (e : (cs.drop o).take n = l) : w.rangeAt b o l := h.range o l (fun j v hj => by
  rw [← e, List.getElem?_take] at hj
  split at hj
  · rwa [List.getElem?_drop] at hj
  · cases hj)
theorem info_20 : (Tryz.prog.info? 23).map (·.size) = some (vB (List.replicate 20 0#8)).length := by kernel_rfl
theorem info_4 : (Tryz.prog.info? 26).map (·.size) = some (vQ (List.replicate 4 0)).length := by kernel_rfl
theorem guardA : Tryz.prog.eqGuardType Tryz.prog.depth 23 = false := by kernel_rfl
section
variable {P : Program} {ops : Array Oper} {rest : List Oper} {op : Oper} {a : Act} {w : World} {Q : Exit → Act → World → Prop}
theorem wpList_eql_b (hw : Region.wanted op (yielded ops a.tmps) = true) (t : TypeId) (x y : Operand) (yt : TypeId) (ho : op.op = .binOp .eql t x y yt) (e n : Nat) (l r : List (BitVec 8)) (hx : a.eval x = .agg (vB l).toArray) (hy : a.eval y = .agg (vB r).toArray)
    (ht : P.underlying t = some (.array n e)) (he : P.underlying e = some (.int .u8)) (hs : (P.info? e).map (·.size) = some 1) (hl : l.length = n) (hr : r.length = n) (hm : P.eqGuardType P.depth t = false)
    (B : Bool) (hB : decide (l = r) = B) (h : wpList P ops Q rest (a.put op.dst (.bool B)) w) : wpList P ops Q (op :: rest) a w :=
  BigFrame.wpList_want hw fun _ hK => wp_eql_b t x y yt ho e n l r hx hy ht he hs hl hr hm B hB (hK _ _ h)
theorem wpList_eql_q (hw : Region.wanted op (yielded ops a.tmps) = true) (x y : Operand) (yt : TypeId) (ho : op.op = .binOp .eql 26 x y yt) (l r : List Nat) (hl : l.length = 4) (hr : r.length = 4) (hx : a.eval x = .agg (vQ l).toArray) (hy : a.eval y = .agg (vQ r).toArray)
    (B : Bool) (hB : decide (l = r) = B) (h : wpList Tryz.prog ops Q rest (a.put op.dst (.bool B)) w) : wpList Tryz.prog ops Q (op :: rest) a w :=
  BigFrame.wpList_want hw fun _ hK => wp_eql_q x y yt ho l r hl hr hx hy B hB (hK _ _ h)
end
/-- A letter's cells. -/
abbrev lt (k t n : Int) : List Value := [.int .i64 (k), .int .i64 (t), .int .u8 0, .int .u8 0, .int .u8 0, .int .u8 0, .int .u8 0, .int .u8 0, .int .u8 0, .int .u8 0, .int .u8 0, .int .u8 0, .int .u8 0, .int .u8 0, .int .u8 0, .int .u8 0, .int .u8 0, .int .u8 0, .int .u8 0, .int .u8 0, .int .u8 0, .int .u8 0, .int .u8 0, .int .u8 0, .int .u8 0, .int .u8 0, .int .u8 0, .int .u8 0, .int .u8 0, .int .u8 0, .int .u8 0, .int .u8 0, .int .u8 0, .int .u8 0, .int .u8 0, .int .u8 0, .int .u8 0, .int .u8 0, .int .u8 0, .int .u8 0, .int .u8 0, .int .u8 0, .int .u64 0, .int .u64 0, .int .u64 0, .int .u64 0, .int .i64 (n), .int .i64 0, .slice none 0 0, .slice none 0 0, .slice none 0 0]
abbrev en (k t : Int) (v : Value) : List Value := [.int .i64 (k), .int .u8 0, .int .u8 0, .int .u8 0, .int .u8 0, .int .u8 0, .int .u8 0, .int .u8 0, .int .u8 0, .int .u8 0, .int .u8 0, .int .u8 0, .int .u8 0, .int .u8 0, .int .u8 0, .int .u8 0, .int .u8 0, .int .u8 0, .int .u8 0, .int .u8 0, .int .u8 0, .int .i64 (t), .int .i64 0, .int .u8 0, .int .u8 0, .int .u8 0, .int .u8 0, .int .u8 0, .int .u8 0, .int .u8 0, .int .u8 0, .int .u8 0, .int .u8 0, .int .u8 0, .int .u8 0, .int .u8 0, .int .u8 0, .int .u8 0, .int .u8 0, .int .u8 0, .int .u8 0, .int .u8 0, .int .u8 0, .int .u64 0, .int .u64 0, .int .u64 0, .int .u64 0, .int .i64 0, v]
set_option maxRecDepth 100000 in
theorem within_any (n a b : Int) (w : World) : Calls Tryz.prog 34 #[.int .i64 n, .int .i64 a, .int .i64 b] w fun e w' => e = .returned (.bool (decide (a ≤ n) && decide (n ≤ b))) ∧ w' = w := by
  by_cases h1 : a ≤ n
  · by_cases h2 : n ≤ b
    · go_enter Tryz.func34, Tryz.ntmps34
      go_wp2
      go_ret
      exact ⟨by simp [h1, h2], rfl⟩
    · go_enter Tryz.func34, Tryz.ntmps34
      go_wp2
      go_ret
      exact ⟨by simp [h2], rfl⟩
  · go_enter Tryz.func34, Tryz.ntmps34
    go_wp2
    go_ret
    exact ⟨by simp; omega, rfl⟩
set_option maxRecDepth 100000 in
theorem isToken_3 (w : World) : Calls Tryz.prog 41 #[.int .i64 3] w fun e w' => e = .returned (.bool true) ∧ w' = w := by
  have HW : Hid _ := within_any 3 0 63 w
  go_enter Tryz.func41, Tryz.ntmps41
  go_wp2_with (go_at_call 34; refine Calls.mono HW.out ?_; rintro e W ⟨rfl, rfl⟩)
  go_ret
  exact ⟨by first | rfl | simp, rfl⟩
set_option maxRecDepth 100000 in
theorem anyL (v : Value) (w : World) : Calls Tryz.prog 27 #[v] w fun e w' => e = .returned (.bool true) ∧ w' = w := by
  go_enter Tryz.func27, Tryz.ntmps27
  go_wp2
  go_ret
  exact ⟨rfl, rfl⟩

set_option maxRecDepth 100000 in
theorem z_fields_2 (k t n : Int) (b : Nat) (w : World) (h : Row w b (lt k t n) tLet) : Calls Tryz.prog 73 #[.pointer (some ⟨b, 0, none⟩)] w fun e w' => e = .returned (.bool (t == 0)) ∧ w' = w := by
  have g1 := h.cell 1 _ rfl
  clear h
  go_enter Tryz.func73, Tryz.ntmps73
  go_wp2
  go_ret
  exact ⟨by first | rfl | simp, rfl⟩

set_option maxRecDepth 100000 in
theorem z_fields_15 (k t n : Int) (b : Nat) (w : World) (h : Row w b (lt k t n) tLet) : Calls Tryz.prog 87 #[.pointer (some ⟨b, 0, none⟩)] w fun e w' => e = .returned (.bool (n == 0)) ∧ w' = w := by
  have g46 := h.cell 46 _ rfl
  clear h
  go_enter Tryz.func87, Tryz.ntmps87
  go_wp2
  go_ret
  exact ⟨by first | rfl | simp, rfl⟩

set_option maxRecDepth 100000 in
theorem z_fields_19 (k t n : Int) (b : Nat) (w : World) (h : Row w b (lt k t n) tLet) : Calls Tryz.prog 91 #[.pointer (some ⟨b, 0, none⟩)] w fun e w' => e = .returned (.bool (true)) ∧ w' = w := by
  have g47 := h.cell 47 _ rfl
  clear h
  go_enter Tryz.func91, Tryz.ntmps91
  go_wp2
  go_ret
  exact ⟨by first | rfl | simp, rfl⟩

set_option maxRecDepth 100000 in
theorem z_argsField_2 (k t n : Int) (b : Nat) (w : World) (h : Row w b (lt k t n) tLet) : Calls Tryz.prog 115 #[.pointer (some ⟨b, 0, none⟩)] w fun e w' => e = .returned (.bool (true)) ∧ w' = w := by
  have g48 := h.cell 48 _ rfl
  clear h
  go_enter Tryz.func115, Tryz.ntmps115
  go_wp2
  go_ret
  exact ⟨by first | rfl | simp, rfl⟩

set_option maxRecDepth 100000 in
theorem z_codeField_2 (k t n : Int) (b : Nat) (w : World) (h : Row w b (lt k t n) tLet) : Calls Tryz.prog 121 #[.pointer (some ⟨b, 0, none⟩)] w fun e w' => e = .returned (.bool (true)) ∧ w' = w := by
  have g49 := h.cell 49 _ rfl
  clear h
  go_enter Tryz.func121, Tryz.ntmps121
  go_wp2
  go_ret
  exact ⟨by first | rfl | simp, rfl⟩

set_option maxRecDepth 100000 in
theorem z_partsField_2 (k t n : Int) (b : Nat) (w : World) (h : Row w b (lt k t n) tLet) : Calls Tryz.prog 126 #[.pointer (some ⟨b, 0, none⟩)] w fun e w' => e = .returned (.bool (true)) ∧ w' = w := by
  have g50 := h.cell 50 _ rfl
  clear h
  go_enter Tryz.func126, Tryz.ntmps126
  go_wp2
  go_ret
  exact ⟨by first | rfl | simp, rfl⟩

set_option maxRecDepth 100000 in
theorem z_fields_5 (k t n : Int) (b : Nat) (w : World) (h : Row w b (lt k t n) tLet) : Calls Tryz.prog 77 #[.pointer (some ⟨b, 0, none⟩)] w fun e w' => e = .returned (.bool (true)) ∧ w' = w := by
  have R : Hid (w.rangeAt b 2 (vB (List.replicate 20 0#8))) := range_sub h 2 20 rfl
  clear h
  go_enter Tryz.func77, Tryz.ntmps77
  go_wp2_with (first
    | (refine wpList_load_w rfl 23 (.tmp 5) rfl b 2 rfl (vB (List.replicate 20 0#8)) _ R.out Tryz.underlying23 rfl info_20 ?_; simp only [Act.put, List.setIfInBounds_toArray, List.set_cons_zero, List.set_cons_succ])
    | (refine wpList_eql_b rfl 23 (.tmp 6) (.tmp 7) _ rfl 5 20 (List.replicate 20 0#8) (List.replicate 20 0#8) rfl rfl Tryz.underlying23 Tryz.underlying5 info_u8 rfl rfl guardA true (by decide) ?_; simp only [Act.put, List.setIfInBounds_toArray, List.set_cons_zero, List.set_cons_succ]))
  go_ret
  exact ⟨by first | rfl | simp, rfl⟩

set_option maxRecDepth 100000 in
theorem z_fields_8 (k t n : Int) (b : Nat) (w : World) (h : Row w b (lt k t n) tLet) : Calls Tryz.prog 80 #[.pointer (some ⟨b, 0, none⟩)] w fun e w' => e = .returned (.bool (true)) ∧ w' = w := by
  have R : Hid (w.rangeAt b 22 (vB (List.replicate 20 0#8))) := range_sub h 22 20 rfl
  clear h
  go_enter Tryz.func80, Tryz.ntmps80
  go_wp2_with (first
    | (refine wpList_load_w rfl 23 (.tmp 5) rfl b 22 rfl (vB (List.replicate 20 0#8)) _ R.out Tryz.underlying23 rfl info_20 ?_; simp only [Act.put, List.setIfInBounds_toArray, List.set_cons_zero, List.set_cons_succ])
    | (refine wpList_eql_b rfl 23 (.tmp 6) (.tmp 7) _ rfl 5 20 (List.replicate 20 0#8) (List.replicate 20 0#8) rfl rfl Tryz.underlying23 Tryz.underlying5 info_u8 rfl rfl guardA true (by decide) ?_; simp only [Act.put, List.setIfInBounds_toArray, List.set_cons_zero, List.set_cons_succ]))
  go_ret
  exact ⟨by first | rfl | simp, rfl⟩

set_option maxRecDepth 100000 in
theorem z_fields_11 (k t n : Int) (b : Nat) (w : World) (h : Row w b (lt k t n) tLet) : Calls Tryz.prog 83 #[.pointer (some ⟨b, 0, none⟩)] w fun e w' => e = .returned (.bool (true)) ∧ w' = w := by
  have R : Hid (w.rangeAt b 42 (vQ (List.replicate 4 0))) := range_sub h 42 4 rfl
  clear h
  go_enter Tryz.func83, Tryz.ntmps83
  go_wp2_with (first
    | (refine wpList_load_w rfl 26 (.tmp 5) rfl b 42 rfl (vQ (List.replicate 4 0)) _ R.out Tryz.underlying26 rfl info_4 ?_; simp only [Act.put, List.setIfInBounds_toArray, List.set_cons_zero, List.set_cons_succ])
    | (refine wpList_eql_q rfl (.tmp 6) (.tmp 7) _ rfl (List.replicate 4 0) (List.replicate 4 0) rfl rfl rfl rfl true (by decide) ?_; simp only [Act.put, List.setIfInBounds_toArray, List.set_cons_zero, List.set_cons_succ]))
  go_ret
  exact ⟨by first | rfl | simp, rfl⟩

set_option maxRecDepth 100000 in
theorem z_fields_14 (k t : Int) (b : Nat) (w : World) (h : Row w b (lt k t 1) tLet) : Calls Tryz.prog 86 #[.pointer (some ⟨b, 0, none⟩)] w fun e w' => e = .returned (.bool (true)) ∧ w' = w := by
  have g46 := h.cell 46 _ rfl
  clear h
  go_enter Tryz.func86, Tryz.ntmps86
  go_wp2_with (go_at_call 34; refine Calls.mono (within_any 1 1 1099511627776 _) ?_; rintro e W ⟨rfl, rfl⟩)
  go_ret
  exact ⟨by first | rfl | simp, rfl⟩

set_option maxRecDepth 100000 in
theorem z_fields_1 (k n : Int) (b : Nat) (w : World) (h : Row w b (lt k 3 n) tLet) : Calls Tryz.prog 72 #[.pointer (some ⟨b, 0, none⟩)] w fun e w' => e = .returned (.bool (true)) ∧ w' = w := by
  have g1 := h.cell 1 _ rfl
  clear h
  go_enter Tryz.func72, Tryz.ntmps72
  go_wp2_with (go_at_call 41; refine Calls.mono (isToken_3 _) ?_; rintro e W ⟨rfl, rfl⟩)
  go_ret
  exact ⟨by first | rfl | simp, rfl⟩

set_option maxRecDepth 100000 in
theorem z_entryFields_4 (k : Int) (v : Value) (b : Nat) (w : World) (h : Row w b (en k 258 v) tEnt) : Calls Tryz.prog 33 #[.pointer (some ⟨b, 0, none⟩)] w fun e w' => e = .returned (.bool (true)) ∧ w' = w := by
  have g21 := h.cell 21 _ rfl
  clear h
  go_enter Tryz.func33, Tryz.ntmps33
  go_wp2_with (go_at_call 34; refine Calls.mono (within_any 258 0 4611686018427387904 _) ?_; rintro e W ⟨rfl, rfl⟩)
  go_ret
  exact ⟨by first | rfl | simp, rfl⟩

set_option maxRecDepth 100000 in
theorem z_entryFields_9 (k t : Int) (v : Value) (b : Nat) (w : World) (h : Row w b (en k t v) tEnt) : Calls Tryz.prog 42 #[.pointer (some ⟨b, 0, none⟩)] w fun e w' => e = .returned (.bool (true)) ∧ w' = w := by
  have g22 := h.cell 22 _ rfl
  clear h
  go_enter Tryz.func42, Tryz.ntmps42
  go_wp2
  go_ret
  exact ⟨by first | rfl | simp, rfl⟩

set_option maxRecDepth 100000 in
theorem z_entryFields_12 (k t : Int) (v : Value) (b : Nat) (w : World) (h : Row w b (en k t v) tEnt) : Calls Tryz.prog 45 #[.pointer (some ⟨b, 0, none⟩)] w fun e w' => e = .returned (.bool (true)) ∧ w' = w := by
  have R : Hid (w.rangeAt b 23 (vB (List.replicate 20 0#8))) := range_sub h 23 20 rfl
  clear h
  go_enter Tryz.func45, Tryz.ntmps45
  go_wp2_with (first
    | (refine wpList_load_w rfl 23 (.tmp 5) rfl b 23 rfl (vB (List.replicate 20 0#8)) _ R.out Tryz.underlying23 rfl info_20 ?_; simp only [Act.put, List.setIfInBounds_toArray, List.set_cons_zero, List.set_cons_succ])
    | (refine wpList_eql_b rfl 23 (.tmp 6) (.tmp 7) _ rfl 5 20 (List.replicate 20 0#8) (List.replicate 20 0#8) rfl rfl Tryz.underlying23 Tryz.underlying5 info_u8 rfl rfl guardA true (by decide) ?_; simp only [Act.put, List.setIfInBounds_toArray, List.set_cons_zero, List.set_cons_succ]))
  go_ret
  exact ⟨by first | rfl | simp, rfl⟩

set_option maxRecDepth 100000 in
theorem z_entryFields_16 (k t : Int) (v : Value) (b : Nat) (w : World) (h : Row w b (en k t v) tEnt) : Calls Tryz.prog 49 #[.pointer (some ⟨b, 0, none⟩)] w fun e w' => e = .returned (.bool (true)) ∧ w' = w := by
  have R : Hid (w.rangeAt b 43 (vQ (List.replicate 4 0))) := range_sub h 43 4 rfl
  clear h
  go_enter Tryz.func49, Tryz.ntmps49
  go_wp2_with (first
    | (refine wpList_load_w rfl 26 (.tmp 5) rfl b 43 rfl (vQ (List.replicate 4 0)) _ R.out Tryz.underlying26 rfl info_4 ?_; simp only [Act.put, List.setIfInBounds_toArray, List.set_cons_zero, List.set_cons_succ])
    | (refine wpList_eql_q rfl (.tmp 6) (.tmp 7) _ rfl (List.replicate 4 0) (List.replicate 4 0) rfl rfl rfl rfl true (by decide) ?_; simp only [Act.put, List.setIfInBounds_toArray, List.set_cons_zero, List.set_cons_succ]))
  go_ret
  exact ⟨by first | rfl | simp, rfl⟩

set_option maxRecDepth 100000 in
theorem z_entryFields_20 (k t : Int) (v : Value) (b : Nat) (w : World) (h : Row w b (en k t v) tEnt) : Calls Tryz.prog 55 #[.pointer (some ⟨b, 0, none⟩)] w fun e w' => e = .returned (.bool (true)) ∧ w' = w := by
  have g47 := h.cell 47 _ rfl
  clear h
  go_enter Tryz.func55, Tryz.ntmps55
  go_wp2
  go_ret
  exact ⟨by first | rfl | simp, rfl⟩

set_option maxRecDepth 100000 in
theorem z_entryFields_23 (k t : Int) (A : Option Addr) (cap : Nat) (b : Nat) (w : World) (h : Row w b (en k t (.slice A 1 cap)) tEnt) : Calls Tryz.prog 58 #[.pointer (some ⟨b, 0, none⟩)] w fun e w' => e = .returned (.bool (true)) ∧ w' = w := by
  have g48 := h.cell 48 _ rfl
  clear h
  go_enter Tryz.func58, Tryz.ntmps58
  go_wp2
  go_ret
  exact ⟨by first | rfl | simp, rfl⟩

end Go.Proofs.YtaaehdlenigomaaGreat
