/-
  alive.
-/
import Derived.Test.YtclbiophgnkggaaGreatDoorMkX
namespace Go.Proofs.YtclbiophgnkggaaGreatDoor
open Go Go.RowKit
open Sha
open Wd

theorem built_call (g : Nat) : Tryz.prog.built 69 [(6, .int .i64 100), (4, .slice (some ⟨g, 0, none⟩) 2 2)] = some (callC (.slice (some ⟨g, 0, none⟩) 2 2)).toArray := by kernel_rfl
theorem built_play (gc ga : Nat) : Tryz.prog.built 72 [(0, .slice (some ⟨gc, 0, none⟩) 6 6), (1, .agg (callC (.slice (some ⟨ga, 0, none⟩) 2 2)).toArray)] = some (Value.slice (some ⟨gc, 0, none⟩) 6 6 :: (callC (.slice (some ⟨ga, 0, none⟩) 2 2) ++ [.slice none 0 0])).toArray := by kernel_rfl
section
variable {ops : Array Oper} {rest : List Oper} {op : Oper} {a : Act} {w : World} {Q : Exit → Act → World → Prop}
theorem wpList_buildC (hgd : op.guard = none) (x : Operand) (ho : op.op = .build 69 #[(6, .const (.int .i64 100)), (4, x)]) (g : Nat) (hx : a.eval x = .slice (some ⟨g, 0, none⟩) 2 2) (L : List Value) (hL : L = callC (.slice (some ⟨g, 0, none⟩) 2 2)) (h : wpList Tryz.prog ops Q rest (a.put op.dst (.agg L.toArray)) w) : wpList Tryz.prog ops Q (op :: rest) a w :=
  wpList_plain hgd fun _ hK => by
    subst hL
    have hr := run_build (P := Tryz.prog) w 69 #[(6, .int .i64 100), (4, .slice (some ⟨g, 0, none⟩) 2 2)] _ (built_call g)
    have hc : a.eval (.const (.int .i64 100)) = .int .i64 100 := rfl
    unfold Oper.wp execOp
    simp only [ho, List.map_toArray, List.map_cons, List.map_nil, hx, hc, Sem.run_bind, hr, Result.andThen_ok, Sem.run_pure, Oper.upon_value]
    exact hK _ _ h
theorem wpList_buildPl (hgd : op.guard = none) (x y : Operand) (ho : op.op = .build 72 #[(0, x), (1, y)]) (gc ga : Nat) (L P : List Value) (hL : L = callC (.slice (some ⟨ga, 0, none⟩) 2 2)) (hP : P = .slice (some ⟨gc, 0, none⟩) 6 6 :: (callC (.slice (some ⟨ga, 0, none⟩) 2 2) ++ [.slice none 0 0])) (hx : a.eval x = .slice (some ⟨gc, 0, none⟩) 6 6) (hy : a.eval y = .agg L.toArray) (h : wpList Tryz.prog ops Q rest (a.put op.dst (.agg P.toArray)) w) : wpList Tryz.prog ops Q (op :: rest) a w :=
  wpList_plain hgd fun _ hK => by
    subst hL hP
    have hr := run_build (P := Tryz.prog) w 72 #[(0, .slice (some ⟨gc, 0, none⟩) 6 6), (1, .agg (callC (.slice (some ⟨ga, 0, none⟩) 2 2)).toArray)] _ (built_play gc ga)
    unfold Oper.wp execOp
    simp only [ho, List.map_toArray, List.map_cons, List.map_nil, hx, hy, Sem.run_bind, hr, Result.andThen_ok, Sem.run_pure, Oper.upon_value]
    exact hK _ _ h
end
theorem sz_u64 (w : World) : (sizeOf 35).run Tryz.prog w = .ok 1 w := by
  go_simp
theorem eqW12 (w : World) : (Op.equalIn 9999 37 (.agg #[.int .u64 12, .int .u64 0, .int .u64 0, .int .u64 0]) (.agg #[.int .u64 12, .int .u64 0, .int .u64 0, .int .u64 0])).run Tryz.prog w = .ok true w := by
  have q := run_equalIn_vQ (P := Tryz.prog) (w := w) 9997 37 35 4 Tryz.underlying37 Tryz.underlying35 sz_u64 (dgs 12 4) (dgs 12 4) (dgs_length _ _) (dgs_length _ _)
  have e : vQ (dgs 12 4) = [.int .u64 12, .int .u64 0, .int .u64 0, .int .u64 0] := by
    show wq 12 = _
    rw [wq_cells, show lim 12 0 = 12 by decide +kernel, show lim 12 1 = 0 by decide +kernel, show lim 12 2 = 0 by decide +kernel, show lim 12 3 = 0 by decide +kernel]
    rfl
  rw [e, decide_eq_true rfl] at q
  exact q
set_option maxRecDepth 100000 in
set_option maxHeartbeats 4000000 in
theorem alive_any (w : World) : Calls Tryz.prog 6 #[] w fun e w' => e = .returned (.bool true) ∧ Below w.heap.size w w' := by
  obtain ⟨L, hL⟩ : ∃ L, L = callC (.slice (some ⟨w.heap.size + 1, 0, none⟩) 2 2) := ⟨_, rfl⟩
  have HL : Hid (L = callC (.slice (some ⟨w.heap.size + 1, 0, none⟩) 2 2)) := hL
  obtain ⟨P, hP⟩ : ∃ P, P = Value.slice (some ⟨w.heap.size, 0, none⟩) 6 6 :: (callC (.slice (some ⟨w.heap.size + 1, 0, none⟩) 2 2) ++ [.slice none 0 0]) := ⟨_, rfl⟩
  have HP : Hid (P = Value.slice (some ⟨w.heap.size, 0, none⟩) 6 6 :: (callC (.slice (some ⟨w.heap.size + 1, 0, none⟩) 2 2) ++ [.slice none 0 0])) := hP
  clear hL hP
  go_enter Tryz.func6, Tryz.ntmps6
  go_wp2_with (first
    | (refine wpList_buildC rfl (.tmp 8) rfl (w.heap.size + 1) rfl L HL.out ?_; simp only [Act.put, List.setIfInBounds_toArray, List.set_cons_zero, List.set_cons_succ])
    | (refine wpList_buildPl rfl (.tmp 5) (.tmp 9) rfl w.heap.size (w.heap.size + 1) L P HL.out HP.out rfl rfl ?_; simp only [Act.put, List.setIfInBounds_toArray, List.set_cons_zero, List.set_cons_succ]))
  have r0 : Row ((w.alloc (Obj.cells (vB dA).toArray 5)).alloc (Obj.cells (fw [5, 7]).toArray 37)) w.heap.size (vB dA) 5 := (Row.new' rfl rfl).alloc _
  have r1 : Row ((w.alloc (Obj.cells (vB dA).toArray 5)).alloc (Obj.cells (fw [5, 7]).toArray 37)) (w.heap.size + 1) (fw [5, 7]) 37 := Row.new' (by simp) rfl
  have e57 : fw [5, 7] = [.int .u64 5, .int .u64 0, .int .u64 0, .int .u64 0, .int .u64 7, .int .u64 0, .int .u64 0, .int .u64 0] := by
    show wq 5 ++ (wq 7 ++ []) = _
    rw [wq_cells, wq_cells, show lim 5 0 = 5 by decide +kernel, show lim 5 1 = 0 by decide +kernel, show lim 5 2 = 0 by decide +kernel, show lim 5 3 = 0 by decide +kernel, show lim 7 0 = 7 by decide +kernel, show lim 7 1 = 0 by decide +kernel, show lim 7 2 = 0 by decide +kernel, show lim 7 3 = 0 by decide +kernel]
    rfl
  have HC := lrun_alive w.heap.size (w.heap.size + 1) P HP.out _ r0 r1.all
  rw [e57] at HC
  refine Calls.mono HC ?_
  rintro e X ⟨rfl, q⟩
  have BX : Hid (Below w.heap.size w X) := (((Below.refl w.heap.size w).alloc (Nat.le_refl _) _).alloc (by simp) _).trans (q.mono (by simp; omega))
  clear q HC r0 r1 e57
  have hW := eqW12
  go_wp2_with (first
    | (refine wpList_allocR rfl rfl ?_; intro Y q1 q2 q3; have RY : Hid (Row Y X.heap.size zR 61) := q1; have BY : Hid (Below X.heap.size X Y) := q2; clear q1 q2 q3; simp only [Act.put, List.setIfInBounds_toArray, List.set_cons_zero, List.set_cons_succ])
    | (refine wpList_storeL rfl 61 (.tmp 1) (.tmp 12) rfl X.heap.size R12 zR 61 rfl rfl RY.out rfl info_Ran R12_one ?_; intro Z q1 q2; have EZ : Hid (Z = _) := q1; have RZ : Hid (Row Z X.heap.size R12 61) := q2; have z0 := q2.cell 0 _ rfl; have z1 := q2.cell 1 _ rfl; have z2 := q2.cell 2 _ rfl; have z3 := q2.cell 3 _ rfl; have z4 := q2.cell 4 _ rfl; clear q1 q2; simp only [Act.put]))
  go_ret
  exact ⟨rfl, by rw [EZ.out]; exact below_setCells (BX.out.trans (BY.out.mono BX.out.size)) BX.out.size _⟩

end Go.Proofs.YtclbiophgnkggaaGreatDoor
