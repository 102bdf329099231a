/-
  the do-functions of two numbers.
-/
import Derived.Test.YtabcglakdlkdcaaMkX

namespace Go.Proofs.Ytabcglakdlkdcaa
open Go Go.RowKit
open Sha
open Wd

theorem built_call (g : Nat) : Try.prog.built 30 [(6, .int .i64 100), (4, .slice (some ⟨g, 0, none⟩) 2 2)] = some (callC (.slice (some ⟨g, 0, none⟩) 2 2)).toArray := by kernel_rfl
theorem built_play (gc ga : Nat) : Try.prog.built 33 [(0, .slice (some ⟨gc, 0, none⟩) 6 6), (1, .agg (callC (.slice (some ⟨ga, 0, none⟩) 2 2)).toArray)] = some (Value.slice (some ⟨gc, 0, none⟩) 6 6 :: (callC (.slice (some ⟨ga, 0, none⟩) 2 2) ++ [.slice none 0 0])).toArray := by kernel_rfl
section
variable {ops : Array Oper} {rest : List Oper} {op : Oper} {a : Act} {w : World} {Q : Exit → Act → World → Prop}
theorem wpList_buildC (hgd : op.guard = none) (x : Operand) (ho : op.op = .build 30 #[(6, .const (.int .i64 100)), (4, x)]) (g : Nat) (hx : a.eval x = .slice (some ⟨g, 0, none⟩) 2 2) (L : List Value) (hL : L = callC (.slice (some ⟨g, 0, none⟩) 2 2)) (h : wpList Try.prog ops Q rest (a.put op.dst (.agg L.toArray)) w) : wpList Try.prog ops Q (op :: rest) a w :=
  wpList_plain hgd fun _ hK => by
    subst hL
    have hr := run_build (P := Try.prog) w 30 #[(6, .int .i64 100), (4, .slice (some ⟨g, 0, none⟩) 2 2)] _ (built_call g)
    have hc : a.eval (.const (.int .i64 100)) = .int .i64 100 := rfl
    unfold Oper.wp execOp
    simp only [ho, List.map_toArray, List.map_cons, List.map_nil, hx, hc, Sem.run_bind, hr, Result.andThen_ok, Sem.run_pure, Oper.upon_value]
    exact hK _ _ h
theorem wpList_buildPl (hgd : op.guard = none) (x y : Operand) (ho : op.op = .build 33 #[(0, x), (1, y)]) (gc ga : Nat) (L P : List Value) (hL : L = callC (.slice (some ⟨ga, 0, none⟩) 2 2)) (hP : P = .slice (some ⟨gc, 0, none⟩) 6 6 :: (callC (.slice (some ⟨ga, 0, none⟩) 2 2) ++ [.slice none 0 0])) (hx : a.eval x = .slice (some ⟨gc, 0, none⟩) 6 6) (hy : a.eval y = .agg L.toArray) (h : wpList Try.prog ops Q rest (a.put op.dst (.agg P.toArray)) w) : wpList Try.prog ops Q (op :: rest) a w :=
  wpList_plain hgd fun _ hK => by
    subst hL hP
    have hr := run_build (P := Try.prog) w 33 #[(0, .slice (some ⟨gc, 0, none⟩) 6 6), (1, .agg (callC (.slice (some ⟨ga, 0, none⟩) 2 2)).toArray)] _ (built_play gc ga)
    unfold Oper.wp execOp
    simp only [ho, List.map_toArray, List.map_cons, List.map_nil, hx, hy, Sem.run_bind, hr, Result.andThen_ok, Sem.run_pure, Oper.upon_value]
    exact hK _ _ h
end
theorem sz_u64 (w : World) : (sizeOf 25).run Try.prog w = .ok 1 w := by
  go_simp
theorem eqW12 (w : World) : (Op.equalIn 9999 27 (.agg #[.int .u64 12, .int .u64 0, .int .u64 0, .int .u64 0]) (.agg #[.int .u64 12, .int .u64 0, .int .u64 0, .int .u64 0])).run Try.prog w = .ok true w := by
  have q := run_equalIn_vQ (P := Try.prog) (w := w) 9997 27 25 4 Try.underlying27 Try.underlying25 sz_u64 (dgs 12 4) (dgs 12 4) (dgs_length _ _) (dgs_length _ _)
  have e : vQ (dgs 12 4) = [.int .u64 12, .int .u64 0, .int .u64 0, .int .u64 0] := by
    show wq 12 = _
    rw [wq_cells, show lim 12 0 = 12 by decide +kernel, show lim 12 1 = 0 by decide +kernel, show lim 12 2 = 0 by decide +kernel, show lim 12 3 = 0 by decide +kernel]
    rfl
  rw [e, decide_eq_true rfl] at q
  exact q
set_option maxRecDepth 100000 in
set_option maxHeartbeats 4000000 in
theorem alive_any (w : World) : Calls Try.prog 7 #[] w fun e w' => e = .returned (.bool true) ∧ Below w.heap.size w w' := by
  obtain ⟨L, hL⟩ : ∃ L, L = callC (.slice (some ⟨w.heap.size + 1, 0, none⟩) 2 2) := ⟨_, rfl⟩
  have HL : Hid (L = callC (.slice (some ⟨w.heap.size + 1, 0, none⟩) 2 2)) := hL
  obtain ⟨P, hP⟩ : ∃ P, P = Value.slice (some ⟨w.heap.size, 0, none⟩) 6 6 :: (callC (.slice (some ⟨w.heap.size + 1, 0, none⟩) 2 2) ++ [.slice none 0 0]) := ⟨_, rfl⟩
  have HP : Hid (P = Value.slice (some ⟨w.heap.size, 0, none⟩) 6 6 :: (callC (.slice (some ⟨w.heap.size + 1, 0, none⟩) 2 2) ++ [.slice none 0 0])) := hP
  clear hL hP
  go_enter Try.func7, Try.ntmps7
  go_wp2_with (first
    | (refine wpList_buildC rfl (.tmp 8) rfl (w.heap.size + 1) rfl L HL.out ?_; simp only [Act.put, List.setIfInBounds_toArray, List.set_cons_zero, List.set_cons_succ])
    | (refine wpList_buildPl rfl (.tmp 5) (.tmp 9) rfl w.heap.size (w.heap.size + 1) L P HL.out HP.out rfl rfl ?_; simp only [Act.put, List.setIfInBounds_toArray, List.set_cons_zero, List.set_cons_succ]))
  have r0 : Row ((w.alloc (Obj.cells (vB dA).toArray 5)).alloc (Obj.cells (fw [5, 7]).toArray 27)) w.heap.size (vB dA) 5 := (Row.new' rfl rfl).alloc _
  have r1 : Row ((w.alloc (Obj.cells (vB dA).toArray 5)).alloc (Obj.cells (fw [5, 7]).toArray 27)) (w.heap.size + 1) (fw [5, 7]) 27 := Row.new' (by simp) rfl
  have e57 : fw [5, 7] = [.int .u64 5, .int .u64 0, .int .u64 0, .int .u64 0, .int .u64 7, .int .u64 0, .int .u64 0, .int .u64 0] := by
    show wq 5 ++ (wq 7 ++ []) = _
    rw [wq_cells, wq_cells, show lim 5 0 = 5 by decide +kernel, show lim 5 1 = 0 by decide +kernel, show lim 5 2 = 0 by decide +kernel, show lim 5 3 = 0 by decide +kernel, show lim 7 0 = 7 by decide +kernel, show lim 7 1 = 0 by decide +kernel, show lim 7 2 = 0 by decide +kernel, show lim 7 3 = 0 by decide +kernel]
    rfl
  have HC := lrun_alive w.heap.size (w.heap.size + 1) P HP.out _ r0 r1.all
  rw [e57] at HC
  refine Calls.mono HC ?_
  rintro e X ⟨rfl, q⟩
  have BX : Hid (Below w.heap.size w X) := (((Below.refl w.heap.size w).alloc (Nat.le_refl _) _).alloc (by simp) _).trans (q.mono (by simp; omega))
  clear q HC r0 r1 e57
  have hW := eqW12
  go_wp2_with (first
    | (refine wpList_allocR rfl rfl ?_; intro Y q1 q2 q3; have RY : Hid (Row Y X.heap.size zR 35) := q1; have BY : Hid (Below X.heap.size X Y) := q2; clear q1 q2 q3; simp only [Act.put, List.setIfInBounds_toArray, List.set_cons_zero, List.set_cons_succ])
    | (refine wpList_storeL rfl 35 (.tmp 1) (.tmp 12) rfl X.heap.size R12 zR 35 rfl rfl RY.out rfl info_Ran R12_one ?_; intro Z q1 q2; have EZ : Hid (Z = _) := q1; have RZ : Hid (Row Z X.heap.size R12 35) := q2; have z0 := q2.cell 0 _ rfl; have z1 := q2.cell 1 _ rfl; have z2 := q2.cell 2 _ rfl; have z3 := q2.cell 3 _ rfl; have z4 := q2.cell 4 _ rfl; clear q1 q2; simp only [Act.put]))
  go_ret
  exact ⟨rfl, by rw [EZ.out]; exact below_setCells (BX.out.trans (BY.out.mono BX.out.size)) BX.out.size _⟩

end Go.Proofs.Ytabcglakdlkdcaa

namespace Go.Proofs.Ytabcglakdlkdcaa
open Go Go.RowKit
open Sha
open Wd
set_option maxRecDepth 100000 in
set_option maxHeartbeats 4000000 in
theorem leaveRes (r T gs n : Nat) (pl : Value) (C : List Value) (h av stk : Value) (ss : List Nat) (l nx : Nat) (an : List Value) (ls : List Ins) (ags : List Nat) (z : Nat) (E : Int) (k0 w0 w : World) (H : Rn k0 w0 w r T gs n pl C h av stk ss l nx an ls ags) (hss : ss.length ≤ 1000) : Calls Try.prog 50 #[.pointer (some ⟨r, 0, none⟩), .agg (wq z).toArray, .int .i64 E] w fun e w' => ∃ v, e = .returned (.int .i64 v) ∧ ((E = 0 → v = 0 ∧ ∃ stk', Rn k0 w0 w' r T gs n pl C h av stk' (ss ++ [z]) l nx an ls ags) ∧ (E ≠ 0 → v = 104 ∧ ∃ stk', Rn k0 w0 w' r T gs n pl C h av stk' ss l nx an ls ags)) := by
  by_cases hE : E = 0
  · subst hE
    refine Calls.mono (leaveResult_ok r T gs n pl C h av stk ss l nx an ls ags z k0 w0 w H hss) ?_
    rintro e w' ⟨rfl, q⟩
    exact ⟨0, rfl, fun _ => ⟨rfl, q⟩, fun h => absurd rfl h⟩
  · refine Calls.mono (leaveResult_no r T gs n pl C h av stk ss l nx an ls ags z E (by simpa using hE) k0 w0 w H) ?_
    rintro e w' ⟨rfl, q⟩
    exact ⟨104, rfl, fun h => absurd h hE, fun _ => ⟨rfl, stk, q⟩⟩
set_option maxRecDepth 100000 in
set_option maxHeartbeats 4000000 in
theorem do_add (r T gs n : Nat) (pl : Value) (C : List Value) (h av stk : Value) (ss : List Nat) (l nx : Nat) (an : List Value) (ls : List Ins) (ags : List Nat) (I : List Value) (x y z : Nat) (E : Int) (hx : x < 2 ^ 256) (hy : y < 2 ^ 256) (hz : z = addR x y) (hE : E = addE x y) (k0 w0 w : World) (H : Rn k0 w0 w r T gs n pl C h av stk (ss ++ [x] ++ [y]) l nx an ls ags) (hss : ss.length ≤ 900) : Calls Try.prog 23 #[.pointer (some ⟨r, 0, none⟩), .agg I.toArray] w fun e w' => ∃ v, e = .returned (.int .i64 v) ∧ ((E = 0 → v = 0 ∧ ∃ stk', Rn k0 w0 w' r T gs n pl C h av stk' (ss ++ [z]) l nx an ls ags) ∧ (E ≠ 0 → v = 104 ∧ ∃ stk', Rn k0 w0 w' r T gs n pl C h av stk' ss l nx an ls ags)) := by
  obtain ⟨LX, hLX⟩ : ∃ L, L = wq x := ⟨_, rfl⟩
  obtain ⟨LY, hLY⟩ : ∃ L, L = wq y := ⟨_, rfl⟩
  obtain ⟨LZ, hLZ⟩ : ∃ L, L = wq z := ⟨_, rfl⟩
  have HTT : Hid (∀ W, Rn k0 w0 W r T gs n pl C h av stk (ss ++ [x] ++ [y]) l nx an ls ags → Calls Try.prog 52 #[.pointer (some ⟨r, 0, none⟩)] W fun e w' => e = .returned (.tuple #[.agg LX.toArray, .agg LY.toArray]) ∧ ∃ stk', Rn k0 w0 w' r T gs n pl C h av stk' ss l nx an ls ags) := fun W hW => by
    rw [hLX, hLY]
    refine Calls.mono (takeTwo_any r T gs n pl C h av stk ss l nx an ls ags x y k0 w0 W hW (by omega)) ?_
    rintro e w' ⟨q1, q2⟩
    obtain ⟨_, _, stk2, q⟩ := q2
    exact ⟨q1, stk2, q⟩
  have HOP : Hid (∀ W, Calls Try.prog 51 #[.agg LX.toArray, .agg LY.toArray] W fun e w' => e = .returned (.tuple #[.agg LZ.toArray, .int .i64 E]) ∧ Below W.heap.size W w') := fun W => by
    rw [hLX, hLY, hLZ, hz, hE]
    exact add_any x y hx hy W
  have HLR : Hid (∀ stk' W, Rn k0 w0 W r T gs n pl C h av stk' ss l nx an ls ags → Calls Try.prog 50 #[.pointer (some ⟨r, 0, none⟩), .agg LZ.toArray, .int .i64 E] W fun e w' => ∃ v, e = .returned (.int .i64 v) ∧ ((E = 0 → v = 0 ∧ ∃ stk', Rn k0 w0 w' r T gs n pl C h av stk' (ss ++ [z]) l nx an ls ags) ∧ (E ≠ 0 → v = 104 ∧ ∃ stk', Rn k0 w0 w' r T gs n pl C h av stk' ss l nx an ls ags))) := fun stk' W hW => by rw [hLZ]; exact leaveRes r T gs n pl C h av stk' ss l nx an ls ags z E k0 w0 W hW (by omega)
  have HH : Hid (Rn k0 w0 w r T gs n pl C h av stk (ss ++ [x] ++ [y]) l nx an ls ags) := H
  clear H hss hLX hLY hLZ hx hy hz hE
  go_enter Try.func23, Try.ntmps23
  go_wp2_with (first
    | (refine wpList_boxG 77 rfl (.tmp 1) rfl I rfl ?_; intro X1 q1 q2 q3; have HR : Hid (Rn k0 w0 X1 r T gs n pl C h av stk (ss ++ [x] ++ [y]) l nx an ls ags) := HH.out.keep q2; clear q1 q2 q3; simp only [Act.put, List.setIfInBounds_toArray, List.set_cons_zero, List.set_cons_succ])
    | (go_at_call 52; refine Calls.mono (HTT.out X1 HR.out) ?_; rintro e X2 ⟨rfl, stk2, q⟩; have HR2 : Hid (Rn k0 w0 X2 r T gs n pl C h av stk2 ss l nx an ls ags) := q; clear q)
    | (go_at_call 51; refine Calls.mono (HOP.out X2) ?_; rintro e X3 ⟨rfl, q⟩; have HR3 : Hid (Rn k0 w0 X3 r T gs n pl C h av stk2 ss l nx an ls ags) := HR2.out.keep q; clear q)
    | (go_at_call 50; refine Calls.mono (HLR.out stk2 X3 HR3.out) ?_; rintro e X9 ⟨v, rfl, q⟩; have HQ : Hid ((E = 0 → v = 0 ∧ ∃ stk', Rn k0 w0 X9 r T gs n pl C h av stk' (ss ++ [z]) l nx an ls ags) ∧ (E ≠ 0 → v = 104 ∧ ∃ stk', Rn k0 w0 X9 r T gs n pl C h av stk' ss l nx an ls ags)) := q; clear q))
  go_ret
  exact ⟨_, rfl, HQ.out⟩
set_option maxRecDepth 100000 in
set_option maxHeartbeats 4000000 in
theorem do_sub (r T gs n : Nat) (pl : Value) (C : List Value) (h av stk : Value) (ss : List Nat) (l nx : Nat) (an : List Value) (ls : List Ins) (ags : List Nat) (I : List Value) (x y z : Nat) (E : Int) (hx : x < 2 ^ 256) (hy : y < 2 ^ 256) (hz : z = subR x y) (hE : E = subE x y) (k0 w0 w : World) (H : Rn k0 w0 w r T gs n pl C h av stk (ss ++ [x] ++ [y]) l nx an ls ags) (hss : ss.length ≤ 900) : Calls Try.prog 24 #[.pointer (some ⟨r, 0, none⟩), .agg I.toArray] w fun e w' => ∃ v, e = .returned (.int .i64 v) ∧ ((E = 0 → v = 0 ∧ ∃ stk', Rn k0 w0 w' r T gs n pl C h av stk' (ss ++ [z]) l nx an ls ags) ∧ (E ≠ 0 → v = 104 ∧ ∃ stk', Rn k0 w0 w' r T gs n pl C h av stk' ss l nx an ls ags)) := by
  obtain ⟨LX, hLX⟩ : ∃ L, L = wq x := ⟨_, rfl⟩
  obtain ⟨LY, hLY⟩ : ∃ L, L = wq y := ⟨_, rfl⟩
  obtain ⟨LZ, hLZ⟩ : ∃ L, L = wq z := ⟨_, rfl⟩
  have HTT : Hid (∀ W, Rn k0 w0 W r T gs n pl C h av stk (ss ++ [x] ++ [y]) l nx an ls ags → Calls Try.prog 52 #[.pointer (some ⟨r, 0, none⟩)] W fun e w' => e = .returned (.tuple #[.agg LX.toArray, .agg LY.toArray]) ∧ ∃ stk', Rn k0 w0 w' r T gs n pl C h av stk' ss l nx an ls ags) := fun W hW => by
    rw [hLX, hLY]
    refine Calls.mono (takeTwo_any r T gs n pl C h av stk ss l nx an ls ags x y k0 w0 W hW (by omega)) ?_
    rintro e w' ⟨q1, q2⟩
    obtain ⟨_, _, stk2, q⟩ := q2
    exact ⟨q1, stk2, q⟩
  have HOP : Hid (∀ W, Calls Try.prog 53 #[.agg LX.toArray, .agg LY.toArray] W fun e w' => e = .returned (.tuple #[.agg LZ.toArray, .int .i64 E]) ∧ Below W.heap.size W w') := fun W => by
    rw [hLX, hLY, hLZ, hz, hE]
    exact sub_any x y hx hy W
  have HLR : Hid (∀ stk' W, Rn k0 w0 W r T gs n pl C h av stk' ss l nx an ls ags → Calls Try.prog 50 #[.pointer (some ⟨r, 0, none⟩), .agg LZ.toArray, .int .i64 E] W fun e w' => ∃ v, e = .returned (.int .i64 v) ∧ ((E = 0 → v = 0 ∧ ∃ stk', Rn k0 w0 w' r T gs n pl C h av stk' (ss ++ [z]) l nx an ls ags) ∧ (E ≠ 0 → v = 104 ∧ ∃ stk', Rn k0 w0 w' r T gs n pl C h av stk' ss l nx an ls ags))) := fun stk' W hW => by rw [hLZ]; exact leaveRes r T gs n pl C h av stk' ss l nx an ls ags z E k0 w0 W hW (by omega)
  have HH : Hid (Rn k0 w0 w r T gs n pl C h av stk (ss ++ [x] ++ [y]) l nx an ls ags) := H
  clear H hss hLX hLY hLZ hx hy hz hE
  go_enter Try.func24, Try.ntmps24
  go_wp2_with (first
    | (refine wpList_boxG 77 rfl (.tmp 1) rfl I rfl ?_; intro X1 q1 q2 q3; have HR : Hid (Rn k0 w0 X1 r T gs n pl C h av stk (ss ++ [x] ++ [y]) l nx an ls ags) := HH.out.keep q2; clear q1 q2 q3; simp only [Act.put, List.setIfInBounds_toArray, List.set_cons_zero, List.set_cons_succ])
    | (go_at_call 52; refine Calls.mono (HTT.out X1 HR.out) ?_; rintro e X2 ⟨rfl, stk2, q⟩; have HR2 : Hid (Rn k0 w0 X2 r T gs n pl C h av stk2 ss l nx an ls ags) := q; clear q)
    | (go_at_call 53; refine Calls.mono (HOP.out X2) ?_; rintro e X3 ⟨rfl, q⟩; have HR3 : Hid (Rn k0 w0 X3 r T gs n pl C h av stk2 ss l nx an ls ags) := HR2.out.keep q; clear q)
    | (go_at_call 50; refine Calls.mono (HLR.out stk2 X3 HR3.out) ?_; rintro e X9 ⟨v, rfl, q⟩; have HQ : Hid ((E = 0 → v = 0 ∧ ∃ stk', Rn k0 w0 X9 r T gs n pl C h av stk' (ss ++ [z]) l nx an ls ags) ∧ (E ≠ 0 → v = 104 ∧ ∃ stk', Rn k0 w0 X9 r T gs n pl C h av stk' ss l nx an ls ags)) := q; clear q))
  go_ret
  exact ⟨_, rfl, HQ.out⟩
set_option maxRecDepth 100000 in
set_option maxHeartbeats 4000000 in
theorem do_mul (r T gs n : Nat) (pl : Value) (C : List Value) (h av stk : Value) (ss : List Nat) (l nx : Nat) (an : List Value) (ls : List Ins) (ags : List Nat) (I : List Value) (x y z : Nat) (E : Int) (hx : x < 2 ^ 256) (hy : y < 2 ^ 256) (hz : z = mulR x y) (hE : E = mulE x y) (k0 w0 w : World) (H : Rn k0 w0 w r T gs n pl C h av stk (ss ++ [x] ++ [y]) l nx an ls ags) (hss : ss.length ≤ 900) : Calls Try.prog 25 #[.pointer (some ⟨r, 0, none⟩), .agg I.toArray] w fun e w' => ∃ v, e = .returned (.int .i64 v) ∧ ((E = 0 → v = 0 ∧ ∃ stk', Rn k0 w0 w' r T gs n pl C h av stk' (ss ++ [z]) l nx an ls ags) ∧ (E ≠ 0 → v = 104 ∧ ∃ stk', Rn k0 w0 w' r T gs n pl C h av stk' ss l nx an ls ags)) := by
  obtain ⟨LX, hLX⟩ : ∃ L, L = wq x := ⟨_, rfl⟩
  obtain ⟨LY, hLY⟩ : ∃ L, L = wq y := ⟨_, rfl⟩
  obtain ⟨LZ, hLZ⟩ : ∃ L, L = wq z := ⟨_, rfl⟩
  have HTT : Hid (∀ W, Rn k0 w0 W r T gs n pl C h av stk (ss ++ [x] ++ [y]) l nx an ls ags → Calls Try.prog 52 #[.pointer (some ⟨r, 0, none⟩)] W fun e w' => e = .returned (.tuple #[.agg LX.toArray, .agg LY.toArray]) ∧ ∃ stk', Rn k0 w0 w' r T gs n pl C h av stk' ss l nx an ls ags) := fun W hW => by
    rw [hLX, hLY]
    refine Calls.mono (takeTwo_any r T gs n pl C h av stk ss l nx an ls ags x y k0 w0 W hW (by omega)) ?_
    rintro e w' ⟨q1, q2⟩
    obtain ⟨_, _, stk2, q⟩ := q2
    exact ⟨q1, stk2, q⟩
  have HOP : Hid (∀ W, Calls Try.prog 54 #[.agg LX.toArray, .agg LY.toArray] W fun e w' => e = .returned (.tuple #[.agg LZ.toArray, .int .i64 E]) ∧ Below W.heap.size W w') := fun W => by
    rw [hLX, hLY, hLZ, hz, hE]
    exact mul_any x y hx hy W
  have HLR : Hid (∀ stk' W, Rn k0 w0 W r T gs n pl C h av stk' ss l nx an ls ags → Calls Try.prog 50 #[.pointer (some ⟨r, 0, none⟩), .agg LZ.toArray, .int .i64 E] W fun e w' => ∃ v, e = .returned (.int .i64 v) ∧ ((E = 0 → v = 0 ∧ ∃ stk', Rn k0 w0 w' r T gs n pl C h av stk' (ss ++ [z]) l nx an ls ags) ∧ (E ≠ 0 → v = 104 ∧ ∃ stk', Rn k0 w0 w' r T gs n pl C h av stk' ss l nx an ls ags))) := fun stk' W hW => by rw [hLZ]; exact leaveRes r T gs n pl C h av stk' ss l nx an ls ags z E k0 w0 W hW (by omega)
  have HH : Hid (Rn k0 w0 w r T gs n pl C h av stk (ss ++ [x] ++ [y]) l nx an ls ags) := H
  clear H hss hLX hLY hLZ hx hy hz hE
  go_enter Try.func25, Try.ntmps25
  go_wp2_with (first
    | (refine wpList_boxG 77 rfl (.tmp 1) rfl I rfl ?_; intro X1 q1 q2 q3; have HR : Hid (Rn k0 w0 X1 r T gs n pl C h av stk (ss ++ [x] ++ [y]) l nx an ls ags) := HH.out.keep q2; clear q1 q2 q3; simp only [Act.put, List.setIfInBounds_toArray, List.set_cons_zero, List.set_cons_succ])
    | (go_at_call 52; refine Calls.mono (HTT.out X1 HR.out) ?_; rintro e X2 ⟨rfl, stk2, q⟩; have HR2 : Hid (Rn k0 w0 X2 r T gs n pl C h av stk2 ss l nx an ls ags) := q; clear q)
    | (go_at_call 54; refine Calls.mono (HOP.out X2) ?_; rintro e X3 ⟨rfl, q⟩; have HR3 : Hid (Rn k0 w0 X3 r T gs n pl C h av stk2 ss l nx an ls ags) := HR2.out.keep q; clear q)
    | (go_at_call 50; refine Calls.mono (HLR.out stk2 X3 HR3.out) ?_; rintro e X9 ⟨v, rfl, q⟩; have HQ : Hid ((E = 0 → v = 0 ∧ ∃ stk', Rn k0 w0 X9 r T gs n pl C h av stk' (ss ++ [z]) l nx an ls ags) ∧ (E ≠ 0 → v = 104 ∧ ∃ stk', Rn k0 w0 X9 r T gs n pl C h av stk' ss l nx an ls ags)) := q; clear q))
  go_ret
  exact ⟨_, rfl, HQ.out⟩

end Go.Proofs.Ytabcglakdlkdcaa
