/-
  == of two wide numbers; wide.IsZero.
-/
import Derived.Test.YtefjonidpmpjbaaWTimes
import Derived.Laws.StructEq
import Derived.Stop.BytesEq
namespace Go.Proofs.Ytefjonidpmpjbaa
open Go Go.RowKit
open Wd

theorem all_eq : ∀ (xs ys : List Nat), xs.length = ys.length → ((List.range xs.length).all fun i => decide (xs.getD i 0 = ys.getD i 0)) = decide (xs = ys)
  | [], [], _ => by simp
  | [], _ :: _, h => by simp at h
  | _ :: _, [], h => by simp at h
  | x :: xs, y :: ys, h => by
    have ih := all_eq xs ys (by simpa using h)
    rw [List.length_cons, List.range_succ_eq_map, List.all_cons, List.all_map]
    simp only [List.getD_cons_zero, Function.comp_def, List.getD_cons_succ, ih]
    by_cases e : x = y <;> simp [e]

section
variable {P : Program} (w : World)
theorem run_equalIn_vQ (d : Nat) (t e : TypeId) (n : Nat) (ht : P.underlying t = some (.array n e)) (he : P.underlying e = some (.int .u64)) (hsz : ∀ w, (sizeOf e).run P w = .ok 1 w) (xs ys : List Nat) (hx : xs.length = n) (hy : ys.length = n) :
    (Op.equalIn (d + 2) t (.agg (vQ xs).toArray) (.agg (vQ ys).toArray)).run P w = .ok (decide (xs = ys)) w := by
  rw [← all_eq xs ys (hx.trans hy.symm), hx, List.range_eq_range', Op.equalIn]
  simp only [Sem.run_bind, run_underlying ht, Result.andThen_ok, hsz, Std.Legacy.Range.forIn_eq_forIn_range', Std.Legacy.Range.size, Nat.sub_zero, Nat.add_sub_cancel, Nat.div_one]
  have hin : ∀ i ∈ List.range' 0 n 1, i < n := fun i hi => by simpa using (List.mem_range'_1.1 hi).2
  generalize List.range' 0 n 1 = js at hin ⊢
  induction js with
  | nil => simp
  | cons i js ih =>
    have hi : i < n := hin i (by simp)
    have a1 : (part e (vQ xs).toArray (i * 1)).run P w = .ok (.int .u64 ((xs.getD i 0 : Nat) : Int)) w := by
      simp [part, isAgg, run_underlying he, vQ, List.getElem?_eq_getElem (show i < xs.length by omega)]
    have a2 : (part e (vQ ys).toArray (i * 1)).run P w = .ok (.int .u64 ((ys.getD i 0 : Nat) : Int)) w := by
      simp [part, isAgg, run_underlying he, vQ, List.getElem?_eq_getElem (show i < ys.length by omega)]
    have a3 : (Op.equalIn (d + 1) e (.int .u64 ((xs.getD i 0 : Nat) : Int)) (.int .u64 ((ys.getD i 0 : Nat) : Int))).run P w = .ok (decide (xs.getD i 0 = ys.getD i 0)) w := by
      rw [run_equalIn_int w d e .u64 .u64 _ _ he]
      congr 1
      rw [Bool.eq_iff_iff]
      simp only [beq_iff_eq, decide_eq_true_eq]
      omega
    simp only [List.forIn_cons, Sem.run_bind, a1, a2, a3, Result.andThen_ok, List.all_cons]
    generalize decide (xs.getD i 0 = ys.getD i 0) = bd
    cases bd
    · simp
    · simp only [Bool.not_true, Bool.false_eq_true, if_false, Sem.run_pure, Result.andThen_ok, Bool.true_and]
      exact ih fun j hj => hin j (by simp [hj])
end

theorem size_u64 : ∀ w, (sizeOf 31).run Try.prog w = .ok 1 w := by
  intro w
  have h : (Try.prog.info? 31).map (·.size) = some 1 := by kernel_rfl
  cases hq : Try.prog.info? 31 with
  | none => simp [hq] at h
  | some i => have h1 : i.size = 1 := by simpa [hq] using h
              simp [sizeOf, typeInfo, hq, h1]
theorem guard_wide : Try.prog.eqGuardType Try.prog.depth 33 = false := by kernel_rfl
theorem run_eql_w (w : World) (xs ys : List Nat) (hx : xs.length = 4) (hy : ys.length = 4) : (binOp .eql 33 (.agg (vQ xs).toArray) (.agg (vQ ys).toArray)).run Try.prog w = .ok (.bool (decide (xs = ys))) w := by
  rw [run_eql_struct, run_equalIn_vQ w 9998 _ 31 4 Try.underlying33 Try.underlying31 size_u64 xs ys hx hy]; rfl
theorem run_neq_w (w : World) (xs ys : List Nat) (hx : xs.length = 4) (hy : ys.length = 4) : (binOp .neq 33 (.agg (vQ xs).toArray) (.agg (vQ ys).toArray)).run Try.prog w = .ok (.bool (!decide (xs = ys))) w := by
  rw [run_neq_struct, run_equalIn_vQ w 9998 _ 31 4 Try.underlying33 Try.underlying31 size_u64 xs ys hx hy]; rfl
theorem dgs_eq (a b : Nat) (ha : a < 2 ^ 256) (hb : b < 2 ^ 256) : dgs a 4 = dgs b 4 ↔ a = b := by
  constructor
  · intro h
    have := congrArg num h
    rw [num_dgs, num_dgs, Nat.mod_eq_of_lt (by simpa using ha), Nat.mod_eq_of_lt (by simpa using hb)] at this
    exact this
  · rintro rfl; rfl

section
variable {ops : Array Oper} {rest : List Oper} {op : Oper} {a : Act} {w : World} {Q : Exit → Act → World → Prop}
/-- == and != of two numbers of 256 bits. -/
theorem wpList_eql_wide (hw : Region.wanted op (yielded ops a.tmps) = true) (x y : Operand) (yt : TypeId) (ho : op.op = .binOp .eql 33 x y yt) (m n : Nat) (hm : m < 2 ^ 256) (hn : n < 2 ^ 256) (hx : a.eval x = .agg (vQ (dgs m 4)).toArray) (hy : a.eval y = .agg (vQ (dgs n 4)).toArray)
    (h : wpList Try.prog ops Q rest (a.put op.dst (.bool (decide (m = n)))) w) : wpList Try.prog ops Q (op :: rest) a w :=
  BigFrame.wpList_want hw fun _ hK => by
    have hr := run_eql_w w (dgs m 4) (dgs n 4) (dgs_length _ _) (dgs_length _ _)
    rw [show decide (dgs m 4 = dgs n 4) = decide (m = n) by rw [Bool.eq_iff_iff]; simp only [decide_eq_true_eq]; exact dgs_eq m n hm hn] at hr
    unfold Oper.wp execOp
    simp only [ho, hx, hy, Sem.run_bind, run_eqGuard_agg w .eql _ x y _ _ guard_wide, Result.andThen_ok, hr, Sem.run_pure, Oper.upon_value]
    exact hK _ _ h
theorem wpList_neq_wide (hw : Region.wanted op (yielded ops a.tmps) = true) (x y : Operand) (yt : TypeId) (ho : op.op = .binOp .neq 33 x y yt) (m n : Nat) (hm : m < 2 ^ 256) (hn : n < 2 ^ 256) (hx : a.eval x = .agg (vQ (dgs m 4)).toArray) (hy : a.eval y = .agg (vQ (dgs n 4)).toArray)
    (h : wpList Try.prog ops Q rest (a.put op.dst (.bool (!decide (m = n)))) w) : wpList Try.prog ops Q (op :: rest) a w :=
  BigFrame.wpList_want hw fun _ hK => by
    have hr := run_neq_w w (dgs m 4) (dgs n 4) (dgs_length _ _) (dgs_length _ _)
    rw [show decide (dgs m 4 = dgs n 4) = decide (m = n) by rw [Bool.eq_iff_iff]; simp only [decide_eq_true_eq]; exact dgs_eq m n hm hn] at hr
    unfold Oper.wp execOp
    simp only [ho, hx, hy, Sem.run_bind, run_eqGuard_agg w .neq _ x y _ _ guard_wide, Result.andThen_ok, hr, Sem.run_pure, Oper.upon_value]
    exact hK _ _ h
end

theorem zero4 : vQ (dgs 0 4) = vQ (List.replicate 4 0) := by rw [dgs_zero]

set_option maxRecDepth 100000 in
set_option maxHeartbeats 1000000 in
theorem isZero_any (n : Nat) (hn : n < 2 ^ 256) (w : World) :
    Calls Try.prog 50 #[.agg (vQ (dgs n 4)).toArray] w fun e w' => e = .returned (.bool (decide (n = 0))) ∧ Below w.heap.size w w' := by
  obtain ⟨cs, hcs⟩ : ∃ cs, cs = vQ (dgs n 4) := ⟨_, rfl⟩
  have hl : cs.length = 4 := by rw [hcs, vQ_length, dgs_length]
  have i4 : (Try.prog.info? 33).map (·.size) = some cs.length := by rw [info_w4, hl]
  have HC : Hid (cs = vQ (dgs n 4)) := hcs
  rw [← hcs]
  clear hcs hl
  have R := Row.new w cs 33
  go_enter Try.func50, Try.ntmps50
  go_wp2_with (first
    | (refine wpList_load_mid rfl 33 (.tmp 1) rfl w.heap.size 0 rfl cs _ R.all Try.underlying33 rfl i4 ?_; simp only [Act.put, List.setIfInBounds_toArray, List.set_cons_zero, List.set_cons_succ])
    | (refine wpList_eql_wide rfl (.tmp 3) (.tmp 4) 33 rfl n 0 hn (by decide) (by rw [← HC.out]; rfl) (by rw [zero4]; rfl) ?_; simp only [Act.put, List.setIfInBounds_toArray, List.set_cons_zero, List.set_cons_succ]))
  go_ret
  exact ⟨rfl, (Below.refl _ _).alloc (Nat.le_refl _) _⟩

end Go.Proofs.Ytefjonidpmpjbaa
