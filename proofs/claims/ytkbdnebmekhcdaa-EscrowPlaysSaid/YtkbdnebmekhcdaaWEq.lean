/-
  == of two wide numbers; wide.IsZero.
-/
import Derived.Test.YtkbdnebmekhcdaaWMul0
import Derived.Laws.StructEq
import Derived.Stop.BytesEq

namespace Go.Proofs.Ytkbdnebmekhcdaa
open Go Go.RowKit
open Wd
namespace Wd

theorem num_set : ∀ (l : List Nat) (k v : Nat), k < l.length → num (l.set k v) + l.getD k 0 * 18446744073709551616 ^ k = num l + v * 18446744073709551616 ^ k
  | [], k, v, h => by simp at h
  | x :: r, 0, v, _ => by simp [num]; omega
  | x :: r, k + 1, v, h => by
    have ih := num_set r k v (by simpa using h)
    simp only [List.set_cons_succ, num, List.getD_cons_succ, Nat.pow_succ]
    generalize num (r.set k v) = A at *
    generalize num r = C at *
    generalize r.getD k 0 = p at *
    generalize 18446744073709551616 ^ k = q at *
    grind
/-- Eight parts, those from t on noughts. -/
structure Pt (l : List Nat) (t : Nat) : Prop where
  len : l.length = 8
  lt : ∀ x ∈ l, x < 18446744073709551616
  top : ∀ k, t ≤ k → l.getD k 0 = 0
theorem mod_more (a t : Nat) : a % 18446744073709551616 ^ (t + 1) = a % 18446744073709551616 ^ t + lim a t * 18446744073709551616 ^ t := by
  unfold lim
  rw [show 2 ^ (64 * t) = 18446744073709551616 ^ t by rw [Nat.pow_mul], Nat.pow_succ, Nat.mod_mul]
  rw [Nat.mul_comm]
theorem mem_set_lt (l : List Nat) (k v : Nat) (h : ∀ x ∈ l, x < 18446744073709551616) (hv : v < 18446744073709551616) : ∀ x ∈ l.set k v, x < 18446744073709551616 := by
  intro x hx
  rcases List.mem_or_eq_of_mem_set hx with h1 | h1
  · exact h x h1
  · omega
theorem Pt.set {l : List Nat} {t : Nat} (h : Pt l t) (k v : Nat) (hk : k < t) (hv : v < 18446744073709551616) : Pt (l.set k v) t :=
  ⟨by rw [List.length_set]; exact h.len, mem_set_lt l k v h.lt hv, fun j hj => by
    rw [List.getD_eq_getElem?_getD, List.getElem?_set_ne (by omega), ← List.getD_eq_getElem?_getD]; exact h.top j hj⟩
theorem getD_lt (l : List Nat) (k : Nat) (h : ∀ x ∈ l, x < 18446744073709551616) : l.getD k 0 < 18446744073709551616 := by
  by_cases hk : k < l.length
  · rw [List.getD_eq_getElem?_getD, List.getElem?_eq_getElem hk]; exact h _ (List.getElem_mem _)
  · rw [List.getD_eq_getElem?_getD, List.getElem?_eq_none (by omega)]; decide

/-- One product more. -/
theorem times_step (l : List Nat) (c x y S k : Nat) (hl : k < l.length) (hlt : ∀ x ∈ l, x < 18446744073709551616) (hx : x < 18446744073709551616) (hy : y < 18446744073709551616) (hc : c < 18446744073709551616) (hS : num l + c * 18446744073709551616 ^ k = S) :
    (x * y + c) / 18446744073709551616 + (l.getD k 0 + (x * y + c) % 18446744073709551616) / 18446744073709551616 < 18446744073709551616 ∧
    num (l.set k ((l.getD k 0 + (x * y + c) % 18446744073709551616) % 18446744073709551616)) + ((x * y + c) / 18446744073709551616 + (l.getD k 0 + (x * y + c) % 18446744073709551616) / 18446744073709551616) * 18446744073709551616 ^ (k + 1) = S + x * y * 18446744073709551616 ^ k := by
  have hp := getD_lt l k hlt
  have hm : x * y ≤ 18446744073709551615 * 18446744073709551615 := Nat.mul_le_mul (by omega) (by omega)
  have hs := num_set l k ((l.getD k 0 + (x * y + c) % 18446744073709551616) % 18446744073709551616) hl
  generalize l.getD k 0 = p at *
  generalize hm' : x * y = m at *
  obtain ⟨hi, hhi⟩ : ∃ hi, hi = (m + c) / 18446744073709551616 := ⟨_, rfl⟩
  obtain ⟨lo, hlo⟩ : ∃ lo, lo = (m + c) % 18446744073709551616 := ⟨_, rfl⟩
  obtain ⟨ov, hov⟩ : ∃ ov, ov = (p + (m + c) % 18446744073709551616) / 18446744073709551616 := ⟨_, rfl⟩
  obtain ⟨sm, hsm⟩ : ∃ sm, sm = (p + (m + c) % 18446744073709551616) % 18446744073709551616 := ⟨_, rfl⟩
  have e1 : hi + ov < 18446744073709551616 := by omega
  have e2 : sm + (hi + ov) * 18446744073709551616 = p + m + c := by omega
  rw [← hsm] at hs
  rw [← hhi, ← hov, ← hsm]
  refine ⟨e1, ?_⟩
  rw [Nat.pow_succ]
  generalize num (l.set k sm) = A at *
  generalize num l = C at *
  generalize 18446744073709551616 ^ k = q at *
  generalize hi + ov = h at *
  have e3 : sm * q + h * (q * 18446744073709551616) = (p + m + c) * q := by rw [← e2]; grind
  have e4 : (p + m + c) * q = p * q + m * q + c * q := by grind
  omega
theorem Pt.zero : Pt (List.replicate 8 0) 4 := ⟨rfl, fun x hx => by rw [List.eq_of_mem_replicate hx]; decide, fun k _ => by
  rw [List.getD_eq_getElem?_getD, List.getElem?_replicate]; split <;> rfl⟩
theorem Pt.more {l : List Nat} {t : Nat} (h : Pt l t) : Pt l (t + 1) := ⟨h.len, h.lt, fun k hk => h.top k (by omega)⟩
theorem num_zero8 : num (List.replicate 8 0) = 0 := by decide
end Wd

end Go.Proofs.Ytkbdnebmekhcdaa

namespace Go.Proofs.Ytkbdnebmekhcdaa
open Go Go.RowKit
open Wd

theorem all_eq : ∀ (xs ys : List Nat), xs.length = ys.length → ((List.range xs.length).all fun i => decide (xs.getD i 0 = ys.getD i 0)) = decide (xs = ys)
  | [], [], _ => by simp
  | [], _ :: _, h => by simp at h
  | _ :: _, [], h => by simp at h
  | x :: xs, y :: ys, h => by
    have ih := all_eq xs ys (by simpa using h)
    rw [List.length_cons, List.range_succ_eq_map, List.all_cons, List.all_map]
    simp only [List.getD_cons_zero, Function.comp_def, List.getD_cons_succ, ih]
    by_cases e : x = y <;> simp [e]

section
variable {P : Program} (w : World)
theorem run_equalIn_vQ (d : Nat) (t e : TypeId) (n : Nat) (ht : P.underlying t = some (.array n e)) (he : P.underlying e = some (.int .u64)) (hsz : ∀ w, (sizeOf e).run P w = .ok 1 w) (xs ys : List Nat) (hx : xs.length = n) (hy : ys.length = n) :
    (Op.equalIn (d + 2) t (.agg (vQ xs).toArray) (.agg (vQ ys).toArray)).run P w = .ok (decide (xs = ys)) w := by
  rw [← all_eq xs ys (hx.trans hy.symm), hx, List.range_eq_range', Op.equalIn]
  simp only [Sem.run_bind, run_underlying ht, Result.andThen_ok, hsz, Std.Legacy.Range.forIn_eq_forIn_range', Std.Legacy.Range.size, Nat.sub_zero, Nat.add_sub_cancel, Nat.div_one]
  have hin : ∀ i ∈ List.range' 0 n 1, i < n := fun i hi => by simpa using (List.mem_range'_1.1 hi).2
  generalize List.range' 0 n 1 = js at hin ⊢
  induction js with
  | nil => simp
  | cons i js ih =>
    have hi : i < n := hin i (by simp)
    have a1 : (part e (vQ xs).toArray (i * 1)).run P w = .ok (.int .u64 ((xs.getD i 0 : Nat) : Int)) w := by
      simp [part, isAgg, run_underlying he, vQ, List.getElem?_eq_getElem (show i < xs.length by omega)]
    have a2 : (part e (vQ ys).toArray (i * 1)).run P w = .ok (.int .u64 ((ys.getD i 0 : Nat) : Int)) w := by
      simp [part, isAgg, run_underlying he, vQ, List.getElem?_eq_getElem (show i < ys.length by omega)]
    have a3 : (Op.equalIn (d + 1) e (.int .u64 ((xs.getD i 0 : Nat) : Int)) (.int .u64 ((ys.getD i 0 : Nat) : Int))).run P w = .ok (decide (xs.getD i 0 = ys.getD i 0)) w := by
      rw [run_equalIn_int w d e .u64 .u64 _ _ he]
      congr 1
      rw [Bool.eq_iff_iff]
      simp only [beq_iff_eq, decide_eq_true_eq]
      omega
    simp only [List.forIn_cons, Sem.run_bind, a1, a2, a3, Result.andThen_ok, List.all_cons]
    generalize decide (xs.getD i 0 = ys.getD i 0) = bd
    cases bd
    · simp
    · simp only [Bool.not_true, Bool.false_eq_true, if_false, Sem.run_pure, Result.andThen_ok, Bool.true_and]
      exact ih fun j hj => hin j (by simp [hj])
end

theorem size_u64 : ∀ w, (sizeOf 31).run Try.prog w = .ok 1 w := by
  intro w
  have h : (Try.prog.info? 31).map (·.size) = some 1 := by kernel_rfl
  cases hq : Try.prog.info? 31 with
  | none => simp [hq] at h
  | some i => have h1 : i.size = 1 := by simpa [hq] using h
              simp [sizeOf, typeInfo, hq, h1]
theorem guard_wide : Try.prog.eqGuardType Try.prog.depth 33 = false := by kernel_rfl
theorem run_eql_w (w : World) (xs ys : List Nat) (hx : xs.length = 4) (hy : ys.length = 4) : (binOp .eql 33 (.agg (vQ xs).toArray) (.agg (vQ ys).toArray)).run Try.prog w = .ok (.bool (decide (xs = ys))) w := by
  rw [run_eql_struct, run_equalIn_vQ w 9998 _ 31 4 Try.underlying33 Try.underlying31 size_u64 xs ys hx hy]; rfl
theorem run_neq_w (w : World) (xs ys : List Nat) (hx : xs.length = 4) (hy : ys.length = 4) : (binOp .neq 33 (.agg (vQ xs).toArray) (.agg (vQ ys).toArray)).run Try.prog w = .ok (.bool (!decide (xs = ys))) w := by
  rw [run_neq_struct, run_equalIn_vQ w 9998 _ 31 4 Try.underlying33 Try.underlying31 size_u64 xs ys hx hy]; rfl
theorem dgs_eq (a b : Nat) (ha : a < 2 ^ 256) (hb : b < 2 ^ 256) : dgs a 4 = dgs b 4 ↔ a = b := by
  constructor
  · intro h
    have := congrArg num h
    rw [num_dgs, num_dgs, Nat.mod_eq_of_lt (by simpa using ha), Nat.mod_eq_of_lt (by simpa using hb)] at this
    exact this
  · rintro rfl; rfl

section
variable {ops : Array Oper} {rest : List Oper} {op : Oper} {a : Act} {w : World} {Q : Exit → Act → World → Prop}
/-- == and != of two numbers of 256 bits. -/
theorem wpList_eql_wide (hw : Region.wanted op (yielded ops a.tmps) = true) (x y : Operand) (yt : TypeId) (ho : op.op = .binOp .eql 33 x y yt) (m n : Nat) (hm : m < 2 ^ 256) (hn : n < 2 ^ 256) (hx : a.eval x = .agg (vQ (dgs m 4)).toArray) (hy : a.eval y = .agg (vQ (dgs n 4)).toArray)
    (h : wpList Try.prog ops Q rest (a.put op.dst (.bool (decide (m = n)))) w) : wpList Try.prog ops Q (op :: rest) a w :=
  BigFrame.wpList_want hw fun _ hK => by
    have hr := run_eql_w w (dgs m 4) (dgs n 4) (dgs_length _ _) (dgs_length _ _)
    rw [show decide (dgs m 4 = dgs n 4) = decide (m = n) by rw [Bool.eq_iff_iff]; simp only [decide_eq_true_eq]; exact dgs_eq m n hm hn] at hr
    unfold Oper.wp execOp
    simp only [ho, hx, hy, Sem.run_bind, run_eqGuard_agg w .eql _ x y _ _ guard_wide, Result.andThen_ok, hr, Sem.run_pure, Oper.upon_value]
    exact hK _ _ h
theorem wpList_neq_wide (hw : Region.wanted op (yielded ops a.tmps) = true) (x y : Operand) (yt : TypeId) (ho : op.op = .binOp .neq 33 x y yt) (m n : Nat) (hm : m < 2 ^ 256) (hn : n < 2 ^ 256) (hx : a.eval x = .agg (vQ (dgs m 4)).toArray) (hy : a.eval y = .agg (vQ (dgs n 4)).toArray)
    (h : wpList Try.prog ops Q rest (a.put op.dst (.bool (!decide (m = n)))) w) : wpList Try.prog ops Q (op :: rest) a w :=
  BigFrame.wpList_want hw fun _ hK => by
    have hr := run_neq_w w (dgs m 4) (dgs n 4) (dgs_length _ _) (dgs_length _ _)
    rw [show decide (dgs m 4 = dgs n 4) = decide (m = n) by rw [Bool.eq_iff_iff]; simp only [decide_eq_true_eq]; exact dgs_eq m n hm hn] at hr
    unfold Oper.wp execOp
    simp only [ho, hx, hy, Sem.run_bind, run_eqGuard_agg w .neq _ x y _ _ guard_wide, Result.andThen_ok, hr, Sem.run_pure, Oper.upon_value]
    exact hK _ _ h
end

theorem zero4 : vQ (dgs 0 4) = vQ (List.replicate 4 0) := by rw [dgs_zero]

set_option maxRecDepth 100000 in
set_option maxHeartbeats 1000000 in
theorem isZero_any (n : Nat) (hn : n < 2 ^ 256) (w : World) :
    Calls Try.prog 50 #[.agg (vQ (dgs n 4)).toArray] w fun e w' => e = .returned (.bool (decide (n = 0))) ∧ Below w.heap.size w w' := by
  obtain ⟨cs, hcs⟩ : ∃ cs, cs = vQ (dgs n 4) := ⟨_, rfl⟩
  have hl : cs.length = 4 := by rw [hcs, vQ_length, dgs_length]
  have i4 : (Try.prog.info? 33).map (·.size) = some cs.length := by rw [info_w4, hl]
  have HC : Hid (cs = vQ (dgs n 4)) := hcs
  rw [← hcs]
  clear hcs hl
  have R := Row.new w cs 33
  go_enter Try.func50, Try.ntmps50
  go_wp2_with (first
    | (refine wpList_load_mid rfl 33 (.tmp 1) rfl w.heap.size 0 rfl cs _ R.all Try.underlying33 rfl i4 ?_; simp only [Act.put, List.setIfInBounds_toArray, List.set_cons_zero, List.set_cons_succ])
    | (refine wpList_eql_wide rfl (.tmp 3) (.tmp 4) 33 rfl n 0 hn (by decide) (by rw [← HC.out]; rfl) (by rw [zero4]; rfl) ?_; simp only [Act.put, List.setIfInBounds_toArray, List.set_cons_zero, List.set_cons_succ]))
  go_ret
  exact ⟨rfl, (Below.refl _ _).alloc (Nat.le_refl _) _⟩

end Go.Proofs.Ytkbdnebmekhcdaa
