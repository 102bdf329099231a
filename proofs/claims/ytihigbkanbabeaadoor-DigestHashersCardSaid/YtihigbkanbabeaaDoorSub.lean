/-
  Parts of slices, wherever they lie.
-/
import Derived.Test.YtihigbkanbabeaaDoorPick
namespace Go.Proofs.YtihigbkanbabeaaDoor
open Go Go.RowKit
open Sha

section
variable {P : Program} {ops : Array Oper} {rest : List Oper} {op : Oper} {a : Act} {w : World} {Q : Exit → Act → World → Prop}

theorem run_slice_lh (w0 w : World) (t e : TypeId) (A : Option Addr) (n cap : Nat) (d : List (BitVec 8)) (hv : SlAt w0 (.slice A n cap) d) (i k : Nat) (hik : i ≤ k) (hk : k ≤ d.length) (hu : P.underlying t = some (.slice e)) (hs : (P.info? e).map (·.size) = some 1) :
    ∃ B m c, (Instr.sliceAt t (.slice A n cap) (some (.int .i64 (i : Int))) (some (.int .i64 (k : Int))) none).run P w = .ok (.slice B m c) w ∧ m = k - i ∧ SlAt w0 (.slice B m c) ((d.drop i).take (k - i)) := by
  cases hq : P.info? e with
  | none => simp [hq] at hs
  | some inf =>
    have h1 : inf.size = 1 := by simpa [hq] using hs
    rcases hv with ⟨rfl, A', c', hv⟩ | ⟨ab, ao, c, hv, hc, hr⟩
    · simp only [Value.slice.injEq] at hv
      obtain ⟨rfl, rfl, rfl⟩ := hv
      obtain rfl : k = 0 := by simpa using hk
      obtain rfl : i = 0 := by omega
      exact ⟨_, 0, cap, by simp [Instr.sliceAt, Instr.slice, run_underlying hu, Instr.sliceBounds, Instr.sliceBound, asIntOf, sizeOf, typeInfo, hq]; rfl, rfl, .inl ⟨by simp, _, _, rfl⟩⟩
    · simp only [Value.slice.injEq] at hv
      obtain ⟨rfl, rfl, rfl⟩ := hv
      have hkc : k ≤ cap := by omega
      by_cases h2 : cap = i
      · have hki : k = i := by omega
        refine ⟨some ⟨ab, ao, none⟩, k - i, cap - i, by simp [Instr.sliceAt, Instr.slice, run_underlying hu, Instr.sliceBounds, Instr.sliceBound, asIntOf, sizeOf, typeInfo, hq, h2, hki], rfl, .inr ⟨ab, ao, cap - i, by rw [hki]; simp, by rw [hki]; simp, by rw [hki]; intro j v hj; simp [vB] at hj⟩⟩
      · refine ⟨some ⟨ab, ao + i, none⟩, k - i, cap - i, by simp [Instr.sliceAt, Instr.slice, run_underlying hu, Instr.sliceBounds, Instr.sliceBound, asIntOf, sizeOf, typeInfo, hq, h1, h2, hik, hkc, Addr.add_mid], rfl, .inr ⟨ab, ao + i, cap - i, ?_, ?_, ?_⟩⟩
        · rw [List.length_take, List.length_drop, show min (k - i) (d.length - i) = k - i by omega]
        · rw [List.length_take, List.length_drop]; omega
        · intro j v hj
          have hjl : j < k - i := by have := (List.getElem?_eq_some_iff.1 hj).1; rw [vB_length, List.length_take, List.length_drop] at this; omega
          have h3 : (vB d)[i + j]? = some v := by
            rw [← hj]; simp only [vB, List.map_take, List.map_drop]
            rw [List.getElem?_take_of_lt hjl, List.getElem?_drop]
          have := hr (i + j) v h3
          rwa [show ao + (i + j) = ao + i + j by omega] at this

theorem wpList_slice_lh (hgd : op.guard = none) (t : TypeId) (x y z : Operand) (ho : op.op = .slice t x (some y) (some z) none) (w0 : World) (e : TypeId) (A : Option Addr) (n cap : Nat) (d : List (BitVec 8)) (hv : SlAt w0 (.slice A n cap) d)
    (i k : Nat) (hx : a.eval x = .slice A n cap) (hy : a.eval y = .int .i64 (i : Int)) (hz : a.eval z = .int .i64 (k : Int)) (hik : i ≤ k) (hk : k ≤ d.length) (hu : P.underlying t = some (.slice e)) (hs : (P.info? e).map (·.size) = some 1)
    (h : ∀ B c, SlAt w0 (.slice B (k - i) c) ((d.drop i).take (k - i)) → wpList P ops Q rest (a.put op.dst (.slice B (k - i) c)) w) : wpList P ops Q (op :: rest) a w :=
  wpList_plain hgd fun _ hK => by
    obtain ⟨B, m, c, hr, rfl, hS⟩ := run_slice_lh (P := P) w0 w t e A n cap d hv i k hik hk hu hs
    unfold Oper.wp execOp
    simp only [ho, hx, hy, hz, Option.map_some, Option.map_none, Sem.run_bind, hr, Result.andThen_ok, Sem.run_pure, Oper.upon_value]
    exact hK _ _ (h _ _ hS)
theorem wpList_eql_same (hw : Region.wanted op (yielded ops a.tmps) = true) (t : TypeId) (x y : Operand) (yt : TypeId) (ho : op.op = .binOp .eql t x y yt) (e n : Nat) (l : List (BitVec 8)) (hx : a.eval x = .agg (vB l).toArray) (hy : a.eval y = .agg (vB l).toArray)
    (ht : P.underlying t = some (.array n e)) (he : P.underlying e = some (.int .u8)) (hs : (P.info? e).map (·.size) = some 1) (hl : l.length = n) (hm : P.eqGuardType P.depth t = false)
    (h : wpList P ops Q rest (a.put op.dst (.bool true)) w) : wpList P ops Q (op :: rest) a w :=
  wpList_eql_w hw t x y yt ho e n l l hx hy ht he hs hl hl hm (by rw [decide_eq_true (rfl : l = l)]; exact h)

/-- min of two numbers. -/
theorem wpList_min (hgd : op.guard = none) (x y : Operand) (ats : Array TypeId) (ho : op.op = .call { callee := .builtin .min, args := #[x, y], argTypes := ats }) (p q : Int) (m : Nat)
    (hx : a.eval x = .int .i64 p) (hy : a.eval y = .int .i64 q) (hm : (if q < p then q else p) = (m : Int)) (h : wpList P ops Q rest (a.put op.dst (.int .i64 (m : Int))) w) : wpList P ops Q (op :: rest) a w :=
  wpList_plain hgd fun _ hK => by
    obtain ⟨dst, op', ty, pos, after, guard⟩ := op
    simp only at hgd ho
    subst hgd; subst ho
    unfold Oper.wp
    rw [BigFrame.execOp_builtin, BigFrame.builtin_min]
    simp only [List.map_toArray, List.map_cons, List.map_nil, hx, hy, Sem.run_bind, run_min_int2, hm, Result.andThen_ok, Sem.run_pure, Oper.upon_value]
    exact hK _ _ h
end

/-- A digest in a new variable: what was there stays. -/
theorem digest_laid {W w1 : World} (dd : List (BitVec 8)) (hl : dd.length = 32) (hB : Below W.heap.size W w1) :
    Below W.heap.size W (World.setCells (w1.alloc (Obj.cells (vB (List.replicate 32 0#8)).toArray 26)) w1.heap.size 0 (vB dd)) ∧
    Row (World.setCells (w1.alloc (Obj.cells (vB (List.replicate 32 0#8)).toArray 26)) w1.heap.size 0 (vB dd)) w1.heap.size (vB dd) 26 :=
  ⟨below_setCells (hB.alloc hB.size _) hB.size _, Row.over (Row.new _ _ _) (by rw [vB_length, hl]; rfl)⟩
theorem digest_there (w1 : World) (dd : List (BitVec 8)) (hl : dd.length = 32) : (w1.alloc (Obj.cells (vB (List.replicate 32 0#8)).toArray 26)).there w1.heap.size 0 (vB dd).toArray.size :=
  Row.there (Row.new w1 (vB (List.replicate 32 0#8)) _) 0 _ (by simp [vB_length, hl])

theorem take_mid (l : List (BitVec 8)) (i x : Nat) (h : i ≤ x) : l.take i ++ (l.drop i).take (x - i) = l.take x := by
  rw [← List.take_add, show i + (x - i) = x by omega]

end Go.Proofs.YtihigbkanbabeaaDoor
