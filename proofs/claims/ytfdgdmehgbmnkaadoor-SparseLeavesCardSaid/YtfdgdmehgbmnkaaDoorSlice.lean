/-
  Slices of arrays and of slices of one-cell elements, as the walk meets them.
-/
import Derived.Test.YtfdgdmehgbmnkaaDoorHMath
namespace Go.Proofs.YtfdgdmehgbmnkaaDoor
open Go Go.RowKit
open Sha

theorem vW_list_length (s : St) : (vW s.list).length = 8 := rfl
theorem vB_noughts_length : (vB noughts).length = 64 := rfl
theorem hcells_noughts (s : St) (t : List (BitVec 8)) (n : Int) (h : t.length = 64) : (hcells s t n).take 8 ++ vB noughts ++ (hcells s t n).drop (8 + (vB noughts).length) = hcells s noughts n := by
  have e1 := hcells_splice s t noughts n 0 h (by decide)
  have e2 : t.take 0 ++ noughts ++ t.drop (0 + noughts.length) = noughts := by
    rw [List.drop_of_length_le (by rw [h]; decide)]; simp
  rw [e2] at e1
  exact e1

section
variable {P : Program} {ops : Array Oper} {rest : List Oper} {op : Oper} {a : Act} {w : World} {Q : Exit → Act → World → Prop}

theorem run_slice_arr (w : World) (t e n b o k : Nat) (l : Int) (hl : l = (k : Int)) (hk : k < n) (hu : P.underlying t = some (.array n e)) (hs : (P.info? e).map (·.size) = some 1) :
    (Instr.sliceAt t (.pointer (some ⟨b, o, none⟩)) (some (.int .i64 l)) none none).run P w = .ok (.slice (some ⟨b, o + k, none⟩) (n - k) (n - k)) w := by
  cases hq : P.info? e with
  | none => simp [hq] at hs
  | some i =>
    have h1 : i.size = 1 := by simpa [hq] using hs
    subst hl
    have h2 : ¬ n = k := by omega
    have h3 : k ≤ n := Nat.le_of_lt hk
    simp [Instr.sliceAt, Instr.sureAddr, run_underlying hu, Instr.sliceBounds, Instr.sliceBound, asIntOf, sizeOf, typeInfo, hq, h1, h2, h3, Addr.add_mid]

theorem run_slice_from (w : World) (t e ab ao len cap m : Nat) (l : Int) (hl : l = (m : Int)) (hm : m ≤ len) (hu : P.underlying t = some (.slice e)) (hs : (P.info? e).map (·.size) = some 1) :
    (Instr.sliceAt t (.slice (some ⟨ab, ao, none⟩) len cap) (some (.int .i64 l)) none none).run P w = .ok (.slice (some (if cap = m then ⟨ab, ao, none⟩ else ⟨ab, ao + m, none⟩)) (len - m) (cap - m)) w := by
  cases hq : P.info? e with
  | none => simp [hq] at hs
  | some i =>
    have h1 : i.size = 1 := by simpa [hq] using hs
    subst hl
    by_cases h2 : cap = m <;> simp [Instr.sliceAt, Instr.slice, run_underlying hu, Instr.sliceBounds, Instr.sliceBound, asIntOf, sizeOf, typeInfo, hq, h1, h2, Addr.add_mid, hm]

theorem wpList_slice_arr (hgd : op.guard = none) (t : TypeId) (x y : Operand) (ho : op.op = .slice t x (some y) none none) (e n b o k : Nat) (l : Int) (hx : a.eval x = .pointer (some ⟨b, o, none⟩)) (hy : a.eval y = .int .i64 l)
    (hl : l = (k : Int)) (hk : k < n) (hu : P.underlying t = some (.array n e)) (hs : (P.info? e).map (·.size) = some 1)
    (h : wpList P ops Q rest (a.put op.dst (.slice (some ⟨b, o + k, none⟩) (n - k) (n - k))) w) : wpList P ops Q (op :: rest) a w :=
  wpList_plain hgd fun _ hK => by
    unfold Oper.wp execOp
    simp only [ho, hx, hy, Option.map_some, Option.map_none, Sem.run_bind, run_slice_arr w t e n b o k l hl hk hu hs, Result.andThen_ok, Sem.run_pure, Oper.upon_value]
    exact hK _ _ h

theorem wpList_slice_from (hgd : op.guard = none) (t : TypeId) (x y : Operand) (ho : op.op = .slice t x (some y) none none) (e ab ao len cap m : Nat) (l : Int) (hx : a.eval x = .slice (some ⟨ab, ao, none⟩) len cap) (hy : a.eval y = .int .i64 l)
    (hl : l = (m : Int)) (hm : m ≤ len) (hc : len ≤ cap) (hu : P.underlying t = some (.slice e)) (hs : (P.info? e).map (·.size) = some 1)
    (h : ∀ A, (m < len → A = (⟨ab, ao + m, none⟩ : Addr)) → wpList P ops Q rest (a.put op.dst (.slice (some A) (len - m) (cap - m))) w) : wpList P ops Q (op :: rest) a w :=
  wpList_plain hgd fun _ hK => by
    unfold Oper.wp execOp
    simp only [ho, hx, hy, Option.map_some, Option.map_none, Sem.run_bind, run_slice_from w t e ab ao len cap m l hl hm hu hs, Result.andThen_ok, Sem.run_pure, Oper.upon_value]
    exact hK _ _ (h _ (fun hlt => by rw [if_neg (by omega)]))
/-- copy, by its operation's text. -/
theorem wpList_copy' (hgd : op.guard = none) (x y : Operand) (dT sT : TypeId) (ho : op.op = .call { callee := .builtin .copy, args := #[x, y], argTypes := #[dT, sT] })
    (elem : TypeId) (b o dLen dCap : Nat) (adr : Addr) (sLen sCap : Nat) (cs : List Value)
    (hx : a.eval x = .slice (some ⟨b, o, none⟩) dLen dCap) (hy : a.eval y = .slice (some adr) sLen sCap)
    (hu : P.underlying dT = some (.slice elem)) (hs : (P.info? elem).map (·.size) = some 1) (hn : cs.length = Nat.min sLen dLen)
    (hsrc : ∀ j v, cs[j]? = some v → w.cell? (adr.add j) = some v) (ht : w.there b o cs.length) (h1 : ∀ v ∈ cs, v.oneCell' = true)
    (h : wpList P ops Q rest (a.put op.dst (goInt cs.length)) (w.setCells b o cs)) : wpList P ops Q (op :: rest) a w := by
  obtain ⟨dst, op', ty, pos, after, guard⟩ := op
  simp only at hgd ho
  subst hgd; subst ho
  exact wpList_copy elem b o dLen dCap adr sLen sCap cs hx hy hu hs hn hsrc ht h1 h
end

end Go.Proofs.YtfdgdmehgbmnkaaDoor
