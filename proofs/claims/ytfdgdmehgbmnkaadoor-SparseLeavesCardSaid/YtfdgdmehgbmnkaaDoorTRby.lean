/-
  rootBy.
-/
import Derived.Test.YtfdgdmehgbmnkaaDoorTLs

namespace Go.Proofs.YtfdgdmehgbmnkaaDoor
open Go Go.RowKit
open Sha

end Go.Proofs.YtfdgdmehgbmnkaaDoor

namespace Go.Proofs.YtfdgdmehgbmnkaaDoor
open Go Go.RowKit
open Sha

/-- How many digests a path has, by fuel. -/
def plF : Nat → Nat → Nat → Nat
  | 0, _, _ => 0
  | f + 1, n, i => if n = 1 then 0 else if i < fpart n then plF f (fpart n) i + 1 else plF f (n - fpart n) (i - fpart n) + 1
/-- How many digests the path of leaf i of n has. -/
def pl (n i : Nat) : Nat := plF n n i
theorem plF_fuel : ∀ (f g n i : Nat), 1 ≤ n → n ≤ f → n ≤ g → n < 4611686018427387904 → plF f n i = plF g n i
  | 0, _, _, _, h1, h, _, _ => by omega
  | _ + 1, 0, _, _, h1, _, h, _ => by omega
  | f + 1, g + 1, n, i, h1, hf, hg, hl => by
    unfold plF
    split
    · rfl
    · have hb := fpart_bounds n (by omega) hl
      have hp := fpart_pos n
      rw [plF_fuel f g (fpart n) i (by omega) (by omega) (by omega) (by omega), plF_fuel f g (n - fpart n) (i - fpart n) (by omega) (by omega) (by omega) (by omega)]
theorem pl_one (i : Nat) : pl 1 i = 0 := rfl
theorem pl_many (n i : Nat) (h2 : 2 ≤ n) (hl : n < 4611686018427387904) : pl n i = if i < fpart n then pl (fpart n) i + 1 else pl (n - fpart n) (i - fpart n) + 1 := by
  have hb := fpart_bounds n h2 hl
  have hp := fpart_pos n
  have e : pl n i = plF (n + 1) n i := plF_fuel _ _ n i (by omega) (Nat.le_refl _) (by omega) hl
  rw [e]
  unfold plF
  rw [if_neg (by omega), plF_fuel n (fpart n) (fpart n) i (by omega) (by omega) (Nat.le_refl _) (by omega), plF_fuel n (n - fpart n) (n - fpart n) (i - fpart n) (by omega) (by omega) (Nat.le_refl _) (by omega)]
  rfl
theorem pl_left (n i : Nat) (h2 : 2 ≤ n) (hl : n < 4611686018427387904) (h : i < fpart n) : pl n i = pl (fpart n) i + 1 := by rw [pl_many n i h2 hl, if_pos h]
theorem pl_right (n i : Nat) (h2 : 2 ≤ n) (hl : n < 4611686018427387904) (h : ¬ i < fpart n) : pl n i = pl (n - fpart n) (i - fpart n) + 1 := by rw [pl_many n i h2 hl, if_neg h]
theorem pl_lt (n : Nat) : ∀ i, 1 ≤ n → n < 4611686018427387904 → pl n i < n := by
  induction n using Nat.strongRecOn with
  | ind n ih =>
    intro i h1 hl
    by_cases e : n = 1
    · subst e; rw [pl_one]; omega
    · have hb := fpart_bounds n (by omega) hl
      have hp := fpart_pos n
      have := ih (fpart n) (by omega) i (by omega) (by omega)
      have := ih (n - fpart n) (by omega) (i - fpart n) (by omega) (by omega)
      rw [pl_many n i (by omega) hl]
      split <;> omega

end Go.Proofs.YtfdgdmehgbmnkaaDoor

namespace Go.Proofs.YtfdgdmehgbmnkaaDoor
open Go Go.RowKit
open Sha

section
variable {P : Program} {Q : Exit → Act → World → Prop} {o : Oper} {a : Act} {w : World} {K : Act → World → Prop}
theorem wp_slice_3 (t e : TypeId) (x z m : Operand) (b f n cap k : Nat) (ho : o.op = .slice t x none (some z) (some m)) (hx : a.eval x = .slice (some ⟨b, f, none⟩) n cap) (hz : a.eval z = .int .i64 (k : Int)) (hm : a.eval m = .int .i64 (k : Int)) (hk : k ≤ cap)
    (hu : P.underlying t = some (.slice e)) {s : Nat} (hs : (P.info? e).map (·.size) = some s) (h : K (a.put o.dst (.slice (some ⟨b, f, none⟩) k k)) w) : Oper.wp P o a w K Q := by
  cases hq : P.info? e with
  | none => simp [hq] at hs
  | some i =>
    have hr : (Instr.sliceAt t (.slice (some ⟨b, f, none⟩) n cap) none (some (.int .i64 (k : Int))) (some (.int .i64 (k : Int)))).run P w = .ok (.slice (some ⟨b, f, none⟩) k k) w := by
      simp [Instr.sliceAt, Instr.slice, run_underlying hu, Instr.sliceBounds, Instr.sliceBound, asIntOf, sizeOf, typeInfo, hq, hk, Addr.add_mid]
    unfold Oper.wp execOp
    simp only [ho, hx, hz, hm, Option.map_some, Option.map_none, Sem.run_bind, hr, Result.andThen_ok, Sem.run_pure, Oper.upon_value]
    exact h
theorem wp_index_s (T e : TypeId) {x y : Operand} (ho : o.op = .indexAddr T x y) (b f n c t s : Nat) (hx : a.eval x = .slice (some ⟨b, f, none⟩) n c) (hy : a.eval y = .int .i64 (t : Int)) (ht : t < n)
    (hu : P.underlying T = some (.slice e)) (hs : (P.info? e).map (·.size) = some s) (h : K (a.put o.dst (.pointer (some ⟨b, f + t * s, none⟩))) w) : Oper.wp P o a w K Q := by
  refine wp_pure (v := .pointer (some ⟨b, f + t * s, none⟩)) ?_ h
  have hr : (Instr.indexAt T (.slice (some ⟨b, f, none⟩) n c) (.int .i64 (t : Int))).run P w = .ok (.pointer (some ⟨b, f + t * s, none⟩)) w := by
    cases hi : P.info? e with
    | none => rw [hi] at hs; cases hs
    | some ie =>
      rw [hi] at hs
      have h4 : ie.size = s := by simpa using hs
      simp [Instr.indexAt, run_underlying hu, asIntOf, ht, sizeOf, typeInfo, hi, h4, Addr.add_mid]
  unfold execOp
  simp only [ho, hx, hy, Sem.run_bind, hr, Result.andThen_ok]
  rfl
end
theorem results_tmp_row {P : Program} {fn : Func} {p q : Tmp} {ty : TypeId} {n : Nat} {e : TypeId} (h : fn.results = #[.tmp q, .cell p ty]) (tmps : Array Value) (w : World) (g : Nat) (t : TypeId) (cs : List Value) (v : Value)
    (hp : tmps.getD p undef = .pointer (some ⟨g, 0, none⟩)) (hv : tmps.getD q undef = v) (hg : Row w g cs t) (hu : P.underlying ty = some (.array n e)) (hi : (P.info? ty).map (·.size) = some n) (hl : cs.length = n) :
    (results fn tmps).run P w = .ok (.tuple #[v, .agg cs.toArray]) w := by
  have hp' : tmps[p]?.getD undef = .pointer (some ⟨g, 0, none⟩) := by simpa using hp
  have hv' : tmps[q]?.getD undef = v := by simpa using hv
  have hr := run_loadVar_row (P := P) w g t ty cs.toArray (0, 0) (.array n e) hg hu rfl (by simp [hi, hl])
  simp [results, h, hp', hv', asAddr, hr]

end Go.Proofs.YtfdgdmehgbmnkaaDoor

namespace Go.Proofs.YtfdgdmehgbmnkaaDoor
open Go Go.RowKit
open Sha

section
variable {P : Program} {Q : Exit → Act → World → Prop} {o : Oper} {a : Act} {w : World} {K : Act → World → Prop}
theorem wp_sub_v {x y : Operand} {m n : Nat} (t yt : TypeId) (ho : o.op = .binOp .sub t x y yt) (hx : a.eval x = .int .i64 (m : Int)) (hy : a.eval y = .int .i64 (n : Int)) (hle : n ≤ m) (hm : m < 4611686018427387904) (h : K (a.put o.dst (.int .i64 ((m - n : Nat) : Int))) w) : Oper.wp P o a w K Q := by
  have e : (((m - n : Nat) : Nat) : Int) = (m : Int) - (n : Int) := by omega
  have e2 : IntKind.i64.wrap ((m : Int) - (n : Int)) = (m : Int) - (n : Int) := by
    rw [← e]
    generalize m - n = d at *
    simp [IntKind.wrap, IntKind.bits, IntKind.signed]
    omega
  rw [e] at h
  unfold Oper.wp execOp
  simp only [ho, hx, hy]
  simp [go_sem, e2]
  exact h
end

end Go.Proofs.YtfdgdmehgbmnkaaDoor
