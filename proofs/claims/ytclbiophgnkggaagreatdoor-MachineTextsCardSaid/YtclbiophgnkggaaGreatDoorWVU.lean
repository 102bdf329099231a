/-
  Lists of bytes told as natural numbers; a list that a call owns, opened and shut.
-/
import Derived.Test.YtclbiophgnkggaaGreatDoorWKn
import Derived.Laws.AppendOwn
namespace Go.Proofs.YtclbiophgnkggaaGreatDoor
open Go Go.RowKit
open Wd

def vU (l : List Nat) : List Value := l.map (fun (x : Nat) => Value.int .u8 (x : Int))
theorem vU_length (l : List Nat) : (vU l).length = l.length := by simp [vU]
theorem vU_get (l : List Nat) (i : Nat) (h : i < l.length) : (vU l)[i]? = some (.int .u8 ((l.getD i 0 : Nat) : Int)) := by simp [vU, h]
theorem vU_set (l : List Nat) (i : Nat) (x : Nat) : (vU l).set i (.int .u8 (x : Int)) = vU (l.set i x) := by simp [vU, List.map_set]
theorem info_all_u8 : (Tryz.prog.info? 5).map (fun i => (i.zero, i.size, i.bytes)) = some (some (.int .u8 0), 1, 1) := by kernel_rfl
theorem made_u8s (n : Nat) : madeCells (Value.int IntKind.u8 0).cells (n * 1) = (vU (List.replicate n 0)).toArray := by
  apply Array.ext'
  rw [show (Value.int IntKind.u8 0).cells = #[Value.int IntKind.u8 0] from rfl, toList_madeCells_one]
  simp [vU]
section
variable {P : Program} {ops : Array Oper} {rest : List Oper} {op : Oper} {a : Act} {w : World} {Q : Exit → Act → World → Prop}
theorem wpList_make_u (hgd : op.guard = none) (t : TypeId) (x y : Operand) (ho : op.op = .makeSlice t x y) (e : TypeId) (n : Nat) (l l' : Int) (hl : l = (n : Int)) (hl' : l' = (n : Int)) (hx : a.eval x = .int .i64 l) (hy : a.eval y = .int .i64 l') (hn : n ≤ 35184372088832)
    (hu : P.underlying t = some (.slice e)) (hi : (P.info? e).map (fun i => (i.zero, i.size, i.bytes)) = some (some (.int .u8 0), 1, 1))
    (h : wpList P ops Q rest (a.put op.dst (.slice (some ⟨w.heap.size, 0, none⟩) n n)) (w.alloc (.cells (vU (List.replicate n 0)).toArray e))) : wpList P ops Q (op :: rest) a w :=
  wpList_plain hgd fun _ hK => by
    subst hl; subst hl'
    obtain ⟨i, hi0, hz, hs, hb⟩ := info_parts hi
    have hr := run_make (P := P) w t e i (.int .u8 0) hu hi0 hz .i64 .i64 (n : Int) (n : Int) (by omega) (by omega) (by rw [hb]; omega) (by omega)
    rw [hs, Int.toNat_natCast, made_u8s] at hr
    unfold Oper.wp execOp
    simp only [ho, hx, hy, Sem.run_bind, hr, Result.andThen_ok]
    exact hK _ _ h
end

/-- A list that a call owns, opened. -/
theorem owns_open {W : World} {M n : Nat} {v : Value} {xs : List Value} (h : W.ownsRow M 3 1 v n xs) (hn : 0 < n) : ∃ g cap sp, v = .slice (some ⟨g, 0, none⟩) n cap ∧ M ≤ g ∧ n ≤ cap ∧ cap ≤ maxLen ∧ Row W g (xs ++ sp) 3 ∧ xs.length = n ∧ sp.length = cap - n := by
  rcases h.2 with ⟨_, h0⟩ | ⟨g, cap, cur, hv, hg, hh, hc, hx, hs, ht⟩
  · omega
  · have h1 : xs.length = n := by simpa using h.1
    refine ⟨g, cap, cur.toList.drop n, hv, hg, hc, hx, ?_, h1, by simp [hs]⟩
    rw [← ht, Nat.mul_one, List.take_append_drop]
    unfold Row
    rw [hh]
theorem owns_shut {W : World} {M n g cap : Nat} {xs sp : List Value} (hg : M ≤ g) (hc : n ≤ cap) (hx : cap ≤ maxLen) (r : Row W g (xs ++ sp) 3) (h1 : xs.length = n) (h2 : sp.length = cap - n) : W.ownsRow M 3 1 (.slice (some ⟨g, 0, none⟩) n cap) n xs := by
  refine ⟨by simpa using h1, .inr ⟨g, cap, (xs ++ sp).toArray, rfl, hg, r, hc, hx, by simp; omega, ?_⟩⟩
  rw [Nat.mul_one, List.take_left' h1]

end Go.Proofs.YtclbiophgnkggaaGreatDoor
