/-
  The law's digest, address.
-/
import Derived.Test.YtknabkoddickaaaGreatDoorXWb
import Derived.Laws.IdiomCopy

namespace Go.Proofs.YtknabkoddickaaaGreatDoor
open Go Go.RowKit
open Sha

/-- Which one. -/
def pk (c n : Int) : Int := (if c < 0 then -(c + 1) else c) % n
end Go.Proofs.YtknabkoddickaaaGreatDoor

namespace Go.Proofs.YtknabkoddickaaaGreatDoor
open Go Go.RowKit
open Sha

section
variable {ops : Array Oper} {rest : List Oper} {op : Oper} {a : Act} {w : World} {Q : Exit → Act → World → Prop}
theorem wpList_copyb (hgd : op.guard = none) (x y : Operand) (ho : op.op = .call { callee := .builtin .copy, args := #[x, y], argTypes := #[44, 44] }) (g N n cap : Nat) (A : Option Addr) (d : List (BitVec 8)) (hd : d.length = n)
    (hx : a.eval x = .slice (some ⟨g, 0, none⟩) N N) (hy : a.eval y = .slice A n cap) (hv : SlAt w (.slice A n cap) d) (ht : w.there g 0 (vB (d.take N)).length)
    (h : wpList Tryz.prog ops Q rest (a.put op.dst (goInt (vB (d.take N)).length)) (w.setCells g 0 (vB (d.take N)))) : wpList Tryz.prog ops Q (op :: rest) a w := by
  subst hd
  have hl : (vB (d.take N)).length = Nat.min d.length N := by rw [vB_length, List.length_take]; exact Nat.min_comm _ _
  refine wpList_plain hgd fun K hK => ?_
  obtain ⟨dst, op', ty, pos, after, guard⟩ := op
  simp only at hgd ho
  subst hgd; subst ho
  have hr : (Builtin.copy_ #[44, 44] ty #[.slice (some ⟨g, 0, none⟩) N N, .slice A d.length cap]).run Tryz.prog w = .ok (goInt (vB (d.take N)).length) (w.setCells g 0 (vB (d.take N))) := by
    rcases hv with ⟨h0, A', c', hv⟩ | ⟨ab, ao, c', hv, _, hr⟩
    · subst h0
      have := run_copy_none (P := Tryz.prog) w 44 44 ty 5 (some ⟨g, 0, none⟩) A N N 0 cap Tryz.underlying44 info_u8 (by simp)
      simpa [vB, World.setCells] using this
    · simp only [Value.slice.injEq] at hv
      obtain ⟨rfl, _, _⟩ := hv
      obtain ⟨ie, z, hq, _, hi, _, _⟩ := info_u8open
      have hsrc : ∀ j v, (vB (d.take N))[j]? = some v → w.cell? ((⟨ab, ao, none⟩ : Addr).add j) = some v := fun j v hj => by
        rw [Addr.add_mid]
        refine hr j v ?_
        unfold vB at hj ⊢
        rw [List.map_take, List.getElem?_take] at hj
        split at hj
        · exact hj
        · cases hj
      have hld := run_loadCells_list (P := Tryz.prog) w ⟨ab, ao, none⟩ (vB (d.take N)) hsrc
      have hst := run_storeCells_cells (P := Tryz.prog) g 0 (vB (d.take N)) 0 w (fun j hj => by simpa using (ht j (by simpa using hj)).1) (fun j hj => by simpa using (ht j (by simpa using hj)).2) (vB_one _)
      simp only [Nat.add_zero] at hst
      simp [Builtin.copy_, run_underlying Tryz.underlying44, Builtin.lenOf, Builtin.firstCells, sizeOf, typeInfo, hq, hi, ← hl, hld, hst]
  unfold Oper.wp
  rw [BigFrame.execOp_builtin, BigFrame.builtin_copy]
  simp only [List.map_toArray, List.map_cons, List.map_nil, hx, hy, Sem.run_bind, hr, Result.andThen_ok, Sem.run_pure, Oper.upon_value]
  exact hK _ _ h
end
/-- The first N bytes, noughts behind. -/
def dgN (N : Nat) (d : List (BitVec 8)) : List (BitVec 8) := d.take N ++ List.replicate (N - (d.take N).length) 0#8
def z32 : List Value := vB (List.replicate 32 0#8)
def z20 : List Value := vB (List.replicate 20 0#8)
end Go.Proofs.YtknabkoddickaaaGreatDoor
