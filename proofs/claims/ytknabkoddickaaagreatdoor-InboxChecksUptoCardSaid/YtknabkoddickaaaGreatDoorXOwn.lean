/-
  NewReader of any bytes; the law's own; the document's Read.
-/
import Derived.Test.YtknabkoddickaaaGreatDoorXWb
import Derived.Test.YtknabkoddickaaaGreatDoorXAx
import Derived.Test.YtknabkoddickaaaGreatDoorXLaw2

namespace Go.Proofs.YtknabkoddickaaaGreatDoor
open Go Go.RowKit
open Sha

/-- A writer in memory made behind w0. -/
structure Wk (w0 w : World) (P : Nat) (A : Option Addr) (cap : Nat) (s : List (BitVec 8) × Int) : Prop where
  wr : Wr w P A cap s.1 s.2
  fw : Fresh w0.heap.size (.slice A s.1.length cap)
  hP : w0.heap.size ≤ P
  len : s.1.length ≤ 4194304
  below : Below w0.heap.size w0 w
end Go.Proofs.YtknabkoddickaaaGreatDoor

namespace Go.Proofs.YtknabkoddickaaaGreatDoor
open Go Go.RowKit
open Sha

theorem info_all_u8 : (Tryz.prog.info? 5).map (fun i => (i.zero, i.size, i.bytes)) = some (some (.int .u8 0), 1, 1) := by kernel_rfl
theorem made_bytes (n : Nat) : madeCells (Value.int IntKind.u8 0).cells (n * 1) = (vB (List.replicate n 0#8)).toArray := by
  apply Array.ext'
  rw [show (Value.int IntKind.u8 0).cells = #[Value.int IntKind.u8 0] from rfl, toList_madeCells_one]
  simp [vB, c]
section
variable {ops : Array Oper} {rest : List Oper} {op : Oper} {a : Act} {w : World} {Q : Exit → Act → World → Prop}
/-- make of n bytes. -/
theorem wpList_make1 (hgd : op.guard = none) (x y : Operand) (ho : op.op = .makeSlice 44 x y) (n : Nat) (l l' : Int) (hl : l = (n : Int)) (hl' : l' = (n : Int)) (hx : a.eval x = .int .i64 l) (hy : a.eval y = .int .i64 l') (hn : n ≤ 281474976710656)
    (h : ∀ W, Row W w.heap.size (vB (List.replicate n 0#8)) 5 → Below w.heap.size w W → W.heap.size = w.heap.size + 1 → wpList Tryz.prog ops Q rest (a.put op.dst (.slice (some ⟨w.heap.size, 0, none⟩) n n)) W) : wpList Tryz.prog ops Q (op :: rest) a w :=
  wpList_plain hgd fun _ hK => by
    subst hl; subst hl'
    obtain ⟨i, hi0, hz, hs, hb⟩ : ∃ i, Tryz.prog.info? 5 = some i ∧ i.zero = some (.int .u8 0) ∧ i.size = 1 ∧ i.bytes = 1 := by
      have hi := info_all_u8
      cases hq : Tryz.prog.info? 5 with
      | none => rw [hq] at hi; cases hi
      | some i =>
        rw [hq] at hi
        simp only [Option.map_some, Option.some.injEq, Prod.mk.injEq] at hi
        exact ⟨i, rfl, hi.1, hi.2.1, hi.2.2⟩
    have hr := run_make (P := Tryz.prog) w 44 5 i (.int .u8 0) Tryz.underlying44 hi0 hz .i64 .i64 (n : Int) (n : Int) (by omega) (by omega) (by rw [hb]; omega) (by omega)
    rw [hs, Int.toNat_natCast, made_bytes] at hr
    unfold Oper.wp execOp
    simp only [ho, hx, hy, Sem.run_bind, hr, Result.andThen_ok, Sem.run_pure, Oper.upon_value]
    exact hK _ _ (h _ (Row.new' rfl rfl) ((Below.refl _ _).alloc (Nat.le_refl _) _) (by simp))
end
end Go.Proofs.YtknabkoddickaaaGreatDoor

namespace Go.Proofs.YtknabkoddickaaaGreatDoor
open Go Go.RowKit
open Sha

/-- A reader's first fault. -/
def f0 (bs : List (BitVec 8)) : Int := if 4194304 < bs.length then 30 else 0

end Go.Proofs.YtknabkoddickaaaGreatDoor
