/-
  The document's binary digits: causewayref02's cut, digits, compare.
-/
import Derived.Test.YtclbiophgnkggaaGreatDoorWEq
import Derived.Test.YtclbiophgnkggaaGreatDoorWDivU
import Derived.Test.YtclbiophgnkggaaGreatDoorWOM
import Derived.Laws.MakeOwn
import Derived.Laws.OwnMore
import Derived.BigQuiet
namespace Go.Proofs.YtclbiophgnkggaaGreatDoor
open Go Go.RowKit
open Wd

theorem i64_and1 (n : Int) : bits .and .i64 n 1 = n % 2 := by
  have h1 : (BitVec.ofInt 64 1).toNat = 2 ^ 1 - 1 := by decide
  have key : (BitVec.ofInt 64 n &&& BitVec.ofInt 64 1).toNat = (n % ((2 ^ 64 : Nat) : Int)).toNat % 2 ^ 1 := by
    rw [BitVec.toNat_and, BitVec.toNat_ofInt, h1, Nat.and_two_pow_sub_one_eq_mod]
  show IntKind.i64.wrap ((BitVec.ofInt 64 n &&& BitVec.ofInt 64 1).toNat : Nat) = n % 2
  rw [key, IntKind.wrap_i64]
  omega
theorem wrap_mod2 (y : Nat) : IntKind.i64.wrap (y : Int) % 2 = ((y % 2 : Nat) : Int) := by
  rw [IntKind.wrap_i64]
  omega
theorem info_all_int : (Tryz.prog.info? 3).map (fun i => (i.zero, i.size, i.bytes)) = some (some (.int .i64 0), 1, 8) := by kernel_rfl
theorem made_ints (n : Nat) : madeCells (Value.int IntKind.i64 0).cells (n * 1) = (vI (List.replicate n 0)).toArray := by
  apply Array.ext'
  rw [show (Value.int IntKind.i64 0).cells = #[Value.int IntKind.i64 0] from rfl, toList_madeCells_one]
  simp [vI]
section
variable {P : Program} {ops : Array Oper} {rest : List Oper} {op : Oper} {a : Act} {w : World} {Q : Exit → Act → World → Prop}
/-- make of n numbers. -/
theorem wpList_make_i (hgd : op.guard = none) (t : TypeId) (x y : Operand) (ho : op.op = .makeSlice t x y) (e : TypeId) (n : Nat) (l l' : Int) (hl : l = (n : Int)) (hl' : l' = (n : Int)) (hx : a.eval x = .int .i64 l) (hy : a.eval y = .int .i64 l') (hn : n ≤ 35184372088832)
    (hu : P.underlying t = some (.slice e)) (hi : (P.info? e).map (fun i => (i.zero, i.size, i.bytes)) = some (some (.int .i64 0), 1, 8))
    (h : wpList P ops Q rest (a.put op.dst (.slice (some ⟨w.heap.size, 0, none⟩) n n)) (w.alloc (.cells (vI (List.replicate n 0)).toArray e))) : wpList P ops Q (op :: rest) a w :=
  wpList_plain hgd fun _ hK => by
    subst hl; subst hl'
    obtain ⟨i, hi0, hz, hs, hb⟩ := info_parts hi
    have hr := run_make (P := P) w t e i (.int .i64 0) hu hi0 hz .i64 .i64 (n : Int) (n : Int) (by omega) (by omega) (by rw [hb]; omega) (by omega)
    rw [hs, Int.toNat_natCast, made_ints] at hr
    unfold Oper.wp execOp
    simp only [ho, hx, hy, Sem.run_bind, hr, Result.andThen_ok, Sem.run_pure, Oper.upon_value]
    exact hK _ _ h
end

theorem drewN_add' (w : World) (m k : Nat) : (w.drewN m).drewN k = w.drewN (m + k) := by simp [World.drewN, Nat.add_assoc]
theorem fillB (a t : Nat) (h : t < 256) : (bts a t ++ List.replicate (256 - t) 0).set t (bt a t) = bts a (t + 1) ++ List.replicate (256 - (t + 1)) 0 := by
  rw [bts_succ, fill _ t 256 _ (bts_length _ _) h]

end Go.Proofs.YtclbiophgnkggaaGreatDoor
