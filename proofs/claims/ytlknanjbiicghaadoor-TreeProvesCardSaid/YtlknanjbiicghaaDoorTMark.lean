/-
  The law's marked: so many digests of one mark.
-/
import Derived.Test.YtlknanjbiicghaaDoorTOwn0
import Derived.Test.YtlknanjbiicghaaDoorTDg
namespace Go.Proofs.YtlknanjbiicghaaDoor
open Go Go.RowKit
open Sha

/-- A mark as a digest. -/
def md (m : BitVec 8) : List (BitVec 8) := m :: List.replicate 31 0#8
theorem dl_md (m : BitVec 8) : Dl (md m) := rfl
theorem built_md (k : Int) (cs : List Value) (h : cs = [.int .u8 k, .int .u8 0, .int .u8 0, .int .u8 0, .int .u8 0, .int .u8 0, .int .u8 0, .int .u8 0, .int .u8 0, .int .u8 0, .int .u8 0, .int .u8 0, .int .u8 0, .int .u8 0, .int .u8 0, .int .u8 0, .int .u8 0, .int .u8 0, .int .u8 0, .int .u8 0, .int .u8 0, .int .u8 0, .int .u8 0, .int .u8 0, .int .u8 0, .int .u8 0, .int .u8 0, .int .u8 0, .int .u8 0, .int .u8 0, .int .u8 0, .int .u8 0]) : Tryd.prog.built 28 [(0, .int .u8 k)] = some cs.toArray := by
  subst h
  kernel_rfl
theorem wp_buildx {o : Oper} {a : Act} {w : World} {K : Act → World → Prop} {Q : Exit → Act → World → Prop} (x : Operand) (m : BitVec 8) (ho : o.op = .build 28 #[(0, x)]) (hx : a.eval x = .int .u8 (c m)) (h : K (a.put o.dst (.agg (vB (md m)).toArray)) w) : Oper.wp Tryd.prog o a w K Q := by
  have e : ((#[(0, x)] : Array (Nat × Operand)).map fun (i, x) => (i, a.eval x)).toList = [(0, .int .u8 (c m))] := by simp [hx]
  have hb : Tryd.prog.built 28 [(0, .int .u8 (c m))] = some (vB (md m)).toArray := built_md (c m) _ rfl
  refine wp_build _ _ ho (by rw [e, hb]; rfl) ?_
  rw [e, hb]; exact h
section
variable {ops : Array Oper} {rest : List Oper} {op : Oper} {a : Act} {w : World} {Q : Exit → Act → World → Prop}
theorem wpList_buildx (hw : Region.wanted op (yielded ops a.tmps) = true) (x : Operand) (m : BitVec 8) (mm : List (BitVec 8)) (hm : mm = md m) (ho : op.op = .build 28 #[(0, x)]) (hx : a.eval x = .int .u8 (c m))
    (h : wpList Tryd.prog ops Q rest (a.put op.dst (.agg (vB mm).toArray)) w) : wpList Tryd.prog ops Q (op :: rest) a w := by
  subst hm
  exact BigFrame.wpList_want hw fun _ hK => wp_buildx x m ho hx (hK _ _ h)
theorem wpList_build_dd (hw : Region.wanted op (yielded ops a.tmps) = true) (x : Operand) (ho : op.op = .buildSlice 30 1 #[(0, x)]) (r : List (BitVec 8)) (hr : Dl r) (hx : a.eval x = .agg (vB r).toArray)
    (h : wpList Tryd.prog ops Q rest (a.put op.dst (.slice (some ⟨w.heap.size, 0, none⟩) 1 1)) (w.alloc (.cells (vB r).toArray 28))) : wpList Tryd.prog ops Q (op :: rest) a w :=
  BigFrame.wpList_want hw fun _ hK => wp_build_d x ho r hr hx (hK _ _ h)
end

/-- A list that was made here. -/
def Fresh (N : Nat) (v : Value) : Prop := ∀ g, v.ownBlock = some g → N ≤ g
theorem Fresh.more {N M : Nat} {v : Value} (h : Fresh M v) (k : N ≤ M) : Fresh N v := fun g e => Nat.le_trans k (h g e)
theorem fresh_of {w : World} {N n : Nat} {v : Value} {xs : List Value} (h : w.ownsRow N 28 32 v n xs) : Fresh N v := own_block h
theorem ow_of {w : World} {N n : Nat} {v : Value} {xs : List Value} (h : w.ownsRow N 28 32 v n xs) : Ow w v n xs := own_less h (Nat.zero_le _)

end Go.Proofs.YtlknanjbiicghaaDoor
