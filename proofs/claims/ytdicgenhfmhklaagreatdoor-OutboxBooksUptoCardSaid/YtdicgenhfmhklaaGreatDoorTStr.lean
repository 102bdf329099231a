/-
  Bytes as strings, compared; lists of one digest built and grown, as a walk meets them.
-/
import Derived.Test.YtdicgenhfmhklaaGreatDoorTTxt
import Derived.Laws.BytesArg
namespace Go.Proofs.YtdicgenhfmhklaaGreatDoor
open Go Go.RowKit
open Sha

/-- Bytes as a string. -/
def str (l : List (BitVec 8)) : ByteArray := strOfNums (l.map c)
theorem run_convert_str {P : Program} (w : World) (src e dst : TypeId) (hs : P.underlying src = some (.slice e)) (he : P.underlying e = some (.int .u8)) (hd : P.underlying dst = some .string) (b off cap n : Nat) (l : List (BitVec 8)) (hl : l.length = n)
    (hr : w.rangeAt b off (vB l)) : (convert src dst (.slice (some ⟨b, off, none⟩) n cap)).run P w = .ok (.string (str l)) w :=
  run_convert_bytes_arg w src e hs he b off n cap (l.map c) (by simpa using hl) (fun i hi => hr i _ (by rw [vB_get l i (by omega)]; simp [show i < l.length by omega])) dst hd
theorem run_convert_sl {P : Program} (w : World) (src e dst : TypeId) (hs : P.underlying src = some (.slice e)) (he : P.underlying e = some (.int .u8)) (hd : P.underlying dst = some .string) (v : Value) (d : List (BitVec 8)) (hv : SlAtT w v d) :
    (convert src dst v).run P w = .ok (.string (str d)) w := by
  rcases hv with ⟨rfl, A, cap, rfl⟩ | ⟨ab, ao, cap, rfl, _, hr⟩
  · cases A with
    | none =>
      rw [run_convert_bytes_string w src dst e none 0 cap hs he hd]
      simp [Conv.bytesToString]
      rfl
    | some p =>
      have hl : (loadCells p 0).run P w = .ok (([] : List Int).map (Value.int .u8)).toArray w := run_loadCells_list (P := P) w p [] (fun j v hj => by simp at hj)
      rw [run_convert_bytes_string w src dst e _ 0 cap hs he hd, run_bytesToString w _ 0 cap [] hl]
      rfl
  · exact run_convert_str w src e dst hs he hd ab ao cap d.length d rfl hr
theorem str_toList (l : List (BitVec 8)) : (str l).toList = toUT l := by
  rw [ByteArray.toList_eq]
  unfold str toUT
  rw [strOfNums_data, List.map_map]
  apply List.map_congr_left
  intro x _
  apply UInt8.toNat_inj.1
  have := x.isLt
  unfold c
  simp only [Function.comp_apply, Int.toNat_natCast, UInt8.toNat_ofNat', UInt8.toNat_ofBitVec]
  omega
theorem str_beq (l r : List (BitVec 8)) : ((str l).toList == (str r).toList) = decide (l = r) := by
  rw [str_toList, str_toList, toU_beqT]

section
variable {Q : Exit → Act → World → Prop} {o : Oper} {a : Act} {w : World} {K : Act → World → Prop}
theorem wp_conv_s {x : Operand} (ho : o.op = .convert 54 9 x) (d : List (BitVec 8)) (hv : SlAtT w (a.eval x) d) (h : K (a.put o.dst (.string (str d))) w) : Oper.wp Tryz.prog o a w K Q := by
  have hr := run_convert_sl (P := Tryz.prog) w 54 5 9 Tryz.underlying54 Tryz.underlying5 Tryz.underlying9 (a.eval x) d hv
  unfold Oper.wp execOp
  simp only [ho, Sem.run_bind, hr, Result.andThen_ok, Sem.run_pure, Oper.upon_value]
  exact h
theorem wp_neqstr_v {x y : Operand} {t yt : TypeId} {u v : ByteArray} {B : Bool} (ho : o.op = .binOp .neq t x y yt) (hx : a.eval x = .string u) (hy : a.eval y = .string v) (hB : (!(u.toList == v.toList)) = B) (h : K (a.put o.dst (.bool B)) w) : Oper.wp Tryz.prog o a w K Q := by
  subst hB
  unfold Oper.wp execOp
  simp only [ho, hx, hy]
  simp [go_sem]
  exact h
theorem wp_eql_d (x y : Operand) (yt : TypeId) (ho : o.op = .binOp .eql 44 x y yt) (l r : List (BitVec 8)) (hl : Dl l) (hr : Dl r) (hx : a.eval x = .agg (vB l).toArray) (hy : a.eval y = .agg (vB r).toArray) (B : Bool) (hB : decide (l = r) = B)
    (h : K (a.put o.dst (.bool B)) w) : Oper.wp Tryz.prog o a w K Q := by
  subst hB
  unfold Oper.wp execOp
  simp only [ho, hx, hy, Sem.run_bind, run_eqGuard_agg w .eql 44 x y _ _ guard_dig, Result.andThen_ok, run_eql_vBT w 44 5 32 Tryz.underlying44 Tryz.underlying5 info_u8T l r hl hr, Sem.run_pure, Oper.upon_value]
  exact h
theorem wp_load_1T {P : Program} {ty : TypeId} {x : Operand} (b f : Nat) (v : Value) (ho : o.op = .load ty x) (hx : a.eval x = .pointer (some ⟨b, f, none⟩)) (hr : (loadVar ty ⟨b, f, none⟩).run P w = .ok v w) (h : K (a.put o.dst v) w) : Oper.wp P o a w K Q := by
  unfold Oper.wp execOp
  simp only [ho, hx, Instr.loadAt, Instr.sureAddr, Sem.run_bind, Sem.run_pure, Result.andThen_ok, hr, Oper.upon_value]
  exact h
end
section
variable {ops : Array Oper} {rest : List Oper} {op : Oper} {a : Act} {w : World} {Q : Exit → Act → World → Prop}
theorem wpList_build_d (hgd : op.guard = none) (x : Operand) (ho : op.op = .buildSlice 64 1 #[(0, x)]) (r : List (BitVec 8)) (hr : Dl r) (hx : a.eval x = .agg (vB r).toArray)
    (h : wpList Tryz.prog ops Q rest (a.put op.dst (.slice (some ⟨w.heap.size, 0, none⟩) 1 1)) (w.alloc (.cells (vB r).toArray 44))) : wpList Tryz.prog ops Q (op :: rest) a w :=
  wpList_plain hgd fun _ hK => wp_build_d x ho r hr hx (hK _ _ h)
theorem wpList_append_d (hgd : op.guard = none) (s x : Operand) (ho : op.op = .call { callee := .builtin .append, args := #[s, x], argTypes := #[64, 64] }) (M N n : Nat) (v : Value) (l : List Value) (r : List (BitVec 8)) (hr0 : Dl r)
    (hown : w.ownsRow M 44 32 v n l) (hs : a.eval s = v) (hx : a.eval x = .slice (some ⟨N, 0, none⟩) 1 1) (hN : Row w N (vB r) 44) (hk : (n + 1) * 32 ≤ 140737488355328) (hM : M ≤ w.heap.size)
    (h : ∀ v' w', w'.ownsRow M 44 32 v' (n + 1) (l ++ vB r) → w.grownBy w' v.ownBlock → wpList Tryz.prog ops Q rest (a.put op.dst v') w') : wpList Tryz.prog ops Q (op :: rest) a w :=
  wpList_plain hgd fun _ hK => wp_append_d s x ho M N n v l r hr0 hown hs hx hN hk hM fun v' w' h1 h2 => hK _ _ (h v' w' h1 h2)
end

end Go.Proofs.YtdicgenhfmhklaaGreatDoor
