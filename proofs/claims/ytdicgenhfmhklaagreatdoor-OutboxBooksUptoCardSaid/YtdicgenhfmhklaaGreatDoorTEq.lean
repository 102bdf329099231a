/-
  Digests compared (Eq, with other imports), in regions that draw their order too; len; pick.
-/
import Derived.Test.YtdicgenhfmhklaaGreatDoorTRoot
import Derived.BigRegion
import Derived.Stop.BytesEq

namespace Go.Proofs.YtdicgenhfmhklaaGreatDoor
open Go Go.RowKit
open Sha

/-- How many digests a path has, by fuel. -/
def plF : Nat → Nat → Nat → Nat
  | 0, _, _ => 0
  | f + 1, n, i => if n = 1 then 0 else if i < fpart n then plF f (fpart n) i + 1 else plF f (n - fpart n) (i - fpart n) + 1
/-- How many digests the path of leaf i of n has. -/
def pl (n i : Nat) : Nat := plF n n i
theorem plF_fuel : ∀ (f g n i : Nat), 1 ≤ n → n ≤ f → n ≤ g → n < 4611686018427387904 → plF f n i = plF g n i
  | 0, _, _, _, h1, h, _, _ => by omega
  | _ + 1, 0, _, _, h1, _, h, _ => by omega
  | f + 1, g + 1, n, i, h1, hf, hg, hl => by
    unfold plF
    split
    · rfl
    · have hb := fpart_bounds n (by omega) hl
      have hp := fpart_pos n
      rw [plF_fuel f g (fpart n) i (by omega) (by omega) (by omega) (by omega), plF_fuel f g (n - fpart n) (i - fpart n) (by omega) (by omega) (by omega) (by omega)]
theorem pl_one (i : Nat) : pl 1 i = 0 := rfl
theorem pl_many (n i : Nat) (h2 : 2 ≤ n) (hl : n < 4611686018427387904) : pl n i = if i < fpart n then pl (fpart n) i + 1 else pl (n - fpart n) (i - fpart n) + 1 := by
  have hb := fpart_bounds n h2 hl
  have hp := fpart_pos n
  have e : pl n i = plF (n + 1) n i := plF_fuel _ _ n i (by omega) (Nat.le_refl _) (by omega) hl
  rw [e]
  unfold plF
  rw [if_neg (by omega), plF_fuel n (fpart n) (fpart n) i (by omega) (by omega) (Nat.le_refl _) (by omega), plF_fuel n (n - fpart n) (n - fpart n) (i - fpart n) (by omega) (by omega) (Nat.le_refl _) (by omega)]
  rfl
theorem pl_left (n i : Nat) (h2 : 2 ≤ n) (hl : n < 4611686018427387904) (h : i < fpart n) : pl n i = pl (fpart n) i + 1 := by rw [pl_many n i h2 hl, if_pos h]
theorem pl_right (n i : Nat) (h2 : 2 ≤ n) (hl : n < 4611686018427387904) (h : ¬ i < fpart n) : pl n i = pl (n - fpart n) (i - fpart n) + 1 := by rw [pl_many n i h2 hl, if_neg h]
theorem pl_lt (n : Nat) : ∀ i, 1 ≤ n → n < 4611686018427387904 → pl n i < n := by
  induction n using Nat.strongRecOn with
  | ind n ih =>
    intro i h1 hl
    by_cases e : n = 1
    · subst e; rw [pl_one]; omega
    · have hb := fpart_bounds n (by omega) hl
      have hp := fpart_pos n
      have := ih (fpart n) (by omega) i (by omega) (by omega)
      have := ih (n - fpart n) (by omega) (i - fpart n) (by omega) (by omega)
      rw [pl_many n i (by omega) hl]
      split <;> omega

end Go.Proofs.YtdicgenhfmhklaaGreatDoor

namespace Go.Proofs.YtdicgenhfmhklaaGreatDoor
open Go Go.RowKit
open Sha

section
variable {P : Program} {Q : Exit → Act → World → Prop} {o : Oper} {a : Act} {w : World} {K : Act → World → Prop}
theorem wp_slice_3 (t e : TypeId) (x z m : Operand) (b f n cap k : Nat) (ho : o.op = .slice t x none (some z) (some m)) (hx : a.eval x = .slice (some ⟨b, f, none⟩) n cap) (hz : a.eval z = .int .i64 (k : Int)) (hm : a.eval m = .int .i64 (k : Int)) (hk : k ≤ cap)
    (hu : P.underlying t = some (.slice e)) {s : Nat} (hs : (P.info? e).map (·.size) = some s) (h : K (a.put o.dst (.slice (some ⟨b, f, none⟩) k k)) w) : Oper.wp P o a w K Q := by
  cases hq : P.info? e with
  | none => simp [hq] at hs
  | some i =>
    have hr : (Instr.sliceAt t (.slice (some ⟨b, f, none⟩) n cap) none (some (.int .i64 (k : Int))) (some (.int .i64 (k : Int)))).run P w = .ok (.slice (some ⟨b, f, none⟩) k k) w := by
      simp [Instr.sliceAt, Instr.slice, run_underlying hu, Instr.sliceBounds, Instr.sliceBound, asIntOf, sizeOf, typeInfo, hq, hk, Addr.add_mid]
    unfold Oper.wp execOp
    simp only [ho, hx, hz, hm, Option.map_some, Option.map_none, Sem.run_bind, hr, Result.andThen_ok, Sem.run_pure, Oper.upon_value]
    exact h
theorem wp_index_s (T e : TypeId) {x y : Operand} (ho : o.op = .indexAddr T x y) (b f n c t s : Nat) (hx : a.eval x = .slice (some ⟨b, f, none⟩) n c) (hy : a.eval y = .int .i64 (t : Int)) (ht : t < n)
    (hu : P.underlying T = some (.slice e)) (hs : (P.info? e).map (·.size) = some s) (h : K (a.put o.dst (.pointer (some ⟨b, f + t * s, none⟩))) w) : Oper.wp P o a w K Q := by
  refine wp_pure (v := .pointer (some ⟨b, f + t * s, none⟩)) ?_ h
  have hr : (Instr.indexAt T (.slice (some ⟨b, f, none⟩) n c) (.int .i64 (t : Int))).run P w = .ok (.pointer (some ⟨b, f + t * s, none⟩)) w := by
    cases hi : P.info? e with
    | none => rw [hi] at hs; cases hs
    | some ie =>
      rw [hi] at hs
      have h4 : ie.size = s := by simpa using hs
      simp [Instr.indexAt, run_underlying hu, asIntOf, ht, sizeOf, typeInfo, hi, h4, Addr.add_mid]
  unfold execOp
  simp only [ho, hx, hy, Sem.run_bind, hr, Result.andThen_ok]
  rfl
end
theorem results_tmp_row {P : Program} {fn : Func} {p q : Tmp} {ty : TypeId} {n : Nat} {e : TypeId} (h : fn.results = #[.tmp q, .cell p ty]) (tmps : Array Value) (w : World) (g : Nat) (t : TypeId) (cs : List Value) (v : Value)
    (hp : tmps.getD p undef = .pointer (some ⟨g, 0, none⟩)) (hv : tmps.getD q undef = v) (hg : Row w g cs t) (hu : P.underlying ty = some (.array n e)) (hi : (P.info? ty).map (·.size) = some n) (hl : cs.length = n) :
    (results fn tmps).run P w = .ok (.tuple #[v, .agg cs.toArray]) w := by
  have hp' : tmps[p]?.getD undef = .pointer (some ⟨g, 0, none⟩) := by simpa using hp
  have hv' : tmps[q]?.getD undef = v := by simpa using hv
  have hr := run_loadVar_row (P := P) w g t ty cs.toArray (0, 0) (.array n e) hg hu rfl (by simp [hi, hl])
  simp [results, h, hp', hv', asAddr, hr]

end Go.Proofs.YtdicgenhfmhklaaGreatDoor

namespace Go.Proofs.YtdicgenhfmhklaaGreatDoor
open Go Go.RowKit
open Sha

section
variable {P : Program} {Q : Exit → Act → World → Prop} {o : Oper} {a : Act} {w : World} {K : Act → World → Prop}
theorem wp_sub_v {x y : Operand} {m n : Nat} (t yt : TypeId) (ho : o.op = .binOp .sub t x y yt) (hx : a.eval x = .int .i64 (m : Int)) (hy : a.eval y = .int .i64 (n : Int)) (hle : n ≤ m) (hm : m < 4611686018427387904) (h : K (a.put o.dst (.int .i64 ((m - n : Nat) : Int))) w) : Oper.wp P o a w K Q := by
  have e : (((m - n : Nat) : Nat) : Int) = (m : Int) - (n : Int) := by omega
  have e2 : IntKind.i64.wrap ((m : Int) - (n : Int)) = (m : Int) - (n : Int) := by
    rw [← e]
    generalize m - n = d at *
    simp [IntKind.wrap, IntKind.bits, IntKind.signed]
    omega
  rw [e] at h
  unfold Oper.wp execOp
  simp only [ho, hx, hy]
  simp [go_sem, e2]
  exact h
end

end Go.Proofs.YtdicgenhfmhklaaGreatDoor

namespace Go.Proofs.YtdicgenhfmhklaaGreatDoor
open Go Go.RowKit
open Sha

/-- What a leaf and a path come to. -/
def rb (n i : Nat) (lf : List (BitVec 8)) (ds : List (List (BitVec 8))) : List (BitVec 8) :=
  if _h : 2 ≤ n ∧ n < 4611686018427387904 then
    if i < fpart n then dig ([1#8] ++ (rb (fpart n) i lf ds.dropLast ++ ds.getLastD []))
    else dig ([1#8] ++ (ds.getLastD [] ++ rb (n - fpart n) (i - fpart n) lf ds.dropLast))
  else dig ([0#8] ++ lf)
termination_by n
decreasing_by
  · exact (fpart_bounds n (by omega) (by omega)).1
  · have := fpart_pos n; omega
theorem rb_one (i : Nat) (lf : List (BitVec 8)) (ds : List (List (BitVec 8))) : rb 1 i lf ds = dig ([0#8] ++ lf) := by
  rw [rb, dif_neg (by omega)]
theorem rb_left (n i : Nat) (lf l : List (BitVec 8)) (rs : List (List (BitVec 8))) (h2 : 2 ≤ n) (hl : n < 4611686018427387904) (h : i < fpart n) : rb n i lf (rs ++ [l]) = dig ([1#8] ++ (rb (fpart n) i lf rs ++ l)) := by
  rw [rb, dif_pos ⟨h2, hl⟩, if_pos h, List.dropLast_concat, List.getLastD_concat]
theorem rb_right (n i : Nat) (lf l : List (BitVec 8)) (rs : List (List (BitVec 8))) (h2 : 2 ≤ n) (hl : n < 4611686018427387904) (h : ¬ i < fpart n) : rb n i lf (rs ++ [l]) = dig ([1#8] ++ (l ++ rb (n - fpart n) (i - fpart n) lf rs)) := by
  rw [rb, dif_pos ⟨h2, hl⟩, if_neg h, List.dropLast_concat, List.getLastD_concat]
theorem rb_length (n i : Nat) (lf : List (BitVec 8)) (ds : List (List (BitVec 8))) : (rb n i lf ds).length = 32 := by
  rw [rb]
  split
  · split <;> exact dig_length _
  · exact dig_length _

/-- v is a list of the digests ds. -/
def PAt (w : World) (v : Value) (ds : List (List (BitVec 8))) : Prop := (∀ d ∈ ds, d.length = 32) ∧ ∃ A cap, v = .slice A ds.length cap ∧ ds.length ≤ cap ∧ (ds = [] ∨ ∃ b o, A = some ⟨b, o, none⟩ ∧ w.rangeAt b o (ds.flatMap vB))
theorem PAt.below {w w' : World} {v : Value} {ds : List (List (BitVec 8))} (h : PAt w v ds) (k : Below w.heap.size w w') : PAt w' v ds := by
  obtain ⟨h1, A, cap, h2, h3, h4⟩ := h
  refine ⟨h1, A, cap, h2, h3, ?_⟩
  rcases h4 with h4 | ⟨b, o, e, h4⟩
  · exact .inl h4
  · exact .inr ⟨b, o, e, range_below h4 k (Nat.le_refl _)⟩
theorem flat_length (ds : List (List (BitVec 8))) (h : ∀ d ∈ ds, d.length = 32) : (ds.flatMap vB).length = ds.length * 32 := by
  induction ds with
  | nil => rfl
  | cons d r ih =>
    rw [List.flatMap_cons, List.length_append, ih (fun x hx => h x (List.mem_cons_of_mem _ hx)), vB_length, h d List.mem_cons_self, List.length_cons]
    omega
theorem ran_left {W : World} {b o : Nat} {c d : List Value} (r : W.rangeAt b o (c ++ d)) : W.rangeAt b o c := fun j v hv =>
  r j v (by rw [List.getElem?_append_left (List.getElem?_eq_some_iff.1 hv).1]; exact hv)
theorem ran_right {W : World} {b o k : Nat} {c d : List Value} (r : W.rangeAt b o (c ++ d)) (hk : c.length = k) : W.rangeAt b (o + k) d := fun j v hv => by
  have := r (k + j) v (by rw [List.getElem?_append_right (by omega), show k + j - c.length = j by omega]; exact hv)
  rw [← Nat.add_assoc] at this
  exact this

end Go.Proofs.YtdicgenhfmhklaaGreatDoor

namespace Go.Proofs.YtdicgenhfmhklaaGreatDoor
open Go Go.RowKit
open Sha

def toUT (l : List (BitVec 8)) : List UInt8 := l.map UInt8.ofBitVec
theorem vB_cellT (l : List (BitVec 8)) : vB l = (toUT l).map Extern.Stop.cell := by
  unfold vB toUT; rw [List.map_map]; rfl
theorem toU_lengthT (l : List (BitVec 8)) : (toUT l).length = l.length := by simp [toUT]
theorem toU_injT {l r : List (BitVec 8)} (h : toUT l = toUT r) : l = r := by
  unfold toUT at h
  exact (List.map_inj_right (fun x y h => congrArg UInt8.toBitVec h)).1 h
theorem toU_beqT (l r : List (BitVec 8)) : (toUT l == toUT r) = decide (l = r) := by
  rw [Bool.eq_iff_iff]; simp only [beq_iff_eq, decide_eq_true_eq]
  exact ⟨toU_injT, fun h => by rw [h]⟩

section
variable {P : Program} {ops : Array Oper} {rest : List Oper} {op : Oper} {a : Act} {w : World} {Q : Exit → Act → World → Prop}

theorem run_eql_vBT (w : World) (t e : TypeId) (n : Nat) (ht : P.underlying t = some (.array n e)) (he : P.underlying e = some (.int .u8)) (hs : (P.info? e).map (·.size) = some 1) (l r : List (BitVec 8)) (hl : l.length = n) (hr : r.length = n) :
    (binOp .eql t (.agg (vB l).toArray) (.agg (vB r).toArray)).run P w = .ok (.bool (decide (l = r))) w := by
  have hsz : ∀ w, (sizeOf e).run P w = .ok 1 w := by
    intro w
    cases hq : P.info? e with
    | none => simp [hq] at hs
    | some i => have h1 : i.size = 1 := by simpa [hq] using hs
                simp [sizeOf, typeInfo, hq, h1]
  rw [vB_cellT, vB_cellT, run_eql_bytes w t e n ht he hsz (toUT l) (toUT r) (by rw [toU_lengthT, hl]) (by rw [toU_lengthT, hr]), toU_beqT]

theorem wpList_load_wT (hw : Region.wanted op (yielded ops a.tmps) = true) (ty : TypeId) (x : Operand) (ho : op.op = .load ty x)
    (b o : Nat) (hx : a.eval x = .pointer (some ⟨b, o, none⟩)) (cs : List Value) (d : TypeDesc) (hc : w.rangeAt b o cs)
    (hu : P.underlying ty = some d) (hd : d.isRow = true) (hi : (P.info? ty).map (·.size) = some cs.length)
    (h : wpList P ops Q rest (a.put op.dst (.agg cs.toArray)) w) : wpList P ops Q (op :: rest) a w :=
  BigFrame.wpList_want hw fun _ hK => wp_load_mid ty x ho b o hx cs d hc hu hd hi (hK _ _ h)

theorem wpList_eql_w (hw : Region.wanted op (yielded ops a.tmps) = true) (t : TypeId) (x y : Operand) (yt : TypeId) (ho : op.op = .binOp .eql t x y yt) (e n : Nat) (l r : List (BitVec 8)) (hx : a.eval x = .agg (vB l).toArray) (hy : a.eval y = .agg (vB r).toArray)
    (ht : P.underlying t = some (.array n e)) (he : P.underlying e = some (.int .u8)) (hs : (P.info? e).map (·.size) = some 1) (hl : l.length = n) (hr : r.length = n) (hm : P.eqGuardType P.depth t = false)
    (h : wpList P ops Q rest (a.put op.dst (.bool (decide (l = r)))) w) : wpList P ops Q (op :: rest) a w :=
  BigFrame.wpList_want hw fun _ hK => by
    unfold Oper.wp execOp
    simp only [ho, hx, hy, Sem.run_bind, run_eqGuard_agg w .eql t x y _ _ hm, Result.andThen_ok, run_eql_vBT w t e n ht he hs l r hl hr, Sem.run_pure, Oper.upon_value]
    exact hK _ _ h
end

theorem guard_dig : Tryz.prog.eqGuardType Tryz.prog.depth 44 = false := by kernel_rfl


section
variable {P : Program} {Q : Exit → Act → World → Prop} {o : Oper} {a : Act} {w : World} {K : Act → World → Prop}
theorem run_neq_vBT (w : World) (t e : TypeId) (n : Nat) (ht : P.underlying t = some (.array n e)) (he : P.underlying e = some (.int .u8)) (hs : (P.info? e).map (·.size) = some 1) (l r : List (BitVec 8)) (hl : l.length = n) (hr : r.length = n) :
    (binOp .neq t (.agg (vB l).toArray) (.agg (vB r).toArray)).run P w = .ok (.bool (!decide (l = r))) w := by
  have hsz : ∀ w, (sizeOf e).run P w = .ok 1 w := by
    intro w
    cases hq : P.info? e with
    | none => simp [hq] at hs
    | some i => have h1 : i.size = 1 := by simpa [hq] using hs
                simp [sizeOf, typeInfo, hq, h1]
  rw [vB_cellT, vB_cellT, run_neq_struct, run_equalIn_bytes w 9998 t e n ht he hsz (toUT l) (toUT r) (by rw [toU_lengthT, hl]) (by rw [toU_lengthT, hr])]
  simp [← toU_beqT]
theorem wp_neq_d (t : TypeId) (x y : Operand) (yt : TypeId) (ho : o.op = .binOp .neq t x y yt) (e n : Nat) (l r : List (BitVec 8)) (hx : a.eval x = .agg (vB l).toArray) (hy : a.eval y = .agg (vB r).toArray)
    (ht : P.underlying t = some (.array n e)) (he : P.underlying e = some (.int .u8)) (hs : (P.info? e).map (·.size) = some 1) (hl : l.length = n) (hr : r.length = n) (hm : P.eqGuardType P.depth t = false)
    (B : Bool) (hB : (!decide (l = r)) = B) (h : K (a.put o.dst (.bool B)) w) : Oper.wp P o a w K Q := by
  subst hB
  unfold Oper.wp execOp
  simp only [ho, hx, hy, Sem.run_bind, run_eqGuard_agg w .neq t x y _ _ hm, Result.andThen_ok, run_neq_vBT w t e n ht he hs l r hl hr, Sem.run_pure, Oper.upon_value]
  exact h
theorem wp_neqint_v {x y : Operand} {t yt : TypeId} {k : IntKind} {m n : Int} {B : Bool} (ho : o.op = .binOp .neq t x y yt) (hx : a.eval x = .int k m) (hy : a.eval y = .int k n) (hB : (!(m == n)) = B) (h : K (a.put o.dst (.bool B)) w) : Oper.wp P o a w K Q := by
  subst hB
  unfold Oper.wp execOp
  simp only [ho, hx, hy]
  simp [go_sem]
  exact h
theorem wp_pick_fT {c x y : Operand} (v : Value) (ho : o.op = .pick c x y) (hc : a.eval c = .bool false) (hy : a.eval y = v) (h : K (a.put o.dst v) w) : Oper.wp P o a w K Q := by
  unfold Oper.wp execOp
  simp only [ho, hc, hy]
  simp [go_sem]
  exact h
theorem wp_len_sT {x : Operand} (t e : TypeId) (A : Option Addr) (n cap : Nat) (ho : o.op = .call { callee := .builtin .len, args := #[x], argTypes := #[t] }) (ht : P.underlying t = some (.slice e)) (hx : a.eval x = .slice A n cap) (h : K (a.put o.dst (.int .i64 (n : Int))) w) : Oper.wp P o a w K Q := by
  have hr : (Builtin.len_ #[t] o.type #[.slice A n cap]).run P w = .ok (goInt n) w := by
    simp [Builtin.len_, run_underlying ht]
  unfold Oper.wp
  simp [execOp, ho, resolve, invoke, builtin, hx, hr, Result.andThen]
  exact h
end

end Go.Proofs.YtdicgenhfmhklaaGreatDoor
