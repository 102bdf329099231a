/-
  Digests compared (Eq, with other imports), in regions that draw their order too; len; pick.
-/
import Derived.Test.YtfdgdmehgbmnkaaDoorTRby
import Derived.BigRegion
import Derived.Stop.BytesEq

namespace Go.Proofs.YtfdgdmehgbmnkaaDoor
open Go Go.RowKit
open Sha

/-- What a leaf and a path come to. -/
def rb (n i : Nat) (lf : List (BitVec 8)) (ds : List (List (BitVec 8))) : List (BitVec 8) :=
  if _h : 2 ≤ n ∧ n < 4611686018427387904 then
    if i < fpart n then dig ([1#8] ++ (rb (fpart n) i lf ds.dropLast ++ ds.getLastD []))
    else dig ([1#8] ++ (ds.getLastD [] ++ rb (n - fpart n) (i - fpart n) lf ds.dropLast))
  else dig ([0#8] ++ lf)
termination_by n
decreasing_by
  · exact (fpart_bounds n (by omega) (by omega)).1
  · have := fpart_pos n; omega
theorem rb_one (i : Nat) (lf : List (BitVec 8)) (ds : List (List (BitVec 8))) : rb 1 i lf ds = dig ([0#8] ++ lf) := by
  rw [rb, dif_neg (by omega)]
theorem rb_left (n i : Nat) (lf l : List (BitVec 8)) (rs : List (List (BitVec 8))) (h2 : 2 ≤ n) (hl : n < 4611686018427387904) (h : i < fpart n) : rb n i lf (rs ++ [l]) = dig ([1#8] ++ (rb (fpart n) i lf rs ++ l)) := by
  rw [rb, dif_pos ⟨h2, hl⟩, if_pos h, List.dropLast_concat, List.getLastD_concat]
theorem rb_right (n i : Nat) (lf l : List (BitVec 8)) (rs : List (List (BitVec 8))) (h2 : 2 ≤ n) (hl : n < 4611686018427387904) (h : ¬ i < fpart n) : rb n i lf (rs ++ [l]) = dig ([1#8] ++ (l ++ rb (n - fpart n) (i - fpart n) lf rs)) := by
  rw [rb, dif_pos ⟨h2, hl⟩, if_neg h, List.dropLast_concat, List.getLastD_concat]
theorem rb_length (n i : Nat) (lf : List (BitVec 8)) (ds : List (List (BitVec 8))) : (rb n i lf ds).length = 32 := by
  rw [rb]
  split
  · split <;> exact dig_length _
  · exact dig_length _

/-- v is a list of the digests ds. -/
def PAt (w : World) (v : Value) (ds : List (List (BitVec 8))) : Prop := (∀ d ∈ ds, d.length = 32) ∧ ∃ A cap, v = .slice A ds.length cap ∧ ds.length ≤ cap ∧ (ds = [] ∨ ∃ b o, A = some ⟨b, o, none⟩ ∧ w.rangeAt b o (ds.flatMap vB))
theorem PAt.below {w w' : World} {v : Value} {ds : List (List (BitVec 8))} (h : PAt w v ds) (k : Below w.heap.size w w') : PAt w' v ds := by
  obtain ⟨h1, A, cap, h2, h3, h4⟩ := h
  refine ⟨h1, A, cap, h2, h3, ?_⟩
  rcases h4 with h4 | ⟨b, o, e, h4⟩
  · exact .inl h4
  · exact .inr ⟨b, o, e, range_below h4 k (Nat.le_refl _)⟩
theorem flat_length (ds : List (List (BitVec 8))) (h : ∀ d ∈ ds, d.length = 32) : (ds.flatMap vB).length = ds.length * 32 := by
  induction ds with
  | nil => rfl
  | cons d r ih =>
    rw [List.flatMap_cons, List.length_append, ih (fun x hx => h x (List.mem_cons_of_mem _ hx)), vB_length, h d List.mem_cons_self, List.length_cons]
    omega
theorem ran_left {W : World} {b o : Nat} {c d : List Value} (r : W.rangeAt b o (c ++ d)) : W.rangeAt b o c := fun j v hv =>
  r j v (by rw [List.getElem?_append_left (List.getElem?_eq_some_iff.1 hv).1]; exact hv)
theorem ran_right {W : World} {b o k : Nat} {c d : List Value} (r : W.rangeAt b o (c ++ d)) (hk : c.length = k) : W.rangeAt b (o + k) d := fun j v hv => by
  have := r (k + j) v (by rw [List.getElem?_append_right (by omega), show k + j - c.length = j by omega]; exact hv)
  rw [← Nat.add_assoc] at this
  exact this

end Go.Proofs.YtfdgdmehgbmnkaaDoor

namespace Go.Proofs.YtfdgdmehgbmnkaaDoor
open Go Go.RowKit
open Sha

def toU (l : List (BitVec 8)) : List UInt8 := l.map UInt8.ofBitVec
theorem vB_cell (l : List (BitVec 8)) : vB l = (toU l).map Extern.Stop.cell := by
  unfold vB toU; rw [List.map_map]; rfl
theorem toU_length (l : List (BitVec 8)) : (toU l).length = l.length := by simp [toU]
theorem toU_inj {l r : List (BitVec 8)} (h : toU l = toU r) : l = r := by
  unfold toU at h
  exact (List.map_inj_right (fun x y h => congrArg UInt8.toBitVec h)).1 h
theorem toU_beq (l r : List (BitVec 8)) : (toU l == toU r) = decide (l = r) := by
  rw [Bool.eq_iff_iff]; simp only [beq_iff_eq, decide_eq_true_eq]
  exact ⟨toU_inj, fun h => by rw [h]⟩

section
variable {P : Program} {ops : Array Oper} {rest : List Oper} {op : Oper} {a : Act} {w : World} {Q : Exit → Act → World → Prop}

theorem run_eql_vB (w : World) (t e : TypeId) (n : Nat) (ht : P.underlying t = some (.array n e)) (he : P.underlying e = some (.int .u8)) (hs : (P.info? e).map (·.size) = some 1) (l r : List (BitVec 8)) (hl : l.length = n) (hr : r.length = n) :
    (binOp .eql t (.agg (vB l).toArray) (.agg (vB r).toArray)).run P w = .ok (.bool (decide (l = r))) w := by
  have hsz : ∀ w, (sizeOf e).run P w = .ok 1 w := by
    intro w
    cases hq : P.info? e with
    | none => simp [hq] at hs
    | some i => have h1 : i.size = 1 := by simpa [hq] using hs
                simp [sizeOf, typeInfo, hq, h1]
  rw [vB_cell, vB_cell, run_eql_bytes w t e n ht he hsz (toU l) (toU r) (by rw [toU_length, hl]) (by rw [toU_length, hr]), toU_beq]

theorem wpList_load_w (hw : Region.wanted op (yielded ops a.tmps) = true) (ty : TypeId) (x : Operand) (ho : op.op = .load ty x)
    (b o : Nat) (hx : a.eval x = .pointer (some ⟨b, o, none⟩)) (cs : List Value) (d : TypeDesc) (hc : w.rangeAt b o cs)
    (hu : P.underlying ty = some d) (hd : d.isRow = true) (hi : (P.info? ty).map (·.size) = some cs.length)
    (h : wpList P ops Q rest (a.put op.dst (.agg cs.toArray)) w) : wpList P ops Q (op :: rest) a w :=
  BigFrame.wpList_want hw fun _ hK => wp_load_mid ty x ho b o hx cs d hc hu hd hi (hK _ _ h)

theorem wpList_eql_w (hw : Region.wanted op (yielded ops a.tmps) = true) (t : TypeId) (x y : Operand) (yt : TypeId) (ho : op.op = .binOp .eql t x y yt) (e n : Nat) (l r : List (BitVec 8)) (hx : a.eval x = .agg (vB l).toArray) (hy : a.eval y = .agg (vB r).toArray)
    (ht : P.underlying t = some (.array n e)) (he : P.underlying e = some (.int .u8)) (hs : (P.info? e).map (·.size) = some 1) (hl : l.length = n) (hr : r.length = n) (hm : P.eqGuardType P.depth t = false)
    (h : wpList P ops Q rest (a.put op.dst (.bool (decide (l = r)))) w) : wpList P ops Q (op :: rest) a w :=
  BigFrame.wpList_want hw fun _ hK => by
    unfold Oper.wp execOp
    simp only [ho, hx, hy, Sem.run_bind, run_eqGuard_agg w .eql t x y _ _ hm, Result.andThen_ok, run_eql_vB w t e n ht he hs l r hl hr, Sem.run_pure, Oper.upon_value]
    exact hK _ _ h
end

theorem guard_dig : Tryd.prog.eqGuardType Tryd.prog.depth 29 = false := by kernel_rfl


section
variable {P : Program} {Q : Exit → Act → World → Prop} {o : Oper} {a : Act} {w : World} {K : Act → World → Prop}
theorem run_neq_vB (w : World) (t e : TypeId) (n : Nat) (ht : P.underlying t = some (.array n e)) (he : P.underlying e = some (.int .u8)) (hs : (P.info? e).map (·.size) = some 1) (l r : List (BitVec 8)) (hl : l.length = n) (hr : r.length = n) :
    (binOp .neq t (.agg (vB l).toArray) (.agg (vB r).toArray)).run P w = .ok (.bool (!decide (l = r))) w := by
  have hsz : ∀ w, (sizeOf e).run P w = .ok 1 w := by
    intro w
    cases hq : P.info? e with
    | none => simp [hq] at hs
    | some i => have h1 : i.size = 1 := by simpa [hq] using hs
                simp [sizeOf, typeInfo, hq, h1]
  rw [vB_cell, vB_cell, run_neq_struct, run_equalIn_bytes w 9998 t e n ht he hsz (toU l) (toU r) (by rw [toU_length, hl]) (by rw [toU_length, hr])]
  simp [← toU_beq]
theorem wp_neq_d (t : TypeId) (x y : Operand) (yt : TypeId) (ho : o.op = .binOp .neq t x y yt) (e n : Nat) (l r : List (BitVec 8)) (hx : a.eval x = .agg (vB l).toArray) (hy : a.eval y = .agg (vB r).toArray)
    (ht : P.underlying t = some (.array n e)) (he : P.underlying e = some (.int .u8)) (hs : (P.info? e).map (·.size) = some 1) (hl : l.length = n) (hr : r.length = n) (hm : P.eqGuardType P.depth t = false)
    (B : Bool) (hB : (!decide (l = r)) = B) (h : K (a.put o.dst (.bool B)) w) : Oper.wp P o a w K Q := by
  subst hB
  unfold Oper.wp execOp
  simp only [ho, hx, hy, Sem.run_bind, run_eqGuard_agg w .neq t x y _ _ hm, Result.andThen_ok, run_neq_vB w t e n ht he hs l r hl hr, Sem.run_pure, Oper.upon_value]
  exact h
theorem wp_neqint_v {x y : Operand} {t yt : TypeId} {k : IntKind} {m n : Int} {B : Bool} (ho : o.op = .binOp .neq t x y yt) (hx : a.eval x = .int k m) (hy : a.eval y = .int k n) (hB : (!(m == n)) = B) (h : K (a.put o.dst (.bool B)) w) : Oper.wp P o a w K Q := by
  subst hB
  unfold Oper.wp execOp
  simp only [ho, hx, hy]
  simp [go_sem]
  exact h
theorem wp_pick_f {c x y : Operand} (v : Value) (ho : o.op = .pick c x y) (hc : a.eval c = .bool false) (hy : a.eval y = v) (h : K (a.put o.dst v) w) : Oper.wp P o a w K Q := by
  unfold Oper.wp execOp
  simp only [ho, hc, hy]
  simp [go_sem]
  exact h
theorem wp_len_s {x : Operand} (t e : TypeId) (A : Option Addr) (n cap : Nat) (ho : o.op = .call { callee := .builtin .len, args := #[x], argTypes := #[t] }) (ht : P.underlying t = some (.slice e)) (hx : a.eval x = .slice A n cap) (h : K (a.put o.dst (.int .i64 (n : Int))) w) : Oper.wp P o a w K Q := by
  have hr : (Builtin.len_ #[t] o.type #[.slice A n cap]).run P w = .ok (goInt n) w := by
    simp [Builtin.len_, run_underlying ht]
  unfold Oper.wp
  simp [execOp, ho, resolve, invoke, builtin, hx, hr, Result.andThen]
  exact h
end

end Go.Proofs.YtfdgdmehgbmnkaaDoor
