/-
  the tables of fields as lists; Contains; fits.
-/
import Derived.Test.YtfommclhnfcioaaXLaw2
import Derived.Deep.QuietTactic
import Derived.Test.YtfommclhnfcioaaXStp
import Derived.Laws.StructEq
import Derived.Stop.BytesEq
import Derived.BigRegion
import Derived.Test.YtfommclhnfcioaaTFp
import Derived.Test.YtfommclhnfcioaaXWb
import Derived.LoopN

namespace Go.Proofs.Ytfommclhnfcioaa
open Go Go.RowKit
open Sha

/-- A step's cells. -/
abbrev sc (k N : Int) (v : Value) (m0 m1 m2 m3 : Nat) (u : Value) : List Value := [.int .i64 k, .int .i64 N, v, .int .u64 (m0 : Int), .int .u64 (m1 : Int), .int .u64 (m2 : Int), .int .u64 (m3 : Int), u]
abbrev mx : Int := 9223372036854775807
/-- The form of a value of a kind. -/
def fo (k : Nat) (N : Int) (d : List (BitVec 8)) (m0 m1 m2 m3 : Nat) : List (BitVec 8) :=
  match k with
  | 0 => [BitVec.ofInt 8 N]
  | 1 => [if !(N.tmod 2 == 0) then 1#8 else 0#8]
  | 2 => fm [(pk N mx).toNat, 0, 0, 0] (nb (pk N mx).toNat 0 0 0)
  | 3 => fm [d.length, 0, 0, 0] (nb d.length 0 0 0) ++ d
  | 4 => fm [m0, m1, m2, m3] (nb m0 m1 m2 m3)
  | 5 => dgN 32 d
  | _ => dgN 20 d
theorem c_ofInt (N : Int) : c (BitVec.ofInt 8 N) = N % 256 := by
  show (((BitVec.ofInt 8 N).toNat : Nat) : Int) = _
  rw [BitVec.toNat_ofInt]
  omega
theorem pk_same (k n : Int) (h0 : 0 ≤ k) (h1 : k < n) : pk k n = k := by
  unfold pk; rw [if_neg (by omega)]; exact Int.emod_eq_of_lt h0 h1
theorem Rw_of {P : Nat} : ∀ g, Rw P none 0 [] g → g = P := fun g h => by
  rcases h with h | h
  · exact h
  · simp [Value.ownBlock] at h

end Go.Proofs.Ytfommclhnfcioaa

namespace Go.Proofs.Ytfommclhnfcioaa
open Go Go.RowKit
open Sha

theorem fo_len (k : Nat) (N : Int) (d : List (BitVec 8)) (m0 m1 m2 m3 : Nat) (hd : d.length ≤ 4194200) : 0 < (fo k N d m0 m1 m2 m3).length ∧ (fo k N d m0 m1 m2 m3).length ≤ 4194304 := by
  have q1 := nb_le (pk N mx).toNat 0 0 0
  have q2 := nb_le d.length 0 0 0
  have q3 := nb_le m0 m1 m2 m3
  unfold fo
  split <;> simp only [List.length_append, List.length_singleton, fm_len, dgN_len] <;> omega

end Go.Proofs.Ytfommclhnfcioaa

namespace Go.Proofs.Ytfommclhnfcioaa
open Go Go.RowKit
open Sha

/-- Are two steps of a kind unlike? -/
def ap (k : Nat) (N N' : Int) (d d' : List (BitVec 8)) (m m' : List Nat) : Bool :=
  match k with
  | 0 => !(N % 256 == N' % 256)
  | 1 => !((!(N.tmod 2 == 0)) == (!(N'.tmod 2 == 0)))
  | 2 => !(pk N mx == pk N' mx)
  | 3 => !decide (d = d')
  | 4 => !decide (m = m')
  | 5 => !decide (dgN 32 d = dgN 32 d')
  | _ => !decide (dgN 20 d = dgN 20 d')

theorem drew_b (w : World) (q : Nat) {N : Nat} : Below N w (w.drewN q) := ⟨rfl, rfl, rfl, Nat.le_refl _, fun _ _ => rfl⟩
theorem quiet_same {P : Program} {f : FuncId} {args : Array Value} {w : World} {v : Value} (h : Calls P f args w fun e w' => e = .returned v ∧ w' = w) : Calls P f args w fun e w' => e = .returned v ∧ ∃ m, w' = w.drewN m := h.mono fun _ _ ⟨h1, h2⟩ => ⟨h1, 0, h2⟩

end Go.Proofs.Ytfommclhnfcioaa

namespace Go.Proofs.Ytfommclhnfcioaa
open Go Go.RowKit
open Sha

theorem all_eq : ∀ (xs ys : List Nat), xs.length = ys.length → ((List.range xs.length).all fun i => decide (xs.getD i 0 = ys.getD i 0)) = decide (xs = ys)
  | [], [], _ => by simp
  | [], _ :: _, h => by simp at h
  | _ :: _, [], h => by simp at h
  | x :: xs, y :: ys, h => by
    have ih := all_eq xs ys (by simpa using h)
    rw [List.length_cons, List.range_succ_eq_map, List.all_cons, List.all_map]
    simp only [List.getD_cons_zero, Function.comp_def, List.getD_cons_succ, ih]
    by_cases e : x = y <;> simp [e]

section
variable {P : Program} (w : World)
theorem run_equalIn_vQ (d : Nat) (t e : TypeId) (n : Nat) (ht : P.underlying t = some (.array n e)) (he : P.underlying e = some (.int .u64)) (hsz : ∀ w, (sizeOf e).run P w = .ok 1 w) (xs ys : List Nat) (hx : xs.length = n) (hy : ys.length = n) :
    (Op.equalIn (d + 2) t (.agg (vQ xs).toArray) (.agg (vQ ys).toArray)).run P w = .ok (decide (xs = ys)) w := by
  rw [← all_eq xs ys (hx.trans hy.symm), hx, List.range_eq_range', Op.equalIn]
  simp only [Sem.run_bind, run_underlying ht, Result.andThen_ok, hsz, Std.Legacy.Range.forIn_eq_forIn_range', Std.Legacy.Range.size, Nat.sub_zero, Nat.add_sub_cancel, Nat.div_one]
  have hin : ∀ i ∈ List.range' 0 n 1, i < n := fun i hi => by simpa using (List.mem_range'_1.1 hi).2
  generalize List.range' 0 n 1 = js at hin ⊢
  induction js with
  | nil => simp
  | cons i js ih =>
    have hi : i < n := hin i (by simp)
    have a1 : (part e (vQ xs).toArray (i * 1)).run P w = .ok (.int .u64 ((xs.getD i 0 : Nat) : Int)) w := by
      simp [part, isAgg, run_underlying he, vQ, List.getElem?_eq_getElem (show i < xs.length by omega)]
    have a2 : (part e (vQ ys).toArray (i * 1)).run P w = .ok (.int .u64 ((ys.getD i 0 : Nat) : Int)) w := by
      simp [part, isAgg, run_underlying he, vQ, List.getElem?_eq_getElem (show i < ys.length by omega)]
    have a3 : (Op.equalIn (d + 1) e (.int .u64 ((xs.getD i 0 : Nat) : Int)) (.int .u64 ((ys.getD i 0 : Nat) : Int))).run P w = .ok (decide (xs.getD i 0 = ys.getD i 0)) w := by
      rw [run_equalIn_int w d e .u64 .u64 _ _ he]
      congr 1
      rw [Bool.eq_iff_iff]
      simp only [beq_iff_eq, decide_eq_true_eq]
      omega
    simp only [List.forIn_cons, Sem.run_bind, a1, a2, a3, Result.andThen_ok, List.all_cons]
    generalize decide (xs.getD i 0 = ys.getD i 0) = bd
    cases bd
    · simp
    · simp only [Bool.not_true, Bool.false_eq_true, if_false, Sem.run_pure, Result.andThen_ok, Bool.true_and]
      exact ih fun j hj => hin j (by simp [hj])
end

theorem size_u64 : ∀ w, (sizeOf 123).run Try.prog w = .ok 1 w := by
  intro w
  have h : (Try.prog.info? 123).map (·.size) = some 1 := by kernel_rfl
  cases hq : Try.prog.info? 123 with
  | none => simp [hq] at h
  | some i => have h1 : i.size = 1 := by simpa [hq] using h
              simp [sizeOf, typeInfo, hq, h1]
theorem guard_wide : Try.prog.eqGuardType Try.prog.depth 125 = false := by kernel_rfl
theorem run_eql_w (w : World) (xs ys : List Nat) (hx : xs.length = 4) (hy : ys.length = 4) : (binOp .eql 125 (.agg (vQ xs).toArray) (.agg (vQ ys).toArray)).run Try.prog w = .ok (.bool (decide (xs = ys))) w := by
  rw [run_eql_struct, run_equalIn_vQ w 9998 _ 123 4 Try.underlying125 Try.underlying123 size_u64 xs ys hx hy]; rfl
theorem run_neq_w (w : World) (xs ys : List Nat) (hx : xs.length = 4) (hy : ys.length = 4) : (binOp .neq 125 (.agg (vQ xs).toArray) (.agg (vQ ys).toArray)).run Try.prog w = .ok (.bool (!decide (xs = ys))) w := by
  rw [run_neq_struct, run_equalIn_vQ w 9998 _ 123 4 Try.underlying125 Try.underlying123 size_u64 xs ys hx hy]; rfl

def toU (l : List (BitVec 8)) : List UInt8 := l.map UInt8.ofBitVec
theorem vB_cell (l : List (BitVec 8)) : vB l = (toU l).map Extern.Stop.cell := by
  unfold vB toU; rw [List.map_map]; rfl
theorem toU_length (l : List (BitVec 8)) : (toU l).length = l.length := by simp [toU]
theorem toU_inj {l r : List (BitVec 8)} (h : toU l = toU r) : l = r := by
  unfold toU at h
  exact (List.map_inj_right (fun x y h => congrArg UInt8.toBitVec h)).1 h
theorem toU_beq (l r : List (BitVec 8)) : (toU l == toU r) = decide (l = r) := by
  rw [Bool.eq_iff_iff]; simp only [beq_iff_eq, decide_eq_true_eq]
  exact ⟨toU_inj, fun h => by rw [h]⟩

section
variable {P : Program} {o : Oper} {a : Act} {w : World} {K : Act → World → Prop} {Q : Exit → Act → World → Prop}
theorem run_neq_vB (w : World) (t e : TypeId) (n : Nat) (ht : P.underlying t = some (.array n e)) (he : P.underlying e = some (.int .u8)) (hs : (P.info? e).map (·.size) = some 1) (l r : List (BitVec 8)) (hl : l.length = n) (hr : r.length = n) :
    (binOp .neq t (.agg (vB l).toArray) (.agg (vB r).toArray)).run P w = .ok (.bool (!decide (l = r))) w := by
  have hsz : ∀ w, (sizeOf e).run P w = .ok 1 w := by
    intro w
    cases hq : P.info? e with
    | none => simp [hq] at hs
    | some i => have h1 : i.size = 1 := by simpa [hq] using hs
                simp [sizeOf, typeInfo, hq, h1]
  rw [vB_cell, vB_cell, run_neq_struct, run_equalIn_bytes w 9998 t e n ht he hsz (toU l) (toU r) (by rw [toU_length, hl]) (by rw [toU_length, hr])]
  simp [← toU_beq]
end

end Go.Proofs.Ytfommclhnfcioaa

namespace Go.Proofs.Ytfommclhnfcioaa
open Go Go.RowKit
open Sha

theorem run_load_i (w : World) (b f : Nat) (v : Value) (h : w.cell? ⟨b, f, none⟩ = some v) : (loadVar 3 ⟨b, f, none⟩).run Try.prog w = .ok v w := by
  simp [loadVar, isAgg, run_underlying Try.underlying3, h]
section
variable {P : Program} {o : Oper} {a : Act} {w : World} {K : Act → World → Prop} {Q : Exit → Act → World → Prop}
theorem run_eql_vB (w : World) (t e : TypeId) (n : Nat) (ht : P.underlying t = some (.array n e)) (he : P.underlying e = some (.int .u8)) (hs : (P.info? e).map (·.size) = some 1) (l r : List (BitVec 8)) (hl : l.length = n) (hr : r.length = n) :
    (binOp .eql t (.agg (vB l).toArray) (.agg (vB r).toArray)).run P w = .ok (.bool (decide (l = r))) w := by
  have hsz : ∀ w, (sizeOf e).run P w = .ok 1 w := by
    intro w
    cases hq : P.info? e with
    | none => simp [hq] at hs
    | some i => have h1 : i.size = 1 := by simpa [hq] using hs
                simp [sizeOf, typeInfo, hq, h1]
  rw [vB_cell, vB_cell, run_eql_struct, run_equalIn_bytes w 9998 t e n ht he hsz (toU l) (toU r) (by rw [toU_length, hl]) (by rw [toU_length, hr])]
  simp [← toU_beq]
theorem wp_eql_b (t : TypeId) (x y : Operand) (yt : TypeId) (ho : o.op = .binOp .eql t x y yt) (e n : Nat) (l r : List (BitVec 8)) (hx : a.eval x = .agg (vB l).toArray) (hy : a.eval y = .agg (vB r).toArray)
    (ht : P.underlying t = some (.array n e)) (he : P.underlying e = some (.int .u8)) (hs : (P.info? e).map (·.size) = some 1) (hl : l.length = n) (hr : r.length = n) (hm : P.eqGuardType P.depth t = false)
    (B : Bool) (hB : decide (l = r) = B) (h : K (a.put o.dst (.bool B)) w) : Oper.wp P o a w K Q := by
  subst hB
  unfold Oper.wp execOp
  simp only [ho, hx, hy, Sem.run_bind, run_eqGuard_agg w .eql t x y _ _ hm, Result.andThen_ok, run_eql_vB w t e n ht he hs l r hl hr, Sem.run_pure, Oper.upon_value]
  exact h
theorem wp_eql_q (x y : Operand) (yt : TypeId) (ho : o.op = .binOp .eql 125 x y yt) (l r : List Nat) (hl : l.length = 4) (hr : r.length = 4) (hx : a.eval x = .agg (vQ l).toArray) (hy : a.eval y = .agg (vQ r).toArray) (B : Bool) (hB : decide (l = r) = B)
    (h : K (a.put o.dst (.bool B)) w) : Oper.wp Try.prog o a w K Q := by
  subst hB
  unfold Oper.wp execOp
  simp only [ho, hx, hy, Sem.run_bind, run_eqGuard_agg w .eql _ x y _ _ guard_wide, Result.andThen_ok, run_eql_w w l r hl hr, Sem.run_pure, Oper.upon_value]
  exact h
theorem wp_pick_f {c x y : Operand} (v : Value) (ho : o.op = .pick c x y) (hc : a.eval c = .bool false) (hy : a.eval y = v) (h : K (a.put o.dst v) w) : Oper.wp P o a w K Q := by
  unfold Oper.wp execOp
  simp only [ho, hc, hy]
  simp [go_sem]
  exact h
theorem wp_not_v {x : Operand} {t : TypeId} {B : Bool} (ho : o.op = .unOp .not t x) (hx : a.eval x = .bool B) (h : K (a.put o.dst (.bool (!B))) w) : Oper.wp P o a w K Q := by
  unfold Oper.wp execOp
  simp only [ho, hx]
  simp [go_sem]
  exact h
theorem wp_len_s {x : Operand} (t e : TypeId) (A : Option Addr) (n cap : Nat) (ho : o.op = .call { callee := .builtin .len, args := #[x], argTypes := #[t] }) (ht : P.underlying t = some (.slice e)) (hx : a.eval x = .slice A n cap) (h : K (a.put o.dst (.int .i64 (n : Int))) w) : Oper.wp P o a w K Q := by
  have hr : (Builtin.len_ #[t] o.type #[.slice A n cap]).run P w = .ok (goInt n) w := by
    simp [Builtin.len_, run_underlying ht]
  unfold Oper.wp
  simp [execOp, ho, resolve, invoke, builtin, hx, hr, Result.andThen]
  exact h
theorem wp_load_1 {ty : TypeId} {x : Operand} (b f : Nat) (v : Value) (ho : o.op = .load ty x) (hx : a.eval x = .pointer (some ⟨b, f, none⟩)) (hr : (loadVar ty ⟨b, f, none⟩).run P w = .ok v w) (h : K (a.put o.dst v) w) : Oper.wp P o a w K Q := by
  unfold Oper.wp execOp
  simp only [ho, hx, Instr.loadAt, Instr.sureAddr, Sem.run_bind, Sem.run_pure, Result.andThen_ok, hr, Oper.upon_value]
  exact h
end

end Go.Proofs.Ytfommclhnfcioaa

namespace Go.Proofs.Ytfommclhnfcioaa
open Go Go.RowKit
open Sha

theorem results_rowS {P : Program} {fn : Func} {p : Tmp} {ty : TypeId} {fs : Array Field} (h : fn.results = #[.cell p ty]) (tmps : Array Value) (w : World) (g : Nat) (t : TypeId) (cs : List Value)
    (hp : tmps.getD p undef = .pointer (some ⟨g, 0, none⟩)) (hg : Row w g cs t) (hu : P.underlying ty = some (.struct fs)) (hi : (P.info? ty).map (·.size) = some cs.length) :
    (results fn tmps).run P w = .ok (.agg cs.toArray) w :=
  results_cell_row h tmps w g t cs.toArray (0, 0) _ hp hg hu rfl (by simp [hi])
end Go.Proofs.Ytfommclhnfcioaa

namespace Go.Proofs.Ytfommclhnfcioaa
open Go Go.RowKit
open Sha

theorem range_sub {w : World} {b : Nat} {cs l : List Value} {t : TypeId} (h : Row w b cs t) (o n : Nat) (e : (cs.drop o).take n = l) : w.rangeAt b o l := h.range o l (fun j v hj => by
  rw [← e, List.getElem?_take] at hj
  split at hj
  · rwa [List.getElem?_drop] at hj
  · cases hj)
theorem info_20 : (Try.prog.info? 51).map (·.size) = some (vB (List.replicate 20 0#8)).length := by kernel_rfl
theorem info_4 : (Try.prog.info? 125).map (·.size) = some (vQ (List.replicate 4 0)).length := by kernel_rfl
theorem guardA : Try.prog.eqGuardType Try.prog.depth 51 = false := by kernel_rfl
section
variable {P : Program} {ops : Array Oper} {rest : List Oper} {op : Oper} {a : Act} {w : World} {Q : Exit → Act → World → Prop}
theorem wpList_eql_b (hw : Region.wanted op (yielded ops a.tmps) = true) (t : TypeId) (x y : Operand) (yt : TypeId) (ho : op.op = .binOp .eql t x y yt) (e n : Nat) (l r : List (BitVec 8)) (hx : a.eval x = .agg (vB l).toArray) (hy : a.eval y = .agg (vB r).toArray)
    (ht : P.underlying t = some (.array n e)) (he : P.underlying e = some (.int .u8)) (hs : (P.info? e).map (·.size) = some 1) (hl : l.length = n) (hr : r.length = n) (hm : P.eqGuardType P.depth t = false)
    (B : Bool) (hB : decide (l = r) = B) (h : wpList P ops Q rest (a.put op.dst (.bool B)) w) : wpList P ops Q (op :: rest) a w :=
  BigFrame.wpList_want hw fun _ hK => wp_eql_b t x y yt ho e n l r hx hy ht he hs hl hr hm B hB (hK _ _ h)
theorem wpList_eql_q (hw : Region.wanted op (yielded ops a.tmps) = true) (x y : Operand) (yt : TypeId) (ho : op.op = .binOp .eql 125 x y yt) (l r : List Nat) (hl : l.length = 4) (hr : r.length = 4) (hx : a.eval x = .agg (vQ l).toArray) (hy : a.eval y = .agg (vQ r).toArray)
    (B : Bool) (hB : decide (l = r) = B) (h : wpList Try.prog ops Q rest (a.put op.dst (.bool B)) w) : wpList Try.prog ops Q (op :: rest) a w :=
  BigFrame.wpList_want hw fun _ hK => wp_eql_q x y yt ho l r hl hr hx hy B hB (hK _ _ h)
end
/-- A letter's cells. -/
abbrev lt (k t n : Int) : List Value := [.int .i64 (k), .int .i64 (t), .int .u8 0, .int .u8 0, .int .u8 0, .int .u8 0, .int .u8 0, .int .u8 0, .int .u8 0, .int .u8 0, .int .u8 0, .int .u8 0, .int .u8 0, .int .u8 0, .int .u8 0, .int .u8 0, .int .u8 0, .int .u8 0, .int .u8 0, .int .u8 0, .int .u8 0, .int .u8 0, .int .u8 0, .int .u8 0, .int .u8 0, .int .u8 0, .int .u8 0, .int .u8 0, .int .u8 0, .int .u8 0, .int .u8 0, .int .u8 0, .int .u8 0, .int .u8 0, .int .u8 0, .int .u8 0, .int .u8 0, .int .u8 0, .int .u8 0, .int .u8 0, .int .u8 0, .int .u8 0, .int .u64 0, .int .u64 0, .int .u64 0, .int .u64 0, .int .i64 (n), .int .i64 0, .slice none 0 0, .slice none 0 0, .slice none 0 0]
abbrev en (k t : Int) (v : Value) : List Value := [.int .i64 (k), .int .u8 0, .int .u8 0, .int .u8 0, .int .u8 0, .int .u8 0, .int .u8 0, .int .u8 0, .int .u8 0, .int .u8 0, .int .u8 0, .int .u8 0, .int .u8 0, .int .u8 0, .int .u8 0, .int .u8 0, .int .u8 0, .int .u8 0, .int .u8 0, .int .u8 0, .int .u8 0, .int .i64 (t), .int .i64 0, .int .u8 0, .int .u8 0, .int .u8 0, .int .u8 0, .int .u8 0, .int .u8 0, .int .u8 0, .int .u8 0, .int .u8 0, .int .u8 0, .int .u8 0, .int .u8 0, .int .u8 0, .int .u8 0, .int .u8 0, .int .u8 0, .int .u8 0, .int .u8 0, .int .u8 0, .int .u8 0, .int .u64 0, .int .u64 0, .int .u64 0, .int .u64 0, .int .i64 0, v]
end Go.Proofs.Ytfommclhnfcioaa

namespace Go.Proofs.Ytfommclhnfcioaa
open Go Go.RowKit
open Sha


end Go.Proofs.Ytfommclhnfcioaa
