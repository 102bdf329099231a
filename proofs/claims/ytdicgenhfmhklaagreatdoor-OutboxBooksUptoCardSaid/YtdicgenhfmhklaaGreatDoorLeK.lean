/-
  what stands there is read: mathematics of the readers at a form.
-/
import Derived.Test.YtdicgenhfmhklaaGreatDoorXMem
import Derived.Deep.RegionLaw
import Derived.BigRegion
import Derived.Test.YtdicgenhfmhklaaGreatDoorXLaw2
import Derived.Deep.QuietTactic
import Derived.Laws.StructEq
import Derived.Stop.BytesEq
import Derived.Test.YtdicgenhfmhklaaGreatDoorTFp
import Derived.Test.YtdicgenhfmhklaaGreatDoorXWb
import Derived.LoopN
import Derived.Test.YtdicgenhfmhklaaGreatDoorXSeeB
import Derived.Test.YtdicgenhfmhklaaGreatDoorXFm
import Derived.Test.YtdicgenhfmhklaaGreatDoorXRe
import Derived.Deep.CutRange
import Derived.Handy
import Derived.Carry
import Derived.Test.YtdicgenhfmhklaaGreatDoorXFaces

namespace Go.Proofs.YtdicgenhfmhklaaGreatDoor
open Go Go.RowKit
open Sha

theorem stp_fcall {P : Program} {ops : Array Oper} {o : Oper} {a : Act} {w : World} {K : Act → World → Prop} {Q : Exit → Act → World → Prop} {E : Prop} (hg : o.guard = none) (f : FuncId) (args : Array Value) (h : (execOp a.eval o).run P w = .ok (.enter f args) w)
    (hc : Calls P f args w fun e w' => ∃ v, e = .returned v ∧ K (a.put o.dst v) w') : if Region.wanted o (yielded ops a.tmps) = true then Oper.wp P o a w K Q else E := by
  have hw : Region.wanted o (yielded ops a.tmps) = true := by simp [Region.wanted, hg]
  rw [if_pos hw]
  unfold Oper.wp
  rw [h]
  exact hc.mono (fun e w' hk => by obtain ⟨v, he, hk⟩ := hk; subst he; exact hk)

/-- The same, where the function's number is held against the operation first: so that a wrong alternative fails at once. -/
theorem stp_fn {P : Program} {ops : Array Oper} {o : Oper} {a : Act} {w : World} {K : Act → World → Prop} {Q : Exit → Act → World → Prop} {E : Prop} (hg : o.guard = none) (f : FuncId) {xs : Array Operand} {ts : Array TypeId} (_ho : o.op = .call { callee := .value (.func f), args := xs, argTypes := ts }) (args : Array Value) (h : (execOp a.eval o).run P w = .ok (.enter f args) w)
    (hc : Calls P f args w fun e w' => ∃ v, e = .returned v ∧ K (a.put o.dst v) w') : if Region.wanted o (yielded ops a.tmps) = true then Oper.wp P o a w K Q else E := stp_fcall hg f args h hc

end Go.Proofs.YtdicgenhfmhklaaGreatDoor

namespace Go.Proofs.YtdicgenhfmhklaaGreatDoor
open Go Go.RowKit
open Sha

/-- A step's cells. -/
abbrev sc (k N : Int) (v : Value) (m0 m1 m2 m3 : Nat) (u : Value) : List Value := [.int .i64 k, .int .i64 N, v, .int .u64 (m0 : Int), .int .u64 (m1 : Int), .int .u64 (m2 : Int), .int .u64 (m3 : Int), u]
abbrev mx : Int := 9223372036854775807
/-- The form of a value of a kind. -/
def fo (k : Nat) (N : Int) (d : List (BitVec 8)) (m0 m1 m2 m3 : Nat) : List (BitVec 8) :=
  match k with
  | 0 => [BitVec.ofInt 8 N]
  | 1 => [if !(N.tmod 2 == 0) then 1#8 else 0#8]
  | 2 => fm [(pk N mx).toNat, 0, 0, 0] (nb (pk N mx).toNat 0 0 0)
  | 3 => fm [d.length, 0, 0, 0] (nb d.length 0 0 0) ++ d
  | 4 => fm [m0, m1, m2, m3] (nb m0 m1 m2 m3)
  | 5 => dgN 32 d
  | _ => dgN 20 d
theorem c_ofInt (N : Int) : c (BitVec.ofInt 8 N) = N % 256 := by
  show (((BitVec.ofInt 8 N).toNat : Nat) : Int) = _
  rw [BitVec.toNat_ofInt]
  omega
theorem pk_same (k n : Int) (h0 : 0 ≤ k) (h1 : k < n) : pk k n = k := by
  unfold pk; rw [if_neg (by omega)]; exact Int.emod_eq_of_lt h0 h1
theorem Rw_of {P : Nat} : ∀ g, Rw P none 0 [] g → g = P := fun g h => by
  rcases h with h | h
  · exact h
  · simp [Value.ownBlock] at h

end Go.Proofs.YtdicgenhfmhklaaGreatDoor

namespace Go.Proofs.YtdicgenhfmhklaaGreatDoor
open Go Go.RowKit
open Sha

theorem fo_len (k : Nat) (N : Int) (d : List (BitVec 8)) (m0 m1 m2 m3 : Nat) (hd : d.length ≤ 4194200) : 0 < (fo k N d m0 m1 m2 m3).length ∧ (fo k N d m0 m1 m2 m3).length ≤ 4194304 := by
  have q1 := nb_le (pk N mx).toNat 0 0 0
  have q2 := nb_le d.length 0 0 0
  have q3 := nb_le m0 m1 m2 m3
  unfold fo
  split <;> simp only [List.length_append, List.length_singleton, fm_len, dgN_len] <;> omega

end Go.Proofs.YtdicgenhfmhklaaGreatDoor

namespace Go.Proofs.YtdicgenhfmhklaaGreatDoor
open Go Go.RowKit
open Sha

/-- Are two steps of a kind unlike? -/
def ap (k : Nat) (N N' : Int) (d d' : List (BitVec 8)) (m m' : List Nat) : Bool :=
  match k with
  | 0 => !(N % 256 == N' % 256)
  | 1 => !((!(N.tmod 2 == 0)) == (!(N'.tmod 2 == 0)))
  | 2 => !(pk N mx == pk N' mx)
  | 3 => !decide (d = d')
  | 4 => !decide (m = m')
  | 5 => !decide (dgN 32 d = dgN 32 d')
  | _ => !decide (dgN 20 d = dgN 20 d')

theorem drew_b (w : World) (q : Nat) {N : Nat} : Below N w (w.drewN q) := ⟨rfl, rfl, rfl, Nat.le_refl _, fun _ _ => rfl⟩
theorem quiet_same {P : Program} {f : FuncId} {args : Array Value} {w : World} {v : Value} (h : Calls P f args w fun e w' => e = .returned v ∧ w' = w) : Calls P f args w fun e w' => e = .returned v ∧ ∃ m, w' = w.drewN m := h.mono fun _ _ ⟨h1, h2⟩ => ⟨h1, 0, h2⟩

end Go.Proofs.YtdicgenhfmhklaaGreatDoor

namespace Go.Proofs.YtdicgenhfmhklaaGreatDoor
open Go Go.RowKit
open Sha

theorem all_eq : ∀ (xs ys : List Nat), xs.length = ys.length → ((List.range xs.length).all fun i => decide (xs.getD i 0 = ys.getD i 0)) = decide (xs = ys)
  | [], [], _ => by simp
  | [], _ :: _, h => by simp at h
  | _ :: _, [], h => by simp at h
  | x :: xs, y :: ys, h => by
    have ih := all_eq xs ys (by simpa using h)
    rw [List.length_cons, List.range_succ_eq_map, List.all_cons, List.all_map]
    simp only [List.getD_cons_zero, Function.comp_def, List.getD_cons_succ, ih]
    by_cases e : x = y <;> simp [e]

section
variable {P : Program} (w : World)
theorem run_equalIn_vQ (d : Nat) (t e : TypeId) (n : Nat) (ht : P.underlying t = some (.array n e)) (he : P.underlying e = some (.int .u64)) (hsz : ∀ w, (sizeOf e).run P w = .ok 1 w) (xs ys : List Nat) (hx : xs.length = n) (hy : ys.length = n) :
    (Op.equalIn (d + 2) t (.agg (vQ xs).toArray) (.agg (vQ ys).toArray)).run P w = .ok (decide (xs = ys)) w := by
  rw [← all_eq xs ys (hx.trans hy.symm), hx, List.range_eq_range', Op.equalIn]
  simp only [Sem.run_bind, run_underlying ht, Result.andThen_ok, hsz, Std.Legacy.Range.forIn_eq_forIn_range', Std.Legacy.Range.size, Nat.sub_zero, Nat.add_sub_cancel, Nat.div_one]
  have hin : ∀ i ∈ List.range' 0 n 1, i < n := fun i hi => by simpa using (List.mem_range'_1.1 hi).2
  generalize List.range' 0 n 1 = js at hin ⊢
  induction js with
  | nil => simp
  | cons i js ih =>
    have hi : i < n := hin i (by simp)
    have a1 : (part e (vQ xs).toArray (i * 1)).run P w = .ok (.int .u64 ((xs.getD i 0 : Nat) : Int)) w := by
      simp [part, isAgg, run_underlying he, vQ, List.getElem?_eq_getElem (show i < xs.length by omega)]
    have a2 : (part e (vQ ys).toArray (i * 1)).run P w = .ok (.int .u64 ((ys.getD i 0 : Nat) : Int)) w := by
      simp [part, isAgg, run_underlying he, vQ, List.getElem?_eq_getElem (show i < ys.length by omega)]
    have a3 : (Op.equalIn (d + 1) e (.int .u64 ((xs.getD i 0 : Nat) : Int)) (.int .u64 ((ys.getD i 0 : Nat) : Int))).run P w = .ok (decide (xs.getD i 0 = ys.getD i 0)) w := by
      rw [run_equalIn_int w d e .u64 .u64 _ _ he]
      congr 1
      rw [Bool.eq_iff_iff]
      simp only [beq_iff_eq, decide_eq_true_eq]
      omega
    simp only [List.forIn_cons, Sem.run_bind, a1, a2, a3, Result.andThen_ok, List.all_cons]
    generalize decide (xs.getD i 0 = ys.getD i 0) = bd
    cases bd
    · simp
    · simp only [Bool.not_true, Bool.false_eq_true, if_false, Sem.run_pure, Result.andThen_ok, Bool.true_and]
      exact ih fun j hj => hin j (by simp [hj])
end

theorem size_u64 : ∀ w, (sizeOf 36).run Tryz.prog w = .ok 1 w := by
  intro w
  have h : (Tryz.prog.info? 36).map (·.size) = some 1 := by kernel_rfl
  cases hq : Tryz.prog.info? 36 with
  | none => simp [hq] at h
  | some i => have h1 : i.size = 1 := by simpa [hq] using h
              simp [sizeOf, typeInfo, hq, h1]
theorem guard_wide : Tryz.prog.eqGuardType Tryz.prog.depth 38 = false := by kernel_rfl
theorem run_eql_w (w : World) (xs ys : List Nat) (hx : xs.length = 4) (hy : ys.length = 4) : (binOp .eql 38 (.agg (vQ xs).toArray) (.agg (vQ ys).toArray)).run Tryz.prog w = .ok (.bool (decide (xs = ys))) w := by
  rw [run_eql_struct, run_equalIn_vQ w 9998 _ 36 4 Tryz.underlying38 Tryz.underlying36 size_u64 xs ys hx hy]; rfl
theorem run_neq_w (w : World) (xs ys : List Nat) (hx : xs.length = 4) (hy : ys.length = 4) : (binOp .neq 38 (.agg (vQ xs).toArray) (.agg (vQ ys).toArray)).run Tryz.prog w = .ok (.bool (!decide (xs = ys))) w := by
  rw [run_neq_struct, run_equalIn_vQ w 9998 _ 36 4 Tryz.underlying38 Tryz.underlying36 size_u64 xs ys hx hy]; rfl

def toU (l : List (BitVec 8)) : List UInt8 := l.map UInt8.ofBitVec
theorem vB_cell (l : List (BitVec 8)) : vB l = (toU l).map Extern.Stop.cell := by
  unfold vB toU; rw [List.map_map]; rfl
theorem toU_length (l : List (BitVec 8)) : (toU l).length = l.length := by simp [toU]
theorem toU_inj {l r : List (BitVec 8)} (h : toU l = toU r) : l = r := by
  unfold toU at h
  exact (List.map_inj_right (fun x y h => congrArg UInt8.toBitVec h)).1 h
theorem toU_beq (l r : List (BitVec 8)) : (toU l == toU r) = decide (l = r) := by
  rw [Bool.eq_iff_iff]; simp only [beq_iff_eq, decide_eq_true_eq]
  exact ⟨toU_inj, fun h => by rw [h]⟩

section
variable {P : Program} {o : Oper} {a : Act} {w : World} {K : Act → World → Prop} {Q : Exit → Act → World → Prop}
theorem run_neq_vB (w : World) (t e : TypeId) (n : Nat) (ht : P.underlying t = some (.array n e)) (he : P.underlying e = some (.int .u8)) (hs : (P.info? e).map (·.size) = some 1) (l r : List (BitVec 8)) (hl : l.length = n) (hr : r.length = n) :
    (binOp .neq t (.agg (vB l).toArray) (.agg (vB r).toArray)).run P w = .ok (.bool (!decide (l = r))) w := by
  have hsz : ∀ w, (sizeOf e).run P w = .ok 1 w := by
    intro w
    cases hq : P.info? e with
    | none => simp [hq] at hs
    | some i => have h1 : i.size = 1 := by simpa [hq] using hs
                simp [sizeOf, typeInfo, hq, h1]
  rw [vB_cell, vB_cell, run_neq_struct, run_equalIn_bytes w 9998 t e n ht he hsz (toU l) (toU r) (by rw [toU_length, hl]) (by rw [toU_length, hr])]
  simp [← toU_beq]
end

end Go.Proofs.YtdicgenhfmhklaaGreatDoor

namespace Go.Proofs.YtdicgenhfmhklaaGreatDoor
open Go Go.RowKit
open Sha

theorem run_load_i (w : World) (b f : Nat) (v : Value) (h : w.cell? ⟨b, f, none⟩ = some v) : (loadVar 3 ⟨b, f, none⟩).run Tryz.prog w = .ok v w := by
  simp [loadVar, isAgg, run_underlying Tryz.underlying3, h]
section
variable {P : Program} {o : Oper} {a : Act} {w : World} {K : Act → World → Prop} {Q : Exit → Act → World → Prop}
theorem run_eql_vB (w : World) (t e : TypeId) (n : Nat) (ht : P.underlying t = some (.array n e)) (he : P.underlying e = some (.int .u8)) (hs : (P.info? e).map (·.size) = some 1) (l r : List (BitVec 8)) (hl : l.length = n) (hr : r.length = n) :
    (binOp .eql t (.agg (vB l).toArray) (.agg (vB r).toArray)).run P w = .ok (.bool (decide (l = r))) w := by
  have hsz : ∀ w, (sizeOf e).run P w = .ok 1 w := by
    intro w
    cases hq : P.info? e with
    | none => simp [hq] at hs
    | some i => have h1 : i.size = 1 := by simpa [hq] using hs
                simp [sizeOf, typeInfo, hq, h1]
  rw [vB_cell, vB_cell, run_eql_struct, run_equalIn_bytes w 9998 t e n ht he hsz (toU l) (toU r) (by rw [toU_length, hl]) (by rw [toU_length, hr])]
  simp [← toU_beq]
theorem wp_eql_b (t : TypeId) (x y : Operand) (yt : TypeId) (ho : o.op = .binOp .eql t x y yt) (e n : Nat) (l r : List (BitVec 8)) (hx : a.eval x = .agg (vB l).toArray) (hy : a.eval y = .agg (vB r).toArray)
    (ht : P.underlying t = some (.array n e)) (he : P.underlying e = some (.int .u8)) (hs : (P.info? e).map (·.size) = some 1) (hl : l.length = n) (hr : r.length = n) (hm : P.eqGuardType P.depth t = false)
    (B : Bool) (hB : decide (l = r) = B) (h : K (a.put o.dst (.bool B)) w) : Oper.wp P o a w K Q := by
  subst hB
  unfold Oper.wp execOp
  simp only [ho, hx, hy, Sem.run_bind, run_eqGuard_agg w .eql t x y _ _ hm, Result.andThen_ok, run_eql_vB w t e n ht he hs l r hl hr, Sem.run_pure, Oper.upon_value]
  exact h
theorem wp_eql_q (x y : Operand) (yt : TypeId) (ho : o.op = .binOp .eql 38 x y yt) (l r : List Nat) (hl : l.length = 4) (hr : r.length = 4) (hx : a.eval x = .agg (vQ l).toArray) (hy : a.eval y = .agg (vQ r).toArray) (B : Bool) (hB : decide (l = r) = B)
    (h : K (a.put o.dst (.bool B)) w) : Oper.wp Tryz.prog o a w K Q := by
  subst hB
  unfold Oper.wp execOp
  simp only [ho, hx, hy, Sem.run_bind, run_eqGuard_agg w .eql _ x y _ _ guard_wide, Result.andThen_ok, run_eql_w w l r hl hr, Sem.run_pure, Oper.upon_value]
  exact h
theorem wp_pick_f {c x y : Operand} (v : Value) (ho : o.op = .pick c x y) (hc : a.eval c = .bool false) (hy : a.eval y = v) (h : K (a.put o.dst v) w) : Oper.wp P o a w K Q := by
  unfold Oper.wp execOp
  simp only [ho, hc, hy]
  simp [go_sem]
  exact h
theorem wp_not_v {x : Operand} {t : TypeId} {B : Bool} (ho : o.op = .unOp .not t x) (hx : a.eval x = .bool B) (h : K (a.put o.dst (.bool (!B))) w) : Oper.wp P o a w K Q := by
  unfold Oper.wp execOp
  simp only [ho, hx]
  simp [go_sem]
  exact h
theorem wp_len_s {x : Operand} (t e : TypeId) (A : Option Addr) (n cap : Nat) (ho : o.op = .call { callee := .builtin .len, args := #[x], argTypes := #[t] }) (ht : P.underlying t = some (.slice e)) (hx : a.eval x = .slice A n cap) (h : K (a.put o.dst (.int .i64 (n : Int))) w) : Oper.wp P o a w K Q := by
  have hr : (Builtin.len_ #[t] o.type #[.slice A n cap]).run P w = .ok (goInt n) w := by
    simp [Builtin.len_, run_underlying ht]
  unfold Oper.wp
  simp [execOp, ho, resolve, invoke, builtin, hx, hr, Result.andThen]
  exact h
theorem wp_load_1 {ty : TypeId} {x : Operand} (b f : Nat) (v : Value) (ho : o.op = .load ty x) (hx : a.eval x = .pointer (some ⟨b, f, none⟩)) (hr : (loadVar ty ⟨b, f, none⟩).run P w = .ok v w) (h : K (a.put o.dst v) w) : Oper.wp P o a w K Q := by
  unfold Oper.wp execOp
  simp only [ho, hx, Instr.loadAt, Instr.sureAddr, Sem.run_bind, Sem.run_pure, Result.andThen_ok, hr, Oper.upon_value]
  exact h
end

end Go.Proofs.YtdicgenhfmhklaaGreatDoor

namespace Go.Proofs.YtdicgenhfmhklaaGreatDoor
open Go Go.RowKit
open Sha

theorem results_rowS {P : Program} {fn : Func} {p : Tmp} {ty : TypeId} {fs : Array Field} (h : fn.results = #[.cell p ty]) (tmps : Array Value) (w : World) (g : Nat) (t : TypeId) (cs : List Value)
    (hp : tmps.getD p undef = .pointer (some ⟨g, 0, none⟩)) (hg : Row w g cs t) (hu : P.underlying ty = some (.struct fs)) (hi : (P.info? ty).map (·.size) = some cs.length) :
    (results fn tmps).run P w = .ok (.agg cs.toArray) w :=
  results_cell_row h tmps w g t cs.toArray (0, 0) _ hp hg hu rfl (by simp [hi])
end Go.Proofs.YtdicgenhfmhklaaGreatDoor

namespace Go.Proofs.YtdicgenhfmhklaaGreatDoor
open Go Go.RowKit
open Sha

theorem range_sub {w : World} {b : Nat} {cs l : List Value} {t : TypeId} (h : Row w b cs t) (o n : Nat) (e : (cs.drop o).take n = l) : w.rangeAt b o l := h.range o l (fun j v hj => by
  rw [← e, List.getElem?_take] at hj
  split at hj
  · rwa [List.getElem?_drop] at hj
  · cases hj)
theorem info_20 : (Tryz.prog.info? 35).map (·.size) = some (vB (List.replicate 20 0#8)).length := by kernel_rfl
theorem info_4 : (Tryz.prog.info? 38).map (·.size) = some (vQ (List.replicate 4 0)).length := by kernel_rfl
theorem guardA : Tryz.prog.eqGuardType Tryz.prog.depth 35 = false := by kernel_rfl
section
variable {P : Program} {ops : Array Oper} {rest : List Oper} {op : Oper} {a : Act} {w : World} {Q : Exit → Act → World → Prop}
theorem wpList_eql_b (hw : Region.wanted op (yielded ops a.tmps) = true) (t : TypeId) (x y : Operand) (yt : TypeId) (ho : op.op = .binOp .eql t x y yt) (e n : Nat) (l r : List (BitVec 8)) (hx : a.eval x = .agg (vB l).toArray) (hy : a.eval y = .agg (vB r).toArray)
    (ht : P.underlying t = some (.array n e)) (he : P.underlying e = some (.int .u8)) (hs : (P.info? e).map (·.size) = some 1) (hl : l.length = n) (hr : r.length = n) (hm : P.eqGuardType P.depth t = false)
    (B : Bool) (hB : decide (l = r) = B) (h : wpList P ops Q rest (a.put op.dst (.bool B)) w) : wpList P ops Q (op :: rest) a w :=
  BigFrame.wpList_want hw fun _ hK => wp_eql_b t x y yt ho e n l r hx hy ht he hs hl hr hm B hB (hK _ _ h)
theorem wpList_eql_q (hw : Region.wanted op (yielded ops a.tmps) = true) (x y : Operand) (yt : TypeId) (ho : op.op = .binOp .eql 38 x y yt) (l r : List Nat) (hl : l.length = 4) (hr : r.length = 4) (hx : a.eval x = .agg (vQ l).toArray) (hy : a.eval y = .agg (vQ r).toArray)
    (B : Bool) (hB : decide (l = r) = B) (h : wpList Tryz.prog ops Q rest (a.put op.dst (.bool B)) w) : wpList Tryz.prog ops Q (op :: rest) a w :=
  BigFrame.wpList_want hw fun _ hK => wp_eql_q x y yt ho l r hl hr hx hy B hB (hK _ _ h)
end
/-- A letter's cells. -/
abbrev lt (k t n : Int) : List Value := [.int .i64 (k), .int .i64 (t), .int .u8 0, .int .u8 0, .int .u8 0, .int .u8 0, .int .u8 0, .int .u8 0, .int .u8 0, .int .u8 0, .int .u8 0, .int .u8 0, .int .u8 0, .int .u8 0, .int .u8 0, .int .u8 0, .int .u8 0, .int .u8 0, .int .u8 0, .int .u8 0, .int .u8 0, .int .u8 0, .int .u8 0, .int .u8 0, .int .u8 0, .int .u8 0, .int .u8 0, .int .u8 0, .int .u8 0, .int .u8 0, .int .u8 0, .int .u8 0, .int .u8 0, .int .u8 0, .int .u8 0, .int .u8 0, .int .u8 0, .int .u8 0, .int .u8 0, .int .u8 0, .int .u8 0, .int .u8 0, .int .u64 0, .int .u64 0, .int .u64 0, .int .u64 0, .int .i64 (n), .int .i64 0, .slice none 0 0, .slice none 0 0, .slice none 0 0]
abbrev en (k t : Int) (v : Value) : List Value := [.int .i64 (k), .int .u8 0, .int .u8 0, .int .u8 0, .int .u8 0, .int .u8 0, .int .u8 0, .int .u8 0, .int .u8 0, .int .u8 0, .int .u8 0, .int .u8 0, .int .u8 0, .int .u8 0, .int .u8 0, .int .u8 0, .int .u8 0, .int .u8 0, .int .u8 0, .int .u8 0, .int .u8 0, .int .i64 (t), .int .i64 0, .int .u8 0, .int .u8 0, .int .u8 0, .int .u8 0, .int .u8 0, .int .u8 0, .int .u8 0, .int .u8 0, .int .u8 0, .int .u8 0, .int .u8 0, .int .u8 0, .int .u8 0, .int .u8 0, .int .u8 0, .int .u8 0, .int .u8 0, .int .u8 0, .int .u8 0, .int .u8 0, .int .u64 0, .int .u64 0, .int .u64 0, .int .u64 0, .int .i64 0, v]
end Go.Proofs.YtdicgenhfmhklaaGreatDoor

namespace Go.Proofs.YtdicgenhfmhklaaGreatDoor
open Go Go.RowKit
open Sha


end Go.Proofs.YtdicgenhfmhklaaGreatDoor

namespace Go.Proofs.YtdicgenhfmhklaaGreatDoor
open Go Go.RowKit
open Sha

theorem bits_in : ∀ m x : Nat, x < 2 ^ m → m ≤ 64 → x ≠ 0 → 2 ^ (Lib.bitLen x - 1) ≤ x ∧ x < 2 ^ Lib.bitLen x ∧ 1 ≤ Lib.bitLen x
  | 0, x, h, _, h0 => by simp at h; omega
  | m + 1, x, h, hm, h0 => by
    have h64 : x < 2 ^ 64 := Nat.lt_of_lt_of_le h (Nat.pow_le_pow_right (by decide) hm)
    have e := Lib.bitLen_half x h0 h64
    by_cases h1 : x / 2 = 0
    · have hx : x = 1 := by omega
      subst hx
      decide
    · have h2 : x / 2 < 2 ^ m := by rw [Nat.pow_succ] at h; omega
      obtain ⟨i1, i2, i3⟩ := bits_in m (x / 2) h2 (by omega) h1
      rw [e]
      have e1 : 1 + Lib.bitLen (x / 2) - 1 = (Lib.bitLen (x / 2) - 1) + 1 := by omega
      rw [e1, Nat.pow_succ, show 1 + Lib.bitLen (x / 2) = Lib.bitLen (x / 2) + 1 by omega, Nat.pow_succ]
      exact ⟨by omega, by omega, by omega⟩
theorem bl_in (x : Nat) (h : x < 18446744073709551616) (h0 : x ≠ 0) : 1 ≤ bl x ∧ bl x ≤ 8 ∧ 256 ^ (bl x - 1) ≤ x ∧ x < 256 ^ bl x := by
  obtain ⟨i1, i2, i3⟩ := bits_in 64 x h (Nat.le_refl _) h0
  have h8 : bl x ≤ 8 := bl_le x
  have e1 : ∀ m, (256 : Nat) ^ m = 2 ^ (8 * m) := fun m => by rw [Nat.pow_mul]
  have hb : 1 ≤ bl x := by unfold bl; omega
  refine ⟨hb, h8, ?_, ?_⟩
  · rw [e1]
    exact Nat.le_trans (Nat.pow_le_pow_right (by decide) (by unfold bl; omega)) i1
  · rw [e1]
    exact Nat.lt_of_lt_of_le i2 (Nat.pow_le_pow_right (by decide) (by unfold bl; omega))
/-- A part against the number of bytes. -/
theorem nb_parts (a b c d : Nat) (ha : a < 18446744073709551616) (hb : b < 18446744073709551616) (hc : c < 18446744073709551616) (hd : d < 18446744073709551616) (j : Nat) (hj : j < 4) :
    8 * j + 8 ≤ nb a b c d ∨ [a, b, c, d].getD j 0 < 256 ^ (nb a b c d - 8 * j) := by
  unfold nb
  by_cases h3 : d ≠ 0
  · rw [if_pos h3]
    obtain ⟨q1, q2, _, q4⟩ := bl_in d hd h3
    rcases (show j = 0 ∨ j = 1 ∨ j = 2 ∨ j = 3 by omega) with rfl | rfl | rfl | rfl
    · exact .inl (by omega)
    · exact .inl (by omega)
    · exact .inl (by omega)
    · exact .inr (by show d < _; rw [show 24 + bl d - 8 * 3 = bl d by omega]; exact q4)
  rw [if_neg h3]
  have d0 : d = 0 := by omega
  by_cases h2 : c ≠ 0
  · rw [if_pos h2]
    obtain ⟨q1, q2, _, q4⟩ := bl_in c hc h2
    rcases (show j = 0 ∨ j = 1 ∨ j = 2 ∨ j = 3 by omega) with rfl | rfl | rfl | rfl
    · exact .inl (by omega)
    · exact .inl (by omega)
    · exact .inr (by show c < _; rw [show 16 + bl c - 8 * 2 = bl c by omega]; exact q4)
    · exact .inr (by show d < _; rw [d0]; exact Nat.pow_pos (by decide))
  rw [if_neg h2]
  have c0 : c = 0 := by omega
  by_cases h1 : b ≠ 0
  · rw [if_pos h1]
    obtain ⟨q1, q2, _, q4⟩ := bl_in b hb h1
    rcases (show j = 0 ∨ j = 1 ∨ j = 2 ∨ j = 3 by omega) with rfl | rfl | rfl | rfl
    · exact .inl (by omega)
    · exact .inr (by show b < _; rw [show 8 + bl b - 8 * 1 = bl b by omega]; exact q4)
    · exact .inr (by show c < _; rw [c0]; exact Nat.pow_pos (by decide))
    · exact .inr (by show d < _; rw [d0]; exact Nat.pow_pos (by decide))
  rw [if_neg h1]
  have b0 : b = 0 := by omega
  by_cases h0 : a ≠ 0
  · rw [if_pos h0]
    obtain ⟨q1, q2, _, q4⟩ := bl_in a ha h0
    rcases (show j = 0 ∨ j = 1 ∨ j = 2 ∨ j = 3 by omega) with rfl | rfl | rfl | rfl
    · exact .inr (by show a < _; rw [show bl a - 8 * 0 = bl a by omega]; exact q4)
    · exact .inr (by show b < _; rw [b0]; exact Nat.pow_pos (by decide))
    · exact .inr (by show c < _; rw [c0]; exact Nat.pow_pos (by decide))
    · exact .inr (by show d < _; rw [d0]; exact Nat.pow_pos (by decide))
  · rw [if_neg h0]
    have a0 : a = 0 := by omega
    rcases (show j = 0 ∨ j = 1 ∨ j = 2 ∨ j = 3 by omega) with rfl | rfl | rfl | rfl
    · exact .inr (by show a < _; rw [a0]; exact Nat.pow_pos (by decide))
    · exact .inr (by show b < _; rw [b0]; exact Nat.pow_pos (by decide))
    · exact .inr (by show c < _; rw [c0]; exact Nat.pow_pos (by decide))
    · exact .inr (by show d < _; rw [d0]; exact Nat.pow_pos (by decide))
/-- The first byte is no nought. -/
theorem nb_top (a b c d : Nat) (ha : a < 18446744073709551616) (hb : b < 18446744073709551616) (hc : c < 18446744073709551616) (hd : d < 18446744073709551616) (h : 0 < nb a b c d) : (fb [a, b, c, d] (nb a b c d - 1)).toNat ≠ 0 := by
  have key : ∀ (x J m : Nat), x < 18446744073709551616 → x ≠ 0 → m = 8 * J + bl x → [a, b, c, d].getD J 0 = x → (fb [a, b, c, d] (m - 1)).toNat ≠ 0 := fun x J m hx h0 hm hg => by
    obtain ⟨q1, q2, q3, q4⟩ := bl_in x hx h0
    unfold fb
    rw [BitVec.toNat_ofNat, show (m - 1) / 8 = J by omega, hg, show (m - 1) % 8 * 8 = 8 * (bl x - 1) by omega, Nat.pow_mul, show (2 : Nat) ^ 8 = 256 from rfl]
    have hp : 0 < (256 : Nat) ^ (bl x - 1) := Nat.pow_pos (by decide)
    have e1 : (256 : Nat) ^ bl x = 256 ^ (bl x - 1) * 256 := by rw [← Nat.pow_succ]; congr 1; omega
    have h1 : 1 ≤ x / 256 ^ (bl x - 1) := (Nat.le_div_iff_mul_le hp).2 (by omega)
    have h2 : x / 256 ^ (bl x - 1) < 256 := Nat.div_lt_of_lt_mul (by rw [← e1]; exact q4)
    rw [Nat.mod_eq_of_lt h2]
    omega
  have hnb := h
  unfold nb at hnb ⊢
  by_cases h3 : d ≠ 0
  · rw [if_pos h3]; exact key d 3 _ hd h3 (by omega) rfl
  rw [if_neg h3] at hnb ⊢
  by_cases h2 : c ≠ 0
  · rw [if_pos h2]; exact key c 2 _ hc h2 (by omega) rfl
  rw [if_neg h2] at hnb ⊢
  by_cases h1 : b ≠ 0
  · rw [if_pos h1]; exact key b 1 _ hb h1 (by omega) rfl
  rw [if_neg h1] at hnb ⊢
  by_cases h0 : a ≠ 0
  · rw [if_pos h0]; exact key a 0 _ ha h0 (by omega) rfl
  · rw [if_neg h0] at hnb; omega
theorem lb_of (bs : List (BitVec 8)) (e j x : Nat) : ∀ t, 8 * j ≤ t → t ≤ 8 * j + 8 → (∀ i, 8 * j ≤ i → i < t → at8 bs (e - 1 - i) = x / 256 ^ (i - 8 * j) % 256) → lb bs e j t = x % 256 ^ (t - 8 * j)
  | 0, h1, _, _ => by simp [lb, Nat.mod_one]
  | t + 1, h1, h2, hd => by
    by_cases q : t + 1 = 8 * j
    · rw [lb_none bs e j (t + 1) (by omega), q, Nat.sub_self, Nat.pow_zero, Nat.mod_one]
    have ih := lb_of bs e j x t (by omega) (by omega) (fun i h h' => hd i h (by omega))
    have e1 : lb bs e j (t + 1) = lb bs e j t + at8 bs (e - 1 - t) * 256 ^ (t - 8 * j) := by
      show (if t / 8 = j then _ else _) = _
      rw [if_pos (by omega), show t % 8 = t - 8 * j by omega]
    rw [e1, ih, hd t (by omega) (by omega), show t + 1 - 8 * j = (t - 8 * j) + 1 by omega, Nat.pow_succ, Nat.mod_mul, Nat.mul_comm (256 ^ (t - 8 * j))]
/-- A form that stands there is read. -/
theorem read_form (a b c d : Nat) (ha : a < 18446744073709551616) (hb : b < 18446744073709551616) (hc : c < 18446744073709551616) (hd : d < 18446744073709551616) (most : Nat) (bs : List (BitVec 8)) (p : Nat) (k : Nat) (hk : k = nb a b c d) (hm : k ≤ most) (hl : p + (1 + k) ≤ bs.length) (hs : sub bs p (1 + k) = fm [a, b, c, d] k) :
    at8 bs p = k ∧ hiF most bs p = 0 ∧ ∀ j, j < 4 → lb bs (p + 1 + k) j k = [a, b, c, d].getD j 0 := by
  have k32 : k ≤ 32 := by rw [hk]; exact nb_le a b c d
  have hat : ∀ i (hi : i < 1 + k), at8 bs (p + i) = ((fm [a, b, c, d] k)[i]'(by rw [fm_len]; omega)).toNat := fun i hi => by
    have h1 := sub_get bs p (1 + k) i hi
    rw [hs, List.getElem?_eq_getElem (by rw [fm_len]; omega)] at h1
    unfold at8
    rw [List.getD_eq_getElem?_getD, ← h1]
    rfl
  have h0 : at8 bs p = k := by
    have := hat 0 (by omega)
    rw [Nat.add_zero] at this
    rw [this]
    simp only [fm, List.getElem_cons_zero, BitVec.toNat_ofNat]
    exact Nat.mod_eq_of_lt (by omega)
  have hi : ∀ i, i < k → at8 bs (p + 1 + k - 1 - i) = (fb [a, b, c, d] i).toNat := fun i hi => by
    have := hat (k - i) (by omega)
    rw [show p + 1 + k - 1 - i = p + (k - i) by omega, this]
    have e : k - i = (k - 1 - i) + 1 := by omega
    simp only [e]
    simp only [fm, List.getElem_cons_succ, List.getElem_map, List.getElem_range]
    rw [show k - 1 - (k - 1 - i) = i by omega]
  refine ⟨h0, ?_, fun j hj => ?_⟩
  · unfold hiF
    rw [h0, if_neg (by omega), if_neg (by omega), if_neg (by omega), if_neg]
    rintro ⟨q1, q2⟩
    have := hi (k - 1) (by omega)
    rw [show p + 1 + k - 1 - (k - 1) = p + 1 by omega, q2] at this
    have ht := nb_top a b c d ha hb hc hd (by rw [← hk]; exact q1)
    rw [← hk] at ht
    exact ht this.symm
  · have hdig : ∀ i, 8 * j ≤ i → i < 8 * j + 8 → i < k → at8 bs (p + 1 + k - 1 - i) = [a, b, c, d].getD j 0 / 256 ^ (i - 8 * j) % 256 := fun i h1 h2 h3 => by
      rw [hi i h3]
      unfold fb
      rw [BitVec.toNat_ofNat, show i / 8 = j by omega, show i % 8 * 8 = 8 * (i - 8 * j) by omega, Nat.pow_mul]
    rcases nb_parts a b c d ha hb hc hd j hj with q | q
    · rw [← hk] at q
      rw [lb_stay bs _ j k (by omega), lb_of bs _ j ([a, b, c, d].getD j 0) (8 * j + 8) (by omega) (Nat.le_refl _) (fun i h1 h2 => hdig i h1 (by omega) (by omega))]
      rw [show 8 * j + 8 - 8 * j = 8 by omega]
      apply Nat.mod_eq_of_lt
      have e8 : (256 : Nat) ^ 8 = 18446744073709551616 := by decide
      rw [e8]
      rcases (show j = 0 ∨ j = 1 ∨ j = 2 ∨ j = 3 by omega) with rfl | rfl | rfl | rfl
      · exact ha
      · exact hb
      · exact hc
      · exact hd
    · rw [← hk] at q
      by_cases q2 : k ≤ 8 * j
      · rw [lb_none bs _ j k q2]
        rw [show k - 8 * j = 0 by omega, Nat.pow_zero] at q
        omega
      · by_cases q3 : k ≤ 8 * j + 8
        · rw [lb_of bs _ j ([a, b, c, d].getD j 0) k (by omega) q3 (fun i h1 h2 => hdig i h1 (by omega) h2)]
          exact Nat.mod_eq_of_lt q
        · rw [lb_stay bs _ j k (by omega), lb_of bs _ j ([a, b, c, d].getD j 0) (8 * j + 8) (by omega) (Nat.le_refl _) (fun i h1 h2 => hdig i h1 (by omega) (by omega))]
          rw [show 8 * j + 8 - 8 * j = 8 by omega]
          apply Nat.mod_eq_of_lt
          have e8 : (256 : Nat) ^ 8 = 18446744073709551616 := by decide
          rw [e8]
          rcases (show j = 0 ∨ j = 1 ∨ j = 2 ∨ j = 3 by omega) with rfl | rfl | rfl | rfl
          · exact ha
          · exact hb
          · exact hc
          · exact hd
theorem read_num (n : Nat) (hn : n ≤ 9223372036854775807) (bs : List (BitVec 8)) (p k : Nat) (hk : k = nb n 0 0 0) (hl : p + (1 + k) ≤ bs.length) (hs : sub bs p (1 + k) = fm [n, 0, 0, 0] k) : at8 bs p = k ∧ nuE bs p = 0 ∧ nuW bs p = n := by
  have k8 : k ≤ 8 := by
    rw [hk]; unfold nb
    rw [if_neg (by simp), if_neg (by simp), if_neg (by simp)]
    split
    · exact bl_le n
    · omega
  obtain ⟨h1, h2, h3⟩ := read_form n 0 0 0 (by omega) (by decide) (by decide) (by decide) 8 bs p k hk k8 hl hs
  have e : nuW bs p = n := by
    unfold nuW
    rw [h1]; exact h3 0 (by decide)
  refine ⟨h1, ?_, e⟩
  unfold nuE
  rw [if_pos h2, e, if_neg (by omega)]

end Go.Proofs.YtdicgenhfmhklaaGreatDoor

namespace Go.Proofs.YtdicgenhfmhklaaGreatDoor
open Go Go.RowKit
open Sha

/-- An entry's cells. -/
def ent (k : Int) (sd : List (BitVec 8)) (tm tk : Int) (rc : List (BitVec 8)) (am : List Nat) (gs : Int) (v : Value) : List Value :=
  .int .i64 k :: (vB sd ++ (.int .i64 tm :: .int .i64 tk :: (vB rc ++ (vQ am ++ [.int .i64 gs, v]))))
section
variable {k tm tk gs : Int} {sd rc : List (BitVec 8)} {am : List Nat} {v : Value} {b : Nat} {w : World}
theorem vQ_len (l : List Nat) : (vQ l).length = l.length := by simp [vQ]
theorem app_at (xs ys : List Value) (n i : Nat) (h : xs.length = n) : (xs ++ ys)[n + i]? = ys[i]? := by
  rw [List.getElem?_append_right (by omega), h, Nat.add_sub_cancel_left]
theorem ent_mid (h1 : sd.length = 20) (i : Nat) : (ent k sd tm tk rc am gs v)[21 + i]? = (Value.int .i64 tm :: .int .i64 tk :: (vB rc ++ (vQ am ++ [.int .i64 gs, v])))[i]? := by
  rw [show 21 + i = (20 + i) + 1 by omega]
  exact app_at (vB sd) _ 20 i (by rw [vB_length, h1])
theorem ent_to (h1 : sd.length = 20) (i : Nat) : (ent k sd tm tk rc am gs v)[23 + i]? = (vB rc ++ (vQ am ++ [.int .i64 gs, v]))[i]? := by
  rw [show 23 + i = 21 + (i + 1 + 1) by omega, ent_mid h1]
  rfl
theorem ent_am (h1 : sd.length = 20) (h2 : rc.length = 20) (i : Nat) : (ent k sd tm tk rc am gs v)[43 + i]? = (vQ am ++ [.int .i64 gs, v])[i]? := by
  rw [show 43 + i = 23 + (20 + i) by omega, ent_to h1]
  exact app_at (vB rc) _ 20 i (by rw [vB_length, h2])
theorem ent_gs (h1 : sd.length = 20) (h2 : rc.length = 20) (h3 : am.length = 4) (i : Nat) : (ent k sd tm tk rc am gs v)[47 + i]? = ([.int .i64 gs, v] : List Value)[i]? := by
  rw [show 47 + i = 43 + (4 + i) by omega, ent_am h1 h2]
  exact app_at (vQ am) _ 4 i (by rw [vQ_len, h3])
end
section
variable {ops : Array Oper} {rest : List Oper} {op : Oper} {a : Act} {w : World} {Q : Exit → Act → World → Prop}
theorem wpList_neq_q (hw : Region.wanted op (yielded ops a.tmps) = true) (x y : Operand) (yt : TypeId) (ho : op.op = .binOp .neq 38 x y yt) (l r : List Nat) (hl : l.length = 4) (hr : r.length = 4) (hx : a.eval x = .agg (vQ l).toArray) (hy : a.eval y = .agg (vQ r).toArray)
    (B : Bool) (hB : (!decide (l = r)) = B) (h : wpList Tryz.prog ops Q rest (a.put op.dst (.bool B)) w) : wpList Tryz.prog ops Q (op :: rest) a w :=
  BigFrame.wpList_want hw fun _ hK => by
    subst hB
    unfold Oper.wp execOp
    simp only [ho, hx, hy, Sem.run_bind, run_eqGuard_agg w .neq _ x y _ _ guard_wide, Result.andThen_ok, run_neq_w w l r hl hr, Sem.run_pure, Oper.upon_value]
    exact hK _ _ h
end
end Go.Proofs.YtdicgenhfmhklaaGreatDoor

namespace Go.Proofs.YtdicgenhfmhklaaGreatDoor
open Go Go.RowKit
open Sha

end Go.Proofs.YtdicgenhfmhklaaGreatDoor

namespace Go.Proofs.YtdicgenhfmhklaaGreatDoor
open Go Go.RowKit
open Sha

/-- A writer without a fault, made behind w0. -/
def Wm (w0 w : World) (P : Nat) (bs : List (BitVec 8)) : Prop := ∃ A cap, Wr w P A cap bs 0 ∧ Fresh w0.heap.size (.slice A bs.length cap) ∧ w0.heap.size ≤ P ∧ Below w0.heap.size w0 w
theorem Wm.below {w0 w : World} {P : Nat} {bs : List (BitVec 8)} (h : Wm w0 w P bs) : Below w0.heap.size w0 w := by
  obtain ⟨_, _, _, _, _, h⟩ := h
  exact h
theorem Wm.on {w0 w w' : World} {P : Nat} {A A' : Option Addr} {cap cap' : Nat} {bs cs : List (BitVec 8)} (h : Fresh w0.heap.size (.slice A bs.length cap)) (hP : w0.heap.size ≤ P) (hB : Below w0.heap.size w0 w)
    (hw : Wr w' P A' cap' cs 0) (hf : Frm (.slice A bs.length cap) w.heap.size (.slice A' cs.length cap')) (hG : Gro (fun g => g = P ∨ (Value.slice A bs.length cap).ownBlock = some g) w w') : Wm w0 w' P cs :=
  ⟨A', cap', hw, fun g e => by
    rcases hf g e with q | q
    · exact h g q
    · exact Nat.le_trans hB.size q, hP, hB.trans (hG.to_below hB.size (fun k q => by
    rcases q with q | q
    · rw [q]; exact hP
    · exact h k q))⟩
theorem Wm.lays {w0 w w' : World} {P : Nat} {A : Option Addr} {cap : Nat} {bs d cs : List (BitVec 8)} (h : Fresh w0.heap.size (.slice A bs.length cap)) (hP : w0.heap.size ≤ P) (hB : Below w0.heap.size w0 w)
    (hb : Beh w w' P A cap bs 0 d) (e1 : wrB bs 0 d = cs) (e2 : wrF bs 0 d = 0) : Wm w0 w' P cs := by
  obtain ⟨⟨A', cap', hw, hf⟩, hG⟩ := hb
  rw [e1, e2] at hw
  rw [e1] at hf
  exact Wm.on h hP hB hw hf hG

end Go.Proofs.YtdicgenhfmhklaaGreatDoor

namespace Go.Proofs.YtdicgenhfmhklaaGreatDoor
open Go Go.RowKit
open Sha

theorem boxed (L : List Value) (t : TypeId) (w : World) : ∃ W, W = w.alloc (Obj.cells L.toArray t) ∧ Row W w.heap.size L t ∧ Below w.heap.size w W := ⟨_, rfl, Row.new' rfl rfl, (Below.refl _ _).alloc (Nat.le_refl _) _⟩

end Go.Proofs.YtdicgenhfmhklaaGreatDoor

namespace Go.Proofs.YtdicgenhfmhklaaGreatDoor
open Go Go.RowKit
open Sha


end Go.Proofs.YtdicgenhfmhklaaGreatDoor

namespace Go.Proofs.YtdicgenhfmhklaaGreatDoor
open Go Go.RowKit
open Sha

theorem stp_gn {P : Program} {ops : Array Oper} {o : Oper} {a : Act} {w : World} {K : Act → World → Prop} {Q : Exit → Act → World → Prop} {E : Prop} (hw : Region.wanted o (yielded ops a.tmps) = true) (f : FuncId) {xs : Array Operand} {ts : Array TypeId} (_ho : o.op = .call { callee := .value (.func f), args := xs, argTypes := ts }) (args : Array Value) (h : (execOp a.eval o).run P w = .ok (.enter f args) w)
    (hc : Calls P f args w fun e w' => ∃ v, e = .returned v ∧ K (a.put o.dst v) w') : if Region.wanted o (yielded ops a.tmps) = true then Oper.wp P o a w K Q else E := by
  rw [if_pos hw]
  unfold Oper.wp
  rw [h]
  exact hc.mono (fun e w' hk => by obtain ⟨v, he, hk⟩ := hk; subst he; exact hk)
theorem stp_load {P : Program} {ops : Array Oper} {o : Oper} {a : Act} {w : World} {K : Act → World → Prop} {Q : Exit → Act → World → Prop} {E : Prop} (hw : Region.wanted o (yielded ops a.tmps) = true) (ty : TypeId) (x : Operand) (ho : o.op = .load ty x)
    (b f : Nat) (hx : a.eval x = .pointer (some ⟨b, f, none⟩)) (cs : List Value) (d : TypeDesc) (hc : w.rangeAt b f cs) (hu : P.underlying ty = some d) (hd : d.isRow = true) (hi : (P.info? ty).map (·.size) = some cs.length)
    (h : K (a.put o.dst (.agg cs.toArray)) w) : if Region.wanted o (yielded ops a.tmps) = true then Oper.wp P o a w K Q else E := by
  rw [if_pos hw]
  exact wp_load_mid ty x ho b f hx cs d hc hu hd hi h
theorem results_rowS_tmp {P : Program} {fn : Func} {p q : Tmp} {ty : TypeId} {fs : Array Field} (h : fn.results = #[.cell p ty, .tmp q]) (tmps : Array Value) (w : World) (g : Nat) (t : TypeId) (cs : List Value) (v : Value)
    (hp : tmps.getD p undef = .pointer (some ⟨g, 0, none⟩)) (hv : tmps.getD q undef = v) (hg : Row w g cs t) (hu : P.underlying ty = some (.struct fs)) (hi : (P.info? ty).map (·.size) = some cs.length) :
    (results fn tmps).run P w = .ok (.tuple #[.agg cs.toArray, v]) w := by
  have hp' : tmps[p]?.getD undef = .pointer (some ⟨g, 0, none⟩) := by simpa using hp
  have hv' : tmps[q]?.getD undef = v := by simpa using hv
  have hr := run_loadVar_row (P := P) w g t ty cs.toArray (0, 0) (.struct fs) hg hu rfl (by simp [hi])
  simp [results, h, hp', hv', asAddr, hr]
/-- All but a reader's and a letter's blocks stay. -/
abbrev Gq (P b : Nat) : World → World → Prop := Gro (fun g => g = P ∨ g = b)
end Go.Proofs.YtdicgenhfmhklaaGreatDoor

namespace Go.Proofs.YtdicgenhfmhklaaGreatDoor
open Go Go.RowKit
open Sha

section
variable {k tm tk gs : Int} {sd rc : List (BitVec 8)} {am : List Nat} {v : Value} {b : Nat} {w : World}
theorem set_past (xs ys : List Value) (n i : Nat) (u : Value) (h : xs.length = n) : (xs ++ ys).set (n + i) u = xs ++ ys.set i u := by
  rw [List.set_append_right _ _ (by omega), h, Nat.add_sub_cancel_left]
theorem ent_time (h1 : sd.length = 20) (x : Int) : (ent k sd tm tk rc am gs v).set 21 (.int .i64 x) = ent k sd x tk rc am gs v :=
  congrArg (List.cons _) (set_past (vB sd) _ 20 0 _ (by rw [vB_length, h1]))
theorem ent_token (h1 : sd.length = 20) (x : Int) : (ent k sd tm tk rc am gs v).set 22 (.int .i64 x) = ent k sd tm x rc am gs v :=
  congrArg (List.cons _) (set_past (vB sd) _ 20 1 _ (by rw [vB_length, h1]))
theorem ent_gas (h1 : sd.length = 20) (h2 : rc.length = 20) (h3 : am.length = 4) (x : Int) : (ent k sd tm tk rc am gs v).set 47 (.int .i64 x) = ent k sd tm tk rc am x v := by
  refine congrArg (List.cons _) ((set_past (vB sd) _ 20 26 _ (by rw [vB_length, h1])).trans (congrArg (vB sd ++ ·) ?_))
  refine congrArg (List.cons _) (congrArg (List.cons _) ((set_past (vB rc) _ 20 4 _ (by rw [vB_length, h2])).trans (congrArg (vB rc ++ ·) ?_)))
  exact set_past (vQ am) _ 4 0 _ (by rw [vQ_len, h3])
end

end Go.Proofs.YtdicgenhfmhklaaGreatDoor

namespace Go.Proofs.YtdicgenhfmhklaaGreatDoor
open Go Go.RowKit
open Sha

theorem patch (p old vs q xs : List Value) (o : Nat) (hx : xs = p ++ old ++ q) (hp : p.length = o) (hl : old.length = vs.length) : xs.take o ++ vs ++ xs.drop (o + vs.length) = p ++ vs ++ q := by
  subst hx hp
  rw [List.append_assoc p old q, List.take_left' rfl, ← List.append_assoc p old q, List.drop_left' (by rw [List.length_append, hl])]
section
variable {k tm tk gs : Int} {sd rc : List (BitVec 8)} {am : List Nat} {v : Value} {b : Nat} {w : World}
theorem ent_lenH (h1 : sd.length = 20) (h2 : rc.length = 20) (h3 : am.length = 4) : (ent k sd tm tk rc am gs v).length = 49 := by
  simp only [ent, List.length_cons, List.length_append, List.length_nil, vB_length, vQ_len, h1, h2, h3]
theorem Gq.sets {P o : Nat} {vs : List Value} {W : World} (h : Gro (fun g => g = P) w W) : Gq P b w (W.setCells b o vs) := by
  have q := below_setCells (Below.refl 0 W) (b := b) (o := o) (Nat.zero_le _) vs
  exact ⟨q.os.trans h.os, q.tape.trans h.tape, q.output.trans h.output, Nat.le_trans h.size q.size, fun k hk hn => (heap_sets W b o vs k (fun e => hn (.inr e))).trans (h.block k hk (fun e => hn (.inl e)))⟩
end

end Go.Proofs.YtdicgenhfmhklaaGreatDoor

namespace Go.Proofs.YtdicgenhfmhklaaGreatDoor
open Go Go.RowKit
open Sha


section
variable {k tm tk gs : Int} {sd rc : List (BitVec 8)} {am : List Nat} {v : Value} {b : Nat} {w : World}
theorem ent_body (h1 : sd.length = 20) (h2 : rc.length = 20) (h3 : am.length = 4) (u : Value) : (ent k sd tm tk rc am gs v).set 48 u = ent k sd tm tk rc am gs u := by
  refine congrArg (List.cons _) ((set_past (vB sd) _ 20 27 _ (by rw [vB_length, h1])).trans (congrArg (vB sd ++ ·) ?_))
  refine congrArg (List.cons _) (congrArg (List.cons _) ((set_past (vB rc) _ 20 5 _ (by rw [vB_length, h2])).trans (congrArg (vB rc ++ ·) ?_)))
  exact set_past (vQ am) _ 4 1 _ (by rw [vQ_len, h3])
end
end Go.Proofs.YtdicgenhfmhklaaGreatDoor

namespace Go.Proofs.YtdicgenhfmhklaaGreatDoor
open Go Go.RowKit
open Sha

end Go.Proofs.YtdicgenhfmhklaaGreatDoor

namespace Go.Proofs.YtdicgenhfmhklaaGreatDoor
open Go Go.RowKit
open Sha

/-- A number's form. -/
def nf (n : Int) : List (BitVec 8) := fm [n.toNat, 0, 0, 0] (nb n.toNat 0 0 0)
/-- Four parts' form. -/
def wf (am : List Nat) : List (BitVec 8) := fm am (nb (am.getD 0 0) (am.getD 1 0) (am.getD 2 0) (am.getD 3 0))
theorem nf_len (n : Int) : (nf n).length ≤ 33 := by
  have := nb_le n.toNat 0 0 0
  unfold nf
  rw [fm_len]
  omega
theorem wf_len (am : List Nat) : (wf am).length ≤ 33 := by
  have := nb_le (am.getD 0 0) (am.getD 1 0) (am.getD 2 0) (am.getD 3 0)
  unfold wf
  rw [fm_len]
  omega
theorem wrB_in (bs d : List (BitVec 8)) (h : bs.length + d.length ≤ 4194304) : wrB bs 0 d = bs ++ d := by
  unfold wrB
  rw [if_pos rfl, if_pos h]
theorem wrF_in (bs d : List (BitVec 8)) (h : bs.length + d.length ≤ 4194304) : wrF bs 0 d = 0 := by
  unfold wrF
  rw [if_pos rfl, if_pos h]
theorem nuB_in (bs : List (BitVec 8)) (n : Int) (h0 : 0 ≤ n) (h : bs.length + (nf n).length ≤ 4194304) : nuB bs 0 n = bs ++ nf n := by
  unfold nuB
  rw [if_pos rfl, if_neg (by omega)]
  exact wrB_in bs (nf n) h
theorem nuF_in (bs : List (BitVec 8)) (n : Int) (h0 : 0 ≤ n) (h : bs.length + (nf n).length ≤ 4194304) : nuF bs 0 n = 0 := by
  unfold nuF
  rw [if_pos rfl, if_neg (by omega)]
  exact wrF_in bs (nf n) h

end Go.Proofs.YtdicgenhfmhklaaGreatDoor

namespace Go.Proofs.YtdicgenhfmhklaaGreatDoor
open Go Go.RowKit
open Sha

/-- A deposit's bytes. -/
def eb1 (sd : List (BitVec 8)) (tm tk : Int) (rc : List (BitVec 8)) (am : List Nat) (gs : Int) : List (BitVec 8) := [1#8] ++ sd ++ nf tm ++ nf tk ++ rc ++ wf am ++ nf gs
/-- A call's bytes. -/
def eb2 (sd : List (BitVec 8)) (tm : Int) (n : Nat) (d : List (BitVec 8)) : List (BitVec 8) := [2#8] ++ sd ++ nf tm ++ (fm [n, 0, 0, 0] (nb n 0 0 0) ++ d)

end Go.Proofs.YtdicgenhfmhklaaGreatDoor

namespace Go.Proofs.YtdicgenhfmhklaaGreatDoor
open Go Go.RowKit
open Sha

theorem sub_mid (p q r bs : List (BitVec 8)) (a n : Nat) (hb : bs = p ++ (q ++ r)) (ha : p.length = a) (hq : q.length = n) : sub bs a n = q ∧ a + n ≤ bs.length := by
  subst hb ha hq
  refine ⟨?_, by simp only [List.length_append]; omega⟩
  unfold sub
  rw [List.drop_left' rfl, List.take_left' rfl]
theorem at_adr (p r x bs : List (BitVec 8)) (a : Nat) (hb : bs = p ++ (x ++ r)) (ha : p.length = a) (hx : x.length = 20) : dgE 20 bs a = 0 ∧ sub bs a 20 = x := by
  obtain ⟨h1, h2⟩ := sub_mid p x r bs a 20 hb ha hx
  exact ⟨by unfold dgE; rw [if_neg (by omega)], h1⟩
theorem nf_size (n : Int) : (nf n).length = 1 + nb n.toNat 0 0 0 := by
  unfold nf
  rw [fm_len]
  omega
theorem at_num (p r bs : List (BitVec 8)) (n : Int) (a : Nat) (h0 : 0 ≤ n) (h1 : n < 9223372036854775808) (hb : bs = p ++ (nf n ++ r)) (ha : p.length = a) : nuE bs a = 0 ∧ ((nuW bs a : Nat) : Int) = n ∧ a + 1 + at8 bs a = a + (nf n).length := by
  have hl := nf_size n
  obtain ⟨s1, s2⟩ := sub_mid p (nf n) r bs a _ hb ha hl
  obtain ⟨k1, k2, k3⟩ := read_num n.toNat (by omega) bs a _ rfl s2 s1
  exact ⟨k2, by rw [k3]; omega, by rw [k1, hl]; omega⟩
theorem at_wide (p r bs : List (BitVec 8)) (am : List Nat) (a : Nat) (h4 : am.length = 4) (hq : ∀ x ∈ am, x < 18446744073709551616) (hb : bs = p ++ (wf am ++ r)) (ha : p.length = a) : hiF 32 bs a = 0 ∧ qd bs (a + 1 + at8 bs a) (at8 bs a) = vQ am ∧ a + 1 + at8 bs a = a + (wf am).length := by
  obtain ⟨m0, m1, m2, m3, rfl⟩ : ∃ m0 m1 m2 m3, am = [m0, m1, m2, m3] := by
    rcases am with _ | ⟨m0, _ | ⟨m1, _ | ⟨m2, _ | ⟨m3, _ | ⟨m4, r⟩⟩⟩⟩⟩
    all_goals first | exact ⟨_, _, _, _, rfl⟩ | (simp at h4)
  have hl : (wf [m0, m1, m2, m3]).length = 1 + nb m0 m1 m2 m3 := by
    show (fm [m0, m1, m2, m3] (nb m0 m1 m2 m3)).length = _
    rw [fm_len]
    omega
  obtain ⟨s1, s2⟩ := sub_mid p (wf [m0, m1, m2, m3]) r bs a _ hb ha hl
  obtain ⟨k1, k2, k3⟩ := read_form m0 m1 m2 m3 (hq _ (by simp)) (hq _ (by simp)) (hq _ (by simp)) (hq _ (by simp)) 32 bs a _ rfl (nb_le _ _ _ _) s2 s1
  refine ⟨k2, ?_, by rw [k1, hl]; omega⟩
  rw [k1]
  unfold qd
  rw [k3 0 (by decide), k3 1 (by decide), k3 2 (by decide), k3 3 (by decide)]
  rfl
theorem at_body (p r d bs : List (BitVec 8)) (n a : Nat) (hd : d.length = n) (hn : n ≤ 4096) (hb : bs = p ++ (fm [n, 0, 0, 0] (nb n 0 0 0) ++ d ++ r)) (ha : p.length = a) : cnE bs a 4096 = 0 ∧ nuW bs a = n ∧ sub bs (a + 1 + at8 bs a) n = d ∧ a + 1 + at8 bs a + n = a + (fm [n, 0, 0, 0] (nb n 0 0 0) ++ d).length := by
  have hl : (fm [n, 0, 0, 0] (nb n 0 0 0)).length = 1 + nb n 0 0 0 := by
    rw [fm_len]
    omega
  obtain ⟨s1, s2⟩ := sub_mid p (fm [n, 0, 0, 0] (nb n 0 0 0)) (d ++ r) bs a _ (by rw [hb, List.append_assoc]) ha hl
  obtain ⟨k1, k2, k3⟩ := read_num n (by omega) bs a _ rfl s2 s1
  obtain ⟨t1, t2⟩ := sub_mid (p ++ fm [n, 0, 0, 0] (nb n 0 0 0)) d r bs (a + 1 + nb n 0 0 0) n (by rw [hb, List.append_assoc, List.append_assoc]) (by rw [List.length_append, hl, ha]; omega) hd
  rw [k1, k3]
  refine ⟨?_, rfl, t1, by rw [List.length_append, hl, hd]; omega⟩
  unfold cnE
  rw [if_pos k2, k3, k1, if_neg (by omega), if_neg (by omega)]
theorem nuE_short {bs : List (BitVec 8)} {a : Nat} (h : nuE bs a = 0) : a < bs.length ∧ a + 1 + at8 bs a ≤ bs.length := by
  have h1 : hiF 8 bs a = 0 := by
    unfold nuE at h
    by_cases q : hiF 8 bs a = 0
    · exact q
    · rw [if_neg q] at h
      exact h
  unfold hiF at h1
  by_cases q1 : bs.length ≤ a
  · rw [if_pos q1] at h1
    cases h1
  by_cases q2 : 8 < at8 bs a
  · rw [if_neg q1, if_pos q2] at h1
    cases h1
  by_cases q3 : bs.length < a + 1 + at8 bs a
  · rw [if_neg q1, if_neg q2, if_pos q3] at h1
    cases h1
  omega
theorem cut_num (p bs : List (BitVec 8)) (n : Int) (a : Nat) (hb : bs = p ++ (nf n).take ((nf n).length - 1)) (ha : p.length = a) : ¬ nuE bs a = 0 := by
  intro h
  obtain ⟨h1, h2⟩ := nuE_short h
  have hl := nf_size n
  have hn := nb_le n.toNat 0 0 0
  have hbl : bs.length = a + nb n.toNat 0 0 0 := by
    rw [hb, List.length_append, List.length_take, ha, hl]
    omega
  have h8 : at8 bs a = nb n.toNat 0 0 0 := by
    obtain ⟨k, hk⟩ : ∃ k, nb n.toNat 0 0 0 = k + 1 := ⟨nb n.toNat 0 0 0 - 1, by omega⟩
    have e : (nf n).take ((nf n).length - 1) = BitVec.ofNat 8 (nb n.toNat 0 0 0) :: ((nf n).drop 1).take k := by
      rw [hl, show 1 + nb n.toNat 0 0 0 - 1 = k + 1 by omega]
      rfl
    unfold at8
    rw [hb, e, ← ha, List.getD_eq_getElem?_getD, List.getElem?_append_right (Nat.le_refl _), Nat.sub_self]
    show (BitVec.ofNat 8 (nb n.toNat 0 0 0)).toNat = _
    rw [BitVec.toNat_ofNat]
    exact Nat.mod_eq_of_lt (by omega)
  omega
theorem cut_body (p d bs : List (BitVec 8)) (n a : Nat) (hd : d.length = n) (hn : n ≤ 4096) (hb : bs = p ++ (fm [n, 0, 0, 0] (nb n 0 0 0) ++ d).take ((fm [n, 0, 0, 0] (nb n 0 0 0) ++ d).length - 1)) (ha : p.length = a) : ¬ cnE bs a 4096 = 0 := by
  intro h
  obtain ⟨h1, h2, h3⟩ := cnE_ok h
  have hl : (fm [n, 0, 0, 0] (nb n 0 0 0)).length = 1 + nb n 0 0 0 := by
    rw [fm_len]
    omega
  by_cases h0 : n = 0
  · subst h0
    obtain rfl := List.length_eq_zero_iff.1 hd
    refine cut_num p bs 0 a ?_ ha h1
    rw [hb, List.append_nil]
    rfl
  · have hbl : bs.length = a + nb n 0 0 0 + n := by
      rw [hb, List.length_append, List.length_take, List.length_append, ha, hl, hd]
      omega
    have e : (fm [n, 0, 0, 0] (nb n 0 0 0) ++ d).take ((fm [n, 0, 0, 0] (nb n 0 0 0) ++ d).length - 1) = fm [n, 0, 0, 0] (nb n 0 0 0) ++ d.take (n - 1) := by
      rw [List.take_append, List.length_append, hl, hd]
      congr 1
      · exact List.take_of_length_le (by rw [hl]; omega)
      · congr 1
        omega
    rw [e] at hb
    obtain ⟨s1, s2⟩ := sub_mid p _ _ bs a _ hb ha hl
    obtain ⟨k1, k2, k3⟩ := read_num n (by omega) bs a _ rfl s2 s1
    rw [k1, k3] at h3
    omega

end Go.Proofs.YtdicgenhfmhklaaGreatDoor
