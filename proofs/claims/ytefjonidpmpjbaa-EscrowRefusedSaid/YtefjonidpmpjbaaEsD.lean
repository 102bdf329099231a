/-
  The vault: what is had of a token from now on, laid; the set's numbers.
-/
import Derived.Test.YtefjonidpmpjbaaXMem
import Derived.Deep.RegionLaw
import Derived.BigRegion
import Derived.Test.YtefjonidpmpjbaaEsC
import Derived.Laws.Cover3

namespace Go.Proofs.Ytefjonidpmpjbaa
open Go Go.RowKit
open Sha

theorem stp_fcall {P : Program} {ops : Array Oper} {o : Oper} {a : Act} {w : World} {K : Act → World → Prop} {Q : Exit → Act → World → Prop} {E : Prop} (hg : o.guard = none) (f : FuncId) (args : Array Value) (h : (execOp a.eval o).run P w = .ok (.enter f args) w)
    (hc : Calls P f args w fun e w' => ∃ v, e = .returned v ∧ K (a.put o.dst v) w') : if Region.wanted o (yielded ops a.tmps) = true then Oper.wp P o a w K Q else E := by
  have hw : Region.wanted o (yielded ops a.tmps) = true := by simp [Region.wanted, hg]
  rw [if_pos hw]
  unfold Oper.wp
  rw [h]
  exact hc.mono (fun e w' hk => by obtain ⟨v, he, hk⟩ := hk; subst he; exact hk)

/-- The same, where the function's number is held against the operation first: so that a wrong alternative fails at once. -/
theorem stp_fn {P : Program} {ops : Array Oper} {o : Oper} {a : Act} {w : World} {K : Act → World → Prop} {Q : Exit → Act → World → Prop} {E : Prop} (hg : o.guard = none) (f : FuncId) {xs : Array Operand} {ts : Array TypeId} (_ho : o.op = .call { callee := .value (.func f), args := xs, argTypes := ts }) (args : Array Value) (h : (execOp a.eval o).run P w = .ok (.enter f args) w)
    (hc : Calls P f args w fun e w' => ∃ v, e = .returned v ∧ K (a.put o.dst v) w') : if Region.wanted o (yielded ops a.tmps) = true then Oper.wp P o a w K Q else E := stp_fcall hg f args h hc

end Go.Proofs.Ytefjonidpmpjbaa

namespace Go.Proofs.Ytefjonidpmpjbaa
open Go Go.RowKit Go.Maps
open Wd

theorem eqMs {t : TypeId} {k e : TypeId} (h : Try.prog.underlying t = some (.map k e)) (b : Nat) (X : World) : (binOp .eql t (.map (some b)) (.map none)).run Try.prog X = .ok (.bool false) X := by
  simp only [binOp]
  simp [run_equal_map_nil X t k e _ h]
theorem eqMn {t : TypeId} {k e : TypeId} (h : Try.prog.underlying t = some (.map k e)) (X : World) : (binOp .eql t (.map none) (.map none)).run Try.prog X = .ok (.bool true) X := by
  simp only [binOp]
  simp [run_equal_map_nil X t k e _ h]
theorem hcs_open (s : Bool) (m : Nat) : ∃ a0 a1 a2 a3 : Int, hcs s m = [.bool s, .int .u64 a0, .int .u64 a1, .int .u64 a2, .int .u64 a3] := ⟨_, _, _, _, rfl⟩
theorem row_ty {w : World} {b : Nat} {cs ds : List Value} {t u : TypeId} (h : Row w b cs t) (k : Row w b ds u) : t = u := by
  have h' : w.heap[b]? = some (.cells cs.toArray t) := h
  have k' : w.heap[b]? = some (.cells ds.toArray u) := k
  rw [h'] at k'
  injection k' with k'
  injection k' with _ k'
theorem Gro.drew_l {R : Nat → Prop} {w X : World} {n : Nat} (h : Gro R (w.drewN n) X) : Gro R w X := ⟨h.os, h.tape, h.output, h.size, h.block⟩

set_option maxRecDepth 100000 in
set_option maxHeartbeats 4000000 in
/-- The map is there: laid at x. -/
theorem lay_there {w : World} {p c b : Nat} {L : Nat} {m2 : Value} {f : Int → Option Value} (hr : Row w p (vcs (.map (some b)) m2 L) tV) (hM : Mp w b c f) (hc : c < maxLen) (x : Int) (hx : I64 x) (s1 : Bool) (h1 : Nat) :
    Calls Try.prog 49 #[.pointer (some ⟨p, 0, none⟩), .int .i64 x, .agg (hcs s1 h1).toArray] w fun e w' => e = .returned (.tuple #[]) ∧ Mp w' b (c + 1) (upd f x (some (.agg (hcs s1 h1).toArray))) ∧ Gro (· = b) w w' := by
  have HR : Hid (Row w p (vcs (.map (some b)) m2 L) tV) := hr
  have HM : Hid (Mp w b c f) := hM
  have HC : Hid (c < maxLen) := hc
  have HX : Hid (I64 x) := hx
  clear hr hM hc hx
  obtain ⟨a0, a1, a2, a3, hh⟩ := hcs_open s1 h1
  rw [hh]
  clear hh
  go_enter Try.func49, Try.ntmps49
  go_upto_region 1 with (refine wpList_boxG tH rfl (.tmp 2) rfl [.bool s1, .int .u64 a0, .int .u64 a1, .int .u64 a2, .int .u64 a3] rfl ?_; intro X1 q1 q2; have R5 : Hid (Row X1 w.heap.size [.bool s1, .int .u64 a0, .int .u64 a1, .int .u64 a2, .int .u64 a3] tH) := q1; have B1 : Hid (Below w.heap.size w X1) := q2; clear q1 q2)
  obtain ⟨b5, hb5⟩ : ∃ b, b = w.heap.size := ⟨_, rfl⟩
  rw [← hb5] at R5 ⊢
  clear hb5
  have R1 : Hid (Row X1 p (vcs (.map (some b)) m2 L) tV) := Row.below HR.out B1.out HR.out.lt
  have M1 : Hid (Mp X1 b c f) := HM.out.block (B1.out.block b HM.out.lt)
  have c0 : X1.cell? ⟨p, 0, none⟩ = some (.map (some b)) := R1.out.cell 0 _ rfl
  have d0 := R5.out.cell 0 _ rfl
  have d1 := R5.out.cell 1 _ rfl
  have d2 := R5.out.cell 2 _ rfl
  have d3 := R5.out.cell 3 _ rfl
  have d4 := R5.out.cell 4 _ rfl
  have eqm := eqMs und_M1 b
  go_upto_region 3 with fail
  obtain ⟨X2, hr, hM2, hT2⟩ := (M1.out.block (w' := X1.drew) rfl).store und_M1 HC.out HX.out (.agg #[.bool s1, .int .u64 a0, .int .u64 a1, .int .u64 a2, .int .u64 a3])
  have M2 : Hid (Mp X2 b (c + 1) (upd f x (some (.agg #[.bool s1, .int .u64 a0, .int .u64 a1, .int .u64 a2, .int .u64 a3])))) := hM2
  have G2 : Hid (Gro (· = b) X1 X2) := by
    have g := hT2.grown
    exact ⟨g.os, g.tape, g.output, g.size, fun i hi hne => g.block i hi (fun e => hne (Option.some.inj e))⟩
  have hr' : (Instr.mapUpdate 67 (.map (some b)) (.int .i64 x) (.agg #[.bool s1, .int .u64 a0, .int .u64 a1, .int .u64 a2, .int .u64 a3])).run Try.prog X1.drew = .ok () X2 := hr
  clear hr hM2 hT2
  go_region
  all_goals exact bodyPost_end (results_none Try.results49 _ _ _) rfl ⟨rfl, M2.out, (Gro.of_below B1.out).trans G2.out⟩

set_option maxRecDepth 100000 in
set_option maxHeartbeats 4000000 in
/-- The map is made: laid at x. -/
theorem lay_new {w : World} {p : Nat} {L : Nat} {m2 : Value} (hr : Row w p (vcs (.map none) m2 L) tV) (x : Int) (hx : I64 x) (s1 : Bool) (h1 : Nat) :
    Calls Try.prog 49 #[.pointer (some ⟨p, 0, none⟩), .int .i64 x, .agg (hcs s1 h1).toArray] w fun e w' => ∃ b, e = .returned (.tuple #[]) ∧ w.heap.size ≤ b ∧ Row w' p (vcs (.map (some b)) m2 L) tV ∧ Mp w' b 1 (upd (fun _ => none) x (some (.agg (hcs s1 h1).toArray))) ∧ Gro (· = p) w w' := by
  have HR : Hid (Row w p (vcs (.map none) m2 L) tV) := hr
  have HX : Hid (I64 x) := hx
  clear hr hx
  obtain ⟨a0, a1, a2, a3, hh⟩ := hcs_open s1 h1
  rw [hh]
  clear hh
  go_enter Try.func49, Try.ntmps49
  go_upto_region 1 with (refine wpList_boxG tH rfl (.tmp 2) rfl [.bool s1, .int .u64 a0, .int .u64 a1, .int .u64 a2, .int .u64 a3] rfl ?_; intro X1 q1 q2; have R5 : Hid (Row X1 w.heap.size [.bool s1, .int .u64 a0, .int .u64 a1, .int .u64 a2, .int .u64 a3] tH) := q1; have B1 : Hid (Below w.heap.size w X1) := q2; clear q1 q2)
  obtain ⟨b5, hb5⟩ : ∃ b, b = w.heap.size := ⟨_, rfl⟩
  rw [← hb5] at R5 ⊢
  clear hb5
  have R1 : Hid (Row X1 p (vcs (.map none) m2 L) tV) := Row.below HR.out B1.out HR.out.lt
  have c0 : X1.cell? ⟨p, 0, none⟩ = some (.map none) := R1.out.cell 0 _ rfl
  have eqm := eqMn und_M1
  go_upto_region 3 with (first
    | (refine wpList_makeM rfl tM1 rfl ?_; intro Y1 q1 q2; have N1 : Hid (Mp Y1 X1.heap.size 0 (fun _ => none)) := q1; have B2 : Hid (Below X1.heap.size X1 Y1) := q2; have R2 : Hid (Row Y1 p (vcs (.map none) m2 L) tV) := Row.below R1.out q2 R1.out.lt; have P5 : Hid (Row Y1 b5 [.bool s1, .int .u64 a0, .int .u64 a1, .int .u64 a2, .int .u64 a3] tH) := Row.below R5.out q2 R5.out.lt; clear q1 q2)
    | (refine wpList_set1 rfl tM1 (.tmp 14) (.tmp 12) rfl p 0 (.map (some X1.heap.size)) (vcs (.map none) m2 L) tV rfl rfl rfl R2.out (by simp [vcs]) info_M1 rfl ?_; intro Y2 q1 q2; have R3 : Hid (Row Y2 p (vcs (.map (some X1.heap.size)) m2 L) tV) := q1; have G3 : Hid (Gro (· = p) Y1 Y2) := q2; clear q1 q2))
  have HBX : Hid (w.heap.size ≤ X1.heap.size) := B1.out.size
  have G4 : Hid (Gro (· = p) w Y2) := ((Gro.of_below B1.out).below B2.out).trans G3.out
  have N2 : Hid (Mp Y2 X1.heap.size 0 (fun _ => none)) := N1.out.block (G3.out.block _ N1.out.lt (N1.out.no_row R2.out))
  have R6 : Hid (Row Y2 b5 [.bool s1, .int .u64 a0, .int .u64 a1, .int .u64 a2, .int .u64 a3] tH) := G3.out.row P5.out (fun e => by subst e; exact absurd (row_ty P5.out R2.out) (by decide))
  obtain ⟨b, hb⟩ : ∃ b, b = X1.heap.size := ⟨_, rfl⟩
  rw [← hb] at R3 N2 HBX ⊢
  have d0 := R6.out.cell 0 _ rfl
  have d1 := R6.out.cell 1 _ rfl
  have d2 := R6.out.cell 2 _ rfl
  have d3 := R6.out.cell 3 _ rfl
  have d4 := R6.out.cell 4 _ rfl
  have e0 := R3.out.cell 0 _ rfl
  clear hb N1 B2 R2 P5 G3 c0 R1 eqm
  obtain ⟨X2, hr, hM2, hT2⟩ := (N2.out.block (w' := Y2.drew) rfl).store und_M1 (by decide) HX.out (.agg #[.bool s1, .int .u64 a0, .int .u64 a1, .int .u64 a2, .int .u64 a3])
  have M2 : Hid (Mp X2 b 1 (upd (fun _ => none) x (some (.agg #[.bool s1, .int .u64 a0, .int .u64 a1, .int .u64 a2, .int .u64 a3])))) := hM2
  have G2 : Hid (Gro (· = b) Y2 X2) := by
    have g := hT2.grown
    exact ⟨g.os, g.tape, g.output, g.size, fun i hi hne => g.block i hi (fun e => hne (Option.some.inj e))⟩
  have hr' : (Instr.mapUpdate 67 (.map (some b)) (.int .i64 x) (.agg #[.bool s1, .int .u64 a0, .int .u64 a1, .int .u64 a2, .int .u64 a3])).run Try.prog Y2.drew = .ok () X2 := hr
  clear hr hM2 hT2
  go_region
  all_goals exact bodyPost_end (results_none Try.results49 _ _ _) rfl ⟨b, rfl, HBX.out, G2.out.row R3.out (fun e => N2.out.no_row R3.out e.symm), M2.out, G4.out.then G2.out (fun g e => .inr (by have := HBX.out; omega))⟩

end Go.Proofs.Ytefjonidpmpjbaa
