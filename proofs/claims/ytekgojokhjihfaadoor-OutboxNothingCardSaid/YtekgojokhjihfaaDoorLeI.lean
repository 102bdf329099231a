/-
  entries of any values: the closures that take an amount, a body.
-/
import Derived.Test.YtekgojokhjihfaaDoorLtF
import Derived.Test.YtekgojokhjihfaaDoorXFaces
import Derived.Test.YtekgojokhjihfaaDoorLeA

namespace Go.Proofs.YtekgojokhjihfaaDoor
open Go Go.RowKit
open Sha


end Go.Proofs.YtekgojokhjihfaaDoor

namespace Go.Proofs.YtekgojokhjihfaaDoor
open Go Go.RowKit
open Sha

theorem stp_gn {P : Program} {ops : Array Oper} {o : Oper} {a : Act} {w : World} {K : Act → World → Prop} {Q : Exit → Act → World → Prop} {E : Prop} (hw : Region.wanted o (yielded ops a.tmps) = true) (f : FuncId) {xs : Array Operand} {ts : Array TypeId} (_ho : o.op = .call { callee := .value (.func f), args := xs, argTypes := ts }) (args : Array Value) (h : (execOp a.eval o).run P w = .ok (.enter f args) w)
    (hc : Calls P f args w fun e w' => ∃ v, e = .returned v ∧ K (a.put o.dst v) w') : if Region.wanted o (yielded ops a.tmps) = true then Oper.wp P o a w K Q else E := by
  rw [if_pos hw]
  unfold Oper.wp
  rw [h]
  exact hc.mono (fun e w' hk => by obtain ⟨v, he, hk⟩ := hk; subst he; exact hk)
theorem stp_load {P : Program} {ops : Array Oper} {o : Oper} {a : Act} {w : World} {K : Act → World → Prop} {Q : Exit → Act → World → Prop} {E : Prop} (hw : Region.wanted o (yielded ops a.tmps) = true) (ty : TypeId) (x : Operand) (ho : o.op = .load ty x)
    (b f : Nat) (hx : a.eval x = .pointer (some ⟨b, f, none⟩)) (cs : List Value) (d : TypeDesc) (hc : w.rangeAt b f cs) (hu : P.underlying ty = some d) (hd : d.isRow = true) (hi : (P.info? ty).map (·.size) = some cs.length)
    (h : K (a.put o.dst (.agg cs.toArray)) w) : if Region.wanted o (yielded ops a.tmps) = true then Oper.wp P o a w K Q else E := by
  rw [if_pos hw]
  exact wp_load_mid ty x ho b f hx cs d hc hu hd hi h
theorem results_rowS_tmp {P : Program} {fn : Func} {p q : Tmp} {ty : TypeId} {fs : Array Field} (h : fn.results = #[.cell p ty, .tmp q]) (tmps : Array Value) (w : World) (g : Nat) (t : TypeId) (cs : List Value) (v : Value)
    (hp : tmps.getD p undef = .pointer (some ⟨g, 0, none⟩)) (hv : tmps.getD q undef = v) (hg : Row w g cs t) (hu : P.underlying ty = some (.struct fs)) (hi : (P.info? ty).map (·.size) = some cs.length) :
    (results fn tmps).run P w = .ok (.tuple #[.agg cs.toArray, v]) w := by
  have hp' : tmps[p]?.getD undef = .pointer (some ⟨g, 0, none⟩) := by simpa using hp
  have hv' : tmps[q]?.getD undef = v := by simpa using hv
  have hr := run_loadVar_row (P := P) w g t ty cs.toArray (0, 0) (.struct fs) hg hu rfl (by simp [hi])
  simp [results, h, hp', hv', asAddr, hr]
/-- All but a reader's and a letter's blocks stay. -/
abbrev Gq (P b : Nat) : World → World → Prop := Gro (fun g => g = P ∨ g = b)
end Go.Proofs.YtekgojokhjihfaaDoor

namespace Go.Proofs.YtekgojokhjihfaaDoor
open Go Go.RowKit
open Sha

section
variable {k tm tk gs : Int} {sd rc : List (BitVec 8)} {am : List Nat} {v : Value} {b : Nat} {w : World}
theorem set_past (xs ys : List Value) (n i : Nat) (u : Value) (h : xs.length = n) : (xs ++ ys).set (n + i) u = xs ++ ys.set i u := by
  rw [List.set_append_right _ _ (by omega), h, Nat.add_sub_cancel_left]
theorem ent_time (h1 : sd.length = 20) (x : Int) : (ent k sd tm tk rc am gs v).set 21 (.int .i64 x) = ent k sd x tk rc am gs v :=
  congrArg (List.cons _) (set_past (vB sd) _ 20 0 _ (by rw [vB_length, h1]))
theorem ent_token (h1 : sd.length = 20) (x : Int) : (ent k sd tm tk rc am gs v).set 22 (.int .i64 x) = ent k sd tm x rc am gs v :=
  congrArg (List.cons _) (set_past (vB sd) _ 20 1 _ (by rw [vB_length, h1]))
theorem ent_gas (h1 : sd.length = 20) (h2 : rc.length = 20) (h3 : am.length = 4) (x : Int) : (ent k sd tm tk rc am gs v).set 47 (.int .i64 x) = ent k sd tm tk rc am x v := by
  refine congrArg (List.cons _) ((set_past (vB sd) _ 20 26 _ (by rw [vB_length, h1])).trans (congrArg (vB sd ++ ·) ?_))
  refine congrArg (List.cons _) (congrArg (List.cons _) ((set_past (vB rc) _ 20 4 _ (by rw [vB_length, h2])).trans (congrArg (vB rc ++ ·) ?_)))
  exact set_past (vQ am) _ 4 0 _ (by rw [vQ_len, h3])
end

end Go.Proofs.YtekgojokhjihfaaDoor

namespace Go.Proofs.YtekgojokhjihfaaDoor
open Go Go.RowKit
open Sha

theorem patch (p old vs q xs : List Value) (o : Nat) (hx : xs = p ++ old ++ q) (hp : p.length = o) (hl : old.length = vs.length) : xs.take o ++ vs ++ xs.drop (o + vs.length) = p ++ vs ++ q := by
  subst hx hp
  rw [List.append_assoc p old q, List.take_left' rfl, ← List.append_assoc p old q, List.drop_left' (by rw [List.length_append, hl])]
section
variable {k tm tk gs : Int} {sd rc : List (BitVec 8)} {am : List Nat} {v : Value} {b : Nat} {w : World}
theorem ent_lenH (h1 : sd.length = 20) (h2 : rc.length = 20) (h3 : am.length = 4) : (ent k sd tm tk rc am gs v).length = 49 := by
  simp only [ent, List.length_cons, List.length_append, List.length_nil, vB_length, vQ_len, h1, h2, h3]
theorem Gq.sets {P o : Nat} {vs : List Value} {W : World} (h : Gro (fun g => g = P) w W) : Gq P b w (W.setCells b o vs) := by
  have q := below_setCells (Below.refl 0 W) (b := b) (o := o) (Nat.zero_le _) vs
  exact ⟨q.os.trans h.os, q.tape.trans h.tape, q.output.trans h.output, Nat.le_trans h.size q.size, fun k hk hn => (heap_sets W b o vs k (fun e => hn (.inr e))).trans (h.block k hk (fun e => hn (.inl e)))⟩
end

end Go.Proofs.YtekgojokhjihfaaDoor

namespace Go.Proofs.YtekgojokhjihfaaDoor
open Go Go.RowKit
open Sha


section
variable {k tm tk gs : Int} {sd rc : List (BitVec 8)} {am : List Nat} {v : Value} {b : Nat} {w : World}
theorem ent_body (h1 : sd.length = 20) (h2 : rc.length = 20) (h3 : am.length = 4) (u : Value) : (ent k sd tm tk rc am gs v).set 48 u = ent k sd tm tk rc am gs u := by
  refine congrArg (List.cons _) ((set_past (vB sd) _ 20 27 _ (by rw [vB_length, h1])).trans (congrArg (vB sd ++ ·) ?_))
  refine congrArg (List.cons _) (congrArg (List.cons _) ((set_past (vB rc) _ 20 5 _ (by rw [vB_length, h2])).trans (congrArg (vB rc ++ ·) ?_)))
  exact set_past (vQ am) _ 4 1 _ (by rw [vQ_len, h3])
end
end Go.Proofs.YtekgojokhjihfaaDoor
