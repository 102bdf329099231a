/-
  LadderPlays: laws for turn and look.
-/
import Derived.Test.YtfdbjcdcfmnicaaLpI
namespace Go.Proofs.Ytfdbjcdcfmnicaa
open Go Go.RowKit
open Sha

abbrev tLp : TypeId := 40
abbrev tL3 : TypeId := 41
abbrev tR3 : TypeId := 45
abbrev tSt : TypeId := 53
theorem info_Lp : (Try.prog.info? tLp).map (·.size) = some 1 := by kernel_rfl
theorem und_L3 : Try.prog.underlying tL3 = some (.array 3 tLp) := by kernel_rfl
theorem und_R3 : Try.prog.underlying tR3 = some (.array 3 tRL) := by kernel_rfl
theorem ld_Lp (w : World) (b f : Nat) (v : Value) (h : w.cell? ⟨b, f, none⟩ = some v) : (loadVar tLp ⟨b, f, none⟩).run Try.prog w = .ok v w := by
  simp [loadVar, isAgg, run_underlying Try.underlying40, h]
section
variable {Q : Exit → Act → World → Prop} {o : Oper} {a : Act} {w : World} {K : Act → World → Prop}
theorem wp_ixO {P : Program} (T e : TypeId) {x y : Operand} (ho : o.op = .indexAddr T x y) (b n t s g f : Nat) (hx : a.eval x = .pointer (some ⟨b, g, none⟩)) (hy : a.eval y = .int .i64 (t : Int)) (ht : t < n)
    (hu : P.underlying T = some (.array n e)) (hs : (P.info? e).map (·.size) = some s) (hf : g + t * s = f) (h : K (a.put o.dst (.pointer (some ⟨b, f, none⟩))) w) : Oper.wp P o a w K Q := by
  refine wp_pure (v := .pointer (some ⟨b, f, none⟩)) ?_ h
  have hr : (Instr.indexAt T (.pointer (some ⟨b, g, none⟩)) (.int .i64 (t : Int))).run P w = .ok (.pointer (some ⟨b, f, none⟩)) w := by
    cases hi : P.info? e with
    | none => rw [hi] at hs; cases hs
    | some ie =>
      rw [hi] at hs
      have h4 : ie.size = s := by simpa using hs
      simp [Instr.indexAt, run_underlying hu, asIntOf, ht, sizeOf, typeInfo, hi, h4, Instr.sureAddr, Addr.add_mid, hf]
  unfold execOp
  simp only [ho, hx, hy, Sem.run_bind, hr, Result.andThen_ok]
  rfl
theorem wp_allocRL (ho : o.op = .alloc tRL) (h : K (a.put o.dst (.pointer (some ⟨w.heap.size, 0, none⟩))) (w.alloc (.cells zRL.toArray tRL))) : Oper.wp Try.prog o a w K Q := by
  obtain ⟨dst, op, ty, pos, after, guard⟩ := o
  simp only at ho
  subst ho
  unfold Oper.wp
  go_simp
  exact h
theorem wp_fPr0 {x : Operand} (ho : o.op = .fieldAddr tPr x 0) (B : Nat) (hx : a.eval x = .pointer (some ⟨B, 0, none⟩)) (h : K (a.put o.dst (.pointer (some ⟨B, 0, none⟩))) w) : Oper.wp Try.prog o a w K Q := by
  unfold Oper.wp execOp
  simp only [ho, hx]
  go_simp
  exact h
theorem wp_fPr1 {x : Operand} (ho : o.op = .fieldAddr tPr x 1) (B : Nat) (hx : a.eval x = .pointer (some ⟨B, 0, none⟩)) (h : K (a.put o.dst (.pointer (some ⟨B, 3, none⟩))) w) : Oper.wp Try.prog o a w K Q := by
  unfold Oper.wp execOp
  simp only [ho, hx]
  go_simp
  exact h
theorem wp_fSt3 {x : Operand} (ho : o.op = .fieldAddr tSt x 3) (B : Nat) (hx : a.eval x = .pointer (some ⟨B, 0, none⟩)) (h : K (a.put o.dst (.pointer (some ⟨B, 3, none⟩))) w) : Oper.wp Try.prog o a w K Q := by
  unfold Oper.wp execOp
  simp only [ho, hx]
  go_simp
  exact h
theorem wp_fSt4 {x : Operand} (ho : o.op = .fieldAddr tSt x 4) (B : Nat) (hx : a.eval x = .pointer (some ⟨B, 0, none⟩)) (h : K (a.put o.dst (.pointer (some ⟨B, 69, none⟩))) w) : Oper.wp Try.prog o a w K Q := by
  unfold Oper.wp execOp
  simp only [ho, hx]
  go_simp
  exact h
theorem wp_fSt5 {x : Operand} (ho : o.op = .fieldAddr tSt x 5) (B : Nat) (hx : a.eval x = .pointer (some ⟨B, 0, none⟩)) (h : K (a.put o.dst (.pointer (some ⟨B, 89, none⟩))) w) : Oper.wp Try.prog o a w K Q := by
  unfold Oper.wp execOp
  simp only [ho, hx]
  go_simp
  exact h
theorem wp_fSt6 {x : Operand} (ho : o.op = .fieldAddr tSt x 6) (B : Nat) (hx : a.eval x = .pointer (some ⟨B, 0, none⟩)) (h : K (a.put o.dst (.pointer (some ⟨B, 90, none⟩))) w) : Oper.wp Try.prog o a w K Q := by
  unfold Oper.wp execOp
  simp only [ho, hx]
  go_simp
  exact h
theorem wp_fSt7 {x : Operand} (ho : o.op = .fieldAddr tSt x 7) (B : Nat) (hx : a.eval x = .pointer (some ⟨B, 0, none⟩)) (h : K (a.put o.dst (.pointer (some ⟨B, 91, none⟩))) w) : Oper.wp Try.prog o a w K Q := by
  unfold Oper.wp execOp
  simp only [ho, hx]
  go_simp
  exact h
theorem wp_fSt9 {x : Operand} (ho : o.op = .fieldAddr tSt x 9) (B : Nat) (hx : a.eval x = .pointer (some ⟨B, 0, none⟩)) (h : K (a.put o.dst (.pointer (some ⟨B, 93, none⟩))) w) : Oper.wp Try.prog o a w K Q := by
  unfold Oper.wp execOp
  simp only [ho, hx]
  go_simp
  exact h
end
/-- Where the list of an answered ladder may lie. -/
def Ap (V : Nat) (v v' : Value) : Prop := ∀ g, v'.ownBlock = some g → v.ownBlock = some g ∨ V ≤ g
theorem Ap.of {V : Nat} {w : World} {v v' : Value} (h : Nv w v v') (hV : V ≤ w.heap.size) : Ap V v v' := fun g e => by
  rcases h with h | h
  · exact .inl (by rw [← h]; exact e)
  · exact .inr (Nat.le_trans hV (h g e))
/-- A ladder that was answered, and what else. -/
def SP.rt (V : Nat) (v : Value) (B : Int) (st : La) (rest : List Value) : SP := ⟨fun W u => ∃ v', u = .tuple (.agg (st.dc v').toArray :: rest).toArray ∧ Rf W v' B st ∧ Ap V v v', fun _ _ _ hB h => by obtain ⟨v', e, r, p⟩ := h; exact ⟨v', e, r.be hB, p⟩⟩
def SP.ra (V : Nat) (v : Value) (B : Int) (st : La) : SP := ⟨fun W u => ∃ v', u = .agg (st.dc v').toArray ∧ Rf W v' B st ∧ Ap V v v', fun _ _ _ hB h => by obtain ⟨v', e, r, p⟩ := h; exact ⟨v', e, r.be hB, p⟩⟩
theorem Rf.set {W : World} {v : Value} {B : Int} {st : La} {N : Nat} {cs : List Value} {t : TypeId} (h : Rf W v B st) (y : Row W N cs t) (ht : t ≠ tP) (o : Nat) (vs : List Value) : Rf (W.setCells N o vs) v B st := ⟨h.own.gro (gro_setsL W N o vs) (fun g e e2 => h.own.ne y ht g e e2), h.ok⟩
theorem Rf.one {W : World} {v : Value} {B : Int} {st : La} (h : Rf W v B st) : (st.dc v).toArray.all (·.oneCell') = true := by
  obtain ⟨A, cap, e, _⟩ := h.form
  rw [e]; exact all_one (La.done _ _ _ _)

end Go.Proofs.Ytfdbjcdcfmnicaa
