/-
  The law's some: at most so many leaves.
-/
import Derived.Test.YtlknanjbiicghaaDoorTLoan
import Derived.Test.YtlknanjbiicghaaDoorTAwk
import Derived.Deep.RegionLaw
import Derived.Test.YtlknanjbiicghaaDoorTStr
import Derived.Deep.QuietTactic
import Derived.BigQuiet

namespace Go.Proofs.YtlknanjbiicghaaDoor
open Go Go.RowKit
open Sha

theorem row_grw {w w' : World} {N' e' size' n' b : Nat} {vp : Value} {cs xs' : List Value} {t : TypeId} (r : Row w b cs t) (hp : w.ownsRow N' e' size' vp n' xs') (hne : t ≠ e') (hg : w.grownBy w' vp.ownBlock) : Row w' b cs t := by
  refine (hg.block b r.lt ?_).trans r
  rcases hp.2 with ⟨h3, _⟩ | ⟨g', cap', cur', hv', _, hh', _⟩
  · rw [h3]; simp [Value.ownBlock]
  · rw [hv']
    simp only [Value.ownBlock, ne_eq, Option.some.injEq]
    intro hgg
    subst hgg
    have := r.symm.trans hh'
    simp only [Option.some.injEq, Obj.cells.injEq] at this
    exact hne this.2.1
theorem Loan.drew {w : World} {G : Nat} {ov : Value} {L : List Value} {B : Nat → Nat} {ps qs : List (List (BitVec 8))} {n a f m : Nat} (h : Loan w G ov L B ps qs n a f m) : Loan w.drew G ov L B ps qs n a f m := ⟨h.row, h.len, h.own, h.each, h.apart, h.front, h.mark⟩
theorem own_one1 {w : World} {N e size n : Nat} {v : Value} {xs : List Value} (h : w.ownsRow N e size v n xs) : v.oneCell' = true := by
  obtain ⟨A, c, rfl⟩ := own_form h; rfl
/-- The cells of a loan. -/
def lo (a b : Value) (n : Nat) : List Value := [a, b, .int .i64 (n : Int)]
theorem lo_one {a b : Value} {n : Nat} (ha : a.oneCell' = true) (hb : b.oneCell' = true) : (lo a b n).toArray.all (·.oneCell') = true := all_oneCell_toArray (fun v hv => by
  unfold lo at hv
  simp only [List.mem_cons, List.not_mem_nil, or_false] at hv
  rcases hv with rfl | rfl | rfl
  · exact ha
  · exact hb
  · rfl)
section
variable {ops : Array Oper} {rest : List Oper} {op : Oper} {a : Act} {w : World} {Q : Exit → Act → World → Prop}
end

end Go.Proofs.YtlknanjbiicghaaDoor

namespace Go.Proofs.YtlknanjbiicghaaDoor
open Go Go.RowKit
open Sha

/-- copy, as one step of a region that draws. -/
theorem stp_copy {P : Program} {ops : Array Oper} {op : Oper} {a : Act} {w : World} {K : Act → World → Prop} {Q : Exit → Act → World → Prop} {E : Prop} (hgd : op.guard = none) (x y : Operand) (dT sT : TypeId) (ho : op.op = .call { callee := .builtin .copy, args := #[x, y], argTypes := #[dT, sT] })
    (elem : TypeId) (b o dLen dCap : Nat) (adr : Addr) (sLen sCap : Nat) (cs : List Value)
    (hx : a.eval x = .slice (some ⟨b, o, none⟩) dLen dCap) (hy : a.eval y = .slice (some adr) sLen sCap)
    (hu : P.underlying dT = some (.slice elem)) (hs : (P.info? elem).map (·.size) = some 1) (hn : cs.length = Nat.min sLen dLen)
    (hsrc : ∀ j v, cs[j]? = some v → w.cell? (adr.add j) = some v) (ht : w.there b o cs.length) (h1 : ∀ v ∈ cs, v.oneCell' = true)
    (h : K (a.put op.dst (goInt cs.length)) (w.setCells b o cs)) : if Region.wanted op (yielded ops a.tmps) = true then Oper.wp P op a w K Q else E := by
  have hw : Region.wanted op (yielded ops a.tmps) = true := by simp [Region.wanted, hgd]
  rw [if_pos hw]
  obtain ⟨dst, op', ty, pos, after, guard⟩ := op
  simp only at hgd ho
  subst hgd; subst ho
  have hr := run_copy_cells (P := P) w dT sT ty elem b o dLen dCap adr sLen sCap cs hu hs hn hsrc (fun j hj => (ht j hj).1) (fun j hj => (ht j hj).2) h1
  unfold Oper.wp
  rw [BigFrame.execOp_builtin, BigFrame.builtin_copy]
  simp only [List.map_toArray, List.map_cons, List.map_nil, hx, hy, Sem.run_bind, hr, Result.andThen_ok, Sem.run_pure, Oper.upon_value]
  exact h
/-- The first ones new, the others old. -/
def mix (rs qs : List (List (BitVec 8))) (n t : Nat) : List (List (BitVec 8)) := (List.range n).map fun i => if i < t then rs.getD i [] else qs.getD i []
theorem mix_get (rs qs : List (List (BitVec 8))) (n t i : Nat) (h : i < n) : (mix rs qs n t).getD i [] = if i < t then rs.getD i [] else qs.getD i [] := by simp [mix, h]
section
variable {w : World} {G : Nat} {ov : Value} {L : List Value} {B : Nat → Nat} {ps qs qs' rs : List (List (BitVec 8))} {n a f m : Nat}
theorem Loan.congr (h : Loan w G ov L B ps qs n a f m) (e : ∀ i, i < a → qs'.getD i [] = qs.getD i []) : Loan w G ov L B ps qs' n a f m :=
  ⟨h.row, h.len, h.own, fun i hi => by rw [e i hi]; exact h.each i hi, h.apart, h.front, h.mark⟩
theorem row_ne {b b' : Nat} {cs cs' : List Value} {t t' : TypeId} (r : Row w b cs t) (r' : Row w b' cs' t') (hne : t ≠ t') : b ≠ b' := fun e => by
  subst e
  have := r.symm.trans r'
  simp only [Option.some.injEq, Obj.cells.injEq] at this
  exact hne this.2.1
/-- One leaf is written over. -/
theorem Loan.write {t : Nat} (h : Loan w G ov L B ps (mix rs qs n t) n n f m) (ht : t < n) (hlen : (rs.getD t []).length = (qs.getD t []).length) :
    Loan (w.setCells (B t) 0 (vB (rs.getD t []))) G ov L B ps (mix rs qs n (t + 1)) n n f m := by
  have rt := (h.each t ht).2
  refine ⟨h.row.setCells_other _ _ _ (row_ne h.row rt (by decide)), h.len, ⟨h.own.1, ?_⟩, fun i hi => ⟨(h.each i hi).1, ?_⟩, h.apart, h.front, fun j h1 h2 => ?_⟩
  · rcases h.own.2 with h3 | ⟨g, cap, cur, hv, hN, hh, r'⟩
    · exact .inl h3
    · have q : Row w g cur.toList 38 := by unfold Row; rw [hh]
      have q2 := q.setCells_other (B t) 0 (vB (rs.getD t [])) (row_ne q rt (by decide))
      unfold Row at q2
      exact .inr ⟨g, cap, cur, hv, hN, q2, r'⟩
  · by_cases e : i = t
    · subst e
      rw [mix_get _ _ _ _ _ hi, if_neg (by omega)] at rt
      rw [mix_get _ _ _ _ _ hi, if_pos (by omega)]
      have := Row.setCells 0 (vB (rs.getD i [])) rt (by simp only [vB_length, List.length_append]; omega)
      rw [show (vB (qs.getD i [] ++ marks70)).take 0 ++ vB (rs.getD i []) ++ (vB (qs.getD i [] ++ marks70)).drop (0 + (vB (rs.getD i [])).length) = vB (rs.getD i [] ++ marks70) by
        rw [List.take_zero, List.nil_append, Nat.zero_add, vB_length, hlen, vB_append, vB_append, List.drop_append_of_le_length (by rw [vB_length]; exact Nat.le_refl _), List.drop_eq_nil_of_le (by rw [vB_length]; exact Nat.le_refl _), List.nil_append]] at this
      exact this
    · have e2 : (mix rs qs n (t + 1)).getD i [] = (mix rs qs n t).getD i [] := by
        rw [mix_get _ _ _ _ _ hi, mix_get _ _ _ _ _ hi]
        by_cases h1 : i < t
        · rw [if_pos h1, if_pos (by omega)]
        · rw [if_neg h1, if_neg (by omega)]
      rw [e2]
      refine (h.each i hi).2.setCells_other _ _ _ ?_
      rcases Nat.lt_or_gt_of_ne e with h1 | h1
      · exact h.apart i t h1 ht
      · exact (h.apart t i h1 hi).symm
  · obtain ⟨M, e1, e2, e3⟩ := h.mark j h1 h2
    exact ⟨M, e1, e2.setCells_other _ _ _ (e3 t ht).symm, e3⟩
end

end Go.Proofs.YtlknanjbiicghaaDoor

namespace Go.Proofs.YtlknanjbiicghaaDoor
open Go Go.RowKit
open Sha

theorem stp_fcall {P : Program} {ops : Array Oper} {o : Oper} {a : Act} {w : World} {K : Act → World → Prop} {Q : Exit → Act → World → Prop} {E : Prop} (hg : o.guard = none) (f : FuncId) (args : Array Value) (h : (execOp a.eval o).run P w = .ok (.enter f args) w)
    (hc : Calls P f args w fun e w' => ∃ v, e = .returned v ∧ K (a.put o.dst v) w') : if Region.wanted o (yielded ops a.tmps) = true then Oper.wp P o a w K Q else E := by
  have hw : Region.wanted o (yielded ops a.tmps) = true := by simp [Region.wanted, hg]
  rw [if_pos hw]
  unfold Oper.wp
  rw [h]
  exact hc.mono (fun e w' hk => by obtain ⟨v, he, hk⟩ := hk; subst he; exact hk)
theorem blw_drewN {B : Nat} {a w : World} (h : Below B a w) (n : Nat) : Below B a (w.drewN n) := ⟨h.os, h.tape, h.output, h.size, h.block⟩
theorem str_mark : str mark4 = ⟨#[109, 97, 114, 107]⟩ := by kernel_rfl
/-- An owner's value in the list of owners. -/
theorem Loan.owner {w : World} {G n m f co : Nat} {Ao : Option Addr} {L : List Value} {B : Nat → Nat} {ps qs : List (List (BitVec 8))} (h : Loan w G (.slice Ao n co) L B ps qs n n f m) (t : Nat) (hlt : t < n) : ∃ g1, Ao = some ⟨g1, 0, none⟩ ∧ w.cell? ⟨g1, t, none⟩ = some (Value.slice (some ⟨B t, 0, none⟩) ((ps.getD t []).length + 70) ((ps.getD t []).length + 70)) := by
  rcases h.own.2 with ⟨_, h0⟩ | ⟨g1, cap, cur, hv, _, hh, _, _, _, hta⟩
  · omega
  · simp only [Value.slice.injEq] at hv
    refine ⟨g1, hv.1, ?_⟩
    have q : Row w g1 cur.toList 38 := by unfold Row; rw [hh]
    refine q.cell t _ ?_
    have e : (owv B ps n)[t]? = some (Value.slice (some ⟨B t, 0, none⟩) ((ps.getD t []).length + 70) ((ps.getD t []).length + 70)) := by simp [owv, hlt]
    rw [← hta, List.getElem?_take_of_lt (by omega)] at e
    exact e

end Go.Proofs.YtlknanjbiicghaaDoor

namespace Go.Proofs.YtlknanjbiicghaaDoor
open Go Go.RowKit
open Sha

theorem some_few (n : Nat) (hn : n ≤ 1048576) (A : Option Addr) (cap : Nat) (w : World) :
    Calls Tryd.prog 5 #[.slice A n cap, .int .i64 1048576] w fun e w' => e = .returned (.slice A n cap) ∧ w' = w := by
  have h1 : ¬ (1048576 : Int) < (n : Int) := by omega
  have h2 : (n : Int) ≤ 1048576 := by omega
  have h3 : decide ((1048576 : Int) < (n : Int)) = false := decide_eq_false h1
  go_enter Tryd.func5, Tryd.ntmps5
  go_wp2
  go_ret
  exact ⟨rfl, rfl⟩
theorem some_many (n : Nat) (hn : 1048576 < n) (b o cap : Nat) (hc : n ≤ cap) (w : World) :
    Calls Tryd.prog 5 #[.slice (some ⟨b, o, none⟩) n cap, .int .i64 1048576] w fun e w' => e = .returned (.slice (some ⟨b, o, none⟩) 1048576 cap) ∧ w' = w := by
  have h1 : (1048576 : Int) < (n : Int) := by omega
  have h2 : ¬ (n : Int) ≤ 1048576 := by omega
  have h3 : decide ((1048576 : Int) < (n : Int)) = true := decide_eq_true h1
  have HC : Hid (1048576 ≤ cap) := by show _ ≤ _; omega
  clear hc hn
  go_enter Tryd.func5, Tryd.ntmps5
  go_wp2_with (refine wpList_slice_to rfl 22 38 (.tmp 9) (.tmp 10) b o n cap 1048576 rfl rfl rfl HC.out Tryd.underlying22 info_slb ?_; simp only [Act.put, List.setIfInBounds_toArray, List.set_cons_zero, List.set_cons_succ])
  go_ret
  exact ⟨rfl, rfl⟩
/-- The leaves that are looked at. -/
def few (ps : List (List (BitVec 8))) : List (List (BitVec 8)) := ps.take 1048576
theorem few_len (ps : List (List (BitVec 8))) : (few ps).length ≤ 1048576 := by unfold few; rw [List.length_take]; omega
theorem some_any (ps : List (List (BitVec 8))) (n : Nat) (hn : ps.length = n) (A : Option Addr) (cap : Nat) (hc : n ≤ cap) (w : World) (hv : Lv w A ps) :
    Calls Tryd.prog 5 #[.slice A n cap, .int .i64 1048576] w fun e w' => e = .returned (.slice A (few ps).length cap) ∧ w' = w := by
  by_cases h : n ≤ 1048576
  · rw [show (few ps).length = n by unfold few; rw [List.length_take]; omega]
    exact some_few n h A cap w
  · rcases hv with h0 | ⟨b, o, rfl, _⟩
    · subst h0; simp at hn; omega
    · rw [show (few ps).length = 1048576 by unfold few; rw [List.length_take]; omega]
      exact some_many n (by omega) b o cap hc w
theorem Lv.few {w : World} {A : Option Addr} {ps : List (List (BitVec 8))} (h : Lv w A ps) : Lv w A (few ps) := by
  rcases h with h | ⟨b, o, h1, h2⟩
  · exact .inl (by subst h; rfl)
  · exact .inr ⟨b, o, h1, h2.take _⟩
/-- Leaves in memory of their own are leaves of a caller. -/
theorem Tw.ln {w : World} {g : Nat} {ps : List (List (BitVec 8))} {n : Nat} (h : Tw w g ps n n) (hn : ps.length = n) : LnAt w g 0 ps := by
  have hr := h.row
  rw [Nat.sub_self, List.replicate_zero, List.append_nil] at hr
  refine ⟨twv (g + 1) ps n, by rw [twv_len, hn], hr.all, fun i hi => ?_⟩
  have e : (twv (g + 1) ps n).getD i undef = Value.slice (some ⟨g + 1 + i, 0, none⟩) (ps.getD i []).length (ps.getD i []).length := by
    rw [List.getD_eq_getElem?_getD, twv_get _ _ _ _ (by omega)]; rfl
  rw [e]
  refine ⟨.inr ⟨g + 1 + i, 0, (ps.getD i []).length, rfl, Nat.le_refl _, (h.each i (by omega)).all⟩, fun A' n' c' he hA => ?_⟩
  simp only [Value.slice.injEq] at he
  rw [← he.1] at hA; cases hA
/-- The lent leaves, as a list. -/
theorem Loan.ls {w : World} {G : Nat} {ov : Value} {L : List Value} {B : Nat → Nat} {ps qs : List (List (BitVec 8))} {n : Nat} (h : Loan w G ov L B ps qs n n n 9) (hq : qs.length = n) (hl : ∀ i, i < n → (qs.getD i []).length = (ps.getD i []).length) : LsAt w G 0 qs := by
  have hlen := h.len
  refine ⟨L.take n, by rw [List.length_take, hq]; omega, fun j v hj => ?_, fun i hi => ?_⟩
  · have hjn : j < n := by have := (List.getElem?_eq_some_iff.1 hj).1; rw [List.length_take] at this; omega
    rw [List.getElem?_take_of_lt hjn] at hj
    exact h.row.all j v hj
  · rw [hq] at hi
    have e : (L.take n).getD i undef = L.getD i undef := by simp [List.getD_eq_getElem?_getD, hi]
    rw [e, h.front i hi, ← hl i hi]
    exact .inr ⟨B i, 0, _, rfl, by omega, fun j v hj => (h.each i hi).2.all j v (by rw [vB_append, List.getElem?_append_left (List.getElem?_eq_some_iff.1 hj).1]; exact hj)⟩

end Go.Proofs.YtlknanjbiicghaaDoor
