/-
  OutboxBooks: the document's BookRoot and Path.
-/
import Derived.Test.YtdicgenhfmhklaaGreatDoorTLoan
import Derived.Test.YtdicgenhfmhklaaGreatDoorTAwk
import Derived.Deep.RegionLaw
import Derived.Test.YtdicgenhfmhklaaGreatDoorTStr
import Derived.Deep.QuietTactic
import Derived.BigQuiet
import Derived.Test.YtdicgenhfmhklaaGreatDoorTOwn0
import Derived.Test.YtdicgenhfmhklaaGreatDoorTDg
import Derived.Test.YtdicgenhfmhklaaGreatDoorTPthA
import Derived.Test.YtdicgenhfmhklaaGreatDoorBkD
import Derived.Test.YtdicgenhfmhklaaGreatDoorBkF

namespace Go.Proofs.YtdicgenhfmhklaaGreatDoor
open Go Go.RowKit
open Sha

theorem row_grw {w w' : World} {N' e' size' n' b : Nat} {vp : Value} {cs xs' : List Value} {t : TypeId} (r : Row w b cs t) (hp : w.ownsRow N' e' size' vp n' xs') (hne : t ≠ e') (hg : w.grownBy w' vp.ownBlock) : Row w' b cs t := by
  refine (hg.block b r.lt ?_).trans r
  rcases hp.2 with ⟨h3, _⟩ | ⟨g', cap', cur', hv', _, hh', _⟩
  · rw [h3]; simp [Value.ownBlock]
  · rw [hv']
    simp only [Value.ownBlock, ne_eq, Option.some.injEq]
    intro hgg
    subst hgg
    have := r.symm.trans hh'
    simp only [Option.some.injEq, Obj.cells.injEq] at this
    exact hne this.2.1
theorem Loan.drew {w : World} {G : Nat} {ov : Value} {L : List Value} {B : Nat → Nat} {ps qs : List (List (BitVec 8))} {n a f m : Nat} (h : Loan w G ov L B ps qs n a f m) : Loan w.drew G ov L B ps qs n a f m := ⟨h.row, h.len, h.own, h.each, h.apart, h.front, h.mark⟩
theorem own_one1 {w : World} {N e size n : Nat} {v : Value} {xs : List Value} (h : w.ownsRow N e size v n xs) : v.oneCell' = true := by
  obtain ⟨A, c, rfl⟩ := own_form h; rfl
/-- The cells of a loan. -/
def lo (a b : Value) (n : Nat) : List Value := [a, b, .int .i64 (n : Int)]
theorem lo_one {a b : Value} {n : Nat} (ha : a.oneCell' = true) (hb : b.oneCell' = true) : (lo a b n).toArray.all (·.oneCell') = true := all_oneCell_toArray (fun v hv => by
  unfold lo at hv
  simp only [List.mem_cons, List.not_mem_nil, or_false] at hv
  rcases hv with rfl | rfl | rfl
  · exact ha
  · exact hb
  · rfl)
section
variable {ops : Array Oper} {rest : List Oper} {op : Oper} {a : Act} {w : World} {Q : Exit → Act → World → Prop}
end

end Go.Proofs.YtdicgenhfmhklaaGreatDoor

namespace Go.Proofs.YtdicgenhfmhklaaGreatDoor
open Go Go.RowKit
open Sha

/-- copy, as one step of a region that draws. -/
theorem stp_copy {P : Program} {ops : Array Oper} {op : Oper} {a : Act} {w : World} {K : Act → World → Prop} {Q : Exit → Act → World → Prop} {E : Prop} (hgd : op.guard = none) (x y : Operand) (dT sT : TypeId) (ho : op.op = .call { callee := .builtin .copy, args := #[x, y], argTypes := #[dT, sT] })
    (elem : TypeId) (b o dLen dCap : Nat) (adr : Addr) (sLen sCap : Nat) (cs : List Value)
    (hx : a.eval x = .slice (some ⟨b, o, none⟩) dLen dCap) (hy : a.eval y = .slice (some adr) sLen sCap)
    (hu : P.underlying dT = some (.slice elem)) (hs : (P.info? elem).map (·.size) = some 1) (hn : cs.length = Nat.min sLen dLen)
    (hsrc : ∀ j v, cs[j]? = some v → w.cell? (adr.add j) = some v) (ht : w.there b o cs.length) (h1 : ∀ v ∈ cs, v.oneCell' = true)
    (h : K (a.put op.dst (goInt cs.length)) (w.setCells b o cs)) : if Region.wanted op (yielded ops a.tmps) = true then Oper.wp P op a w K Q else E := by
  have hw : Region.wanted op (yielded ops a.tmps) = true := by simp [Region.wanted, hgd]
  rw [if_pos hw]
  obtain ⟨dst, op', ty, pos, after, guard⟩ := op
  simp only at hgd ho
  subst hgd; subst ho
  have hr := run_copy_cells (P := P) w dT sT ty elem b o dLen dCap adr sLen sCap cs hu hs hn hsrc (fun j hj => (ht j hj).1) (fun j hj => (ht j hj).2) h1
  unfold Oper.wp
  rw [BigFrame.execOp_builtin, BigFrame.builtin_copy]
  simp only [List.map_toArray, List.map_cons, List.map_nil, hx, hy, Sem.run_bind, hr, Result.andThen_ok, Sem.run_pure, Oper.upon_value]
  exact h
/-- The first ones new, the others old. -/
def mix (rs qs : List (List (BitVec 8))) (n t : Nat) : List (List (BitVec 8)) := (List.range n).map fun i => if i < t then rs.getD i [] else qs.getD i []
theorem mix_get (rs qs : List (List (BitVec 8))) (n t i : Nat) (h : i < n) : (mix rs qs n t).getD i [] = if i < t then rs.getD i [] else qs.getD i [] := by simp [mix, h]
section
variable {w : World} {G : Nat} {ov : Value} {L : List Value} {B : Nat → Nat} {ps qs qs' rs : List (List (BitVec 8))} {n a f m : Nat}
theorem Loan.congr (h : Loan w G ov L B ps qs n a f m) (e : ∀ i, i < a → qs'.getD i [] = qs.getD i []) : Loan w G ov L B ps qs' n a f m :=
  ⟨h.row, h.len, h.own, fun i hi => by rw [e i hi]; exact h.each i hi, h.apart, h.front, h.mark⟩
theorem row_neT {b b' : Nat} {cs cs' : List Value} {t t' : TypeId} (r : Row w b cs t) (r' : Row w b' cs' t') (hne : t ≠ t') : b ≠ b' := fun e => by
  subst e
  have := r.symm.trans r'
  simp only [Option.some.injEq, Obj.cells.injEq] at this
  exact hne this.2.1
/-- One leaf is written over. -/
theorem Loan.write {t : Nat} (h : Loan w G ov L B ps (mix rs qs n t) n n f m) (ht : t < n) (hlen : (rs.getD t []).length = (qs.getD t []).length) :
    Loan (w.setCells (B t) 0 (vB (rs.getD t []))) G ov L B ps (mix rs qs n (t + 1)) n n f m := by
  have rt := (h.each t ht).2
  refine ⟨h.row.setCells_other _ _ _ (row_neT h.row rt (by decide)), h.len, ⟨h.own.1, ?_⟩, fun i hi => ⟨(h.each i hi).1, ?_⟩, h.apart, h.front, fun j h1 h2 => ?_⟩
  · rcases h.own.2 with h3 | ⟨g, cap, cur, hv, hN, hh, r'⟩
    · exact .inl h3
    · have q : Row w g cur.toList 54 := by unfold Row; rw [hh]
      have q2 := q.setCells_other (B t) 0 (vB (rs.getD t [])) (row_neT q rt (by decide))
      unfold Row at q2
      exact .inr ⟨g, cap, cur, hv, hN, q2, r'⟩
  · by_cases e : i = t
    · subst e
      rw [mix_get _ _ _ _ _ hi, if_neg (by omega)] at rt
      rw [mix_get _ _ _ _ _ hi, if_pos (by omega)]
      have := Row.setCells 0 (vB (rs.getD i [])) rt (by simp only [vB_length, List.length_append]; omega)
      rw [show (vB (qs.getD i [] ++ marks70)).take 0 ++ vB (rs.getD i []) ++ (vB (qs.getD i [] ++ marks70)).drop (0 + (vB (rs.getD i [])).length) = vB (rs.getD i [] ++ marks70) by
        rw [List.take_zero, List.nil_append, Nat.zero_add, vB_length, hlen, vB_append, vB_append, List.drop_append_of_le_length (by rw [vB_length]; exact Nat.le_refl _), List.drop_eq_nil_of_le (by rw [vB_length]; exact Nat.le_refl _), List.nil_append]] at this
      exact this
    · have e2 : (mix rs qs n (t + 1)).getD i [] = (mix rs qs n t).getD i [] := by
        rw [mix_get _ _ _ _ _ hi, mix_get _ _ _ _ _ hi]
        by_cases h1 : i < t
        · rw [if_pos h1, if_pos (by omega)]
        · rw [if_neg h1, if_neg (by omega)]
      rw [e2]
      refine (h.each i hi).2.setCells_other _ _ _ ?_
      rcases Nat.lt_or_gt_of_ne e with h1 | h1
      · exact h.apart i t h1 ht
      · exact (h.apart t i h1 hi).symm
  · obtain ⟨M, e1, e2, e3⟩ := h.mark j h1 h2
    exact ⟨M, e1, e2.setCells_other _ _ _ (e3 t ht).symm, e3⟩
end

end Go.Proofs.YtdicgenhfmhklaaGreatDoor

namespace Go.Proofs.YtdicgenhfmhklaaGreatDoor
open Go Go.RowKit
open Sha

theorem stp_fcallT {P : Program} {ops : Array Oper} {o : Oper} {a : Act} {w : World} {K : Act → World → Prop} {Q : Exit → Act → World → Prop} {E : Prop} (hg : o.guard = none) (f : FuncId) (args : Array Value) (h : (execOp a.eval o).run P w = .ok (.enter f args) w)
    (hc : Calls P f args w fun e w' => ∃ v, e = .returned v ∧ K (a.put o.dst v) w') : if Region.wanted o (yielded ops a.tmps) = true then Oper.wp P o a w K Q else E := by
  have hw : Region.wanted o (yielded ops a.tmps) = true := by simp [Region.wanted, hg]
  rw [if_pos hw]
  unfold Oper.wp
  rw [h]
  exact hc.mono (fun e w' hk => by obtain ⟨v, he, hk⟩ := hk; subst he; exact hk)
theorem blw_drewN {B : Nat} {a w : World} (h : Below B a w) (n : Nat) : Below B a (w.drewN n) := ⟨h.os, h.tape, h.output, h.size, h.block⟩
theorem str_mark : str mark4 = ⟨#[109, 97, 114, 107]⟩ := by kernel_rfl
/-- An owner's value in the list of owners. -/
theorem Loan.owner {w : World} {G n m f co : Nat} {Ao : Option Addr} {L : List Value} {B : Nat → Nat} {ps qs : List (List (BitVec 8))} (h : Loan w G (.slice Ao n co) L B ps qs n n f m) (t : Nat) (hlt : t < n) : ∃ g1, Ao = some ⟨g1, 0, none⟩ ∧ w.cell? ⟨g1, t, none⟩ = some (Value.slice (some ⟨B t, 0, none⟩) ((ps.getD t []).length + 70) ((ps.getD t []).length + 70)) := by
  rcases h.own.2 with ⟨_, h0⟩ | ⟨g1, cap, cur, hv, _, hh, _, _, _, hta⟩
  · omega
  · simp only [Value.slice.injEq] at hv
    refine ⟨g1, hv.1, ?_⟩
    have q : Row w g1 cur.toList 54 := by unfold Row; rw [hh]
    refine q.cell t _ ?_
    have e : (owv B ps n)[t]? = some (Value.slice (some ⟨B t, 0, none⟩) ((ps.getD t []).length + 70) ((ps.getD t []).length + 70)) := by simp [owv, hlt]
    rw [← hta, List.getElem?_take_of_lt (by omega)] at e
    exact e

end Go.Proofs.YtdicgenhfmhklaaGreatDoor

namespace Go.Proofs.YtdicgenhfmhklaaGreatDoor
open Go Go.RowKit
open Sha

/-- The leaves that are looked at. -/
def few (ps : List (List (BitVec 8))) : List (List (BitVec 8)) := ps.take 1048576
theorem few_len (ps : List (List (BitVec 8))) : (few ps).length ≤ 1048576 := by unfold few; rw [List.length_take]; omega
theorem Lv.few {w : World} {A : Option Addr} {ps : List (List (BitVec 8))} (h : Lv w A ps) : Lv w A (few ps) := by
  rcases h with h | ⟨b, o, h1, h2⟩
  · exact .inl (by subst h; rfl)
  · exact .inr ⟨b, o, h1, h2.take _⟩
/-- The document's root of a list that came in. -/
theorem rroot_lv (ps : List (List (BitVec 8))) (n : Nat) (hn : ps.length = n) (hs : n ≤ 1048576) (hl : ∀ i, i < n → (ps.getD i []).length ≤ 140737488351232) (dd : List (BitVec 8)) (hd : dd = rt ps) (A : Option Addr) (cap : Nat) (hc : n ≤ cap) (w : World) (fG : Given w) (hv : Lv w A ps) :
    Calls Tryz.prog 25 #[.slice A n cap] w fun e w' => e = .returned (.agg (vB dd).toArray) ∧ Below w.heap.size w w' := by
  rcases hv with h0 | ⟨b, o, rfl, h⟩
  · subst h0
    subst hn
    exact rroot_nil A cap dd (by rw [hd, rt_nil [] rfl]) w fG
  · exact rroot_any n ps hn (by omega) (fun i hi => by have := hl i (by omega); omega) dd hd b o cap hc w fG h
/-- Leaves in memory of their own are leaves of a caller. -/
theorem Tw.ln {w : World} {g : Nat} {ps : List (List (BitVec 8))} {n : Nat} (h : Tw w g ps n n) (hn : ps.length = n) : LnAt w g 0 ps := by
  have hr := h.row
  rw [Nat.sub_self, List.replicate_zero, List.append_nil] at hr
  refine ⟨twv (g + 1) ps n, by rw [twv_len, hn], hr.all, fun i hi => ?_⟩
  have e : (twv (g + 1) ps n).getD i undef = Value.slice (some ⟨g + 1 + i, 0, none⟩) (ps.getD i []).length (ps.getD i []).length := by
    rw [List.getD_eq_getElem?_getD, twv_get _ _ _ _ (by omega)]; rfl
  rw [e]
  refine ⟨.inr ⟨g + 1 + i, 0, (ps.getD i []).length, rfl, Nat.le_refl _, (h.each i (by omega)).all⟩, fun A' n' c' he hA => ?_⟩
  simp only [Value.slice.injEq] at he
  rw [← he.1] at hA; cases hA
/-- The lent leaves, as a list. -/
theorem Loan.ls {w : World} {G : Nat} {ov : Value} {L : List Value} {B : Nat → Nat} {ps qs : List (List (BitVec 8))} {n : Nat} (h : Loan w G ov L B ps qs n n n 9) (hq : qs.length = n) (hl : ∀ i, i < n → (qs.getD i []).length = (ps.getD i []).length) : LsAt w G 0 qs := by
  have hlen := h.len
  refine ⟨L.take n, by rw [List.length_take, hq]; omega, fun j v hj => ?_, fun i hi => ?_⟩
  · have hjn : j < n := by have := (List.getElem?_eq_some_iff.1 hj).1; rw [List.length_take] at this; omega
    rw [List.getElem?_take_of_lt hjn] at hj
    exact h.row.all j v hj
  · rw [hq] at hi
    have e : (L.take n).getD i undef = L.getD i undef := by simp [List.getD_eq_getElem?_getD, hi]
    rw [e, h.front i hi, ← hl i hi]
    exact .inr ⟨B i, 0, _, rfl, by omega, fun j v hj => (h.each i hi).2.all j v (by rw [vB_append, List.getElem?_append_left (List.getElem?_eq_some_iff.1 hj).1]; exact hj)⟩

end Go.Proofs.YtdicgenhfmhklaaGreatDoor

namespace Go.Proofs.YtdicgenhfmhklaaGreatDoor
open Go Go.RowKit
open Sha

/-- A mark as a digest. -/
def md (m : BitVec 8) : List (BitVec 8) := m :: List.replicate 31 0#8
theorem dl_md (m : BitVec 8) : Dl (md m) := rfl
theorem built_md (k : Int) (cs : List Value) (h : cs = [.int .u8 k, .int .u8 0, .int .u8 0, .int .u8 0, .int .u8 0, .int .u8 0, .int .u8 0, .int .u8 0, .int .u8 0, .int .u8 0, .int .u8 0, .int .u8 0, .int .u8 0, .int .u8 0, .int .u8 0, .int .u8 0, .int .u8 0, .int .u8 0, .int .u8 0, .int .u8 0, .int .u8 0, .int .u8 0, .int .u8 0, .int .u8 0, .int .u8 0, .int .u8 0, .int .u8 0, .int .u8 0, .int .u8 0, .int .u8 0, .int .u8 0, .int .u8 0]) : Tryz.prog.built 44 [(0, .int .u8 k)] = some cs.toArray := by
  subst h
  kernel_rfl
theorem wp_buildx {o : Oper} {a : Act} {w : World} {K : Act → World → Prop} {Q : Exit → Act → World → Prop} (x : Operand) (m : BitVec 8) (ho : o.op = .build 44 #[(0, x)]) (hx : a.eval x = .int .u8 (c m)) (h : K (a.put o.dst (.agg (vB (md m)).toArray)) w) : Oper.wp Tryz.prog o a w K Q := by
  have e : ((#[(0, x)] : Array (Nat × Operand)).map fun (i, x) => (i, a.eval x)).toList = [(0, .int .u8 (c m))] := by simp [hx]
  have hb : Tryz.prog.built 44 [(0, .int .u8 (c m))] = some (vB (md m)).toArray := built_md (c m) _ rfl
  refine wp_build _ _ ho (by rw [e, hb]; rfl) ?_
  rw [e, hb]; exact h
section
variable {ops : Array Oper} {rest : List Oper} {op : Oper} {a : Act} {w : World} {Q : Exit → Act → World → Prop}
theorem wpList_buildx (hw : Region.wanted op (yielded ops a.tmps) = true) (x : Operand) (m : BitVec 8) (mm : List (BitVec 8)) (hm : mm = md m) (ho : op.op = .build 44 #[(0, x)]) (hx : a.eval x = .int .u8 (c m))
    (h : wpList Tryz.prog ops Q rest (a.put op.dst (.agg (vB mm).toArray)) w) : wpList Tryz.prog ops Q (op :: rest) a w := by
  subst hm
  exact BigFrame.wpList_want hw fun _ hK => wp_buildx x m ho hx (hK _ _ h)
theorem wpList_build_dd (hw : Region.wanted op (yielded ops a.tmps) = true) (x : Operand) (ho : op.op = .buildSlice 64 1 #[(0, x)]) (r : List (BitVec 8)) (hr : Dl r) (hx : a.eval x = .agg (vB r).toArray)
    (h : wpList Tryz.prog ops Q rest (a.put op.dst (.slice (some ⟨w.heap.size, 0, none⟩) 1 1)) (w.alloc (.cells (vB r).toArray 44))) : wpList Tryz.prog ops Q (op :: rest) a w :=
  BigFrame.wpList_want hw fun _ hK => wp_build_d x ho r hr hx (hK _ _ h)
end

/-- A list that was made here. -/
def FreshT (N : Nat) (v : Value) : Prop := ∀ g, v.ownBlock = some g → N ≤ g
theorem FreshT.more {N M : Nat} {v : Value} (h : FreshT M v) (k : N ≤ M) : FreshT N v := fun g e => Nat.le_trans k (h g e)
theorem fresh_of {w : World} {N n : Nat} {v : Value} {xs : List Value} (h : w.ownsRow N 44 32 v n xs) : FreshT N v := own_block h
theorem ow_of {w : World} {N n : Nat} {v : Value} {xs : List Value} (h : w.ownsRow N 44 32 v n xs) : Ow w v n xs := own_less h (Nat.zero_le _)

end Go.Proofs.YtdicgenhfmhklaaGreatDoor

namespace Go.Proofs.YtdicgenhfmhklaaGreatDoor
open Go Go.RowKit
open Sha

theorem own_of {w : World} {N n : Nat} {v : Value} {xs : List Value} (h : Ow w v n xs) (hf : FreshT N v) : w.ownsRow N 44 32 v n xs := by
  refine ⟨h.1, ?_⟩
  rcases h.2 with q | ⟨g, cap, cur, hv, hg, r⟩
  · exact .inl q
  · exact .inr ⟨g, cap, cur, hv, hf g (by rw [hv]; rfl), r⟩

set_option maxRecDepth 100000 in
set_option maxHeartbeats 1000000 in
theorem rpath_one (A : Option Addr) (cap : Nat) (i : Int) (w : World) :
    Calls Tryz.prog 62 #[.slice A 1 cap, .int .i64 i] w fun e w' => ∃ v, e = .returned v ∧ w'.ownsRow w.heap.size 44 32 v 0 [] ∧ Below w.heap.size w w' := by
  go_enter Tryz.func62, Tryz.ntmps62
  go_wp2_with fail
  go_ret
  exact ⟨.slice none 0 0, rfl, ⟨rfl, .inl ⟨rfl, rfl⟩⟩, Below.refl _ _⟩

set_option maxRecDepth 100000 in
set_option maxHeartbeats 4000000 in
theorem rpath_left (n i k p cap b o : Nat) (hik : i < k) (h2 : 2 ≤ n) (hn : n < 4611686018427387904) (hk : fpart n = k) (l : List Value) (r : List (BitVec 8)) (hr : Dl r) (hp : (p + 1) * 32 ≤ 140737488355328) (hc : n ≤ cap) (w : World)
    (hS : ∀ W, Below w.heap.size w W → Calls Tryz.prog 62 #[.slice (some ⟨b, o, none⟩) k cap, .int .i64 (i : Int)] W fun e w' => ∃ v, e = .returned v ∧ w'.ownsRow W.heap.size 44 32 v p l ∧ Below W.heap.size W w')
    (hR : ∀ W, Below w.heap.size w W → Calls Tryz.prog 25 #[.slice (some ⟨b, o + k, none⟩) (n - k) (cap - k)] W fun e w' => e = .returned (.agg (vB r).toArray) ∧ Below W.heap.size W w') :
    Calls Tryz.prog 62 #[.slice (some ⟨b, o, none⟩) n cap, .int .i64 (i : Int)] w fun e w' => ∃ v, e = .returned v ∧ w'.ownsRow w.heap.size 44 32 v (p + 1) (l ++ vB r) ∧ Below w.heap.size w w' := by
  have HS : Hid (∀ W, _ → _) := hS
  have HR : Hid (∀ W, _ → _) := hR
  have HP : Hid ((p + 1) * 32 ≤ 140737488355328) := hp
  have HF : Hid (∀ w, _) := fun w => rbelow_any n h2 hn w
  rw [hk] at HF
  have HKN : Hid (k < n) := by show _ < _; rw [← hk]; exact (fpart_bounds n h2 hn).1
  have HC : Hid (n ≤ cap) := hc
  have n1 : ¬ (n : Int) = 1 := by omega
  have c1 : (i : Int) < (k : Int) := by omega
  clear hS hR hk h2 hn hc hp hik
  have hb : Below w.heap.size w w := Below.refl _ _
  go_enter Tryz.func62, Tryz.ntmps62
  go_wp2_with fail
  refine (HF.out w).mono ?_
  rintro e w2 ⟨rfl, rfl⟩
  go_wp2_with (refine wpList_slice_to rfl 27 54 (.tmp 19) (.tmp 20) b o n cap k rfl rfl rfl (Nat.le_trans (Nat.le_of_lt HKN.out) HC.out) Tryz.underlying27 info_slbT ?_; simp only [Act.put, List.setIfInBounds_toArray, List.set_cons_zero, List.set_cons_succ])
  refine (HS.out _ hb).mono ?_
  rintro e V0 ⟨v0, rfl, hO, hB⟩
  replace hb := hb.trans (hB.mono hb.size)
  replace hO := own_less hO (Nat.le_refl _)
  have hFr := fresh_of hO
  have oO := ow_of hO
  clear hB hO
  obtain ⟨Av, cv, ev, _⟩ := oO.form
  subst ev
  go_wp2_with (refine wpList_slice_on rfl 27 54 (.tmp 24) (.tmp 25) b o n cap k rfl rfl rfl (Nat.le_of_lt HKN.out) (Nat.lt_of_lt_of_le HKN.out HC.out) Tryz.underlying27 info_slbT ?_; simp only [Act.put, List.setIfInBounds_toArray, List.set_cons_zero, List.set_cons_succ])
  refine (HR.out V0 hb).mono ?_
  rintro e V1 ⟨rfl, hB⟩
  replace hb := hb.trans (hB.mono hb.size)
  replace oO := oO.be hB
  clear hB
  have n0 : Row (V1.alloc (Obj.cells z32T.toArray 44)) V1.heap.size z32T 44 := Row.new' rfl rfl
  have T0 := hr.there n0 rfl
  replace n0 := n0.over (vs := vB r) (hr.over rfl)
  have hB : Below V1.heap.size V1 ((V1.alloc (Obj.cells z32T.toArray 44)).setCells V1.heap.size 0 (vB r)) := below_setCells ((Below.refl _ _).alloc (Nat.le_refl _) (Obj.cells z32T.toArray 44)) (b := V1.heap.size) (o := 0) (Nat.le_refl _) (vB r)
  replace hb := hb.trans (hB.mono hb.size)
  replace oO := oO.be hB
  clear hB
  go_wp2_with (first
    | (refine wpList_store_mid rfl 44 (.tmp 7) (.tmp 27) rfl V1.heap.size 0 (vB r).toArray rfl rfl T0 hr.info' hr.one ?_; simp only [Act.put]; clear T0; (change wpList _ _ _ _ _ ((V1.alloc (Obj.cells z32T.toArray 44)).setCells V1.heap.size 0 (vB r))); (generalize ((V1.alloc (Obj.cells z32T.toArray 44)).setCells V1.heap.size 0 (vB r)) = X1 at *); (generalize hN : V1.heap.size = N4 at *; clear hN))
    | (refine wpList_load_wT rfl 44 (.tmp 7) rfl N4 0 rfl (vB r) _ n0.all Tryz.underlying44 rfl hr.info ?_; simp only [Act.put, List.setIfInBounds_toArray, List.set_cons_zero, List.set_cons_succ])
    | (refine wpList_build_dd rfl (.tmp 29) rfl r hr rfl ?_; simp only [Act.put, List.setIfInBounds_toArray, List.set_cons_zero, List.set_cons_succ])
    | (refine wpList_append_still rfl (.tmp 28) (.tmp 30) rfl X1.heap.size p _ l r hr rfl (oO.be ((Below.refl _ _).alloc (Nat.le_refl _) (Obj.cells (vB r).toArray 44))) rfl (Row.new' rfl rfl) HP.out ?_; intro v' w' q1 q2 q3 q4; obtain ⟨Ax, cx, ex, _⟩ := q1.form; subst ex; simp only [Act.put, List.setIfInBounds_toArray, List.set_cons_zero, List.set_cons_succ]; have Q1 : Hid _ := q1; have Q2 : Hid _ := q2; have Q3 : Hid _ := q3; clear q1 q2 q3 q4))
  go_ret
  have hb2 := hb.alloc hb.size (Obj.cells (vB r).toArray 44)
  refine ⟨.slice Ax (p + 1) cx, rfl, own_of Q1.out (fun g e => ?_), hb2.grown Q2.out hb2.size hFr⟩
  rcases Q3.out with q | q
  · exact hFr g (q ▸ e)
  · rw [q] at e
    simp only [Option.some.injEq] at e
    rw [← e]; exact hb2.size

set_option maxRecDepth 100000 in
set_option maxHeartbeats 4000000 in
theorem rpath_right (n i k p cap b o : Nat) (hin : i < n) (hik : ¬ i < k) (h2 : 2 ≤ n) (hn : n < 4611686018427387904) (hk : fpart n = k) (l : List Value) (r : List (BitVec 8)) (hr : Dl r) (hp : (p + 1) * 32 ≤ 140737488355328) (hc : n ≤ cap) (w : World)
    (hS : ∀ W, Below w.heap.size w W → Calls Tryz.prog 62 #[.slice (some ⟨b, o + k, none⟩) (n - k) (cap - k), .int .i64 ((i - k : Nat) : Int)] W fun e w' => ∃ v, e = .returned v ∧ w'.ownsRow W.heap.size 44 32 v p l ∧ Below W.heap.size W w')
    (hR : ∀ W, Below w.heap.size w W → Calls Tryz.prog 25 #[.slice (some ⟨b, o, none⟩) k cap] W fun e w' => e = .returned (.agg (vB r).toArray) ∧ Below W.heap.size W w') :
    Calls Tryz.prog 62 #[.slice (some ⟨b, o, none⟩) n cap, .int .i64 (i : Int)] w fun e w' => ∃ v, e = .returned v ∧ w'.ownsRow w.heap.size 44 32 v (p + 1) (l ++ vB r) ∧ Below w.heap.size w w' := by
  have HS : Hid (∀ W, _ → _) := hS
  have HR : Hid (∀ W, _ → _) := hR
  have HP : Hid ((p + 1) * 32 ≤ 140737488355328) := hp
  have HF : Hid (∀ w, _) := fun w => rbelow_any n h2 hn w
  rw [hk] at HF
  have HKN : Hid (k < n) := by show _ < _; rw [← hk]; exact (fpart_bounds n h2 hn).1
  have HC : Hid (n ≤ cap) := hc
  have n1 : ¬ (n : Int) = 1 := by omega
  have c1 : ¬ (i : Int) < (k : Int) := by omega
  have ES : Hid ((i : Int) - (k : Int) = ((i - k : Nat) : Int)) := by show _ = _; omega
  rw [← ES.out] at HS
  have b1 : -9223372036854775808 ≤ (i : Int) - (k : Int) := by omega
  have b2 : (i : Int) - (k : Int) < 9223372036854775808 := by omega
  clear hS hR hk h2 hn hc hp hik hin
  have hb : Below w.heap.size w w := Below.refl _ _
  go_enter Tryz.func62, Tryz.ntmps62
  go_wp2_with fail
  refine (HF.out w).mono ?_
  rintro e w2 ⟨rfl, rfl⟩
  go_wp2_with (refine wpList_slice_on rfl 27 54 (.tmp 32) (.tmp 33) b o n cap k rfl rfl rfl (Nat.le_of_lt HKN.out) (Nat.lt_of_lt_of_le HKN.out HC.out) Tryz.underlying27 info_slbT ?_; simp only [Act.put, List.setIfInBounds_toArray, List.set_cons_zero, List.set_cons_succ])
  refine (HS.out _ hb).mono ?_
  rintro e V0 ⟨v0, rfl, hO, hB⟩
  replace hb := hb.trans (hB.mono hb.size)
  replace hO := own_less hO (Nat.le_refl _)
  have hFr := fresh_of hO
  have oO := ow_of hO
  clear hB hO
  obtain ⟨Av, cv, ev, _⟩ := oO.form
  subst ev
  go_wp2_with (refine wpList_slice_to rfl 27 54 (.tmp 39) (.tmp 40) b o n cap k rfl rfl rfl (Nat.le_trans (Nat.le_of_lt HKN.out) HC.out) Tryz.underlying27 info_slbT ?_; simp only [Act.put, List.setIfInBounds_toArray, List.set_cons_zero, List.set_cons_succ])
  refine (HR.out V0 hb).mono ?_
  rintro e V1 ⟨rfl, hB⟩
  replace hb := hb.trans (hB.mono hb.size)
  replace oO := oO.be hB
  clear hB
  have n0 : Row (V1.alloc (Obj.cells z32T.toArray 44)) V1.heap.size z32T 44 := Row.new' rfl rfl
  have T0 := hr.there n0 rfl
  replace n0 := n0.over (vs := vB r) (hr.over rfl)
  have hB : Below V1.heap.size V1 ((V1.alloc (Obj.cells z32T.toArray 44)).setCells V1.heap.size 0 (vB r)) := below_setCells ((Below.refl _ _).alloc (Nat.le_refl _) (Obj.cells z32T.toArray 44)) (b := V1.heap.size) (o := 0) (Nat.le_refl _) (vB r)
  replace hb := hb.trans (hB.mono hb.size)
  replace oO := oO.be hB
  clear hB
  go_wp2_with (first
    | (refine wpList_store_mid rfl 44 (.tmp 9) (.tmp 42) rfl V1.heap.size 0 (vB r).toArray rfl rfl T0 hr.info' hr.one ?_; simp only [Act.put]; clear T0; (change wpList _ _ _ _ _ ((V1.alloc (Obj.cells z32T.toArray 44)).setCells V1.heap.size 0 (vB r))); (generalize ((V1.alloc (Obj.cells z32T.toArray 44)).setCells V1.heap.size 0 (vB r)) = X1 at *); (generalize hN : V1.heap.size = N4 at *; clear hN))
    | (refine wpList_load_wT rfl 44 (.tmp 9) rfl N4 0 rfl (vB r) _ n0.all Tryz.underlying44 rfl hr.info ?_; simp only [Act.put, List.setIfInBounds_toArray, List.set_cons_zero, List.set_cons_succ])
    | (refine wpList_build_dd rfl (.tmp 44) rfl r hr rfl ?_; simp only [Act.put, List.setIfInBounds_toArray, List.set_cons_zero, List.set_cons_succ])
    | (refine wpList_append_still rfl (.tmp 43) (.tmp 45) rfl X1.heap.size p _ l r hr rfl (oO.be ((Below.refl _ _).alloc (Nat.le_refl _) (Obj.cells (vB r).toArray 44))) rfl (Row.new' rfl rfl) HP.out ?_; intro v' w' q1 q2 q3 q4; obtain ⟨Ax, cx, ex, _⟩ := q1.form; subst ex; simp only [Act.put, List.setIfInBounds_toArray, List.set_cons_zero, List.set_cons_succ]; have Q1 : Hid _ := q1; have Q2 : Hid _ := q2; have Q3 : Hid _ := q3; clear q1 q2 q3 q4))
  go_ret
  have hb2 := hb.alloc hb.size (Obj.cells (vB r).toArray 44)
  refine ⟨.slice Ax (p + 1) cx, rfl, own_of Q1.out (fun g e => ?_), hb2.grown Q2.out hb2.size hFr⟩
  rcases Q3.out with q | q
  · exact hFr g (q ▸ e)
  · rw [q] at e
    simp only [Option.some.injEq] at e
    rw [← e]; exact hb2.size

/-- The document's path of any list of leaves. -/
theorem rpath_any (n : Nat) : ∀ (i : Nat) (ps : List (List (BitVec 8))), ps.length = n → i < n → n < 4398046511104 → (∀ j, j < ps.length → (ps.getD j []).length + 1 ≤ 140737488355000) → ∀ (b o cap : Nat), n ≤ cap → ∀ w : World, Given w → LnAt w b o ps →
    Calls Tryz.prog 62 #[.slice (some ⟨b, o, none⟩) n cap, .int .i64 (i : Int)] w fun e w' => ∃ v, e = .returned v ∧ w'.ownsRow w.heap.size 44 32 v (pt i ps).length ((pt i ps).flatMap vB) ∧ Below w.heap.size w w' := by
  induction n using Nat.strongRecOn with
  | ind n ih =>
    intro i ps hn hi hlt hm b o cap hc w hK hv
    by_cases e : n = 1
    · subst e
      rw [pt_one i ps hn]
      exact rpath_one _ cap _ w
    · have h2 : 2 ≤ n := by omega
      have hl : n < 4611686018427387904 := by omega
      have hb := fpart_bounds n h2 hl
      have hp := fpart_pos n
      have t1 : (ps.take (fpart n)).length = fpart n := by rw [List.length_take]; omega
      have t2 : (ps.drop (fpart n)).length = n - fpart n := by rw [List.length_drop]; omega
      have m1 : ∀ j, j < (ps.take (fpart n)).length → ((ps.take (fpart n)).getD j []).length + 1 ≤ 140737488355000 := fun j hj => by
        have hj2 : j < fpart n := by omega
        have e2 : (ps.take (fpart n)).getD j [] = ps.getD j [] := by simp [List.getD_eq_getElem?_getD, hj2]
        rw [e2]
        exact hm j (by omega)
      have m2 : ∀ j, j < (ps.drop (fpart n)).length → ((ps.drop (fpart n)).getD j []).length + 1 ≤ 140737488355000 := fun j hj => by
        have e2 : (ps.drop (fpart n)).getD j [] = ps.getD (fpart n + j) [] := by simp [List.getD_eq_getElem?_getD, List.getElem?_drop]
        rw [e2]
        exact hm (fpart n + j) (by omega)
      by_cases hk : i < fpart n
      · have q := pt_length (fpart n) i _ t1 (by omega) (by omega)
        have := pl_lt (fpart n) i (by omega) (by omega)
        rw [pt_left i n ps hn h2 hl hk, List.length_append, List.flatMap_append, List.length_singleton, List.flatMap_singleton]
        exact rpath_left n i (fpart n) _ cap b o hk h2 hl rfl _ _ (rt_length _) (by omega) hc w
          (fun W hB => ih (fpart n) hb.1 i _ t1 hk (by omega) m1 b o cap (by omega) W (hK.low hB) ((hv.below hB).take _))
          (fun W hB => rroot_any (n - fpart n) _ t2 (by omega) m2 _ rfl b (o + fpart n) (cap - fpart n) (by omega) W (hK.low hB) ((hv.below hB).drop _))
      · have q := pt_length (n - fpart n) (i - fpart n) _ t2 (by omega) (by omega)
        have := pl_lt (n - fpart n) (i - fpart n) (by omega) (by omega)
        rw [pt_right i n ps hn h2 hl hk, List.length_append, List.flatMap_append, List.length_singleton, List.flatMap_singleton]
        exact rpath_right n i (fpart n) _ cap b o hi hk h2 hl rfl _ _ (rt_length _) (by omega) hc w
          (fun W hB => ih (n - fpart n) (by omega) (i - fpart n) _ t2 (by omega) (by omega) m2 b (o + fpart n) (cap - fpart n) (by omega) W (hK.low hB) ((hv.below hB).drop _))
          (fun W hB => rroot_any (fpart n) _ t1 (by omega) m1 _ rfl b o cap (by omega) W (hK.low hB) ((hv.below hB).take _))

set_option maxRecDepth 100000 in
set_option maxHeartbeats 1000000 in
theorem rPath_out (A : Option Addr) (n cap : Nat) (i : Int) (h : i < 0 ∨ (n : Int) ≤ i) (w : World) :
    Calls Tryz.prog 40 #[.slice A n cap, .int .i64 i] w fun e w' => e = .returned (.tuple #[.slice none 0 0, .int .i64 41]) ∧ Below w.heap.size w w' := by
  have hb1 : Below w.heap.size w w := Below.refl _ _
  by_cases h0 : i < 0
  · clear h
    go_enter Tryz.func40, Tryz.ntmps40
    go_wp2_with fail
    go_ret2
    exact ⟨rfl, hb1⟩
  · have h1 : (n : Int) ≤ i := by omega
    clear h
    go_enter Tryz.func40, Tryz.ntmps40
    go_wp2_with fail
    go_ret2
    exact ⟨rfl, hb1⟩

set_option maxRecDepth 100000 in
set_option maxHeartbeats 1000000 in
theorem rPath_in (n i : Nat) (ps : List (List (BitVec 8))) (hn : ps.length = n) (hi : i < n) (hl : n < 4398046511104) (hm : ∀ j, j < ps.length → (ps.getD j []).length + 1 ≤ 140737488355000) (b o cap : Nat) (hc : n ≤ cap) (w : World) (hK : Given w) (hv : LnAt w b o ps) :
    Calls Tryz.prog 40 #[.slice (some ⟨b, o, none⟩) n cap, .int .i64 (i : Int)] w fun e w' => ∃ v, e = .returned (.tuple #[v, .int .i64 0]) ∧ w'.ownsRow w.heap.size 44 32 v (pt i ps).length ((pt i ps).flatMap vB) ∧ Below w.heap.size w w' := by
  have HP : Hid (Calls _ _ _ _ _) := rpath_any n i ps hn hi hl hm b o cap hc w hK hv
  have c1 : ¬ (i : Int) < 0 := by omega
  have c2 : ¬ (n : Int) ≤ (i : Int) := by omega
  clear hm hK hv hn
  go_enter Tryz.func40, Tryz.ntmps40
  go_wp2_with fail
  refine HP.out.mono ?_
  rintro e w2 ⟨v2, rfl, hO, hB⟩
  go_wp2_with fail
  go_ret2
  exact ⟨v2, rfl, hO, hB⟩

end Go.Proofs.YtdicgenhfmhklaaGreatDoor

namespace Go.Proofs.YtdicgenhfmhklaaGreatDoor
open Go Go.RowKit
open Sha

set_option maxRecDepth 100000 in
set_option maxHeartbeats 4000000 in
theorem rleaf_ok (ls : List Lv11) (A : Option Addr) (n c k : Nat) (hn : ls.length = n) (l : Lv11) (hl : ls[k]? = some l) (L : List Value) (hL : L = l.cells) (w : World) (hA : LfA w A ls) :
    Calls Tryz.prog 16 #[.slice A n c, .int .i64 (k : Int)] w fun r w' => r = .returned (.tuple #[.agg L.toArray, .int .i64 0]) ∧ Below w.heap.size w w' := by
  have hkn : k < n := by have := (List.getElem?_eq_some_iff.1 hl).1; omega
  obtain ⟨hlo, b, o, rfl, hrg⟩ := hA k l hl
  obtain ⟨q, hq⟩ : ∃ q, q = o + k * 27 := ⟨_, rfl⟩
  rw [← hL, ← hq] at hrg
  have HQ : Hid (o + k * 27 = q) := hq.symm
  have HRG : Hid (w.rangeAt b q L) := hrg
  have HI : Hid ((Tryz.prog.info? 40).map (·.size) = some L.length) := by rw [hL]; exact Lv11.info hlo
  have HLL : Hid (L.length = zLf.length) := by show _ = _; rw [hL, Lv11.len hlo]; rfl
  have HLO : Hid (L.toArray.all (·.oneCell') = true) := by rw [hL]; exact lf_all
  have h0 : ¬ ((k : Int) < 0) := by omega
  have h1 : decide ((k : Int) < 0) = false := decide_eq_false h0
  have h2 : ¬ ((n : Int) ≤ (k : Int)) := by omega
  have h3 : decide (n ≤ k) = false := decide_eq_false (by omega)
  have h4 : decide ((n : Int) ≤ (k : Int)) = false := decide_eq_false h2
  have h5 : ¬ (n ≤ k) := by omega
  clear hA hl hlo hL hq hrg hn
  go_enter Tryz.func16, Tryz.ntmps16
  go_wp2_with (first
    | (refine wpList_allocLf rfl rfl ?_; intro X0 q1 q2 q3; have RQ : Hid (Row X0 w.heap.size zLf 40) := q1; have B0 : Hid (Below w.heap.size w X0) := q2; have HR0 : Hid (X0.rangeAt b q L) := range_be HRG.out q2; clear q1 q2 q3; simp only [Act.put, List.setIfInBounds_toArray, List.set_cons_zero, List.set_cons_succ])
    | (refine wpList_ixF 31 40 (.tmp 15) (.tmp 16) rfl b o n c k 27 q HQ.out rfl rfl hkn Tryz.underlying31 info_lf27 rfl ?_; simp only [Act.put, List.setIfInBounds_toArray, List.set_cons_zero, List.set_cons_succ])
    | (refine wpList_load_w rfl 40 (.tmp 17) rfl b q rfl L _ HR0.out Tryz.underlying40 rfl HI.out ?_; simp only [Act.put, List.setIfInBounds_toArray, List.set_cons_zero, List.set_cons_succ])
    | (refine wpList_storeL rfl 40 (.tmp 4) (.tmp 18) rfl w.heap.size L zLf 40 rfl rfl RQ.out HLL.out HI.out HLO.out ?_; intro X9 q1 q2; have B9 : Hid (Below w.heap.size w X9) := (by rw [q1]; exact below_setCells B0.out (Nat.le_refl _) _); have R9 : Hid (Row X9 w.heap.size L 40) := q2; clear q1 q2; simp only [Act.put]))
  exact bodyPost_ret (results_rowS_tmp Tryz.results16 _ _ w.heap.size 40 L (.int .i64 0) rfl rfl R9.out Tryz.underlying40 HI.out) rfl ⟨rfl, B9.out⟩
/-- Texts in memory, each in a row of its own. -/
def Tx11 (w : World) (v : Value) (ts : List (List (BitVec 8))) : Prop := ∃ cs, Lw w 54 1 v ts.length cs ∧ ∀ (i : Nat) (d : List (BitVec 8)), ts[i]? = some d → ∃ u, cs[i]? = some u ∧ Bw w u d
theorem Tx11.be {w w' : World} {v : Value} {ts : List (List (BitVec 8))} (h : Tx11 w v ts) (k : Below w.heap.size w w') : Tx11 w' v ts := by
  obtain ⟨cs, h1, h2⟩ := h
  exact ⟨cs, Lw.be h1 k, fun i d hd => by obtain ⟨u, q1, q2⟩ := h2 i d hd; exact ⟨u, q1, Bw.be q2 k⟩⟩
theorem Tx11.more {w X Y : World} {A : Option Addr} {n c : Nat} {ts : List (List (BitVec 8))} {cs : List Value} {u v' : Value} {d : List (BitVec 8)} (h1 : Lw w 54 1 (.slice A n c) n cs) (hn : ts.length = n) (h2 : ∀ (i : Nat) (d : List (BitVec 8)), ts[i]? = some d → ∃ u, cs[i]? = some u ∧ Bw w u d)
    (hu : Bw w u d) (k1 : Below w.heap.size w X) (k2 : X.grownBy Y (Value.slice A n c).ownBlock) (h : Lw Y 54 1 v' (n + 1) (cs ++ [u])) : Tx11 Y v' (ts ++ [d]) := by
  refine ⟨cs ++ [u], by rw [List.length_append, hn]; exact h, ?_⟩
  have put : ∀ u d, Bw w u d → Bw Y u d := fun u d hu => by
    have h4 := Bw.be hu k1
    exact Bw.block h4 (fun g e => k2.block g (Bw.lt h4 g e) (bl_ne h4 (Lw.be h1 k1) (by decide) g e))
  have hcl : cs.length = ts.length := by have := Lw.len h1; omega
  intro i d' hd'
  by_cases hi : i < ts.length
  · rw [List.getElem?_append_left hi] at hd'
    obtain ⟨x, q1, q2⟩ := h2 i d' hd'
    refine ⟨x, ?_, put x d' q2⟩
    rw [List.getElem?_append_left (by omega)]
    exact q1
  · have hi2 : i = ts.length := by
      have := (List.getElem?_eq_some_iff.1 hd').1
      rw [List.length_append, List.length_singleton] at this
      omega
    subst hi2
    rw [List.getElem?_append_right (Nat.le_refl _), Nat.sub_self] at hd'
    obtain rfl : d = d' := by simpa using hd'
    refine ⟨u, ?_, put _ _ hu⟩
    rw [List.getElem?_append_right (by omega), hcl, Nat.sub_self]
    rfl
set_option maxRecDepth 100000 in
set_option maxHeartbeats 8000000 in
theorem rtexts_ok (ls : List Lv11) (A : Option Addr) (n c k : Nat) (hn : ls.length = n) (hnb : n ≤ 1000000) (hk : k ≤ n) (hmay : ∀ l ∈ ls, l.may = true) (w : World) (hA : LfA w A ls) :
    Calls Tryz.prog 26 #[.slice A n c, .int .i64 (k : Int)] w fun r w' => ∃ v, r = .returned v ∧ Tx11 w' v ((ls.take k).map Lv11.bytes) ∧ Below w.heap.size w w' := by
  have HA : Hid (LfA w A ls) := hA
  have HN : Hid (ls.length = n) := hn
  have HMY : Hid (∀ l ∈ ls, l.may = true) := hmay
  clear hA hn hmay
  go_enter Tryz.func26, Tryz.ntmps26
  go_wp2_with fail
  go_loopw [5, 6] (fun v5 v6 wr => ∃ (i : Nat) (A' : Option Addr) (c' : Nat), i ≤ k ∧ v6 = .int .i64 (i : Int) ∧ v5 = .slice A' i c' ∧ Hid (Tx11 wr (.slice A' i c') ((ls.take i).map Lv11.bytes) ∧ (∀ g, (Value.slice A' i c').ownBlock = some g → w.heap.size ≤ g) ∧ Below w.heap.size w wr)) (fun _ v6 _ => k - (intOf v6).toNat)
  case atStart => exact ⟨0, none, 0, Nat.zero_le _, rfl, rfl, ⟨[], Lw.nil _ _ _, fun i d e => by simp at e⟩, (fun g e => by cases e), Below.refl _ _⟩
  case round =>
    obtain ⟨i, A', c', hi, rfl, rfl, HI0⟩ := hrel
    have HT : Hid (Tx11 wr (.slice A' i c') ((ls.take i).map Lv11.bytes)) := HI0.out.1
    have HG : Hid (∀ g, (Value.slice A' i c').ownBlock = some g → w.heap.size ≤ g) := HI0.out.2.1
    have HB : Hid (Below w.heap.size w wr) := HI0.out.2.2
    clear HI0
    by_cases hlt : i < k
    · have hlt2 : (i : Int) < (k : Int) := by omega
      obtain ⟨x, hx⟩ : ∃ x, ls[i]? = some x := ⟨_, List.getElem?_eq_getElem (by rw [HN.out]; omega)⟩
      obtain ⟨hxo, b, o, rfl, hrg⟩ := HA.out i x hx
      have hxm : may x.ix x.en x.tk x.am = true := HMY.out x (List.mem_of_getElem? hx)
      obtain ⟨M, hM⟩ : ∃ M, M = x.cells := ⟨_, rfl⟩
      obtain ⟨q, hq⟩ : ∃ q, q = o + i * 27 := ⟨_, rfl⟩
      obtain ⟨T, hT⟩ : ∃ T, T = x.bytes := ⟨_, rfl⟩
      rw [← hM, ← hq] at hrg
      have HQ : Hid (o + i * 27 = q) := hq.symm
      have HRG : Hid (wr.rangeAt b q M) := range_be hrg HB.out
      have HMI : Hid ((Tryz.prog.info? 40).map (·.size) = some M.length) := by rw [hM]; exact Lv11.info hxo
      have HFO : Hid (∀ X, Calls Tryz.prog 49 #[.agg M.toArray] X fun e w' => ∃ A cap, e = .returned (.slice A T.length cap) ∧ Bw w' (.slice A T.length cap) T ∧ Below X.heap.size X w') := fun X => by
        have hmi := may_in hxm
        refine (form_doc x.ix x.en x.tk (by omega) (by omega) (by omega) x.rc x.am hxo.rc hxo.am hxo.q M hM X).mono ?_
        rintro e w' ⟨v, rfl, q1, _, q3⟩
        rw [formB_may x.ix x.en x.tk x.rc x.am hxm, ← show T = lfb x.ix x.en x.tk x.rc x.am from hT] at q1
        obtain ⟨A, cap, e, _, hn⟩ := Bw.form q1
        subst e
        exact ⟨A, cap, rfl, q1, q3⟩
      have HTE : Hid ((ls.take (i + 1)).map Lv11.bytes = (ls.take i).map Lv11.bytes ++ [T]) := by show _ = _; rw [List.take_add_one, hx, hT, List.map_append]; rfl
      have HTL : Hid (((ls.take i).map Lv11.bytes).length = i) := by show _ = _; rw [List.length_map, List.length_take, HN.out]; omega
      have htn : i < n := by omega
      clear hx hxo hrg hM hq hT hxm
      go_upto_region 5 with fail
      go_wp2_with (first
        | (refine wpList_ixF 31 40 (.tmp 13) (.tmp 14) rfl b o n c i 27 q HQ.out rfl rfl htn Tryz.underlying31 info_lf27 rfl ?_; simp only [Act.put, List.setIfInBounds_toArray, List.set_cons_zero, List.set_cons_succ])
        | (refine wpList_load_w rfl 40 (.tmp 15) rfl b q rfl M _ HRG.out Tryz.underlying40 rfl HMI.out ?_; simp only [Act.put, List.setIfInBounds_toArray, List.set_cons_zero, List.set_cons_succ])
        | (go_at_call 49; refine Calls.mono (HFO.out wr) ?_; rintro e Y1 ⟨A2, c2, rfl, q1, q2⟩; have WY : Hid (Bw Y1 (.slice A2 T.length c2) T) := q1; have BY : Hid (Below w.heap.size w Y1) := HB.out.trans (q2.mono HB.out.size); have TY : Hid (Tx11 Y1 (.slice A' i c') ((ls.take i).map Lv11.bytes)) := HT.out.be q2; clear q1 q2; obtain ⟨cs, h1, h2⟩ := TY.out; rw [HTL.out] at h1; have HLW : Hid (Lw Y1 54 1 (.slice A' i c') i cs) := h1; have HCS : Hid (∀ (j : Nat) (d : List (BitVec 8)), ((ls.take i).map Lv11.bytes)[j]? = some d → ∃ u, cs[j]? = some u ∧ Bw Y1 u d) := h2; clear h1 h2)
        | (refine wpList_buildOne 27 54 Tryz.underlying27 info_sl4 rfl (.tmp 17) rfl (.slice A2 T.length c2) rfl rfl ?_; intro Y2 q1 q2 q3; have R4 : Hid (Row Y2 Y1.heap.size [.slice A2 T.length c2] 54) := q1; have D4 : Hid (Below Y1.heap.size Y1 Y2) := q2; clear q1 q2 q3; simp only [Act.put, List.setIfInBounds_toArray, List.set_cons_zero, List.set_cons_succ])
        | (refine wpList_appL 27 54 1 24 Tryz.underlying27 info_sl (by decide) (by decide) rfl (.tmp 12) (.tmp 18) rfl (.slice A' i c') i cs [.slice A2 T.length c2] rfl (Lw.be HLW.out D4.out) Y1.heap.size rfl rfl R4.out.all (fun u hu => by obtain rfl := List.mem_singleton.1 hu; rfl) (by omega) ?_; intro v9 Y3 q1 q2 q3; obtain ⟨A9, c9, e9, _, _⟩ := Lw.form q1; subst e9; have FL : Hid (Tx11 Y3 (.slice A9 (i + 1) c9) ((ls.take (i + 1)).map Lv11.bytes) ∧ (∀ g, (Value.slice A9 (i + 1) c9).ownBlock = some g → w.heap.size ≤ g) ∧ Below w.heap.size w Y3) := ⟨(by rw [HTE.out]; exact Tx11.more HLW.out HTL.out HCS.out WY.out D4.out q2 q1), (fun g0 e0 => by rcases q3 with z | z; (exact HG.out g0 (by rw [← z]; exact e0)); (rw [z] at e0; cases e0; exact Nat.le_trans BY.out.size D4.out.size)), below_gb (BY.out.trans (D4.out.mono BY.out.size)) q2 (fun g0 e0 => HG.out g0 e0)⟩; clear q1 q2 q3; simp only [Act.put, List.setIfInBounds_toArray, List.set_cons_zero, List.set_cons_succ]))
      exact ⟨⟨i + 1, A9, c9, hlt, by go_num, rfl, FL⟩, by simp [intOf]; omega⟩
    have hlt2 : ¬ ((i : Int) < (k : Int)) := by omega
    have hin : i = k := by omega
    have HIE : Hid (i = k) := hin
    clear hlt hin
    go_wp2_with fail
    go_ret
    exact ⟨_, rfl, by have z := HT.out; rw [List.map_take] at z; rw [← HIE.out]; exact z, HB.out⟩

end Go.Proofs.YtdicgenhfmhklaaGreatDoor

namespace Go.Proofs.YtdicgenhfmhklaaGreatDoor
open Go Go.RowKit
open Sha

theorem Tx11.ln {w : World} {v : Value} {ts : List (List (BitVec 8))} (h : Tx11 w v ts) : ∃ A cap, v = .slice A ts.length cap ∧ ts.length ≤ cap ∧ (0 < ts.length → ∃ b, A = some ⟨b, 0, none⟩ ∧ LnAt w b 0 ts) := by
  obtain ⟨cs, h1, h2⟩ := h
  obtain ⟨A, cap, e, hc, _⟩ := Lw.form h1
  refine ⟨A, cap, e, hc, fun hp => ?_⟩
  obtain ⟨g, c', e2, _⟩ := Lw.open h1 hp
  rw [e] at e2
  simp only [Value.slice.injEq] at e2
  obtain ⟨rfl, _, rfl⟩ := e2
  subst e
  refine ⟨g, rfl, cs, by have := Lw.len h1; omega, Lw.range h1, fun i hi => ?_⟩
  obtain ⟨u, p1, p2⟩ := h2 i _ (List.getElem?_eq_getElem hi)
  rw [List.getD_eq_getElem?_getD, p1, List.getD_eq_getElem?_getD, List.getElem?_eq_getElem hi]
  refine ⟨slT (Bw.sl p2), fun A' n' c' e' hA => ?_⟩
  obtain ⟨A2, c2, e3, _, hz⟩ := Bw.form p2
  have e4 : u = .slice A' n' c' := e'
  rw [e4] at e3
  simp only [Value.slice.injEq] at e3
  obtain ⟨rfl, _, rfl⟩ := e3
  exact hz hA
theorem lbs_len {ls : List Lv11} (hok : ∀ l ∈ ls, l.Ok) (i : Nat) : ((ls.map Lv11.bytes).getD i []).length ≤ 153 := by
  rw [List.getD_eq_getElem?_getD, List.getElem?_map]
  cases h : ls[i]? with
  | none => simp
  | some l => exact lfb_len l.ix l.en l.tk l.rc l.am (hok l (List.mem_of_getElem? h)).rc
theorem LfA.ok {w : World} {A : Option Addr} {ls : List Lv11} (h : LfA w A ls) : ∀ l ∈ ls, l.Ok := fun x hx => by
  obtain ⟨i, hi, rfl⟩ := List.getElem_of_mem hx
  exact (h i _ (List.getElem?_eq_getElem hi)).1
theorem lbs_take {ls : List Lv11} {k : Nat} : (ls.take k).map Lv11.bytes = (ls.map Lv11.bytes).take k := List.map_take ..
set_option maxRecDepth 100000 in
set_option maxHeartbeats 4000000 in
theorem rbroot_ok (ls : List Lv11) (A : Option Addr) (n c : Nat) (hn : ls.length = n) (hnb : n ≤ 1000000) (hmay : ∀ l ∈ ls, l.may = true) (k : Nat) (hk : k ≤ n) (dd : List (BitVec 8)) (hd : dd = rt ((ls.map Lv11.bytes).take k)) (w : World) (hA : LfA w A ls) (hG : Given w) :
    Calls Tryz.prog 8 #[.slice A n c, .int .i64 (k : Int)] w fun e w' => e = .returned (.tuple #[.agg (vB dd).toArray, .int .i64 0]) ∧ Below w.heap.size w w' := by
  have h32 : dd.length = 32 := by rw [hd]; exact rt_length _
  have HF : Hid (∀ X, Below w.heap.size w X → Calls Tryz.prog 26 #[.slice A n c, .int .i64 (k : Int)] X fun r w' => ∃ v, r = .returned v ∧ Tx11 w' v ((ls.map Lv11.bytes).take k) ∧ Below X.heap.size X w') := fun X hX => by
    rw [← lbs_take]
    exact rtexts_ok ls A n c k hn hnb hk hmay X (hA.be hX)
  have HR : Hid (∀ X v, Below w.heap.size w X → Tx11 X v ((ls.map Lv11.bytes).take k) → Calls Tryz.prog 25 #[v] X fun e w' => e = .returned (.agg (vB dd).toArray) ∧ Below X.heap.size X w') := fun X v hX hv => by
    have hlen : ((ls.map Lv11.bytes).take k).length = k := by rw [List.length_take, List.length_map]; omega
    obtain ⟨A2, c2, rfl, hc2, hl⟩ := hv.ln
    rw [hlen] at hc2 hl ⊢
    by_cases h0 : 0 < k
    · obtain ⟨b, rfl, hb⟩ := hl h0
      refine rroot_any k _ hlen (by omega) (fun i hi => ?_) dd hd b 0 c2 hc2 X (hG.low hX) hb
      rw [← lbs_take]
      have := lbs_len (ls := ls.take k) (fun l hl => hA.ok l (List.mem_of_mem_take hl)) i
      omega
    · obtain rfl : k = 0 := by omega
      exact rroot_nil A2 c2 dd (by rw [hd]; exact rt_nil _ rfl) X (hG.low hX)
  have HI : Hid ((Tryz.prog.info? 44).map (·.size) = some (vB dd).length) := info_dg11 dd h32
  have HLL : Hid ((vB dd).length = (vB (List.replicate 32 0#8)).length) := by show _ = _; rw [vB_length, vB_length, h32]; rfl
  have h0 : ¬ ((k : Int) < 0) := by omega
  have h1 : decide ((k : Int) < 0) = false := decide_eq_false h0
  have h2 : ¬ (n < k) := by omega
  have h3 : decide (n < k) = false := decide_eq_false h2
  have h4 : ¬ ((n : Int) < (k : Int)) := by omega
  clear hd hmay hA hG h32 hn
  go_enter Tryz.func8, Tryz.ntmps8
  go_wp2_with (first
    | (refine wpList_allocDg rfl rfl ?_; intro X0 q1 q2; have R0 : Hid (Row X0 w.heap.size (vB (List.replicate 32 0#8)) 44) := q1; have B0 : Hid (Below w.heap.size w X0) := q2; clear q1 q2; simp only [Act.put, List.setIfInBounds_toArray, List.set_cons_zero, List.set_cons_succ])
    | (go_at_call 26; refine Calls.mono (HF.out X0 B0.out) ?_; rintro e X1 ⟨v, rfl, q1, q⟩; have T1 : Hid (Tx11 X1 v ((ls.map Lv11.bytes).take k)) := q1; have R1 : Hid (Row X1 w.heap.size (vB (List.replicate 32 0#8)) 44) := Row.below R0.out q R0.out.lt; have B1 : Hid (Below w.heap.size w X1) := B0.out.trans (q.mono B0.out.size); clear q1 q)
    | (go_at_call 25; refine Calls.mono (HR.out X1 v B1.out T1.out) ?_; rintro e X2 ⟨rfl, q⟩; have R2 : Hid (Row X2 w.heap.size (vB (List.replicate 32 0#8)) 44) := Row.below R1.out q R1.out.lt; have B2 : Hid (Below w.heap.size w X2) := B1.out.trans (q.mono B1.out.size); clear q)
    | (refine wpList_storeL rfl 44 (.tmp 4) (.tmp 18) rfl w.heap.size (vB dd) (vB (List.replicate 32 0#8)) 44 rfl rfl R2.out HLL.out HI.out (vB_all11 dd) ?_; intro X9 q1 q2; have E9 : Hid (X9 = _) := q1; have R9 : Hid (Row X9 w.heap.size (vB dd) 44) := q2; clear q1 q2; simp only [Act.put]))
  have hE : Below w.heap.size w X9 := by rw [E9.out]; exact below_setCells B2.out (Nat.le_refl _) _
  exact bodyPost_ret (results_rowA_tmp11 Tryz.results8 _ _ w.heap.size 44 (vB dd) (.int .i64 0) rfl rfl R9.out Tryz.underlying44 HI.out) rfl ⟨rfl, hE⟩
set_option maxRecDepth 100000 in
set_option maxHeartbeats 4000000 in
theorem rbroot_no (A : Option Addr) (n c : Nat) (k : Int) (hk : k < 0 ∨ (n : Int) < k) (w : World) :
    Calls Tryz.prog 8 #[.slice A n c, .int .i64 k] w fun e w' => e = .returned (.tuple #[.agg (vB (List.replicate 32 0#8)).toArray, .int .i64 112]) ∧ Below w.heap.size w w' := by
  obtain ⟨zz, hzz⟩ : ∃ zz, zz = (vB (List.replicate 32 0#8)) := ⟨_, rfl⟩
  have HI : Hid ((Tryz.prog.info? 44).map (·.size) = some zz.length) := by rw [hzz]; exact info_dg11 _ rfl
  have HZO : Hid (zz.toArray.all (·.oneCell') = true) := by rw [hzz]; exact vB_all11 _
  have HAL : Hid (zz = (vB (List.replicate 32 0#8))) := hzz
  rw [← hzz]
  clear hzz
  rcases hk with h | h
  · have h2 : decide (k < 0) = true := decide_eq_true h
    go_enter Tryz.func8, Tryz.ntmps8
    go_wp2_with (first
      | (refine wpList_allocDg rfl rfl ?_; intro X0 q1 q2; rw [← HAL.out] at q1; have R0 : Hid (Row X0 w.heap.size zz 44) := q1; have B0 : Hid (Below w.heap.size w X0) := q2; clear q1 q2; simp only [Act.put, List.setIfInBounds_toArray, List.set_cons_zero, List.set_cons_succ])
      | (refine BigFrame.wpList_want rfl (fun _ hK => wp_bDz rfl (hK _ _ ?_)); rw [← HAL.out]; simp only [Act.put, List.setIfInBounds_toArray, List.set_cons_zero, List.set_cons_succ])
      | (refine wpList_storeL rfl 44 (.tmp 4) (.tmp 14) rfl w.heap.size zz zz 44 rfl rfl R0.out rfl HI.out HZO.out ?_; intro X9 q1 q2; have B9 : Hid (Below w.heap.size w X9) := (by rw [q1]; exact below_setCells B0.out (Nat.le_refl _) _); have R9 : Hid (Row X9 w.heap.size zz 44) := q2; clear q1 q2; simp only [Act.put]))
    exact bodyPost_ret (results_rowA_tmp11 Tryz.results8 _ _ w.heap.size 44 zz (.int .i64 112) rfl rfl R9.out Tryz.underlying44 HI.out) rfl ⟨rfl, B9.out⟩
  · have h0 : ¬ (k < 0) := by omega
    have h1 : decide (k < 0) = false := decide_eq_false h0
    have h2 : decide ((n : Int) < k) = true := decide_eq_true h
    have h3 : ¬ (k ≤ (n : Int)) := by omega
    go_enter Tryz.func8, Tryz.ntmps8
    go_wp2_with (first
      | (refine wpList_allocDg rfl rfl ?_; intro X0 q1 q2; rw [← HAL.out] at q1; have R0 : Hid (Row X0 w.heap.size zz 44) := q1; have B0 : Hid (Below w.heap.size w X0) := q2; clear q1 q2; simp only [Act.put, List.setIfInBounds_toArray, List.set_cons_zero, List.set_cons_succ])
      | (refine BigFrame.wpList_want rfl (fun _ hK => wp_bDz rfl (hK _ _ ?_)); rw [← HAL.out]; simp only [Act.put, List.setIfInBounds_toArray, List.set_cons_zero, List.set_cons_succ])
      | (refine wpList_storeL rfl 44 (.tmp 4) (.tmp 14) rfl w.heap.size zz zz 44 rfl rfl R0.out rfl HI.out HZO.out ?_; intro X9 q1 q2; have B9 : Hid (Below w.heap.size w X9) := (by rw [q1]; exact below_setCells B0.out (Nat.le_refl _) _); have R9 : Hid (Row X9 w.heap.size zz 44) := q2; clear q1 q2; simp only [Act.put]))
    exact bodyPost_ret (results_rowA_tmp11 Tryz.results8 _ _ w.heap.size 44 zz (.int .i64 112) rfl rfl R9.out Tryz.underlying44 HI.out) rfl ⟨rfl, B9.out⟩
set_option maxRecDepth 100000 in
set_option maxHeartbeats 4000000 in
theorem rbpath_size (A : Option Addr) (n c : Nat) (i k : Int) (hk : k < 0 ∨ (n : Int) < k) (w : World) :
    Calls Tryz.prog 18 #[.slice A n c, .int .i64 i, .int .i64 k] w fun e w' => e = .returned (.tuple #[.slice none 0 0, .int .i64 112]) ∧ w' = w := by
  rcases hk with h | h
  · have h2 : decide (k < 0) = true := decide_eq_true h
    go_enter Tryz.func18, Tryz.ntmps18
    go_wp2_with fail
    go_ret2
    exact ⟨rfl, rfl⟩
  · have h0 : ¬ (k < 0) := by omega
    have h1 : decide (k < 0) = false := decide_eq_false h0
    have h2 : decide ((n : Int) < k) = true := decide_eq_true h
    have h3 : ¬ (k ≤ (n : Int)) := by omega
    go_enter Tryz.func18, Tryz.ntmps18
    go_wp2_with fail
    go_ret2
    exact ⟨rfl, rfl⟩
set_option maxRecDepth 100000 in
set_option maxHeartbeats 4000000 in
theorem rbpath_ix (A : Option Addr) (n c : Nat) (i : Int) (k : Nat) (hk : k ≤ n) (hi : i < 0 ∨ (k : Int) ≤ i) (w : World) :
    Calls Tryz.prog 18 #[.slice A n c, .int .i64 i, .int .i64 (k : Int)] w fun e w' => e = .returned (.tuple #[.slice none 0 0, .int .i64 111]) ∧ w' = w := by
  have k0 : ¬ ((k : Int) < 0) := by omega
  have k1 : decide ((k : Int) < 0) = false := decide_eq_false k0
  have k2 : ¬ (n < k) := by omega
  have k3 : decide (n < k) = false := decide_eq_false k2
  have k4 : ¬ ((n : Int) < (k : Int)) := by omega
  rcases hi with h | h
  · have h2 : decide (i < 0) = true := decide_eq_true h
    go_enter Tryz.func18, Tryz.ntmps18
    go_wp2_with fail
    go_ret2
    exact ⟨rfl, rfl⟩
  · have h0 : ¬ (i < 0) := by omega
    have h1 : decide (i < 0) = false := decide_eq_false h0
    have h2 : decide ((k : Int) ≤ i) = true := decide_eq_true h
    go_enter Tryz.func18, Tryz.ntmps18
    go_wp2_with fail
    go_ret2
    exact ⟨rfl, rfl⟩
set_option maxRecDepth 100000 in
set_option maxHeartbeats 4000000 in
theorem rbpath_ok (ls : List Lv11) (A : Option Addr) (n c : Nat) (hn : ls.length = n) (hnb : n ≤ 1000000) (hmay : ∀ l ∈ ls, l.may = true) (i k : Nat) (hk : k ≤ n) (hi : i < k) (ds : List (List (BitVec 8))) (hd : ds = pt i ((ls.map Lv11.bytes).take k)) (w : World) (hA : LfA w A ls) (hG : Given w) :
    Calls Tryz.prog 18 #[.slice A n c, .int .i64 (i : Int), .int .i64 (k : Int)] w fun e w' => ∃ u, e = .returned (.tuple #[u, .int .i64 0]) ∧ w'.ownsRow w.heap.size 44 32 u ds.length (ds.flatMap vB) ∧ Below w.heap.size w w' := by
  have HF : Hid (Calls Tryz.prog 26 #[.slice A n c, .int .i64 (k : Int)] w fun r w' => ∃ v, r = .returned v ∧ Tx11 w' v ((ls.map Lv11.bytes).take k) ∧ Below w.heap.size w w') := by
    rw [← lbs_take]
    exact rtexts_ok ls A n c k hn hnb hk hmay w hA
  have HP : Hid (∀ X v, Below w.heap.size w X → Tx11 X v ((ls.map Lv11.bytes).take k) → Calls Tryz.prog 40 #[v, .int .i64 (i : Int)] X fun e w' => ∃ u, e = .returned (.tuple #[u, .int .i64 0]) ∧ w'.ownsRow w.heap.size 44 32 u ds.length (ds.flatMap vB) ∧ Below X.heap.size X w') := fun X v hX hv => by
    have hlen : ((ls.map Lv11.bytes).take k).length = k := by rw [List.length_take, List.length_map]; omega
    obtain ⟨A2, c2, rfl, hc2, hl⟩ := hv.ln
    rw [hlen] at hc2 hl ⊢
    obtain ⟨b, rfl, hb⟩ := hl (by omega)
    refine (rPath_in k i _ hlen hi (by omega) (fun j hj => ?_) b 0 c2 hc2 X (hG.low hX) hb).mono ?_
    · rw [← lbs_take]
      have := lbs_len (ls := ls.take k) (fun l hl => hA.ok l (List.mem_of_mem_take hl)) j
      omega
    · rintro e w' ⟨u, rfl, q1, q2⟩
      rw [← hd] at q1
      exact ⟨u, rfl, own_less q1 hX.size, q2⟩
  have k0 : ¬ ((k : Int) < 0) := by omega
  have k1 : decide ((k : Int) < 0) = false := decide_eq_false k0
  have k2 : ¬ (n < k) := by omega
  have k3 : decide (n < k) = false := decide_eq_false k2
  have k4 : ¬ ((n : Int) < (k : Int)) := by omega
  have h0 : ¬ ((i : Int) < 0) := by omega
  have h1 : decide ((i : Int) < 0) = false := decide_eq_false h0
  have h2 : ¬ ((k : Int) ≤ (i : Int)) := by omega
  have h3 : ¬ (k ≤ i) := by omega
  have h4 : decide (k ≤ i) = false := decide_eq_false h3
  clear hd hmay hA hG hn
  go_enter Tryz.func18, Tryz.ntmps18
  go_wp2_with (first
    | (go_at_call 26; refine Calls.mono HF.out ?_; rintro e X1 ⟨v, rfl, q1, q⟩; have T1 : Hid (Tx11 X1 v ((ls.map Lv11.bytes).take k)) := q1; have B1 : Hid (Below w.heap.size w X1) := q; clear q1 q)
    | (go_at_call 40; refine Calls.mono (HP.out X1 v B1.out T1.out) ?_; rintro e X2 ⟨u, rfl, q1, q2⟩; have P1 : Hid (X2.ownsRow w.heap.size 44 32 u ds.length (ds.flatMap vB)) := q1; have B2 : Hid (Below w.heap.size w X2) := B1.out.trans (q2.mono B1.out.size); clear q1 q2))
  go_ret2
  exact ⟨u, rfl, P1.out, B2.out⟩

end Go.Proofs.YtdicgenhfmhklaaGreatDoor
