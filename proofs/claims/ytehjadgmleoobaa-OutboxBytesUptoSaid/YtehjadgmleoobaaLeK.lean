/-
  what stands there is read: mathematics of the readers at a form.
-/
import Derived.Test.YtehjadgmleoobaaLtC
import Derived.Test.YtehjadgmleoobaaXRe
import Derived.Test.YtehjadgmleoobaaXStp
import Derived.Deep.CutRange
import Derived.Deep.RegionLaw
import Derived.Handy
import Derived.Carry
import Derived.Test.YtehjadgmleoobaaXFaces
import Derived.Test.YtehjadgmleoobaaXFmB

namespace Go.Proofs.Ytehjadgmleoobaa
open Go Go.RowKit
open Sha

/-- An entry's cells. -/
def ent (k : Int) (sd : List (BitVec 8)) (tm tk : Int) (rc : List (BitVec 8)) (am : List Nat) (gs : Int) (v : Value) : List Value :=
  .int .i64 k :: (vB sd ++ (.int .i64 tm :: .int .i64 tk :: (vB rc ++ (vQ am ++ [.int .i64 gs, v]))))
section
variable {k tm tk gs : Int} {sd rc : List (BitVec 8)} {am : List Nat} {v : Value} {b : Nat} {w : World}
theorem vQ_len (l : List Nat) : (vQ l).length = l.length := by simp [vQ]
theorem app_at (xs ys : List Value) (n i : Nat) (h : xs.length = n) : (xs ++ ys)[n + i]? = ys[i]? := by
  rw [List.getElem?_append_right (by omega), h, Nat.add_sub_cancel_left]
theorem ent_mid (h1 : sd.length = 20) (i : Nat) : (ent k sd tm tk rc am gs v)[21 + i]? = (Value.int .i64 tm :: .int .i64 tk :: (vB rc ++ (vQ am ++ [.int .i64 gs, v])))[i]? := by
  rw [show 21 + i = (20 + i) + 1 by omega]
  exact app_at (vB sd) _ 20 i (by rw [vB_length, h1])
theorem ent_to (h1 : sd.length = 20) (i : Nat) : (ent k sd tm tk rc am gs v)[23 + i]? = (vB rc ++ (vQ am ++ [.int .i64 gs, v]))[i]? := by
  rw [show 23 + i = 21 + (i + 1 + 1) by omega, ent_mid h1]
  rfl
theorem ent_am (h1 : sd.length = 20) (h2 : rc.length = 20) (i : Nat) : (ent k sd tm tk rc am gs v)[43 + i]? = (vQ am ++ [.int .i64 gs, v])[i]? := by
  rw [show 43 + i = 23 + (20 + i) by omega, ent_to h1]
  exact app_at (vB rc) _ 20 i (by rw [vB_length, h2])
theorem ent_gs (h1 : sd.length = 20) (h2 : rc.length = 20) (h3 : am.length = 4) (i : Nat) : (ent k sd tm tk rc am gs v)[47 + i]? = ([.int .i64 gs, v] : List Value)[i]? := by
  rw [show 47 + i = 43 + (4 + i) by omega, ent_am h1 h2]
  exact app_at (vQ am) _ 4 i (by rw [vQ_len, h3])
end
section
variable {ops : Array Oper} {rest : List Oper} {op : Oper} {a : Act} {w : World} {Q : Exit → Act → World → Prop}
theorem wpList_neq_q (hw : Region.wanted op (yielded ops a.tmps) = true) (x y : Operand) (yt : TypeId) (ho : op.op = .binOp .neq 37 x y yt) (l r : List Nat) (hl : l.length = 4) (hr : r.length = 4) (hx : a.eval x = .agg (vQ l).toArray) (hy : a.eval y = .agg (vQ r).toArray)
    (B : Bool) (hB : (!decide (l = r)) = B) (h : wpList Try.prog ops Q rest (a.put op.dst (.bool B)) w) : wpList Try.prog ops Q (op :: rest) a w :=
  BigFrame.wpList_want hw fun _ hK => by
    subst hB
    unfold Oper.wp execOp
    simp only [ho, hx, hy, Sem.run_bind, run_eqGuard_agg w .neq _ x y _ _ guard_wide, Result.andThen_ok, run_neq_w w l r hl hr, Sem.run_pure, Oper.upon_value]
    exact hK _ _ h
end
end Go.Proofs.Ytehjadgmleoobaa

namespace Go.Proofs.Ytehjadgmleoobaa
open Go Go.RowKit
open Sha

end Go.Proofs.Ytehjadgmleoobaa

namespace Go.Proofs.Ytehjadgmleoobaa
open Go Go.RowKit
open Sha

/-- A writer without a fault, made behind w0. -/
def Wm (w0 w : World) (P : Nat) (bs : List (BitVec 8)) : Prop := ∃ A cap, Wr w P A cap bs 0 ∧ Fresh w0.heap.size (.slice A bs.length cap) ∧ w0.heap.size ≤ P ∧ Below w0.heap.size w0 w
theorem Wm.below {w0 w : World} {P : Nat} {bs : List (BitVec 8)} (h : Wm w0 w P bs) : Below w0.heap.size w0 w := by
  obtain ⟨_, _, _, _, _, h⟩ := h
  exact h
theorem Wm.on {w0 w w' : World} {P : Nat} {A A' : Option Addr} {cap cap' : Nat} {bs cs : List (BitVec 8)} (h : Fresh w0.heap.size (.slice A bs.length cap)) (hP : w0.heap.size ≤ P) (hB : Below w0.heap.size w0 w)
    (hw : Wr w' P A' cap' cs 0) (hf : Frm (.slice A bs.length cap) w.heap.size (.slice A' cs.length cap')) (hG : Gro (fun g => g = P ∨ (Value.slice A bs.length cap).ownBlock = some g) w w') : Wm w0 w' P cs :=
  ⟨A', cap', hw, fun g e => by
    rcases hf g e with q | q
    · exact h g q
    · exact Nat.le_trans hB.size q, hP, hB.trans (hG.to_below hB.size (fun k q => by
    rcases q with q | q
    · rw [q]; exact hP
    · exact h k q))⟩
theorem Wm.lays {w0 w w' : World} {P : Nat} {A : Option Addr} {cap : Nat} {bs d cs : List (BitVec 8)} (h : Fresh w0.heap.size (.slice A bs.length cap)) (hP : w0.heap.size ≤ P) (hB : Below w0.heap.size w0 w)
    (hb : Beh w w' P A cap bs 0 d) (e1 : wrB bs 0 d = cs) (e2 : wrF bs 0 d = 0) : Wm w0 w' P cs := by
  obtain ⟨⟨A', cap', hw, hf⟩, hG⟩ := hb
  rw [e1, e2] at hw
  rw [e1] at hf
  exact Wm.on h hP hB hw hf hG

end Go.Proofs.Ytehjadgmleoobaa

namespace Go.Proofs.Ytehjadgmleoobaa
open Go Go.RowKit
open Sha

theorem boxed (L : List Value) (t : TypeId) (w : World) : ∃ W, W = w.alloc (Obj.cells L.toArray t) ∧ Row W w.heap.size L t ∧ Below w.heap.size w W := ⟨_, rfl, Row.new' rfl rfl, (Below.refl _ _).alloc (Nat.le_refl _) _⟩

end Go.Proofs.Ytehjadgmleoobaa

namespace Go.Proofs.Ytehjadgmleoobaa
open Go Go.RowKit
open Sha


end Go.Proofs.Ytehjadgmleoobaa

namespace Go.Proofs.Ytehjadgmleoobaa
open Go Go.RowKit
open Sha

theorem stp_gn {P : Program} {ops : Array Oper} {o : Oper} {a : Act} {w : World} {K : Act → World → Prop} {Q : Exit → Act → World → Prop} {E : Prop} (hw : Region.wanted o (yielded ops a.tmps) = true) (f : FuncId) {xs : Array Operand} {ts : Array TypeId} (_ho : o.op = .call { callee := .value (.func f), args := xs, argTypes := ts }) (args : Array Value) (h : (execOp a.eval o).run P w = .ok (.enter f args) w)
    (hc : Calls P f args w fun e w' => ∃ v, e = .returned v ∧ K (a.put o.dst v) w') : if Region.wanted o (yielded ops a.tmps) = true then Oper.wp P o a w K Q else E := by
  rw [if_pos hw]
  unfold Oper.wp
  rw [h]
  exact hc.mono (fun e w' hk => by obtain ⟨v, he, hk⟩ := hk; subst he; exact hk)
theorem stp_load {P : Program} {ops : Array Oper} {o : Oper} {a : Act} {w : World} {K : Act → World → Prop} {Q : Exit → Act → World → Prop} {E : Prop} (hw : Region.wanted o (yielded ops a.tmps) = true) (ty : TypeId) (x : Operand) (ho : o.op = .load ty x)
    (b f : Nat) (hx : a.eval x = .pointer (some ⟨b, f, none⟩)) (cs : List Value) (d : TypeDesc) (hc : w.rangeAt b f cs) (hu : P.underlying ty = some d) (hd : d.isRow = true) (hi : (P.info? ty).map (·.size) = some cs.length)
    (h : K (a.put o.dst (.agg cs.toArray)) w) : if Region.wanted o (yielded ops a.tmps) = true then Oper.wp P o a w K Q else E := by
  rw [if_pos hw]
  exact wp_load_mid ty x ho b f hx cs d hc hu hd hi h
theorem results_rowS_tmp {P : Program} {fn : Func} {p q : Tmp} {ty : TypeId} {fs : Array Field} (h : fn.results = #[.cell p ty, .tmp q]) (tmps : Array Value) (w : World) (g : Nat) (t : TypeId) (cs : List Value) (v : Value)
    (hp : tmps.getD p undef = .pointer (some ⟨g, 0, none⟩)) (hv : tmps.getD q undef = v) (hg : Row w g cs t) (hu : P.underlying ty = some (.struct fs)) (hi : (P.info? ty).map (·.size) = some cs.length) :
    (results fn tmps).run P w = .ok (.tuple #[.agg cs.toArray, v]) w := by
  have hp' : tmps[p]?.getD undef = .pointer (some ⟨g, 0, none⟩) := by simpa using hp
  have hv' : tmps[q]?.getD undef = v := by simpa using hv
  have hr := run_loadVar_row (P := P) w g t ty cs.toArray (0, 0) (.struct fs) hg hu rfl (by simp [hi])
  simp [results, h, hp', hv', asAddr, hr]
/-- All but a reader's and a letter's blocks stay. -/
abbrev Gq (P b : Nat) : World → World → Prop := Gro (fun g => g = P ∨ g = b)
end Go.Proofs.Ytehjadgmleoobaa

namespace Go.Proofs.Ytehjadgmleoobaa
open Go Go.RowKit
open Sha

section
variable {k tm tk gs : Int} {sd rc : List (BitVec 8)} {am : List Nat} {v : Value} {b : Nat} {w : World}
theorem set_past (xs ys : List Value) (n i : Nat) (u : Value) (h : xs.length = n) : (xs ++ ys).set (n + i) u = xs ++ ys.set i u := by
  rw [List.set_append_right _ _ (by omega), h, Nat.add_sub_cancel_left]
theorem ent_time (h1 : sd.length = 20) (x : Int) : (ent k sd tm tk rc am gs v).set 21 (.int .i64 x) = ent k sd x tk rc am gs v :=
  congrArg (List.cons _) (set_past (vB sd) _ 20 0 _ (by rw [vB_length, h1]))
theorem ent_token (h1 : sd.length = 20) (x : Int) : (ent k sd tm tk rc am gs v).set 22 (.int .i64 x) = ent k sd tm x rc am gs v :=
  congrArg (List.cons _) (set_past (vB sd) _ 20 1 _ (by rw [vB_length, h1]))
theorem ent_gas (h1 : sd.length = 20) (h2 : rc.length = 20) (h3 : am.length = 4) (x : Int) : (ent k sd tm tk rc am gs v).set 47 (.int .i64 x) = ent k sd tm tk rc am x v := by
  refine congrArg (List.cons _) ((set_past (vB sd) _ 20 26 _ (by rw [vB_length, h1])).trans (congrArg (vB sd ++ ·) ?_))
  refine congrArg (List.cons _) (congrArg (List.cons _) ((set_past (vB rc) _ 20 4 _ (by rw [vB_length, h2])).trans (congrArg (vB rc ++ ·) ?_)))
  exact set_past (vQ am) _ 4 0 _ (by rw [vQ_len, h3])
end

end Go.Proofs.Ytehjadgmleoobaa

namespace Go.Proofs.Ytehjadgmleoobaa
open Go Go.RowKit
open Sha

theorem patch (p old vs q xs : List Value) (o : Nat) (hx : xs = p ++ old ++ q) (hp : p.length = o) (hl : old.length = vs.length) : xs.take o ++ vs ++ xs.drop (o + vs.length) = p ++ vs ++ q := by
  subst hx hp
  rw [List.append_assoc p old q, List.take_left' rfl, ← List.append_assoc p old q, List.drop_left' (by rw [List.length_append, hl])]
section
variable {k tm tk gs : Int} {sd rc : List (BitVec 8)} {am : List Nat} {v : Value} {b : Nat} {w : World}
theorem ent_lenH (h1 : sd.length = 20) (h2 : rc.length = 20) (h3 : am.length = 4) : (ent k sd tm tk rc am gs v).length = 49 := by
  simp only [ent, List.length_cons, List.length_append, List.length_nil, vB_length, vQ_len, h1, h2, h3]
theorem Gq.sets {P o : Nat} {vs : List Value} {W : World} (h : Gro (fun g => g = P) w W) : Gq P b w (W.setCells b o vs) := by
  have q := below_setCells (Below.refl 0 W) (b := b) (o := o) (Nat.zero_le _) vs
  exact ⟨q.os.trans h.os, q.tape.trans h.tape, q.output.trans h.output, Nat.le_trans h.size q.size, fun k hk hn => (heap_sets W b o vs k (fun e => hn (.inr e))).trans (h.block k hk (fun e => hn (.inl e)))⟩
end

end Go.Proofs.Ytehjadgmleoobaa

namespace Go.Proofs.Ytehjadgmleoobaa
open Go Go.RowKit
open Sha


section
variable {k tm tk gs : Int} {sd rc : List (BitVec 8)} {am : List Nat} {v : Value} {b : Nat} {w : World}
theorem ent_body (h1 : sd.length = 20) (h2 : rc.length = 20) (h3 : am.length = 4) (u : Value) : (ent k sd tm tk rc am gs v).set 48 u = ent k sd tm tk rc am gs u := by
  refine congrArg (List.cons _) ((set_past (vB sd) _ 20 27 _ (by rw [vB_length, h1])).trans (congrArg (vB sd ++ ·) ?_))
  refine congrArg (List.cons _) (congrArg (List.cons _) ((set_past (vB rc) _ 20 5 _ (by rw [vB_length, h2])).trans (congrArg (vB rc ++ ·) ?_)))
  exact set_past (vQ am) _ 4 1 _ (by rw [vQ_len, h3])
end
end Go.Proofs.Ytehjadgmleoobaa

namespace Go.Proofs.Ytehjadgmleoobaa
open Go Go.RowKit
open Sha

end Go.Proofs.Ytehjadgmleoobaa

namespace Go.Proofs.Ytehjadgmleoobaa
open Go Go.RowKit
open Sha

/-- A number's form. -/
def nf (n : Int) : List (BitVec 8) := fm [n.toNat, 0, 0, 0] (nb n.toNat 0 0 0)
/-- Four parts' form. -/
def wf (am : List Nat) : List (BitVec 8) := fm am (nb (am.getD 0 0) (am.getD 1 0) (am.getD 2 0) (am.getD 3 0))
theorem nf_len (n : Int) : (nf n).length ≤ 33 := by
  have := nb_le n.toNat 0 0 0
  unfold nf
  rw [fm_len]
  omega
theorem wf_len (am : List Nat) : (wf am).length ≤ 33 := by
  have := nb_le (am.getD 0 0) (am.getD 1 0) (am.getD 2 0) (am.getD 3 0)
  unfold wf
  rw [fm_len]
  omega
theorem wrB_in (bs d : List (BitVec 8)) (h : bs.length + d.length ≤ 4194304) : wrB bs 0 d = bs ++ d := by
  unfold wrB
  rw [if_pos rfl, if_pos h]
theorem wrF_in (bs d : List (BitVec 8)) (h : bs.length + d.length ≤ 4194304) : wrF bs 0 d = 0 := by
  unfold wrF
  rw [if_pos rfl, if_pos h]
theorem nuB_in (bs : List (BitVec 8)) (n : Int) (h0 : 0 ≤ n) (h : bs.length + (nf n).length ≤ 4194304) : nuB bs 0 n = bs ++ nf n := by
  unfold nuB
  rw [if_pos rfl, if_neg (by omega)]
  exact wrB_in bs (nf n) h
theorem nuF_in (bs : List (BitVec 8)) (n : Int) (h0 : 0 ≤ n) (h : bs.length + (nf n).length ≤ 4194304) : nuF bs 0 n = 0 := by
  unfold nuF
  rw [if_pos rfl, if_neg (by omega)]
  exact wrF_in bs (nf n) h

end Go.Proofs.Ytehjadgmleoobaa

namespace Go.Proofs.Ytehjadgmleoobaa
open Go Go.RowKit
open Sha

/-- A deposit's bytes. -/
def eb1 (sd : List (BitVec 8)) (tm tk : Int) (rc : List (BitVec 8)) (am : List Nat) (gs : Int) : List (BitVec 8) := [1#8] ++ sd ++ nf tm ++ nf tk ++ rc ++ wf am ++ nf gs
/-- A call's bytes. -/
def eb2 (sd : List (BitVec 8)) (tm : Int) (n : Nat) (d : List (BitVec 8)) : List (BitVec 8) := [2#8] ++ sd ++ nf tm ++ (fm [n, 0, 0, 0] (nb n 0 0 0) ++ d)

end Go.Proofs.Ytehjadgmleoobaa

namespace Go.Proofs.Ytehjadgmleoobaa
open Go Go.RowKit
open Sha

theorem sub_mid (p q r bs : List (BitVec 8)) (a n : Nat) (hb : bs = p ++ (q ++ r)) (ha : p.length = a) (hq : q.length = n) : sub bs a n = q ∧ a + n ≤ bs.length := by
  subst hb ha hq
  refine ⟨?_, by simp only [List.length_append]; omega⟩
  unfold sub
  rw [List.drop_left' rfl, List.take_left' rfl]
theorem at_adr (p r x bs : List (BitVec 8)) (a : Nat) (hb : bs = p ++ (x ++ r)) (ha : p.length = a) (hx : x.length = 20) : dgE 20 bs a = 0 ∧ sub bs a 20 = x := by
  obtain ⟨h1, h2⟩ := sub_mid p x r bs a 20 hb ha hx
  exact ⟨by unfold dgE; rw [if_neg (by omega)], h1⟩
theorem nf_size (n : Int) : (nf n).length = 1 + nb n.toNat 0 0 0 := by
  unfold nf
  rw [fm_len]
  omega
theorem at_num (p r bs : List (BitVec 8)) (n : Int) (a : Nat) (h0 : 0 ≤ n) (h1 : n < 9223372036854775808) (hb : bs = p ++ (nf n ++ r)) (ha : p.length = a) : nuE bs a = 0 ∧ ((nuW bs a : Nat) : Int) = n ∧ a + 1 + at8 bs a = a + (nf n).length := by
  have hl := nf_size n
  obtain ⟨s1, s2⟩ := sub_mid p (nf n) r bs a _ hb ha hl
  obtain ⟨k1, k2, k3⟩ := read_num n.toNat (by omega) bs a _ rfl s2 s1
  exact ⟨k2, by rw [k3]; omega, by rw [k1, hl]; omega⟩
theorem at_wide (p r bs : List (BitVec 8)) (am : List Nat) (a : Nat) (h4 : am.length = 4) (hq : ∀ x ∈ am, x < 18446744073709551616) (hb : bs = p ++ (wf am ++ r)) (ha : p.length = a) : hiF 32 bs a = 0 ∧ qd bs (a + 1 + at8 bs a) (at8 bs a) = vQ am ∧ a + 1 + at8 bs a = a + (wf am).length := by
  obtain ⟨m0, m1, m2, m3, rfl⟩ : ∃ m0 m1 m2 m3, am = [m0, m1, m2, m3] := by
    rcases am with _ | ⟨m0, _ | ⟨m1, _ | ⟨m2, _ | ⟨m3, _ | ⟨m4, r⟩⟩⟩⟩⟩
    all_goals first | exact ⟨_, _, _, _, rfl⟩ | (simp at h4)
  have hl : (wf [m0, m1, m2, m3]).length = 1 + nb m0 m1 m2 m3 := by
    show (fm [m0, m1, m2, m3] (nb m0 m1 m2 m3)).length = _
    rw [fm_len]
    omega
  obtain ⟨s1, s2⟩ := sub_mid p (wf [m0, m1, m2, m3]) r bs a _ hb ha hl
  obtain ⟨k1, k2, k3⟩ := read_form m0 m1 m2 m3 (hq _ (by simp)) (hq _ (by simp)) (hq _ (by simp)) (hq _ (by simp)) 32 bs a _ rfl (nb_le _ _ _ _) s2 s1
  refine ⟨k2, ?_, by rw [k1, hl]; omega⟩
  rw [k1]
  unfold qd
  rw [k3 0 (by decide), k3 1 (by decide), k3 2 (by decide), k3 3 (by decide)]
  rfl
theorem at_body (p r d bs : List (BitVec 8)) (n a : Nat) (hd : d.length = n) (hn : n ≤ 4096) (hb : bs = p ++ (fm [n, 0, 0, 0] (nb n 0 0 0) ++ d ++ r)) (ha : p.length = a) : cnE bs a 4096 = 0 ∧ nuW bs a = n ∧ sub bs (a + 1 + at8 bs a) n = d ∧ a + 1 + at8 bs a + n = a + (fm [n, 0, 0, 0] (nb n 0 0 0) ++ d).length := by
  have hl : (fm [n, 0, 0, 0] (nb n 0 0 0)).length = 1 + nb n 0 0 0 := by
    rw [fm_len]
    omega
  obtain ⟨s1, s2⟩ := sub_mid p (fm [n, 0, 0, 0] (nb n 0 0 0)) (d ++ r) bs a _ (by rw [hb, List.append_assoc]) ha hl
  obtain ⟨k1, k2, k3⟩ := read_num n (by omega) bs a _ rfl s2 s1
  obtain ⟨t1, t2⟩ := sub_mid (p ++ fm [n, 0, 0, 0] (nb n 0 0 0)) d r bs (a + 1 + nb n 0 0 0) n (by rw [hb, List.append_assoc, List.append_assoc]) (by rw [List.length_append, hl, ha]; omega) hd
  rw [k1, k3]
  refine ⟨?_, rfl, t1, by rw [List.length_append, hl, hd]; omega⟩
  unfold cnE
  rw [if_pos k2, k3, k1, if_neg (by omega), if_neg (by omega)]
theorem nuE_short {bs : List (BitVec 8)} {a : Nat} (h : nuE bs a = 0) : a < bs.length ∧ a + 1 + at8 bs a ≤ bs.length := by
  have h1 : hiF 8 bs a = 0 := by
    unfold nuE at h
    by_cases q : hiF 8 bs a = 0
    · exact q
    · rw [if_neg q] at h
      exact h
  unfold hiF at h1
  by_cases q1 : bs.length ≤ a
  · rw [if_pos q1] at h1
    cases h1
  by_cases q2 : 8 < at8 bs a
  · rw [if_neg q1, if_pos q2] at h1
    cases h1
  by_cases q3 : bs.length < a + 1 + at8 bs a
  · rw [if_neg q1, if_neg q2, if_pos q3] at h1
    cases h1
  omega
theorem cut_num (p bs : List (BitVec 8)) (n : Int) (a : Nat) (hb : bs = p ++ (nf n).take ((nf n).length - 1)) (ha : p.length = a) : ¬ nuE bs a = 0 := by
  intro h
  obtain ⟨h1, h2⟩ := nuE_short h
  have hl := nf_size n
  have hn := nb_le n.toNat 0 0 0
  have hbl : bs.length = a + nb n.toNat 0 0 0 := by
    rw [hb, List.length_append, List.length_take, ha, hl]
    omega
  have h8 : at8 bs a = nb n.toNat 0 0 0 := by
    obtain ⟨k, hk⟩ : ∃ k, nb n.toNat 0 0 0 = k + 1 := ⟨nb n.toNat 0 0 0 - 1, by omega⟩
    have e : (nf n).take ((nf n).length - 1) = BitVec.ofNat 8 (nb n.toNat 0 0 0) :: ((nf n).drop 1).take k := by
      rw [hl, show 1 + nb n.toNat 0 0 0 - 1 = k + 1 by omega]
      rfl
    unfold at8
    rw [hb, e, ← ha, List.getD_eq_getElem?_getD, List.getElem?_append_right (Nat.le_refl _), Nat.sub_self]
    show (BitVec.ofNat 8 (nb n.toNat 0 0 0)).toNat = _
    rw [BitVec.toNat_ofNat]
    exact Nat.mod_eq_of_lt (by omega)
  omega
theorem cut_body (p d bs : List (BitVec 8)) (n a : Nat) (hd : d.length = n) (hn : n ≤ 4096) (hb : bs = p ++ (fm [n, 0, 0, 0] (nb n 0 0 0) ++ d).take ((fm [n, 0, 0, 0] (nb n 0 0 0) ++ d).length - 1)) (ha : p.length = a) : ¬ cnE bs a 4096 = 0 := by
  intro h
  obtain ⟨h1, h2, h3⟩ := cnE_ok h
  have hl : (fm [n, 0, 0, 0] (nb n 0 0 0)).length = 1 + nb n 0 0 0 := by
    rw [fm_len]
    omega
  by_cases h0 : n = 0
  · subst h0
    obtain rfl := List.length_eq_zero_iff.1 hd
    refine cut_num p bs 0 a ?_ ha h1
    rw [hb, List.append_nil]
    rfl
  · have hbl : bs.length = a + nb n 0 0 0 + n := by
      rw [hb, List.length_append, List.length_take, List.length_append, ha, hl, hd]
      omega
    have e : (fm [n, 0, 0, 0] (nb n 0 0 0) ++ d).take ((fm [n, 0, 0, 0] (nb n 0 0 0) ++ d).length - 1) = fm [n, 0, 0, 0] (nb n 0 0 0) ++ d.take (n - 1) := by
      rw [List.take_append, List.length_append, hl, hd]
      congr 1
      · exact List.take_of_length_le (by rw [hl]; omega)
      · congr 1
        omega
    rw [e] at hb
    obtain ⟨s1, s2⟩ := sub_mid p _ _ bs a _ hb ha hl
    obtain ⟨k1, k2, k3⟩ := read_num n (by omega) bs a _ rfl s2 s1
    rw [k1, k3] at h3
    omega

end Go.Proofs.Ytehjadgmleoobaa
