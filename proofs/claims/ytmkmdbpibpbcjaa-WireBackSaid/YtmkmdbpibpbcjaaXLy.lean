/-
  Lay of a list of bytes, by the law's layBytes.
-/
import Derived.Test.YtmkmdbpibpbcjaaXLb2
namespace Go.Proofs.Ytmkmdbpibpbcjaa
open Go Go.RowKit
open Sha

/-- The blocks of a list of bytes. -/
def Lblk (v : Value) (vs : List Value) (g : Nat) : Prop := v.ownBlock = some g ∨ ∃ i, i < vs.length ∧ (vs.getD i undef).ownBlock = some g
theorem Ly.sep {R : Nat → Prop} {N : Nat} {w w' : World} {v : Value} {vs : List Value} {ps : List (List (BitVec 8))} (h : Ly N w v vs ps) (k : Gro R w w') (hs : ∀ g, Lblk v vs g → ¬ R g) : Ly N w' v vs ps :=
  ⟨Sw.gro h.own k (fun g e => hs g (.inl e)), h.fv, h.len, fun i hi => by
    obtain ⟨A, c, e, hb, hf, hn⟩ := h.each i hi
    exact ⟨A, c, e, Bw.gro hb k (fun g eg => hs g (.inr ⟨i, by rw [h.len]; exact hi, by rw [e]; exact eg⟩)), hf, hn⟩⟩
theorem Ly.lt {N : Nat} {w : World} {v : Value} {vs : List Value} {ps : List (List (BitVec 8))} (h : Ly N w v vs ps) : ∀ g, Lblk v vs g → g < w.heap.size ∧ N ≤ g := fun g q => by
  rcases q with q | ⟨i, hi, q⟩
  · exact ⟨Sw.lt h.own g q, h.fv g q⟩
  · obtain ⟨A, c, e, hb, hf, hn⟩ := h.each i (by rw [← h.len]; exact hi)
    rw [e] at q
    exact ⟨Bw.lt hb g q, hf g q⟩
/-- A piece's form. -/
def pf (p : List (BitVec 8)) : List (BitVec 8) := fm [p.length, 0, 0, 0] (nb p.length 0 0 0) ++ p
def pfs (ps : List (List (BitVec 8))) (t : Nat) : List (BitVec 8) := ((ps.take t).map pf).flatten
theorem pfs_succ (ps : List (List (BitVec 8))) (t : Nat) (h : t < ps.length) : pfs ps (t + 1) = pfs ps t ++ pf (ps.getD t []) := by
  unfold pfs
  rw [List.take_succ_eq_append_getElem h, List.map_append, List.flatten_append]
  congr 1
  simp [h]
theorem pfs_le (ps : List (List (BitVec 8))) (t : Nat) : (pfs ps t).length ≤ (pfs ps ps.length).length := by
  unfold pfs
  have e : ps.take ps.length = ps.take t ++ ps.drop t := by rw [List.take_length, List.take_append_drop]
  rw [e, List.map_append, List.flatten_append, List.length_append]
  omega

set_option maxRecDepth 100000 in
theorem layBytes_any (Q : Nat) (A : Option Addr) (cap : Nat) (xs : List (BitVec 8)) (hB : xs.length ≤ 4194304) (d : List (BitVec 8)) (n : Nat) (hd : d.length = n) (hn : n ≤ 4194304) (B : Option Addr) (cb : Nat) (hnil : B = none → cb = 0) (w : World) (hw : Wr w Q A cap xs 0) (hv : ∀ W, Gro (Rw Q A cap xs) w W → SlAt W (.slice B n cb) d) :
    Calls Try.prog 78 #[.pointer (some ⟨Q, 0, none⟩), .slice B n cb] w fun e w' => e = .returned (.tuple #[]) ∧ Beh w w' Q A cap xs 0 (pf d) := by
  have HC : Hid _ := bytes_lays Q A cap xs 0 hB d n hd (by omega) B cb hnil _ rfl w hw hv (by omega)
  have E : Hid (fm [n, 0, 0, 0] (nb n 0 0 0) ++ d = pf d) := by show _ = _; unfold pf; rw [hd]
  rw [E.out] at HC
  clear hw hv hB hd hnil
  go_enter Try.func78, Try.ntmps78
  go_wp2_with fail
  refine Calls.mono HC.out ?_
  rintro e w' ⟨rfl, h1⟩
  have H1 : Hid _ := h1
  clear h1
  go_wp2_with fail
  go_end0
  exact ⟨rfl, H1.out⟩
theorem wfunc_kind : (Try.prog.underlying 104).map (fun d => match d with | .func .. => true | _ => false) = some true := by kernel_rfl
theorem wfunc_nil (fn : Fn) (a b : Array Value) (w : World) : (binOp .eql 104 (.func fn a b) .nilFunc).run Try.prog w = .ok (.bool false) w := by
  have hk := wfunc_kind
  cases h : Try.prog.underlying 104 with
  | none => rw [h] at hk; cases hk
  | some d =>
    rw [h] at hk
    cases d with
    | func =>
      have he : ∀ d, (Op.equalIn (d + 1) 104 (.func fn a b) .nilFunc).run Try.prog w = .ok false w := fun d => by simp [Op.equalIn, run_underlying h]
      have he2 : (Op.equal 104 (.func fn a b) .nilFunc).run Try.prog w = .ok false w := he 9999
      simp only [binOp]
      simp [he2]
    | _ => simp at hk

/-- A writer beside a list that it lays. -/
structure Cl (N M : Nat) (w : World) (P : Nat) (Ar : Option Addr) (capr : Nat) (bs : List (BitVec 8)) (a : Nat) (f : Int) (Q : Nat) (A : Option Addr) (cap : Nat) (xs : List (BitVec 8)) (v : Value) (vs : List Value) (ps : List (List (BitVec 8))) : Prop where
  cp : Cp N w P Ar capr bs a f Q A cap xs
  ly : Ly M w v vs ps
  sep : ∀ g, Lblk v vs g → ¬ Rw Q A cap xs g
theorem Cl.laid {N M : Nat} {w w' : World} {P : Nat} {Ar : Option Addr} {capr : Nat} {bs : List (BitVec 8)} {a : Nat} {f : Int} {Q : Nat} {A : Option Addr} {cap : Nat} {xs : List (BitVec 8)} {v : Value} {vs : List Value} {ps : List (List (BitVec 8))} (h : Cl N M w P Ar capr bs a f Q A cap xs v vs ps) {d : List (BitVec 8)} (k : Beh w w' Q A cap xs 0 d) (hl : xs.length + d.length ≤ 4194304) :
    ∃ A' cap', Cl N M w' P Ar capr bs a f Q A' cap' (xs ++ d) v vs ps ∧ Gn N P w w' := by
  obtain ⟨A', cap', c, g⟩ := h.cp.laid k hl
  have k2 := k
  obtain ⟨⟨A2, cap2, hw, hf⟩, hG⟩ := k2
  have e1 : wrB xs 0 d = xs ++ d := by unfold wrB; rw [if_pos rfl, if_pos hl]
  rw [e1] at hw hf
  have hrow := c.wr.1
  have hrow2 := hw.1
  have eq : some (Obj.cells #[Value.slice A' (xs ++ d).length cap', .int .i64 0] 101) = some (Obj.cells #[Value.slice A2 (xs ++ d).length cap2, .int .i64 (wrF xs 0 d)] 101) := hrow.symm.trans hrow2
  simp only [Option.some.injEq, Obj.cells.injEq, Array.mk.injEq, List.cons.injEq, Value.slice.injEq] at eq
  refine ⟨A', cap', ⟨c, h.ly.sep hG h.sep, fun g q r => ?_⟩, g⟩
  rcases r with r | r
  · exact h.sep g q (.inl r)
  · have r2 : (Value.slice A2 (xs ++ d).length cap2).ownBlock = some g := by rw [← eq.1.1.1, ← eq.1.1.2.2]; exact r
    rcases hf g r2 with r3 | r3
    · exact h.sep g q (.inr r3)
    · have := (h.ly.lt g q).1; omega

end Go.Proofs.Ytmkmdbpibpbcjaa
