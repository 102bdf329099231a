/-
  sparse: nodes in memory.
-/
import Derived.Test.YtfdgdmehgbmnkaaDoorSpA
import Derived.Test.YtfdgdmehgbmnkaaDoorTEq
import Derived.Great.BuildSlice
namespace Go.Proofs.YtfdgdmehgbmnkaaDoor
open Go Go.RowKit
open Sha

theorem fill_at (place : Nat → Option (Nat × Nat)) (i off n : Nat) (h : place i = some (off, n)) (v : Value) (x : List Value) (hc : v.cells = x.toArray) (hx : x.length = n) (z : List Value) (hz : off + n ≤ z.length) (rest : List (Nat × Value)) : Instr.fill place z.toArray ((i, v) :: rest) = Instr.fill place (z.take off ++ x ++ z.drop (off + n)).toArray rest := by
  have hcs : ¬ ((decide (v.cells.size ≠ n) || decide (off + v.cells.size > z.toArray.size)) = true) := by
    simp only [Bool.or_eq_true, decide_eq_true_eq]
    rw [hc, List.size_toArray, List.size_toArray, hx]
    omega
  have e1 : v.cells.zipIdx.foldl (fun (cs : Array Value) (p : Value × Nat) => cs.setIfInBounds (off + p.snd) p.fst) z.toArray = (z.take off ++ x ++ z.drop (off + n)).toArray := by
    rw [hc, ← Array.foldl_toList, Array.toList_zipIdx]
    obtain ⟨s1, g1⟩ := Great.foldl_set off x 0 z.toArray
    apply Array.ext_getElem?
    intro k
    refine (g1 k).trans ?_
    simp only [Nat.add_zero, List.size_toArray, List.getElem?_toArray]
    by_cases h1 : off ≤ k ∧ k < off + x.length ∧ k < z.length
    · rw [if_pos h1, List.append_assoc, List.getElem?_append_right (by rw [List.length_take]; omega), List.length_take, Nat.min_eq_left (by omega), List.getElem?_append_left (by omega)]
    · rw [if_neg h1, List.append_assoc]
      by_cases h2 : k < off
      · rw [List.getElem?_append_left (by rw [List.length_take]; omega), List.getElem?_take_of_lt h2]
      · rw [List.getElem?_append_right (by rw [List.length_take]; omega), List.length_take, Nat.min_eq_left (by omega), List.getElem?_append_right (by omega), List.getElem?_drop]
        congr 1
        omega
  conv => lhs; rw [Instr.fill]
  simp only [h]
  rw [if_neg hcs, e1]

/-- Parts of a map: none, one key, two halves. -/
inductive Tr where
  | nil
  | one (k v : List (BitVec 8))
  | two (l r : Tr)
def zd : List (BitVec 8) := List.replicate 32 0#8
def Tr.size : Tr → Nat
  | .nil => 0
  | .one _ _ => 1
  | .two l r => l.size + r.size
def Tr.dg : Tr → List (BitVec 8)
  | .nil => zd
  | .one k v => dig ([2#8] ++ (k ++ v))
  | .two l r => dig ([3#8] ++ (l.dg ++ r.dg))
theorem Tr.dg_len (t : Tr) : t.dg.length = 32 := by
  cases t with
  | nil => rfl
  | one k v => exact dig_length _
  | two l r => exact dig_length _
/-- A node's cells. -/
def ncs (d : List (BitVec 8)) (n : Nat) (kv : List (BitVec 8)) (l r : Value) : List Value := vB d ++ (.int .i64 (n : Int) :: (vB kv ++ [l, r]))
theorem ncs_len {d : List (BitVec 8)} {n : Nat} {kv : List (BitVec 8)} {l r : Value} (hd : d.length = 32) (hk : kv.length = 64) : (ncs d n kv l r).length = 99 := by
  unfold ncs
  simp [vB_length, hd, hk]
abbrev z64 : List (BitVec 8) := List.replicate 64 0#8
abbrev pn : Value := .pointer none
abbrev pt (b : Nat) : Value := .pointer (some ⟨b, 0, none⟩)
def NodeAt (w : World) : Tr → Value → Prop
  | .nil, p => p = pn
  | .one k v, p => k.length = 32 ∧ v.length = 32 ∧ ∃ b, p = pt b ∧ Row w b (ncs (Tr.one k v).dg 1 (k ++ v) pn pn) 113
  | .two l r, p => ∃ b pl pr, p = pt b ∧ Row w b (ncs (Tr.two l r).dg (l.size + r.size) z64 pl pr) 113 ∧ NodeAt w l pl ∧ NodeAt w r pr
theorem NodeAt.be {w w' : World} (k : Below w.heap.size w w') : ∀ (t : Tr) (p : Value), NodeAt w t p → NodeAt w' t p
  | .nil, _, h => h
  | .one _ _, _, ⟨h1, h2, b, h3, h4⟩ => ⟨h1, h2, b, h3, Row.below h4 k h4.lt⟩
  | .two l r, _, ⟨b, pl, pr, h1, h2, h3, h4⟩ => ⟨b, pl, pr, h1, Row.below h2 k h2.lt, NodeAt.be k l pl h3, NodeAt.be k r pr h4⟩
theorem ncs_cnt (d : List (BitVec 8)) (n : Nat) (kv : List (BitVec 8)) (l r : Value) (hd : d.length = 32) : (ncs d n kv l r)[32]? = some (.int .i64 (n : Int)) := by
  unfold ncs
  rw [List.getElem?_append_right (by rw [vB_length, hd]; exact Nat.le_refl _), vB_length, hd]
  rfl
theorem ncs_left (d : List (BitVec 8)) (n : Nat) (kv : List (BitVec 8)) (l r : Value) (hd : d.length = 32) (hk : kv.length = 64) : (ncs d n kv l r)[97]? = some l := by
  unfold ncs
  rw [List.getElem?_append_right (by rw [vB_length, hd]; decide), vB_length, hd, List.getElem?_cons_succ, List.getElem?_append_right (by rw [vB_length, hk]; decide), vB_length, hk]
  rfl
theorem ncs_right (d : List (BitVec 8)) (n : Nat) (kv : List (BitVec 8)) (l r : Value) (hd : d.length = 32) (hk : kv.length = 64) : (ncs d n kv l r)[98]? = some r := by
  unfold ncs
  rw [List.getElem?_append_right (by rw [vB_length, hd]; decide), vB_length, hd, List.getElem?_cons_succ, List.getElem?_append_right (by rw [vB_length, hk]; decide), vB_length, hk]
  rfl
theorem ncs_dg {w : World} {b : Nat} {d : List (BitVec 8)} {n : Nat} {kv : List (BitVec 8)} {l r : Value} {t : TypeId} (h : Row w b (ncs d n kv l r) t) : w.rangeAt b 0 (vB d) := fun j v hj => by
  have hlt : j < (vB d).length := (List.getElem?_eq_some_iff.1 hj).1
  refine h.all j v ?_
  unfold ncs
  rw [List.getElem?_append_left hlt]
  exact hj
/-- The key, the value, both. -/
theorem ncs_kv {w : World} {b : Nat} {d : List (BitVec 8)} {n : Nat} {kv : List (BitVec 8)} {l r : Value} {t : TypeId} (h : Row w b (ncs d n kv l r) t) (hd : d.length = 32) : w.rangeAt b 33 (vB kv) := fun j v hj => by
  have hlt : j < (vB kv).length := (List.getElem?_eq_some_iff.1 hj).1
  refine h.cell (33 + j) v ?_
  unfold ncs
  rw [List.getElem?_append_right (by rw [vB_length, hd]; omega), vB_length, hd, show 33 + j - 32 = j + 1 by omega, List.getElem?_cons_succ, List.getElem?_append_left hlt]
  exact hj
theorem range_left {w : World} {b o : Nat} {x y : List Value} (h : w.rangeAt b o (x ++ y)) : w.rangeAt b o x := fun j v hj => h j v (by rw [List.getElem?_append_left (List.getElem?_eq_some_iff.1 hj).1]; exact hj)
theorem range_right {w : World} {b o n : Nat} {x y : List Value} (h : w.rangeAt b o (x ++ y)) (hx : x.length = n) : w.rangeAt b (o + n) y := fun j v hj => by
  have := h (n + j) v (by rw [List.getElem?_append_right (by omega), hx, Nat.add_sub_cancel_left]; exact hj)
  rw [← Nat.add_assoc] at this
  exact this

set_option maxRecDepth 100000 in
set_option maxHeartbeats 4000000 in
theorem noughts_any (d : List (BitVec 8)) (hd : d.length = 32) (B : Bool) (hB : decide (d = zd) = B) (w : World) : Calls Tryd.prog 42 #[.agg (vB d).toArray] w fun e w' => e = .returned (.bool B) ∧ Below w.heap.size w w' := by
  have r0 : Row (w.alloc (Obj.cells (vB d).toArray 29)) w.heap.size (vB d) 29 := Row.new _ _ _
  have HI : Hid ((Tryd.prog.info? 29).map (·.size) = some (vB d).length) := by show _ = _; rw [vB_length, hd]; exact info_dig
  have HD : Hid (d.length = 32) := hd
  have HB : Hid (decide (d = zd) = B) := hB
  clear hd hB
  go_enter Tryd.func42, Tryd.ntmps42
  go_wp2_with (first
    | (refine wpList_load_w rfl 29 (.tmp 1) rfl w.heap.size 0 rfl (vB d) _ r0.all Tryd.underlying29 rfl HI.out ?_; simp only [Act.put, List.setIfInBounds_toArray, List.set_cons_zero, List.set_cons_succ])
    | (refine wpList_eql_w rfl 29 (.tmp 3) (.tmp 4) _ rfl 5 32 d zd rfl (by kernel_rfl) Tryd.underlying29 Tryd.underlying5 info_u8 HD.out rfl guard_dig ?_; rw [HB.out]; simp only [Act.put, List.setIfInBounds_toArray, List.set_cons_zero, List.set_cons_succ]))
  go_ret
  exact ⟨rfl, (Below.refl _ _).alloc (Nat.le_refl _) _⟩
set_option maxRecDepth 100000 in
set_option maxHeartbeats 4000000 in
theorem size_n (t : Tr) (p : Value) (w : World) (h : NodeAt w t p) : Calls Tryd.prog 43 #[p] w fun e w' => e = .returned (.int .i64 (t.size : Int)) ∧ w' = w := by
  cases t with
  | nil =>
    obtain rfl : p = pn := h
    go_enter Tryd.func43, Tryd.ntmps43
    go_wp2
    go_ret
    exact ⟨rfl, rfl⟩
  | one k v =>
    obtain ⟨_, _, b, rfl, r⟩ := h
    have c := r.cell 32 _ (ncs_cnt _ _ _ _ _ (Tr.dg_len _))
    clear r
    go_enter Tryd.func43, Tryd.ntmps43
    go_wp2
    go_ret
    exact ⟨rfl, rfl⟩
  | two l r' =>
    obtain ⟨b, pl, pr, rfl, r, _, _⟩ := h
    have c := r.cell 32 _ (ncs_cnt _ _ _ _ _ (Tr.dg_len _))
    obtain ⟨n, hn⟩ : ∃ n, n = l.size + r'.size := ⟨_, rfl⟩
    rw [← hn] at c
    have HN : Hid (n = (Tr.two l r').size) := hn
    clear r hn
    go_enter Tryd.func43, Tryd.ntmps43
    go_wp2
    go_ret
    exact ⟨by rw [← HN.out]; rfl, rfl⟩
theorem node_block {t : Tr} {p : Value} {w : World} (h : NodeAt w t p) (ht : t ≠ .nil) : ∃ b n kv l r, p = pt b ∧ Row w b (ncs t.dg n kv l r) 113 := by
  cases t with
  | nil => exact absurd rfl ht
  | one k v => obtain ⟨_, _, b, rfl, r⟩ := h; exact ⟨b, _, _, _, _, rfl, r⟩
  | two l r => obtain ⟨b, _, _, rfl, r, _, _⟩ := h; exact ⟨b, _, _, _, _, rfl, r⟩
set_option maxRecDepth 100000 in
set_option maxHeartbeats 4000000 in
theorem digest_n (t : Tr) (p : Value) (w : World) (h : NodeAt w t p) : Calls Tryd.prog 44 #[p] w fun e w' => e = .returned (.agg (vB t.dg).toArray) ∧ Below w.heap.size w w' := by
  obtain ⟨d, hd⟩ : ∃ d, d = t.dg := ⟨_, rfl⟩
  have hdl : d.length = 32 := by rw [hd]; exact Tr.dg_len _
  have HI5 : Hid ((Tryd.prog.info? 29).map (·.size) = some (vB d).toArray.size) := by show _ = _; rw [info_dig]; simp [vB_length, hdl]
  have HI : Hid ((Tryd.prog.info? 29).map (·.size) = some (vB d).length) := by show _ = _; rw [vB_length, hdl]; exact info_dig
  have HDL : Hid (d.length = 32) := hdl
  have r2 : Row (w.alloc (Obj.cells (vB (List.replicate 32 0#8)).toArray 29)) w.heap.size (vB (List.replicate 32 0#8)) 29 := Row.new' rfl rfl
  have hb : Below w.heap.size w (w.alloc (Obj.cells (vB (List.replicate 32 0#8)).toArray 29)) := (Below.refl _ _).alloc (Nat.le_refl _) _
  have T := r2.there 0 (vB d).toArray.size (by simp [vB_length, hdl])
  have fin := r2.over (vs := (vB d)) (by rw [vB_length, hdl]; rfl)
  have HT : Hid (World.there _ _ _ _) := T
  have HF : Hid (Row _ _ (vB d) _) := fin
  rw [← hd]
  by_cases ht : t = .nil
  · subst ht
    obtain rfl : p = pn := h
    have HZ : Hid (d = zd) := hd
    clear hd hdl T fin
    go_enter Tryd.func44, Tryd.ntmps44
    go_wp2_with (refine wpList_store_mid rfl 29 (.tmp 2) (.tmp 5) rfl w.heap.size 0 (vB d).toArray rfl (by rw [HZ.out]; kernel_rfl) HT.out HI5.out (all_oneCell_toArray (vB_one d)) ?_; simp only [Act.put])
    exact bodyPost_ret (results_row Tryd.results44 _ _ w.heap.size 29 (vB d) rfl HF.out Tryd.underlying29 info_dig (by rw [vB_length, HDL.out])) rfl ⟨rfl, below_setCells hb (Nat.le_refl _) _⟩
  · obtain ⟨b, n, kv, l, r, rfl, rr⟩ := node_block h ht
    rw [← hd] at rr
    have RG : Hid ((w.alloc (Obj.cells (vB (List.replicate 32 0#8)).toArray 29)).rangeAt b 0 (vB d)) := ncs_dg (Row.below rr hb rr.lt)
    clear hd hdl T fin rr h ht
    go_enter Tryd.func44, Tryd.ntmps44
    go_wp2_with (first
      | (refine wpList_load_w rfl 29 (.tmp 8) rfl b 0 rfl (vB d) _ RG.out Tryd.underlying29 rfl HI.out ?_; simp only [Act.put, List.setIfInBounds_toArray, List.set_cons_zero, List.set_cons_succ])
      | (refine wpList_store_mid rfl 29 (.tmp 2) (.tmp 9) rfl w.heap.size 0 (vB d).toArray rfl rfl HT.out HI5.out (all_oneCell_toArray (vB_one d)) ?_; simp only [Act.put]))
    exact bodyPost_ret (results_row Tryd.results44 _ _ w.heap.size 29 (vB d) rfl HF.out Tryd.underlying29 info_dig (by rw [vB_length, HDL.out])) rfl ⟨rfl, below_setCells hb (Nat.le_refl _) _⟩

end Go.Proofs.YtfdgdmehgbmnkaaDoor
