/-
  sparse: halves.
-/
import Derived.Test.YtfdgdmehgbmnkaaDoorSpC
import Derived.BigQuiet

namespace Go.Proofs.YtfdgdmehgbmnkaaDoor
open Go Go.RowKit
open Sha

def Tr.join (l r : Tr) : Tr := if 1 < l.size + r.size then .two l r else match l with | .nil => r | .one k v => .one k v | .two a b => .two a b
theorem Tr.dg_two (l r : Tr) : (Tr.two l r).dg = dig ([3#8] ++ (l.dg ++ r.dg)) := by rw [Tr.dg]
theorem node_ptr {t : Tr} {p : Value} {w : World} (h : NodeAt w t p) : (t = .nil ∧ p = pn) ∨ (t ≠ .nil ∧ ∃ b, p = pt b) := by
  cases t with
  | nil => exact .inl ⟨rfl, h⟩
  | one k v => obtain ⟨_, _, b, rfl, _⟩ := h; exact .inr ⟨by simp, b, rfl⟩
  | two l r => obtain ⟨b, _, _, rfl, _⟩ := h; exact .inr ⟨by simp, b, rfl⟩
theorem node_cells {t : Tr} {p : Value} {w : World} (h : NodeAt w t p) : p.cells = #[p] := by
  rcases node_ptr h with ⟨_, rfl⟩ | ⟨_, b, rfl⟩ <;> rfl
theorem Tr.join_many {l r : Tr} (h : 1 < l.size + r.size) : l.join r = .two l r := by unfold Tr.join; rw [if_pos h]
theorem Tr.join_left {l r : Tr} (h : ¬ 1 < l.size + r.size) (hl : l ≠ .nil) : l.join r = l := by
  unfold Tr.join
  rw [if_neg h]
  cases l <;> first | rfl | exact absurd rfl hl
theorem Tr.join_right {r : Tr} (h : ¬ 1 < Tr.nil.size + r.size) : Tr.nil.join r = r := by unfold Tr.join; rw [if_neg h]
theorem wpList_gtr {ops : Array Oper} {rest : List Oper} {op : Oper} {a : Act} {w : World} {Q : Exit → Act → World → Prop} (hgd : op.guard = none) (x : Operand) (m n : Int) {t yt : TypeId} (ho : op.op = .binOp .gtr t x (.const (.int .i64 m)) yt) (hx : a.eval x = .int .i64 n) (b : Bool) (hb : decide (m < n) = b) (h : wpList Tryd.prog ops Q rest (a.put op.dst (.bool b)) w) : wpList Tryd.prog ops Q (op :: rest) a w :=
  wpList_plain hgd fun _ hK => by
    have hc : a.eval (.const (.int .i64 m)) = .int .i64 m := rfl
    subst hb
    unfold Oper.wp execOp
    simp only [ho, hx, hc]
    simp [go_sem]
    exact hK _ _ h
set_option maxRecDepth 100000 in
set_option maxHeartbeats 4000000 in
theorem join_any (l r : Tr) (pl pr : Value) (w : World) (hl : NodeAt w l pl) (hr : NodeAt w r pr) (hs : l.size + r.size < 4611686018427387904) (hK : Tab w 3) : Calls Tryd.prog 62 #[pl, pr] w fun e w' => ∃ p, e = .returned p ∧ NodeAt w' (l.join r) p ∧ Below w.heap.size w w' := by
  have HL : Hid (NodeAt w l pl) := hl
  have HR : Hid (NodeAt w r pr) := hr
  have HKL : Hid (∀ W, Below w.heap.size w W → Tab W 3) := fun W hB => hK.below hB hK.lt
  by_cases hm : 1 < l.size + r.size
  · have HJ : Hid (l.join r = .two l r) := Tr.join_many hm
    obtain ⟨dd, hdd⟩ : ∃ dd, dd = (Tr.two l r).dg := ⟨_, rfl⟩
    have HD : Hid (dd = dig ([3#8] ++ (l.dg ++ r.dg))) := hdd.trans (Tr.dg_two l r)
    have HDL : Hid (dd.length = 32) := by rw [hdd]; exact Tr.dg_len _
    have HN : Hid (ncs (Tr.two l r).dg (l.size + r.size) z64 pl pr = ncs dd (l.size + r.size) z64 pl pr) := by show _ = _; rw [hdd]
    have CL : Hid (pl.cells = #[pl]) := node_cells hl
    have CR : Hid (pr.cells = #[pr]) := node_cells hr
    have hm' : 1 < (l.size : Int) + (r.size : Int) := by omega
    have hs' : (l.size : Int) + (r.size : Int) < 4611686018427387904 := by omega
    clear hdd hl hr hK hm hs
    go_enter Tryd.func62, Tryd.ntmps62
    go_wp2_with (first
      | (go_at_call 43; refine Calls.mono (size_n _ _ _ (by first | exact HL.out | exact HR.out)) ?_; rintro e X ⟨rfl, hq⟩; obtain rfl := hq.symm; clear hq)
      | (go_at_call 44; refine Calls.mono (digest_n _ _ _ HL.out) ?_; rintro e X ⟨rfl, q⟩; have B1 : Hid (Below w.heap.size w X) := q; clear q)
      | (go_at_call 44; refine Calls.mono (digest_n r pr _ (NodeAt.be B1.out _ _ HR.out)) ?_; rintro e Y ⟨rfl, q⟩; have B2 : Hid (Below w.heap.size w Y) := B1.out.trans (q.mono B1.out.size); clear q)
      | (go_at_call 79; refine Calls.mono (two_any l.dg r.dg dd (Tr.dg_len l) (Tr.dg_len r) HD.out _ (HKL.out _ B2.out)) ?_; rintro e Z ⟨rfl, q⟩; have B3 : Hid (Below w.heap.size w Z) := B2.out.trans (q.mono B2.out.size); clear q)
      | (refine wpList_buildN2 rfl (.tmp 18) (.tmp 19) (.tmp 20) (.tmp 21) rfl dd (l.size + r.size) pl pr HDL.out CL.out CR.out rfl rfl rfl rfl (ncs dd (l.size + r.size) z64 pl pr) rfl ?_; simp only [Act.put, List.setIfInBounds_toArray, List.set_cons_zero, List.set_cons_succ])
      | (refine wpList_boxN rfl (.tmp 22) rfl (ncs dd (l.size + r.size) z64 pl pr) rfl ?_; intro V q1 q2; have R4 : Hid (Row V _ (ncs dd (l.size + r.size) z64 pl pr) 113) := q1; have B4 : Hid (Below w.heap.size w V) := B3.out.trans (q2.mono B3.out.size); clear q1 q2; simp only [Act.put, List.setIfInBounds_toArray, List.set_cons_zero, List.set_cons_succ]))
    go_ret
    exact ⟨_, rfl, by rw [HJ.out]; exact ⟨_, _, _, rfl, by rw [HN.out]; exact R4.out, NodeAt.be B4.out _ _ HL.out, NodeAt.be B4.out _ _ HR.out⟩, B4.out⟩
  · have hm' : (l.size : Int) + (r.size : Int) ≤ 1 := by omega
    have hs' : (l.size : Int) + (r.size : Int) < 4611686018427387904 := by omega
    have HM : Hid (¬ 1 < l.size + r.size) := hm
    have HF : Hid (decide (1 < (l.size : Int) + (r.size : Int)) = false) := decide_eq_false (by omega)
    rcases node_ptr hl with ⟨e1, rfl⟩ | ⟨e1, b, rfl⟩
    · subst e1
      have HJ : Hid (Tr.nil.join r = r) := Tr.join_right HM.out
      clear hl hr hK hm hs hm'
      go_enter Tryd.func62, Tryd.ntmps62
      go_wp2_with (first
        | (refine wpList_gtr rfl (.tmp 12) 1 ((Tr.nil.size : Int) + (r.size : Int)) rfl rfl false HF.out ?_; simp only [Act.put, List.setIfInBounds_toArray, List.set_cons_zero, List.set_cons_succ])
        | (go_at_call 43; refine Calls.mono (size_n _ _ _ (by first | exact HL.out | exact HR.out)) ?_; rintro e X ⟨rfl, hq⟩; obtain rfl := hq.symm; clear hq))
      go_ret
      exact ⟨_, rfl, by rw [HJ.out]; exact HR.out, Below.refl _ _⟩
    · have HJ : Hid (l.join r = l) := Tr.join_left HM.out e1
      clear hl hr hK hm hs e1 hm'
      go_enter Tryd.func62, Tryd.ntmps62
      go_wp2_with (first
        | (refine wpList_gtr rfl (.tmp 12) 1 ((l.size : Int) + (r.size : Int)) rfl rfl false HF.out ?_; simp only [Act.put, List.setIfInBounds_toArray, List.set_cons_zero, List.set_cons_succ])
        | (go_at_call 43; refine Calls.mono (size_n _ _ _ (by first | exact HL.out | exact HR.out)) ?_; rintro e X ⟨rfl, hq⟩; obtain rfl := hq.symm; clear hq))
      go_ret
      exact ⟨_, rfl, by rw [HJ.out]; exact HL.out, Below.refl _ _⟩

end Go.Proofs.YtfdgdmehgbmnkaaDoor

namespace Go.Proofs.YtfdgdmehgbmnkaaDoor
open Go Go.RowKit
open Sha

theorem bit_fin : ∀ (m : Fin 8) (n : Fin 256), (bits BinOp.and IntKind.u8 (((n.val : Nat) : Int) * 2 ^ m.val % 256) 128 != 0) = (BitVec.ofNat 8 n.val).getLsbD (7 - m.val) := by decide +kernel
theorem bit_fact (x : BitVec 8) (m : Nat) (h : m < 8) : (bits BinOp.and IntKind.u8 ((x.toNat : Int) * 2 ^ m % 256) 128 != 0) = x.getLsbD (7 - m) := by
  have := bit_fin ⟨m, h⟩ ⟨x.toNat, x.isLt⟩
  rwa [BitVec.ofNat_toNat, BitVec.setWidth_eq] at this
def bitOf (d : List (BitVec 8)) (i : Nat) : Bool := (d.getD (i / 8) 0#8).getLsbD (7 - i % 8)
set_option maxRecDepth 100000 in
set_option maxHeartbeats 4000000 in
theorem bitAt_any (d : List (BitVec 8)) (hd : d.length = 32) (i : Nat) (hi : i < 256) (w : World) : Calls Tryd.prog 61 #[.agg (vB d).toArray, .int .i64 (i : Int)] w fun e w' => e = .returned (.bool (bitOf d i)) ∧ Below w.heap.size w w' := by
  obtain ⟨q, hq⟩ : ∃ q, q = i / 8 := ⟨_, rfl⟩
  obtain ⟨m, hm⟩ : ∃ m, m = i % 8 := ⟨_, rfl⟩
  have hq8 : q < 32 := by omega
  have hm8 : m < 8 := by omega
  obtain ⟨x, hx⟩ : ∃ x, d[q]? = some x := ⟨_, List.getElem?_eq_getElem (by omega)⟩
  have HB : Hid (bitOf d i = x.getLsbD (7 - m)) := by show _ = _; unfold bitOf; rw [← hq, ← hm, List.getD_eq_getElem?_getD, hx]; rfl
  have r0 : Row (w.alloc (Obj.cells (vB d).toArray 29)) w.heap.size (vB d) 29 := Row.new _ _ _
  have c := r0.cell q (.int .u8 (x.toNat : Int)) (by unfold vB; rw [List.getElem?_map, hx]; rfl)
  have eq : (i : Int).tdiv 8 = (q : Int) := by rw [hq]; exact (Int.ofNat_tdiv i 8).symm
  have em : (i : Int).tmod 8 = (m : Int) := by rw [hm]; exact (Int.ofNat_tmod i 8).symm
  have hB : Below w.heap.size w (w.alloc (Obj.cells (vB d).toArray 29)) := (Below.refl _ _).alloc (Nat.le_refl _) _
  clear r0 hx hq hm hd
  go_enter Tryd.func61, Tryd.ntmps61
  go_wp2
  go_ret
  refine ⟨?_, hB⟩
  rw [HB.out, ← bit_fact x m hm8]
  rfl

end Go.Proofs.YtfdgdmehgbmnkaaDoor

namespace Go.Proofs.YtfdgdmehgbmnkaaDoor
open Go Go.RowKit
open Sha

/-- A pointer to a node, and no more known of it. -/
theorem ncs_key {w : World} {b : Nat} {d : List (BitVec 8)} {n : Nat} {k v : List (BitVec 8)} {l r : Value} {t : TypeId} (h : Row w b (ncs d n (k ++ v) l r) t) (hd : d.length = 32) : w.rangeAt b 33 (vB k) := by
  have := ncs_kv h hd
  rw [vB_append] at this
  exact range_left this
set_option maxRecDepth 100000 in
set_option maxHeartbeats 4000000 in
theorem halves_two (l r : Tr) (p : Value) (w : World) (i : Nat) (h : NodeAt w (.two l r) p) (hs : 1 < l.size + r.size) : Calls Tryd.prog 60 #[p, .int .i64 (i : Int)] w fun e w' => ∃ pl pr, e = .returned (.tuple #[pl, pr]) ∧ NodeAt w' l pl ∧ NodeAt w' r pr ∧ Below w.heap.size w w' := by
  obtain ⟨b, pl, pr, rfl, rr, hl, hr⟩ := h
  have c2 := rr.cell 32 _ (ncs_cnt _ _ _ _ _ (Tr.dg_len _))
  have c3 := rr.cell 97 _ (ncs_left _ _ _ _ _ (Tr.dg_len _) rfl)
  have c4 := rr.cell 98 _ (ncs_right _ _ _ _ _ (Tr.dg_len _) rfl)
  obtain ⟨n, hn⟩ : ∃ n, n = l.size + r.size := ⟨_, rfl⟩
  rw [← hn] at c2 hs
  have HL : Hid (NodeAt w l pl) := hl
  have HR : Hid (NodeAt w r pr) := hr
  have hs' : (1 : Int) < (n : Int) := by omega
  clear hn rr hl hr hs
  go_enter Tryd.func60, Tryd.ntmps60
  go_wp2
  go_quiet (fail)
  go_wp2
  go_ret2
  exact ⟨_, _, rfl, NodeAt.be (below_drewN (Below.refl w.heap.size w) _) _ _ HL.out, NodeAt.be (below_drewN (Below.refl w.heap.size w) _) _ _ HR.out, below_drewN (Below.refl _ _) _⟩
set_option maxRecDepth 100000 in
set_option maxHeartbeats 4000000 in
theorem halves_one (k v : List (BitVec 8)) (p : Value) (w : World) (i : Nat) (hi : i < 256) (h : NodeAt w (.one k v) p) : Calls Tryd.prog 60 #[p, .int .i64 (i : Int)] w fun e w' => e = .returned (.tuple (if bitOf k i then #[pn, p] else #[p, pn])) ∧ Below w.heap.size w w' := by
  obtain ⟨hk, hv, b, rfl, rr⟩ := h
  have c2 := rr.cell 32 _ (ncs_cnt _ _ _ _ _ (Tr.dg_len _))
  have RK : Hid (w.rangeAt b 33 (vB k)) := ncs_key rr (Tr.dg_len _)
  have HI : Hid ((Tryd.prog.info? 29).map (·.size) = some (vB k).length) := by show _ = _; rw [vB_length, hk]; exact info_dig
  have HB : Hid _ := bitAt_any k hk i hi w
  clear rr hk hv
  cases hb : bitOf k i with
  | true =>
    rw [hb] at HB
    clear hb
    go_enter Tryd.func60, Tryd.ntmps60
    go_wp2_with (first
      | (refine wpList_load_w rfl 29 (.tmp 24) rfl b 33 rfl (vB k) _ RK.out Tryd.underlying29 rfl HI.out ?_; simp only [Act.put, List.setIfInBounds_toArray, List.set_cons_zero, List.set_cons_succ])
      | (go_at_call 61; refine Calls.mono HB.out ?_; rintro e X ⟨rfl, q⟩; have BX : Hid (Below w.heap.size w X) := q; clear q))
    go_ret2
    exact ⟨rfl, BX.out⟩
  | false =>
    rw [hb] at HB
    clear hb
    go_enter Tryd.func60, Tryd.ntmps60
    go_wp2_with (first
      | (refine wpList_load_w rfl 29 (.tmp 24) rfl b 33 rfl (vB k) _ RK.out Tryd.underlying29 rfl HI.out ?_; simp only [Act.put, List.setIfInBounds_toArray, List.set_cons_zero, List.set_cons_succ])
      | (go_at_call 61; refine Calls.mono HB.out ?_; rintro e X ⟨rfl, q⟩; have BX : Hid (Below w.heap.size w X) := q; clear q))
    go_ret2
    exact ⟨rfl, BX.out⟩

end Go.Proofs.YtfdgdmehgbmnkaaDoor
