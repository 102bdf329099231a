/-
  Before the law DigestParts: Parts of no list, of lists by their number; what stays when one cell is written.
-/
import Derived.Test.YtihigbkanbabeaaDoorPHelp
import Derived.Deep.RegionLaw
namespace Go.Proofs.YtihigbkanbabeaaDoor
open Go Go.RowKit
open Sha

set_option maxRecDepth 100000 in
set_option maxHeartbeats 1000000 in
theorem parts_nil (dd : List (BitVec 8)) (hdd : dd = dig []) (w : World) (hK : Tab w 1) :
    Calls Tryd.prog 16 #[.slice none 0 0] w fun e w' => e = .returned (.agg (vB dd).toArray) ∧ Below w.heap.size w w' := by
  have HD : Hid (dd = dig []) := hdd
  have HDL : Hid (dd.length = 32) := by rw [hdd]; exact dig_length _
  clear hdd
  go_enter Tryd.func16, Tryd.ntmps16
  go_wp2_with (go_at_call 29; refine (new_any _).mono ?_; rintro e w1 ⟨b, rfl, hb1, hH1, hB1⟩)
  have hN : w.heap.size + 1 ≤ b := by simpa using hb1
  have hB0 : Below w.heap.size w w1 := ((Below.refl _ _).alloc (Nat.le_refl _) _).trans (hB1.mono (by simp))
  have r0 : Row w1 w.heap.size (vB (List.replicate 32 0#8)) 26 := Row.below (Row.new' rfl rfl) hB1 (by simp)
  clear hB1 hb1
  go_loopw [9] (fun i wr => i = .int .i64 0 ∧ HAt wr b [] ∧ Row wr w.heap.size (vB (List.replicate 32 0#8)) 26 ∧ Below w.heap.size w wr)
    (fun _ _ => 0)
  case atStart => exact ⟨rfl, hH1, r0, hB0⟩
  case round =>
    obtain ⟨rfl, hA', q0, qB⟩ := hrel
    clear hH1 r0 hB0
    have hi5 : (Tryd.prog.info? 26).map (·.size) = some (vB dd).toArray.size := by rw [info_dig]; simp [vB_length, HDL.out]
    have hqz : w.heap.size < wr.heap.size := q0.lt
    go_wp2_with (first
      | (go_at_call 32; refine (hsum_d _ dd HD.out (by decide) b wr (hK.below qB hK.lt) hA').mono ?_; rintro e w2 ⟨rfl, hB2⟩)
      | (refine wpList_store_mid rfl 26 (.tmp 2) (.tmp 18) rfl w.heap.size 0 (vB dd).toArray rfl rfl ((q0.below hB2 (by omega)).there 0 _ (by simp [vB_length, HDL.out])) hi5 (all_oneCell_toArray (vB_one dd)) ?_))
    have nf := (q0.below hB2 (by omega)).over (vs := vB dd) (by rw [vB_length, HDL.out]; rfl)
    have nB := below_setCells (qB.trans (hB2.mono (by omega))) (b := w.heap.size) (o := 0) (Nat.le_refl _) (vB dd)
    exact bodyPost_ret (results_row Tryd.results16 _ _ w.heap.size 26 (vB dd) rfl nf Tryd.underlying26 info_dig (by rw [vB_length, HDL.out])) rfl ⟨rfl, nB⟩

theorem lent_x (q : List (BitVec 8)) (hd : q.length ≤ 140737488351232) (A : Option Addr) (cap : Nat) (w : World) (hv : SlAt w (.slice A q.length cap) q) :
    Calls Tryd.prog 10 #[.slice A q.length cap] w fun e w' => ∃ g, e = .returned (.slice (some ⟨g, 0, none⟩) (q.length + 80) (q.length + 80)) ∧ w.heap.size ≤ g ∧ Row w' g (vB (q ++ marks)) 5 ∧ Below w.heap.size w w' := by
  refine (lent_any q hd A cap w hv).mono ?_
  rintro e w' ⟨⟨v, rfl, g, rfl, hg, hr⟩, hB⟩
  exact ⟨g, by simp [marks], hg, hr, hB⟩

/-- Parts of the lists lent: their values by the lengths, their bytes by qs. -/
theorem parts_lent (qs ps : List (List (BitVec 8))) (gs : List Nat) (n N gm cap : Nat) (dd : List (BitVec 8)) (hdd : dd = dig qs.flatten) (hq : qs.length = n) (hps : ps.length = n) (hpl : ∀ i, i < n → (qs.getD i []).length = (ps.getD i []).length) (hlen : qs.flatten.length < 1152921504606846976) (hn : n < 1152921504606846976) (w : World) (hK : Tab w 1)
    (hL : Lent w N gs qs) (hr : w.rangeAt gm 0 (mL gs ps)) :
    Calls Tryd.prog 16 #[.slice (some ⟨gm, 0, none⟩) n cap] w fun e w' => e = .returned (.agg (vB dd).toArray) ∧ Below w.heap.size w w' := by
  subst hq
  rw [hdd]
  have hg : gs.length = ps.length := by rw [hL.len, hps]
  refine parts_any qs (mL gs ps) (by rw [mL_length gs ps hg, hps]) gm 0 cap hlen hn w hK (fun i hi => ?_) hr
  have e : (mL gs ps).getD i undef = mv (gs.getD i 0) (ps.getD i []).length := by
    rw [List.getD_eq_getElem?_getD, mL_get gs ps i hg (by omega)]; rfl
  rw [e]
  exact mv_slAt (hpl i hi) (hL.row i (by rw [hL.len]; exact hi))

theorem ownsRow_setCell {w : World} {N e size n : Nat} {v : Value} {xs : List Value} (h : w.ownsRow N e size v n xs) (b i : Nat) (u : Value) (hb : b < N) : (w.setCell ⟨b, i, none⟩ u).ownsRow N e size v n xs := by
  refine ⟨h.1, ?_⟩
  rcases h.2 with h2 | ⟨g, cap, cur, hv, hg, hh, r⟩
  · exact .inl h2
  · exact .inr ⟨g, cap, cur, hv, hg, (Below.heap_setCell _ _ _ _ (by show g ≠ b; omega)).trans hh, r⟩
theorem ownsRow_setCells {w : World} {N e size n : Nat} {v : Value} {xs : List Value} (h : w.ownsRow N e size v n xs) (b : Nat) (us cs : List Value) (t : TypeId) (hb : Row w b cs t) (ht : e ≠ t) : (w.setCells b 0 us).ownsRow N e size v n xs := by
  refine ⟨h.1, ?_⟩
  rcases h.2 with h2 | ⟨g, cap, cur, hv, hg, hh, r⟩
  · exact .inl h2
  · have hr : Row w g cur.toList e := by unfold Row; rw [hh]
    have := Row.setCells_other hr b 0 us (hr.ne hb ht)
    exact .inr ⟨g, cap, cur, hv, hg, this, r⟩
theorem range_setCell {w : World} {c o : Nat} {cs : List Value} (h : w.rangeAt c o cs) (b i : Nat) (u : Value) (hb : c ≠ b) : (w.setCell ⟨b, i, none⟩ u).rangeAt c o cs := range_but h (But.setCell b i w u) hb
theorem Lent.set {w : World} {N : Nat} {gs : List Nat} {qs : List (List (BitVec 8))} (h : Lent w N gs qs) (b i : Nat) (u : Value) {cs : List Value} {t : TypeId} (hb : Row w b cs t) (ht : 5 ≠ t) : Lent (w.setCell ⟨b, i, none⟩ u) N gs qs :=
  h.map fun _ _ hc => hc.set_other _ _ _ (hc.ne hb ht)
theorem take_one (ps : List (List (BitVec 8))) (t : Nat) (h : t < ps.length) : ps.take (t + 1) = ps.take t ++ [ps.getD t []] := by
  rw [List.take_succ_eq_append_getElem h]; simp [h]

theorem mine_fill (xs : List Value) (v nl : Value) (t n : Nat) (hx : xs.length = t) (h : t < n) : (xs ++ List.replicate (n - t) nl).set t v = (xs ++ [v]) ++ List.replicate (n - (t + 1)) nl := by
  rw [List.set_append_right _ _ (by omega), show n - t = (n - (t + 1)) + 1 by omega, List.replicate_succ]
  simp [hx]
theorem mine_get (xs : List Value) (nl : Value) (t n : Nat) (hx : xs.length = t) (h : t < n) : (xs ++ List.replicate (n - t) nl)[t]? = some nl := by
  rw [List.getElem?_append_right (by omega), List.getElem?_replicate, if_pos (by omega)]
theorem owns_cell {w : World} {N e n : Nat} {v : Value} {xs : List Value} (h : w.ownsRow N e 1 v n xs) (i : Nat) (u : Value) (hi : xs[i]? = some u) : ∃ g cap, v = .slice (some ⟨g, 0, none⟩) n cap ∧ w.cell? ⟨g, i, none⟩ = some u := by
  have hl := h.1
  have hil := (List.getElem?_eq_some_iff.1 hi).1
  rcases h.2 with ⟨_, h0⟩ | ⟨g, cap, cur, hv, hg, hh, hc, hm, hs, ht⟩
  · omega
  · have hr : Row w g cur.toList e := by unfold Row; rw [hh]
    refine ⟨g, cap, hv, hr.cell i u ?_⟩
    rw [← ht, List.getElem?_take_of_lt (by omega)] at hi
    exact hi

def mk4 : List (BitVec 8) := [109#8, 97#8, 114#8, 107#8]
theorem range_mark (w : World) (fr : Nat × Nat) : (w.alloc (.cells #[Value.int IntKind.u8 109, Value.int IntKind.u8 97, Value.int IntKind.u8 114, Value.int IntKind.u8 107] 5 fr)).rangeAt w.heap.size 0 (vB mk4) := fun j v hv => by
  rw [cell_of_row _ _ _ _ _ fr (heap_alloc_last w _)]
  rw [Nat.zero_add]
  match j, hv with
  | 0, hv => exact hv
  | 1, hv => exact hv
  | 2, hv => exact hv
  | 3, hv => exact hv
theorem mine_set (xs : List Value) (v nl : Value) (s n : Nat) (hx : xs.length = n) (h : s < 8) : (xs ++ (List.replicate s v ++ List.replicate (8 - s) nl)).set (n + s) v = xs ++ (List.replicate (s + 1) v ++ List.replicate (8 - (s + 1)) nl) := by
  rw [List.set_append_right _ _ (by omega), List.set_append_right _ _ (by simp; omega), show 8 - s = (8 - (s + 1)) + 1 by omega, List.replicate_succ (n := 8 - (s + 1))]
  simp [hx, List.replicate_succ' (n := s)]
theorem mine_nl (xs : List Value) (v nl : Value) (s n : Nat) (hx : xs.length = n) (h : s < 8) : (xs ++ (List.replicate s v ++ List.replicate (8 - s) nl))[n + s]? = some nl := by
  rw [List.getElem?_append_right (by omega), List.getElem?_append_right (by simp; omega), List.getElem?_replicate, if_pos (by simp; omega)]
theorem mine_mark (xs : List Value) (v : Value) (s n : Nat) (hx : xs.length = n) (h : s < 8) : (xs ++ List.replicate 8 v)[n + s]? = some v := by
  rw [List.getElem?_append_right (by omega), List.getElem?_replicate, if_pos (by omega)]

theorem SlAt.drewN {w : World} {v : Value} {d : List (BitVec 8)} (h : SlAt w v d) (n : Nat) : SlAt (w.drewN n) v d := h
theorem Lent.drewN {w : World} {N : Nat} {gs : List Nat} {qs : List (List (BitVec 8))} (h : Lent w N gs qs) (n : Nat) : Lent (w.drewN n) N gs qs := ⟨h.len, h.low, fun i hi => (h.row i hi).drewN n, h.apart⟩
theorem ownsRow_drewN {w : World} {N e size n : Nat} {v : Value} {xs : List Value} (h : w.ownsRow N e size v n xs) (m : Nat) : (w.drewN m).ownsRow N e size v n xs := h
theorem row_front {w : World} {b : Nat} {xs ys : List Value} {t : TypeId} (h : Row w b (xs ++ ys) t) : w.rangeAt b 0 xs :=
  h.range 0 xs (fun j v hv => by rw [Nat.zero_add, List.getElem?_append_left ((List.getElem?_eq_some_iff.1 hv).1)]; exact hv)
/-- A call of a Go function, as one step of a region that draws. -/
theorem step_fcall {P : Program} {ops : Array Oper} {o : Oper} {a : Act} {w : World} {K : Act → World → Prop} {Q : Exit → Act → World → Prop} {E : Prop} (hg : o.guard = none) (f : FuncId) (args : Array Value) (h : (execOp a.eval o).run P w = .ok (.enter f args) w)
    (hc : Calls P f args w fun e w' => ∃ v, e = .returned v ∧ K (a.put o.dst v) w') : if Region.wanted o (yielded ops a.tmps) = true then Oper.wp P o a w K Q else E := by
  have hw : Region.wanted o (yielded ops a.tmps) = true := by simp [Region.wanted, hg]
  rw [if_pos hw]
  unfold Oper.wp
  rw [h]
  exact hc.mono (fun e w' hk => by obtain ⟨v, he, hk⟩ := hk; subst he; exact hk)
/-- copy, as one step of a region that draws. -/
theorem step_copy {P : Program} {ops : Array Oper} {op : Oper} {a : Act} {w : World} {K : Act → World → Prop} {Q : Exit → Act → World → Prop} {E : Prop} (hgd : op.guard = none) (x y : Operand) (dT sT : TypeId) (ho : op.op = .call { callee := .builtin .copy, args := #[x, y], argTypes := #[dT, sT] })
    (elem : TypeId) (b o dLen dCap : Nat) (adr : Addr) (sLen sCap : Nat) (cs : List Value)
    (hx : a.eval x = .slice (some ⟨b, o, none⟩) dLen dCap) (hy : a.eval y = .slice (some adr) sLen sCap)
    (hu : P.underlying dT = some (.slice elem)) (hs : (P.info? elem).map (·.size) = some 1) (hn : cs.length = Nat.min sLen dLen)
    (hsrc : ∀ j v, cs[j]? = some v → w.cell? (adr.add j) = some v) (ht : w.there b o cs.length) (h1 : ∀ v ∈ cs, v.oneCell' = true)
    (h : K (a.put op.dst (goInt cs.length)) (w.setCells b o cs)) : if Region.wanted op (yielded ops a.tmps) = true then Oper.wp P op a w K Q else E := by
  have hw : Region.wanted op (yielded ops a.tmps) = true := by simp [Region.wanted, hgd]
  rw [if_pos hw]
  obtain ⟨dst, op', ty, pos, after, guard⟩ := op
  simp only at hgd ho
  subst hgd; subst ho
  have hr := run_copy_cells (P := P) w dT sT ty elem b o dLen dCap adr sLen sCap cs hu hs hn hsrc (fun j hj => (ht j hj).1) (fun j hj => (ht j hj).2) h1
  unfold Oper.wp
  rw [BigFrame.execOp_builtin, BigFrame.builtin_copy]
  simp only [List.map_toArray, List.map_cons, List.map_nil, hx, hy, Sem.run_bind, hr, Result.andThen_ok, Sem.run_pure, Oper.upon_value]
  exact h
theorem other_x (q : List (BitVec 8)) (hd : q.length ≤ 140737488351232) (A : Option Addr) (cap : Nat) (w : World) (hv : SlAt w (.slice A q.length cap) q) :
    Calls Tryd.prog 13 #[.slice A q.length cap] w fun e w' => ∃ g, e = .returned (.slice (some ⟨g, 0, none⟩) q.length q.length) ∧ w.heap.size ≤ g ∧ Row w' g (vB (oth q)) 5 ∧ Below w.heap.size w w' := by
  refine (other_any q hd A cap w hv).mono ?_
  rintro e w' ⟨⟨v, rfl, g, rfl, hg, hr⟩, hB⟩
  exact ⟨g, by rw [oth_length], hg, hr, hB⟩
/-- The lists, the first t of them turned. -/
def turnT (ps : List (List (BitVec 8))) (t : Nat) : List (List (BitVec 8)) := (ps.take t).map oth ++ ps.drop t
theorem turnT_length (ps : List (List (BitVec 8))) (t : Nat) (h : t ≤ ps.length) : (turnT ps t).length = ps.length := by simp [turnT]; omega
theorem turnT_get (ps : List (List (BitVec 8))) (t : Nat) (h : t < ps.length) : (turnT ps t).getD t [] = ps.getD t [] := by
  unfold turnT
  rw [List.getD_eq_getElem?_getD, List.getElem?_append_right (by simp; omega), List.getElem?_drop, List.getD_eq_getElem?_getD]
  congr 2
  simp; omega
theorem turnT_set (ps : List (List (BitVec 8))) (t : Nat) (h : t < ps.length) : (turnT ps t).set t (oth (ps.getD t [])) = turnT ps (t + 1) := by
  unfold turnT
  have hl : ((ps.take t).map oth).length = t := by simp; omega
  rw [List.set_append_right _ _ (by omega), hl, take_one ps t h, Nat.sub_self, List.drop_eq_getElem_cons h, List.set_cons_zero, List.map_append, List.append_assoc]
  rfl
theorem turnT_all (ps : List (List (BitVec 8))) (n : Nat) (h : ps.length = n) : turnT ps n = ps.map oth := by
  unfold turnT; rw [List.take_of_length_le (by omega), List.drop_of_length_le (by omega), List.append_nil]

theorem oth_flat (ps : List (List (BitVec 8))) : (ps.map oth).flatten = oth ps.flatten := by
  unfold oth; rw [List.map_flatten]

end Go.Proofs.YtihigbkanbabeaaDoor
