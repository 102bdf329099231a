/-
  keys.
-/
import Derived.Test.YtelioddogdcdoaaDoorLgA
import Derived.ArgAppend
import Derived.Laws.IdiomStrings
import Derived.Deep.MidRow
import Derived.LoopN
import Derived.Test.YtelioddogdcdoaaDoorWKn

namespace Go.Proofs.YtelioddogdcdoaaDoor
open Go Go.RowKit Go.Maps
open Sha

/-- Bytes that may be appended to, wherever they came from. -/
def Sp (N : Nat) (w : World) (v : Value) (d : List (BitVec 8)) : Prop := ∃ g cap, v = .slice (some ⟨g, 0, none⟩) d.length cap ∧ N ≤ g ∧ g < w.heap.size ∧ w.rangeAt g 0 (vB d) ∧ d.length ≤ cap ∧ ∀ j, d.length ≤ j → j < cap → (w.cell? ⟨g, j, none⟩).isSome = true ∧ w.frozen? ⟨g, j, none⟩ = false
theorem Sp.sl {N : Nat} {w : World} {v : Value} {d : List (BitVec 8)} (h : Sp N w v d) : SlAt w v d := by
  obtain ⟨g, cap, hv, _, _, hr, hc, _⟩ := h
  exact .inr ⟨g, 0, cap, hv, hc, hr⟩
theorem Sp.be {N : Nat} {w w' : World} {v : Value} {d : List (BitVec 8)} (h : Sp N w v d) (k : Below w.heap.size w w') : Sp N w' v d := by
  obtain ⟨g, cap, hv, hN, hl, hr, hc, hs⟩ := h
  refine ⟨g, cap, hv, hN, Nat.lt_of_lt_of_le hl k.size, range_be hr k, hc, fun j h1 h2 => ⟨?_, ?_⟩⟩
  · rw [World.cell?_of_block (a := ⟨g, j, none⟩) (k.block g hl)]
    exact (hs j h1 h2).1
  · have := (hs j h1 h2).2
    unfold World.frozen? at this ⊢
    rw [k.block g hl]
    exact this
theorem vB_app (d e : List (BitVec 8)) : vB (d ++ e) = vB d ++ vB e := by simp [vB]
section
variable {ops : Array Oper} {rest : List Oper} {o : Oper} {a : Act} {w : World} {Q : Exit → Act → World → Prop}
theorem wpList_app_sp (hgd : o.guard = none) (s x : Operand) (ho : o.op = .call { callee := .builtin .append, args := #[s, x], argTypes := #[52, 52] }) (N : Nat) (v : Value) (d news : List (BitVec 8)) (hs : a.eval s = v) (hv : Sp N w v d)
    (g2 o2 m cap2 : Nat) (hm : news.length = m) (h0 : 0 < m) (hx : a.eval x = .slice (some ⟨g2, o2, none⟩) m cap2) (hX : w.rangeAt g2 o2 (vB news)) (hk : d.length + m ≤ 1000)
    (h : ∀ v' w', Sp N w' v' (d ++ news) → Below N w w' → wpList Tryd.prog ops Q rest (a.put o.dst v') w') : wpList Tryd.prog ops Q (o :: rest) a w := by
  subst hm
  obtain ⟨g, cap, rfl, hN, hl, hr, hc, hsp⟩ := hv
  obtain ⟨ie, z, h1, h2, h3, h5, h4⟩ := info_u8open
  by_cases hroom : d.length + news.length ≤ cap
  · have hin : ∀ j, j < (vB news).length → (w.cell? ⟨g, 0 + d.length * ie.size + j, none⟩).isSome = true := fun j hj => by
      rw [vB_length] at hj
      rw [h3, Nat.mul_one, Nat.zero_add]
      exact (hsp (d.length + j) (by omega) (by omega)).1
    have hrun := run_append_room_cells (P := Tryd.prog) w 52 o.type 5 ie Tryd.underlying52 h1 g 0 d.length cap ⟨g2, o2, none⟩ news.length cap2 (vB news) (by rw [vB_length, h3, Nat.mul_one]) (fun j u hj => by rw [Addr.add_mid]; exact hX j u hj) (vB_one news) hroom hin (fun j hj => by
      rw [vB_length] at hj
      rw [h3, Nat.mul_one, Nat.zero_add]
      exact (hsp (d.length + j) (by omega) (by omega)).2)
    refine wpList_plain hgd fun K hK => ?_
    unfold Oper.wp execOp
    simp only [ho, resolve, invoke, builtin, Sem.run_bind, Sem.run_pure, Result.andThen_ok, List.map_toArray, List.map_cons, List.map_nil, hs, hx, hrun]
    refine hK _ _ (h _ _ ?_ (below_setCells (Below.refl _ _) hN _))
    rw [h3, Nat.mul_one, Nat.zero_add]
    have hin2 : ∀ j, j < (vB news).length → (w.cell? ⟨g, d.length + j, none⟩).isSome = true := fun j hj => by
      have := hin j hj
      rwa [h3, Nat.mul_one, Nat.zero_add] at this
    refine ⟨g, cap, by rw [List.length_append], hN, Nat.lt_of_lt_of_le hl (below_setCells (Below.refl 0 w) (Nat.zero_le g) _).size, fun j u hj => ?_, by rw [List.length_append]; exact hroom, fun j q1 q2 => ?_⟩
    · rw [vB_app] at hj
      rw [Nat.zero_add]
      by_cases hjd : j < d.length
      · rw [World.cell?_setCells_out g _ _ w ⟨g, j, none⟩ (fun _ _ => .inl hjd)]
        rw [List.getElem?_append_left (by rw [vB_length]; exact hjd)] at hj
        have := hr j u hj
        rwa [Nat.zero_add] at this
      · rw [List.getElem?_append_right (by rw [vB_length]; omega), vB_length] at hj
        have hj2 := (List.getElem?_eq_some_iff.1 hj)
        obtain ⟨hlt, he⟩ := hj2
        have q := World.cell?_setCells_in g (vB news) d.length w hin2 (j - d.length) hlt
        rw [show d.length + (j - d.length) = j by omega, he] at q
        exact q
    · rw [List.length_append] at q1
      rw [World.cell?_setCells_out g _ _ w ⟨g, j, none⟩ (fun _ _ => .inr (by rw [vB_length]; exact q1)), World.frozen?_setCells]
      exact hsp j (by omega) q2
  · refine wpList_append_grows w hgd s x 52 ho 5 ie z 1 1 Tryd.underlying52 h1 h2 h3 h5 h4 (by decide) (some ⟨g, 0, none⟩) d.length cap (vB d) hs (fun e => by cases e) (by rw [vB_length, Nat.mul_one]) (fun b hb j u hj => by
      cases hb
      rw [Addr.add_mid]
      exact hr j u hj) ⟨g2, o2, none⟩ news.length cap2 (vB news) hx (by rw [vB_length, Nat.mul_one]) (fun j u hj => by rw [Addr.add_mid]; exact hX j u hj) (vB_one news) (by omega) (by unfold maxLen; omega) (by omega) (fun v' w' hown hgr => ?_)
    have hB : Below N w w' := (Below.refl N w).grown hgr (by omega) (fun k e => by cases e)
    refine h v' w' ?_ hB
    obtain ⟨q1, q2⟩ := hown
    rcases q2 with ⟨_, q3⟩ | ⟨g', cap', cur, rfl, q3, q4, q5, q6, q7, q8⟩
    · omega
    · have hrow : Row w' g' cur.toList 5 := by unfold Row; rw [q4]
      refine ⟨g', cap', by rw [List.length_append], by omega, hrow.lt, fun j u hj => ?_, by rw [List.length_append]; exact q5, fun j j1 j2 => ⟨?_, ?_⟩⟩
      · rw [vB_app, ← q8] at hj
        have hjl : j < (d.length + news.length) * 1 := by have := (List.getElem?_eq_some_iff.1 hj).1; rw [List.length_take] at this; omega
        rw [List.getElem?_take_of_lt hjl] at hj
        exact hrow.all j u hj
      · rw [cell_of_row w' g' j cur _ (0, 0) q4, Array.getElem?_eq_getElem (by omega)]
        rfl
      · exact hrow.thaw j
/-- A mark as bytes. -/
theorem wpList_mark (hgd : o.guard = none) (x : Operand) (ho : o.op = .convert 9 52 x) (mk : UInt8) (hx : a.eval x = .string ⟨#[mk]⟩) (mb : BitVec 8) (hmb : BitVec.ofNat 8 mk.toNat = mb)
    (h : ∀ v' w', Sp w.heap.size w' v' [mb] → Below w.heap.size w w' → wpList Tryd.prog ops Q rest (a.put o.dst v') w') : wpList Tryd.prog ops Q (o :: rest) a w := by
  subst hmb
  have hrun := run_bytes_of_string (P := Tryd.prog) w 9 52 5 ⟨#[mk]⟩ Tryd.underlying9 Tryd.underlying52 Tryd.underlying5
  have hge := grownCap_ge w (ByteArray.size ⟨#[mk]⟩) 0 5
  have h1 : ByteArray.size ⟨#[mk]⟩ = 1 := rfl
  rw [h1] at hrun hge
  generalize grownCap w 1 0 5 = cap at *
  refine wpList_plain hgd fun K hK => ?_
  unfold Oper.wp execOp
  simp only [ho, hx, Sem.run_bind, hrun, Result.andThen_ok, Sem.run_pure, Oper.upon_value]
  have hsz : (bytesRow ⟨#[mk]⟩ cap).size = cap := by
    unfold bytesRow
    simp only [Array.size_append, Array.size_map, Array.size_replicate]
    show 1 + (cap - 1) = cap
    omega
  have hblk : (World.alloc (World.drew w) (.cells (bytesRow ⟨#[mk]⟩ cap) 5 ((bytesRow ⟨#[mk]⟩ cap).size, (bytesRow ⟨#[mk]⟩ cap).size + 1))).heap[w.heap.size]? = some (.cells (bytesRow ⟨#[mk]⟩ cap) 5 (cap, cap + 1)) := by
    rw [hsz]
    simp [World.alloc, World.drew, -World.alloc_eq, -World.drew_eq]
  have hB : Below w.heap.size w (World.alloc (World.drew w) (.cells (bytesRow ⟨#[mk]⟩ cap) 5 ((bytesRow ⟨#[mk]⟩ cap).size, (bytesRow ⟨#[mk]⟩ cap).size + 1))) := ((Below.refl _ _).drew).alloc (Nat.le_refl _) _
  refine hK _ _ (h _ _ ?_ hB)
  generalize World.alloc (World.drew w) (.cells (bytesRow ⟨#[mk]⟩ cap) 5 ((bytesRow ⟨#[mk]⟩ cap).size, (bytesRow ⟨#[mk]⟩ cap).size + 1)) = W at *
  refine ⟨w.heap.size, cap, rfl, Nat.le_refl _, (Array.getElem?_eq_some_iff.1 hblk).1, fun j u hj => ?_, hge, fun j j1 j2 => ⟨?_, ?_⟩⟩
  · have hj0 : j = 0 := by have := (List.getElem?_eq_some_iff.1 hj).1; rw [vB_length] at this; simpa using this
    subst hj0
    rw [Nat.zero_add, cell_of_row W _ 0 _ _ _ hblk, bytesRow_at ⟨#[mk]⟩ cap 0 (Nat.zero_lt_one)]
    rw [← hj]
    simp [vB, c]
  · rw [cell_of_row W _ j _ _ _ hblk, Array.getElem?_eq_getElem (by rw [hsz]; exact j2)]
    rfl
  · unfold World.frozen?
    rw [show W.heap[(⟨w.heap.size, j, none⟩ : Addr).block]? = _ from hblk]
    simp
    omega
end
theorem info_pg : (Tryd.prog.info? 58).map (·.size) = some 2 := by kernel_rfl
/-- A page's cells. -/
abbrev pg (S : Nat) (tk : Int) : List Value := [.pointer (some ⟨S, 0, none⟩), .int .u8 tk]

end Go.Proofs.YtelioddogdcdoaaDoor

namespace Go.Proofs.YtelioddogdcdoaaDoor
open Go Go.RowKit Go.Maps
open Sha


set_option maxRecDepth 100000 in
set_option maxHeartbeats 1000000 in
theorem key0 (S : Nat) (tb : BitVec 8) (mk : UInt8) (mb : BitVec 8) (hmb : BitVec.ofNat 8 mk.toNat = mb) (d : List (BitVec 8)) (hd : d = [mb, tb]) (w : World) : Calls Tryd.prog 40 #[.agg (pg S (c tb)).toArray, .string ⟨#[mk]⟩, .slice none 0 0] w fun e w' => e = .returned (.string (str d)) ∧ Below w.heap.size w w' := by
  obtain ⟨W1, hW1, r1, b1⟩ : ∃ W, W = w.alloc (Obj.cells (pg S (c tb)).toArray 58) ∧ Row W w.heap.size (pg S (c tb)) 58 ∧ Below w.heap.size w W := ⟨_, rfl, Row.new' rfl rfl, (Below.refl _ _).alloc (Nat.le_refl _) _⟩
  have HMB : Hid (BitVec.ofNat 8 mk.toNat = mb) := hmb
  have HD : Hid (d = [mb, tb]) := hd
  have HW : Hid (W1 = _) := hW1
  have R1 : Hid (Row W1 w.heap.size (pg S (c tb)) 58) := r1
  have B1 : Hid (Below w.heap.size w W1) := b1
  clear hW1 r1 b1 hmb hd
  go_enter Tryd.func40, Tryd.ntmps40
  go_upto_region 1 with fail
  rw [← HW.out]
  clear HW
  go_wp2_with (first
    | (refine wpList_mark rfl (.tmp 10) rfl mk rfl mb HMB.out ?_; intro v1 V1 q1 q2; have g1 := (Row.below R1.out q2 R1.out.lt).cell 1 _ rfl; have Q1 : Hid (Sp W1.heap.size V1 v1 _) := q1; have Q2 : Hid (Below W1.heap.size W1 V1) := q2; clear q1 q2; simp only [Act.put, List.setIfInBounds_toArray, List.set_cons_zero, List.set_cons_succ])
    | (refine wpList_app_sp rfl (.tmp 11) (.tmp 14) rfl W1.heap.size v1 [mb] [tb] rfl (Sp.be Q1.out ((Below.refl _ _).alloc (Nat.le_refl _) _)) V1.heap.size 0 1 1 rfl (by decide) rfl (Row.all (cs := vB [tb]) (Row.new' rfl rfl)) (by show 1 + 1 ≤ 1000; decide) ?_; intro v2 V2 q1 q2; have Q3 : Hid (Sp W1.heap.size V2 v2 [mb, tb]) := q1; have Q4 : Hid (Below W1.heap.size W1 V2) := (Q2.out.alloc Q2.out.size _).trans q2; clear q1 q2 Q1 Q2 g1; simp only [Act.put, List.setIfInBounds_toArray, List.set_cons_zero, List.set_cons_succ]))
  refine wp_loop_rounds 1 ?_
  rw [rounds_succ]
  replace Q3 : Hid (Sp W1.heap.size V2 v2 d) := by rw [HD.out]; exact Q3.out
  have hcv := run_convert_sl (P := Tryd.prog) V2 52 5 9 Tryd.underlying52 Tryd.underlying5 Tryd.underlying9 v2 _ Q3.out.sl
  have HB : Hid (Below w.heap.size w V2) := B1.out.trans (Q4.out.mono B1.out.size)
  go_wp2_with fail
  go_ret
  exact ⟨rfl, HB.out⟩

set_option maxRecDepth 100000 in
set_option maxHeartbeats 1000000 in
theorem key1 (S : Nat) (tb : BitVec 8) (mk : UInt8) (mb : BitVec 8) (hmb : BitVec.ofNat 8 mk.toNat = mb) (who : List (BitVec 8)) (hw : who.length = 20) (q : Nat) (d : List (BitVec 8)) (hd : d = [mb, tb] ++ who) (w : World) (hq : Row w q (vB who) 33) : Calls Tryd.prog 40 #[.agg (pg S (c tb)).toArray, .string ⟨#[mk]⟩, .slice (some ⟨q, 0, none⟩) 1 1] w fun e w' => e = .returned (.string (str d)) ∧ Below w.heap.size w w' := by
  obtain ⟨W1, hW1, r1, b1⟩ : ∃ W, W = w.alloc (Obj.cells (pg S (c tb)).toArray 58) ∧ Row W w.heap.size (pg S (c tb)) 58 ∧ Below w.heap.size w W := ⟨_, rfl, Row.new' rfl rfl, (Below.refl _ _).alloc (Nat.le_refl _) _⟩
  have HMB : Hid (BitVec.ofNat 8 mk.toNat = mb) := hmb
  have HD : Hid (d = [mb, tb] ++ who) := hd
  have HW : Hid (W1 = _) := hW1
  have R1 : Hid (Row W1 w.heap.size (pg S (c tb)) 58) := r1
  have B1 : Hid (Below w.heap.size w W1) := b1
  have RQ : Hid (Row W1 q (vB who) 33) := Row.below hq b1 hq.lt
  have HWL : Hid (who.length = 20) := hw
  have HIA : Hid ((Tryd.prog.info? 33).map (·.size) = some (vB who).length) := by show _ = _; rw [vB_length, hw]; kernel_rfl
  have HIB : Hid ((Tryd.prog.info? 33).map (·.size) = some (vB who).toArray.size) := by show _ = _; rw [List.size_toArray, vB_length, hw]; kernel_rfl
  have HON : Hid ((vB who).toArray.all (·.oneCell') = true) := by show _ = true; rw [← Array.all_toList]; exact List.all_eq_true.2 (vB_one who)
  clear hq hw
  clear hW1 r1 b1 hmb hd
  go_enter Tryd.func40, Tryd.ntmps40
  go_upto_region 1 with fail
  rw [← HW.out]
  clear HW
  go_wp2_with (first
    | (refine wpList_mark rfl (.tmp 10) rfl mk rfl mb HMB.out ?_; intro v1 V1 q1 q2; have g1 := (Row.below R1.out q2 R1.out.lt).cell 1 _ rfl; have Q1 : Hid (Sp W1.heap.size V1 v1 _) := q1; have Q2 : Hid (Below W1.heap.size W1 V1) := q2; clear q1 q2; simp only [Act.put, List.setIfInBounds_toArray, List.set_cons_zero, List.set_cons_succ])
    | (refine wpList_app_sp rfl (.tmp 11) (.tmp 14) rfl W1.heap.size v1 [mb] [tb] rfl (Sp.be Q1.out ((Below.refl _ _).alloc (Nat.le_refl _) _)) V1.heap.size 0 1 1 rfl (by decide) rfl (Row.all (cs := vB [tb]) (Row.new' rfl rfl)) (by show 1 + 1 ≤ 1000; decide) ?_; intro v2 V2 q1 q2; have Q3 : Hid (Sp W1.heap.size V2 v2 [mb, tb]) := q1; have Q4 : Hid (Below W1.heap.size W1 V2) := (Q2.out.alloc Q2.out.size _).trans q2; clear q1 q2 Q1 Q2 g1; simp only [Act.put, List.setIfInBounds_toArray, List.set_cons_zero, List.set_cons_succ]))
  refine wp_loop_rounds 2 ?_
  rw [rounds_succ]
  have Rr : Hid (V2.rangeAt q 0 (vB who)) := (Row.below RQ.out Q4.out RQ.out.lt).all
  obtain ⟨X, hX, rX, bX⟩ : ∃ X, X = (V2.alloc (Obj.cells (vB (List.replicate 20 0#8)).toArray 33)).setCells V2.heap.size 0 (vB who) ∧ Row X V2.heap.size (vB who) 33 ∧ Below V2.heap.size V2 X := ⟨_, rfl, Row.over (Row.new' (cs := vB (List.replicate 20 0#8)) rfl rfl) (vs := vB who) (by rw [vB_length, vB_length, HWL.out]; rfl), below_setCells ((Below.refl V2.heap.size V2).alloc (Nat.le_refl _) _) (Nat.le_refl _) _⟩
  have HX : Hid (X = _) := hX
  have RX : Hid (Row X V2.heap.size (vB who) 33) := rX
  have BX : Hid (Below V2.heap.size V2 X) := bX
  clear hX rX bX
  go_wp2_with (first
    | (refine wpList_load_w rfl 33 (.tmp 20) rfl q 0 rfl (vB who) _ Rr.out Tryd.underlying33 rfl HIA.out ?_; simp only [Act.put, List.setIfInBounds_toArray, List.set_cons_zero, List.set_cons_succ])
    | (refine wpList_store_mid rfl 33 (.tmp 9) (.tmp 21) rfl V2.heap.size 0 (vB who).toArray rfl rfl (Row.there (Row.new' (cs := vB (List.replicate 20 0#8)) rfl rfl) 0 _ (by rw [List.size_toArray, vB_length, vB_length, HWL.out]; decide)) HIB.out HON.out ?_; simp only [Act.put]; change wpList _ _ _ _ _ (World.setCells (World.alloc V2 (Obj.cells (vB (List.replicate 20 0#8)).toArray 33)) V2.heap.size 0 (vB who)); rw [← HX.out])
    | (refine wpList_app_sp rfl (.tmp 22) (.tmp 23) rfl W1.heap.size v2 [mb, tb] who rfl (Sp.be Q3.out BX.out) V2.heap.size 0 20 20 HWL.out (by decide) rfl RX.out.all (by show 2 + 20 ≤ 1000; decide) ?_; intro v3 V3 q1 q2; have Q5 : Hid (Sp W1.heap.size V3 v3 d) := (by rw [HD.out]; exact q1); have Q6 : Hid (Below W1.heap.size W1 V3) := (Q4.out.trans (BX.out.mono Q4.out.size)).trans q2; clear q1 q2 Q3 Q4; simp only [Act.put, List.setIfInBounds_toArray, List.set_cons_zero, List.set_cons_succ]))
  rw [rounds_succ]
  have hcv := run_convert_sl (P := Tryd.prog) V3 52 5 9 Tryd.underlying52 Tryd.underlying5 Tryd.underlying9 v3 _ Q5.out.sl
  have HB : Hid (Below w.heap.size w V3) := B1.out.trans (Q6.out.mono B1.out.size)
  go_wp2_with fail
  go_ret
  exact ⟨rfl, HB.out⟩

end Go.Proofs.YtelioddogdcdoaaDoor
