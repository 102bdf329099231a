/-
  sparse: single, join.
-/
import Derived.Test.YtfdgdmehgbmnkaaDoorSpB
import Derived.Deep.Cut
namespace Go.Proofs.YtfdgdmehgbmnkaaDoor
open Go Go.RowKit
open Sha

theorem splice3 {A x B y : List Value} {n m : Nat} (hA : A.length = n) (hm : A.length + x.length = m) : (A ++ (x ++ B)).take n ++ y ++ (A ++ (x ++ B)).drop m = A ++ (y ++ B) := by
  subst hA
  subst hm
  rw [List.take_left, ← List.append_assoc A x B, ← List.length_append, List.drop_left, List.append_assoc]
abbrev zN : List Value := ncs zd 0 z64 pn pn
theorem built_nd : ∃ places : List (Nat × Nat), (∀ parts, Tryd.prog.built 113 parts = Instr.fill (places.toArray[·]?) zN.toArray parts) ∧ places.toArray[0]? = some (0, 32) ∧ places.toArray[1]? = some (32, 1) ∧ places.toArray[2]? = some (33, 64) ∧ places.toArray[3]? = some (97, 1) ∧ places.toArray[4]? = some (98, 1) :=
  ⟨[(0, 32), (32, 1), (33, 64), (97, 1), (98, 1)], fun _ => by kernel_rfl, rfl, rfl, rfl, rfl, rfl⟩
theorem ncs_0 (d : List (BitVec 8)) (n : Nat) (kv : List (BitVec 8)) (l r : Value) : ncs d n kv l r = [] ++ (vB d ++ (.int .i64 (n : Int) :: (vB kv ++ [l, r]))) := rfl
theorem ncs_1 (d : List (BitVec 8)) (n : Nat) (kv : List (BitVec 8)) (l r : Value) : ncs d n kv l r = vB d ++ ([.int .i64 (n : Int)] ++ (vB kv ++ [l, r])) := rfl
theorem ncs_2 (d : List (BitVec 8)) (n : Nat) (kv : List (BitVec 8)) (l r : Value) : ncs d n kv l r = (vB d ++ [.int .i64 (n : Int)]) ++ (vB kv ++ [l, r]) := by unfold ncs; simp
theorem ncs_3 (d : List (BitVec 8)) (n : Nat) (kv : List (BitVec 8)) (l r : Value) : ncs d n kv l r = (vB d ++ ([.int .i64 (n : Int)] ++ vB kv)) ++ ([l] ++ [r]) := by unfold ncs; simp
theorem ncs_4 (d : List (BitVec 8)) (n : Nat) (kv : List (BitVec 8)) (l r : Value) : ncs d n kv l r = (vB d ++ ([.int .i64 (n : Int)] ++ (vB kv ++ [l]))) ++ ([r] ++ []) := by unfold ncs; simp
theorem put_0 {d e : List (BitVec 8)} (n : Nat) (kv : List (BitVec 8)) (l r : Value) (hd : d.length = 32) : (ncs d n kv l r).take 0 ++ vB e ++ (ncs d n kv l r).drop (0 + 32) = ncs e n kv l r := by
  rw [ncs_0]
  exact splice3 rfl (by rw [vB_length, hd]; rfl)
theorem put_1 {d : List (BitVec 8)} (n m : Nat) (kv : List (BitVec 8)) (l r : Value) (hd : d.length = 32) : (ncs d n kv l r).take 32 ++ [.int .i64 (m : Int)] ++ (ncs d n kv l r).drop (32 + 1) = ncs d m kv l r := by
  rw [ncs_1]
  exact splice3 (by rw [vB_length, hd]) (by rw [vB_length, hd]; rfl)
theorem put_2 {d kv kw : List (BitVec 8)} (n : Nat) (l r : Value) (hd : d.length = 32) (hk : kv.length = 64) : (ncs d n kv l r).take 33 ++ vB kw ++ (ncs d n kv l r).drop (33 + 64) = ncs d n kw l r := by
  rw [ncs_2, ncs_2]
  exact splice3 (by rw [List.length_append, vB_length, hd]; rfl) (by rw [List.length_append, vB_length, vB_length, hd, hk]; rfl)
theorem put_3 {d kv : List (BitVec 8)} (n : Nat) (l r l' : Value) (hd : d.length = 32) (hk : kv.length = 64) : (ncs d n kv l r).take 97 ++ [l'] ++ (ncs d n kv l r).drop (97 + 1) = ncs d n kv l' r := by
  rw [ncs_3, ncs_3]
  exact splice3 (by simp [vB_length, hd, hk]) (by simp [vB_length, hd, hk])
theorem put_4 {d kv : List (BitVec 8)} (n : Nat) (l r r' : Value) (hd : d.length = 32) (hk : kv.length = 64) : (ncs d n kv l r).take 98 ++ [r'] ++ (ncs d n kv l r).drop (98 + 1) = ncs d n kv l r' := by
  rw [ncs_4, ncs_4]
  exact splice3 (by simp [vB_length, hd, hk]) (by simp [vB_length, hd, hk])
theorem zN_len : zN.length = 99 := ncs_len rfl rfl
theorem built_n1 {d kv : List (BitVec 8)} (hd : d.length = 32) (hk : kv.length = 64) : Tryd.prog.built 113 [(0, .agg (vB d).toArray), (1, .int .i64 1), (2, .agg (vB kv).toArray)] = some (ncs d 1 kv pn pn).toArray := by
  obtain ⟨places, h, h0, h1, h2, _, _⟩ := built_nd
  rw [h, fill_at _ 0 0 32 h0 _ (vB d) rfl (by rw [vB_length, hd]) _ (by rw [zN_len]; decide), put_0 _ _ _ _ rfl,
    fill_at _ 1 32 1 h1 _ [.int .i64 ((1 : Nat) : Int)] rfl rfl _ (by rw [ncs_len hd rfl]; decide), put_1 0 1 _ _ _ hd,
    fill_at _ 2 33 64 h2 _ (vB kv) rfl (by rw [vB_length, hk]) _ (by rw [ncs_len hd rfl]; decide), put_2 _ _ _ hd rfl]
  rfl
theorem built_n2 {d : List (BitVec 8)} (hd : d.length = 32) (n : Nat) (l r : Value) (hl : l.cells = #[l]) (hr : r.cells = #[r]) : Tryd.prog.built 113 [(0, .agg (vB d).toArray), (1, .int .i64 (n : Int)), (3, l), (4, r)] = some (ncs d n z64 l r).toArray := by
  obtain ⟨places, h, h0, h1, _, h3, h4⟩ := built_nd
  rw [h, fill_at _ 0 0 32 h0 _ (vB d) rfl (by rw [vB_length, hd]) _ (by rw [zN_len]; decide), put_0 _ _ _ _ rfl,
    fill_at _ 1 32 1 h1 _ [.int .i64 (n : Int)] rfl rfl _ (by rw [ncs_len hd rfl]; decide), put_1 0 n _ _ _ hd,
    fill_at _ 3 97 1 h3 _ [l] hl rfl _ (by rw [ncs_len hd rfl]; decide), put_3 _ _ _ _ hd rfl,
    fill_at _ 4 98 1 h4 _ [r] hr rfl _ (by rw [ncs_len hd rfl]; decide), put_4 _ _ _ _ hd rfl]
  rfl
/-- A new row of a node's cells. -/
def SP.nd (B : Nat) (cs : List Value) : SP := ⟨fun W v => ∃ N, B ≤ N ∧ v = .pointer (some ⟨N, 0, none⟩) ∧ Row W N cs 113, fun _ _ _ hB ⟨N, hN, e, r⟩ => ⟨N, hN, e, Row.below r hB (Row.lt r)⟩⟩
section
variable {o : Oper} {a : Act} {w : World} {K : Act → World → Prop} {Q : Exit → Act → World → Prop}
theorem wp_buildN1 {x y : Operand} (ho : o.op = .build 113 #[(0, x), (1, .const (.int .i64 1)), (2, y)]) {d kv : List (BitVec 8)} (hd : d.length = 32) (hk : kv.length = 64) (hx : a.eval x = .agg (vB d).toArray) (hy : a.eval y = .agg (vB kv).toArray) (h : K (a.put o.dst (.agg (ncs d 1 kv pn pn).toArray)) w) : Oper.wp Tryd.prog o a w K Q := by
  have hr := run_build (P := Tryd.prog) w 113 #[(0, .agg (vB d).toArray), (1, .int .i64 1), (2, .agg (vB kv).toArray)] _ (built_n1 hd hk)
  have hc : a.eval (.const (.int .i64 1)) = .int .i64 1 := rfl
  unfold Oper.wp execOp
  simp only [ho, List.map_toArray, List.map_cons, List.map_nil, hx, hy, hc, Sem.run_bind, hr, Result.andThen_ok, Sem.run_pure, Oper.upon_value]
  exact h
theorem wp_boxN {x : Operand} (ho : o.op = .box 113 x) {L : List Value} (hx : a.eval x = .agg L.toArray) (h : ∀ W2, Row W2 w.heap.size L 113 → Below w.heap.size w W2 → K (a.put o.dst (.pointer (some ⟨w.heap.size, 0, none⟩))) W2) : Oper.wp Tryd.prog o a w K Q := by
  unfold Oper.wp execOp
  simp only [ho, hx]
  go_simp
  exact h _ (Row.new' rfl rfl) ((Below.refl _ _).alloc (Nat.le_refl _) _)
theorem wpList_buildN2 {ops : Array Oper} {rest : List Oper} {op : Oper} (hgd : op.guard = none) (x y z u : Operand) (ho : op.op = .build 113 #[(0, x), (1, y), (3, z), (4, u)]) (d : List (BitVec 8)) (n : Nat) (l r : Value) (hd : d.length = 32) (hl : l.cells = #[l]) (hr : r.cells = #[r]) (hx : a.eval x = .agg (vB d).toArray) (hy : a.eval y = .int .i64 (n : Int)) (hz : a.eval z = l) (hu : a.eval u = r) (L : List Value) (hL : L = ncs d n z64 l r) (h : wpList Tryd.prog ops Q rest (a.put op.dst (.agg L.toArray)) w) : wpList Tryd.prog ops Q (op :: rest) a w :=
  wpList_plain hgd fun _ hK => by
    subst hL
    have hb := run_build (P := Tryd.prog) w 113 #[(0, .agg (vB d).toArray), (1, .int .i64 (n : Int)), (3, l), (4, r)] _ (built_n2 hd n l r hl hr)
    unfold Oper.wp execOp
    simp only [ho, List.map_toArray, List.map_cons, List.map_nil, hx, hy, hz, hu, Sem.run_bind, hb, Result.andThen_ok, Sem.run_pure, Oper.upon_value]
    exact hK _ _ h
theorem wpList_boxN {ops : Array Oper} {rest : List Oper} {op : Oper} (hgd : op.guard = none) (x : Operand) (ho : op.op = .box 113 x) (L : List Value) (hx : a.eval x = .agg L.toArray) (h : ∀ X, Row X w.heap.size L 113 → Below w.heap.size w X → wpList Tryd.prog ops Q rest (a.put op.dst (.pointer (some ⟨w.heap.size, 0, none⟩))) X) : wpList Tryd.prog ops Q (op :: rest) a w :=
  wpList_plain hgd fun _ hK => by
    unfold Oper.wp execOp
    simp only [ho, hx]
    go_simp
    exact hK _ _ (h _ (Row.new' rfl rfl) ((Below.refl _ _).alloc (Nat.le_refl _) _))
end
theorem info_bdl {k v : List (BitVec 8)} (h : (k ++ v).length = 64) : (Tryd.prog.info? 59).map (·.size) = some (vB (k ++ v)).length := by rw [vB_length, h]; exact info_bd
/-- What single makes. -/
def sgl (k v : List (BitVec 8)) : Tr := if v = zd then .nil else .one k v
set_option maxRecDepth 100000 in
set_option maxHeartbeats 4000000 in
theorem single_any (u v : List (BitVec 8)) (hk : u.length = 32) (hv : v.length = 32) (w : World) (hK : Tab w 3) : Calls Tryd.prog 59 #[.agg (vB (u ++ v)).toArray] w fun e w' => ∃ p, e = .returned p ∧ NodeAt w' (sgl u v) p ∧ Below w.heap.size w w' := by
  obtain ⟨dd, hdd⟩ : ∃ dd, dd = dig ([2#8] ++ (u ++ v)) := ⟨_, rfl⟩
  have HD : Hid (dd = dig ([2#8] ++ (u ++ v))) := hdd
  have HDL : Hid (dd.length = 32) := by rw [hdd]; exact dig_length _
  have HL : Hid (u.length = 32) := hk
  have HR : Hid (v.length = 32) := hv
  have HKV : Hid ((u ++ v).length = 64) := by show _ = _; rw [List.length_append, hk, hv]
  have HKL : Hid (∀ W, Below w.heap.size w W → Tab W 3) := fun W hB => hK.below hB hK.lt
  have HVL : Hid ((Tryd.prog.info? 29).map (·.size) = some (vB v).length) := by show _ = _; rw [vB_length, hv]; exact info_dig
  clear hdd hk hv hK
  have q0 : Row (w.alloc (Obj.cells (vB (u ++ v)).toArray 59)) w.heap.size (vB (u ++ v)) 59 := Row.new _ _ _
  have hq : Below w.heap.size w (w.alloc (Obj.cells (vB (u ++ v)).toArray 59)) := (Below.refl _ _).alloc (Nat.le_refl _) _
  have RV : Hid ((w.alloc (Obj.cells (vB (u ++ v)).toArray 59)).rangeAt w.heap.size 32 (vB v)) := by
    have hall := q0.all
    revert hall
    generalize w.alloc (Obj.cells (vB (u ++ v)).toArray 59) = X
    intro hall
    rw [vB_append] at hall
    have := range_right hall (by rw [vB_length, HL.out])
    rwa [Nat.zero_add] at this
  obtain ⟨b0, hb0⟩ : ∃ b0, b0 = w.heap.size := ⟨_, rfl⟩
  by_cases hz : v = zd
  · have HN : Hid _ := noughts_any v HR.out true (decide_eq_true hz) (w.alloc (Obj.cells (vB (u ++ v)).toArray 59))
    have HS : Hid (sgl u v = .nil) := by show _ = _; unfold sgl; rw [if_pos hz]
    clear hz
    go_enter Tryd.func59, Tryd.ntmps59
    go_wp2_with (first
      | (refine wpList_load_w rfl 29 (.tmp 3) rfl w.heap.size 32 rfl (vB v) _ RV.out Tryd.underlying29 rfl HVL.out ?_; simp only [Act.put, List.setIfInBounds_toArray, List.set_cons_zero, List.set_cons_succ])
      | (go_at_call 42; refine Calls.mono HN.out ?_; rintro e X ⟨rfl, q⟩; have BX : Hid (Below w.heap.size w X) := hq.trans (q.mono hq.size); clear q))
    go_ret
    exact ⟨_, rfl, by rw [HS.out]; rfl, BX.out⟩
  · have HN : Hid _ := noughts_any v HR.out false (decide_eq_false hz) (w.alloc (Obj.cells (vB (u ++ v)).toArray 59))
    have HS : Hid (sgl u v = .one u v) := by show _ = _; unfold sgl; rw [if_neg hz]
    clear hz
    go_enter Tryd.func59, Tryd.ntmps59
    go_upto_region 3 with (first
      | (refine wpList_load_w rfl 29 (.tmp 3) rfl w.heap.size 32 rfl (vB v) _ RV.out Tryd.underlying29 rfl HVL.out ?_; simp only [Act.put, List.setIfInBounds_toArray, List.set_cons_zero, List.set_cons_succ])
      | (go_at_call 42; refine Calls.mono HN.out ?_; rintro e X ⟨rfl, q⟩; have BX : Hid (Below w.heap.size w X) := hq.trans (q.mono hq.size); have RX : Hid (Row X w.heap.size (vB (u ++ v)) 59) := Row.below q0 q q0.lt; clear q))
    have hb1 := BX.out
    have r0 := RX.out
    rw [← hb0] at r0 ⊢
    clear BX RX hb0 q0 hq
    refine wp_named fun a0 ha0 => ?_
    have hsz : a0.tmps.size = 11 := by rw [ha0]; rfl
    have zs1 : a0.eval (.tmp 1) = .pointer (some ⟨b0, 0, none⟩) := by rw [ha0]; rfl
    obtain ⟨D, hD⟩ : ∃ D : List (Tmp × SP), D = [(6, SP.is (.agg (vB (u ++ v)).toArray)), (7, SP.is (.agg (vB dd).toArray)), (8, SP.is (.agg (vB (u ++ v)).toArray)), (9, SP.is (.agg (ncs dd 1 (u ++ v) pn pn).toArray)), (10, SP.nd w.heap.size (ncs dd 1 (u ++ v) pn pn)), (2, SP.nd w.heap.size (ncs dd 1 (u ++ v) pn pn))] := ⟨_, rfl⟩
    refine wp_region_down (by kernel_rfl) (fun listed ac W => listed.size = 6 ∧ Fp D a0 listed ac W ∧ Below w.heap.size w W ∧ Row W b0 ((vB (u ++ v))) 59) ?_ ?_ ?_
    · exact ⟨by simp, Fp.start D a0 _ _, Below.drew hb1, Row.drew r0⟩
    · clear ha0 hb1 r0 
      intro listed ac W k hI hdn hk
      obtain ⟨hl, hF, hb1, r0⟩ := hI
      have hk1 : k < 6 := List.mem_range.1 (List.mem_filter.1 hk).1
      have hl2 : ∀ j, (listed.setIfInBounds j true).size = 6 := fun j => by rw [Array.size_setIfInBounds]; exact hl
      rcases (show k = 0 ∨ k = 1 ∨ k = 2 ∨ k = 3 ∨ k = 4 ∨ k = 5 by omega) with rfl | rfl | rfl | rfl | rfl | rfl
      · have hk3 := hk
        exact wpOp_plain rfl rfl (wp_load_mid 59 (.tmp 1) rfl b0 0 ((hF.keep 1 (by rw [hD]; rfl)).trans zs1) ((vB (u ++ v))) _ r0.all Tryd.underlying59 rfl (info_bdl HKV.out) ⟨hl2 0, (hF.put 0 6 (SP.is (.agg (vB (u ++ v)).toArray)) (.agg (vB (u ++ v)).toArray) (by rw [hD]; rfl) rfl (by rw [hD]; rfl) (by rw [hsz]; decide) (by rw [hl]; decide)), hb1, r0⟩)
      · have hk3 := hk
        have e6 := (hF.done 0 (6, SP.is (.agg (vB (u ++ v)).toArray)) (by rw [hD]; rfl) (ready_dep hk 0 (by kernel_rfl)))
        refine wpOp_plain rfl rfl (wp_fcall_v 50 #[.agg (vB (u ++ v)).toArray] rfl rfl (by show [ac.eval (.tmp 6)] = _; rw [show ac.eval (.tmp 6) = _ from e6]) (by go_simp) ((one_any u v dd HL.out HR.out HD.out W (HKL.out W hb1)).mono ?_))
        rintro e W2 ⟨rfl, hB⟩
        exact ⟨_, rfl, hl2 1, ((hF.world hB).put 1 7 (SP.is (.agg (vB dd).toArray)) (.agg (vB dd).toArray) (by rw [hD]; rfl) rfl (by rw [hD]; rfl) (by rw [hsz]; decide) (by rw [hl]; decide)), hb1.trans (hB.mono hb1.size), Row.below r0 hB (Row.lt r0)⟩
      · have hk3 := hk
        exact wpOp_plain rfl rfl (wp_load_mid 59 (.tmp 1) rfl b0 0 ((hF.keep 1 (by rw [hD]; rfl)).trans zs1) ((vB (u ++ v))) _ r0.all Tryd.underlying59 rfl (info_bdl HKV.out) ⟨hl2 2, (hF.put 2 8 (SP.is (.agg (vB (u ++ v)).toArray)) (.agg (vB (u ++ v)).toArray) (by rw [hD]; rfl) rfl (by rw [hD]; rfl) (by rw [hsz]; decide) (by rw [hl]; decide)), hb1, r0⟩)
      · have hk3 := hk
        have e7 := (hF.done 1 (7, SP.is (.agg (vB dd).toArray)) (by rw [hD]; rfl) (ready_dep hk 1 (by kernel_rfl)))
        have e8 := (hF.done 2 (8, SP.is (.agg (vB (u ++ v)).toArray)) (by rw [hD]; rfl) (ready_dep hk 2 (by kernel_rfl)))
        exact wpOp_plain rfl rfl (wp_buildN1 rfl HDL.out HKV.out e7 e8 ⟨hl2 3, (hF.put 3 9 (SP.is (.agg (ncs dd 1 (u ++ v) pn pn).toArray)) (.agg (ncs dd 1 (u ++ v) pn pn).toArray) (by rw [hD]; rfl) rfl (by rw [hD]; rfl) (by rw [hsz]; decide) (by rw [hl]; decide)), hb1, r0⟩)
      · have hk3 := hk
        have e9 := (hF.done 3 (9, SP.is (.agg (ncs dd 1 (u ++ v) pn pn).toArray)) (by rw [hD]; rfl) (ready_dep hk 3 (by kernel_rfl)))
        refine wpOp_plain rfl rfl (wp_boxN rfl e9 ?_)
        intro W2 q1 hB
        exact ⟨hl2 4, ((hF.world hB).put 4 10 (SP.nd w.heap.size (ncs dd 1 (u ++ v) pn pn)) (.pointer (some ⟨W.heap.size, 0, none⟩)) (by rw [hD]; rfl) (⟨_, hb1.size, rfl, q1⟩) (by rw [hD]; rfl) (by rw [hsz]; decide) (by rw [hl]; decide)), hb1.trans (hB.mono hb1.size), Row.below r0 hB (Row.lt r0)⟩
      · have hk3 := hk
        exact wpOp_plain rfl rfl (wp_assign_v (ac.eval (.tmp 10)) rfl rfl ⟨hl2 5, (hF.put 5 2 (SP.nd w.heap.size (ncs dd 1 (u ++ v) pn pn)) (ac.eval (.tmp 10)) (by rw [hD]; rfl) ((hF.done 4 (10, SP.nd w.heap.size (ncs dd 1 (u ++ v) pn pn)) (by rw [hD]; rfl) (ready_dep hk 4 (by kernel_rfl)))) (by rw [hD]; rfl) (by rw [hsz]; decide) (by rw [hl]; decide)), hb1, r0⟩)
    · clear hb1 r0 
      intro listed ac W hI hr
      obtain ⟨hl, hF, hb1, r0⟩ := hI
      have hall := all_listed (by kernel_rfl) hl hr
      have h6 : ac.eval (.tmp 6) = .agg (vB (u ++ v)).toArray := hF.done 0 (6, SP.is (.agg (vB (u ++ v)).toArray)) (by rw [hD]; rfl) (hall 0 (by decide))
      have h7 : ac.eval (.tmp 7) = .agg (vB dd).toArray := hF.done 1 (7, SP.is (.agg (vB dd).toArray)) (by rw [hD]; rfl) (hall 1 (by decide))
      have h8 : ac.eval (.tmp 8) = .agg (vB (u ++ v)).toArray := hF.done 2 (8, SP.is (.agg (vB (u ++ v)).toArray)) (by rw [hD]; rfl) (hall 2 (by decide))
      have h9 : ac.eval (.tmp 9) = .agg (ncs dd 1 (u ++ v) pn pn).toArray := hF.done 3 (9, SP.is (.agg (ncs dd 1 (u ++ v) pn pn).toArray)) (by rw [hD]; rfl) (hall 3 (by decide))
      obtain ⟨x10, h10⟩ : ∃ x, ac.eval (.tmp 10) = x := ⟨_, rfl⟩
      have f2 := hF.done 5 (2, SP.nd w.heap.size (ncs dd 1 (u ++ v) pn pn)) (by rw [hD]; rfl) (hall 5 (by decide))
      obtain ⟨x2, h2⟩ : ∃ x, ac.eval (.tmp 2) = x := ⟨_, rfl⟩
      replace f2 : (SP.nd w.heap.size (ncs dd 1 (u ++ v) pn pn)).P W x2 := by rw [← h2]; exact f2
      have ea := hF.lay [(6, .agg (vB (u ++ v)).toArray), (7, .agg (vB dd).toArray), (8, .agg (vB (u ++ v)).toArray), (9, .agg (ncs dd 1 (u ++ v) pn pn).toArray), (10, x10), (2, x2)] (by rw [hD, hsz]; rfl) (by simp only [List.forall_mem_cons, List.not_mem_nil, false_implies, implies_true, and_true]; exact ⟨h6, h7, h8, h9, h10, h2⟩)
      rw [ha0] at ea
      simp only [List.foldl_cons, List.foldl_nil, List.setIfInBounds_toArray, List.set_cons_zero, List.set_cons_succ] at ea
      clear hF hall hr hl hD  zs1 ha0 hsz h6 h7 h8 h9 h10 h2
      subst ea
      obtain ⟨N, hN, rfl, rN⟩ := f2
      go_wp2_with fail
      go_ret
      exact ⟨_, rfl, by rw [HS.out]; exact ⟨HL.out, HR.out, N, rfl, by rw [show (Tr.one u v).dg = dd from HD.out.symm]; exact rN⟩, hb1⟩

end Go.Proofs.YtfdgdmehgbmnkaaDoor
