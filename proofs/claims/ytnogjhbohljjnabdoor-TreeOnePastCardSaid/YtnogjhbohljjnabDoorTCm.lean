/-
  The document's comes.
-/
import Derived.Test.YtnogjhbohljjnabDoorTCm0
namespace Go.Proofs.YtnogjhbohljjnabDoor
open Go Go.RowKit
open Sha

theorem own_one {w : World} {N e size n : Nat} {v : Value} {xs : List Value} (h : w.ownsRow N e size v n xs) : v.oneCell' = true := by
  obtain ⟨A, cap, rfl⟩ := own_form h; rfl
theorem own_set {w : World} {N e size n b : Nat} {v : Value} {xs cs : List Value} {t : TypeId} (h : w.ownsRow N e size v n xs) (r : Row w b cs t) (hne : e ≠ t) (o : Nat) (vs : List Value) : (w.setCells b o vs).ownsRow N e size v n xs := by
  obtain ⟨h1, h2⟩ := h
  refine ⟨h1, ?_⟩
  rcases h2 with h2 | ⟨g, cap, cur, hv, hg, hh, q⟩
  · exact .inl h2
  · have hgb : g ≠ b := fun e' => by
      subst e'
      have r' : w.heap[g]? = _ := r
      rw [r'] at hh
      simp only [Option.some.injEq, Obj.cells.injEq] at hh
      exact hne hh.2.1.symm
    refine .inr ⟨g, cap, cur, hv, hg, ?_, q⟩
    have hr : Row w g cur.toList e := by unfold Row; rw [hh]
    have := Row.setCells_other hr b o vs hgb
    unfold Row at this
    rw [this]
theorem Txs.set {w : World} {N b : Nat} {vp : Value} {ts : List (List (BitVec 8))} {vs cs : List Value} (h : Txs w N vp ts vs) (r : Row w b cs 77) (o : Nat) (us : List Value) : Txs (w.setCells b o us) N vp ts vs :=
  ⟨own_set h.own r (by decide) o us, fun i hi => own_set (h.each i hi) r (by decide) o us⟩
/-- What a growth came to. -/
def SP.cmx (M : Nat) (x y : List (BitVec 8)) (ts : List (List (BitVec 8))) : SP := ⟨fun W v => ∃ tv vs, v = .agg (cm x y tv).toArray ∧ Txs W M tv ts vs, fun _ _ _ hB ⟨tv, vs, e, h⟩ => ⟨tv, vs, e, h.below hB⟩⟩
theorem wp_sub_1 {o : Oper} {a : Act} {w : World} {K : Act → World → Prop} {Q : Exit → Act → World → Prop} {x : Operand} {m : Nat} (t yt : TypeId) (ho : o.op = .binOp .sub t x (.const (.int .i64 1)) yt) (hx : a.eval x = .int .i64 ((m + 1 : Nat) : Int)) (hm : m + 1 < 4611686018427387904) (h : K (a.put o.dst (.int .i64 (m : Int))) w) : Oper.wp Tryd.prog o a w K Q := by
  have := wp_sub_v (P := Tryd.prog) (Q := Q) (o := o) (a := a) (w := w) (K := K) (x := x) (y := .const (.int .i64 1)) (m := m + 1) (n := 1) t yt ho hx rfl (by omega) hm (by simpa using h)
  exact this
theorem wp_len_dg {x : Operand} {o : Oper} {a : Act} {w : World} {K : Act → World → Prop} {Q : Exit → Act → World → Prop} (A : Option Addr) (n cap : Nat) (ho : o.op = .call { callee := .builtin .len, args := #[x], argTypes := #[30] }) (hx : a.eval x = .slice A n cap) (h : K (a.put o.dst (.int .i64 (n : Int))) w) : Oper.wp Tryd.prog o a w K Q :=
  wp_len_s 30 28 A n cap ho Tryd.underlying30 hx h

set_option maxRecDepth 100000 in
set_option maxHeartbeats 4000000 in
theorem comes_known (n : Nat) (was : List (BitVec 8)) (Hw : Dl was) (pv : Value) (w : World) :
    Calls Tryd.prog 45 #[.int .i64 (n : Int), .int .i64 (n : Int), .bool true, .agg (vB was).toArray, pv] w fun e w' => ∃ tv vs, e = .returned (.agg (cm was was tv).toArray) ∧ Txs w' w.heap.size tv [] vs ∧ Below w.heap.size w w' := by
  have hb : Below w.heap.size w ((w.alloc (Obj.cells (vB was).toArray 28)).alloc (Obj.cells z65.toArray 77)) := ((Below.refl _ _).alloc (Nat.le_refl _) _).alloc (by simp) _
  have r8 : Row ((w.alloc (Obj.cells (vB was).toArray 28)).alloc (Obj.cells z65.toArray 77)) w.heap.size (vB was) 28 := (Row.new w (vB was) _).alloc _
  have r10 : Row ((w.alloc (Obj.cells (vB was).toArray 28)).alloc (Obj.cells z65.toArray 77)) (w.heap.size + 1) z65 77 := Row.new' (by simp) rfl
  have T := r10.there 0 (cm was was (.slice none 0 0)).toArray.size (by rw [List.size_toArray, cm_len Hw Hw]; decide)
  have r10b := r10.over (vs := cm was was (.slice none 0 0)) (by rw [cm_len Hw Hw]; rfl)
  have hb2 := below_setCells hb (b := w.heap.size + 1) (o := 0) (by omega) (cm was was (.slice none 0 0))
  go_enter Tryd.func45, Tryd.ntmps45
  go_wp2_with (first
    | (refine wpList_load_w rfl 28 (.tmp 8) rfl w.heap.size 0 rfl (vB was) _ r8.all Tryd.underlying28 rfl Hw.info ?_; simp only [Act.put, List.setIfInBounds_toArray, List.set_cons_zero, List.set_cons_succ])
    | (refine wpList_build_cm rfl (.tmp 22) (.tmp 23) rfl was was Hw Hw rfl rfl ?_; simp only [Act.put, List.setIfInBounds_toArray, List.set_cons_zero, List.set_cons_succ])
    | (refine wpList_store_mid rfl 77 (.tmp 10) (.tmp 24) rfl (w.heap.size + 1) 0 (cm was was (.slice none 0 0)).toArray rfl rfl T (cm_info' Hw Hw _) (cm_one rfl) ?_))
  have r10 := r10b
  have hb := hb2
  exact bodyPost_ret (results_cell_row Tryd.results45 _ _ (w.heap.size + 1) 77 (cm was was (.slice none 0 0)).toArray (0, 0) _ rfl r10 Tryd.underlying77 rfl (cm_info' Hw Hw _)) rfl ⟨_, [], rfl, ⟨⟨rfl, .inl ⟨rfl, rfl⟩⟩, (fun i hi => by simp at hi)⟩, hb⟩

set_option maxRecDepth 100000 in
set_option maxHeartbeats 4000000 in
theorem comes_told (n p cap b o : Nat) (was x : List (BitVec 8)) (Hx : Dl x) (hp : 0 < p) (w : World) (hr : w.rangeAt b o (vB x)) :
    Calls Tryd.prog 45 #[.int .i64 (n : Int), .int .i64 (n : Int), .bool false, .agg (vB was).toArray, .slice (some ⟨b, o, none⟩) p cap] w fun e w' => ∃ tv vs, e = .returned (.agg (cm x x tv).toArray) ∧ Txs w' w.heap.size tv [] vs ∧ Below w.heap.size w w' := by
  have HR : Hid (∀ W, Below w.heap.size w W → W.rangeAt b (o + 0 * 32) (vB x)) := fun W hB => by rw [Nat.zero_mul, Nat.add_zero]; exact range_below hr hB (Nat.le_refl _)
  clear hr
  have hb : Below w.heap.size w ((w.alloc (Obj.cells (vB was).toArray 28)).alloc (Obj.cells z65.toArray 77)) := ((Below.refl _ _).alloc (Nat.le_refl _) _).alloc (by simp) _
  have r8 : Row ((w.alloc (Obj.cells (vB was).toArray 28)).alloc (Obj.cells z65.toArray 77)) w.heap.size (vB was) 28 := (Row.new w (vB was) _).alloc _
  have r10 : Row ((w.alloc (Obj.cells (vB was).toArray 28)).alloc (Obj.cells z65.toArray 77)) (w.heap.size + 1) z65 77 := Row.new' (by simp) rfl
  clear r8
  go_enter Tryd.func45, Tryd.ntmps45
  go_wp2_with fail
  refine wp_named fun a0 ha0 => ?_
  have hsz : a0.tmps.size = 102 := by rw [ha0]; rfl
  have zs4 : a0.eval (.tmp 4) = .slice (some ⟨b, o, none⟩) p cap := by rw [ha0]; rfl
  have zs10 : a0.eval (.tmp 10) = .pointer (some ⟨w.heap.size + 1, 0, none⟩) := by rw [ha0]; rfl
  obtain ⟨D, hD⟩ : ∃ D : List (Tmp × SP), D = [(25, SP.is (.slice (some ⟨b, o, none⟩) p cap)), (26, SP.is (.pointer (some ⟨b, o + 0 * 32, none⟩))), (27, SP.is (.agg (vB x).toArray)), (28, SP.is (.slice (some ⟨b, o, none⟩) p cap)), (29, SP.is (.pointer (some ⟨b, o + 0 * 32, none⟩))), (30, SP.is (.agg (vB x).toArray)), (31, SP.is (.agg (cm x x (.slice none 0 0)).toArray)), (1000, SP.any)] := ⟨_, rfl⟩
  refine wp_region_down (by kernel_rfl) (fun listed ac W => listed.size = 8 ∧ Fp D a0 listed ac W ∧ Below w.heap.size w W ∧ Row W (w.heap.size + 1) (if listed.getD 7 false = true then (cm x x (.slice none 0 0)) else z65) 77) ?_ ?_ ?_
  · exact ⟨by simp, Fp.start D a0 _ _, Below.drew hb, (by rw [if_neg (fun h => start_no h)]; exact Row.drew r10)⟩
  · clear ha0 hb r10 
    intro listed ac W k hI hdn hk
    obtain ⟨hl, hF, hb, r10⟩ := hI
    have hk1 : k < 8 := List.mem_range.1 (List.mem_filter.1 hk).1
    have hl2 : ∀ j, (listed.setIfInBounds j true).size = 8 := fun j => by rw [Array.size_setIfInBounds]; exact hl
    rcases (show k = 0 ∨ k = 1 ∨ k = 2 ∨ k = 3 ∨ k = 4 ∨ k = 5 ∨ k = 6 ∨ k = 7 by omega) with rfl | rfl | rfl | rfl | rfl | rfl | rfl | rfl
    · have hk3 := hk
      exact wpOp_plain rfl rfl (wp_move_v (ac.eval (.tmp 4)) rfl rfl ⟨hl2 0, (hF.put 0 25 (SP.is (.slice (some ⟨b, o, none⟩) p cap)) (ac.eval (.tmp 4)) (by rw [hD]; rfl) (((hF.keep 4 (by rw [hD]; rfl)).trans zs4)) (by rw [hD]; rfl) (by rw [hsz]; decide) (by rw [hl]; decide)), hb, (by rw [getD_set _ _ _ (by decide)]; exact r10)⟩)
    · have hk3 := hk
      have ea := (hF.done 0 (25, SP.is (.slice (some ⟨b, o, none⟩) p cap)) (by rw [hD]; rfl) (ready_dep hk 0 (by kernel_rfl)))
      exact wpOp_plain rfl rfl (wp_index_s 30 28 rfl b o p cap 0 32 ea rfl hp Tryd.underlying30 info_dig ⟨hl2 1, (hF.put 1 26 (SP.is (.pointer (some ⟨b, o + 0 * 32, none⟩))) (.pointer (some ⟨b, o + 0 * 32, none⟩)) (by rw [hD]; rfl) rfl (by rw [hD]; rfl) (by rw [hsz]; decide) (by rw [hl]; decide)), hb, (by rw [getD_set _ _ _ (by decide)]; exact r10)⟩)
    · have hk3 := hk
      have ea := (hF.done 1 (26, SP.is (.pointer (some ⟨b, o + 0 * 32, none⟩))) (by rw [hD]; rfl) (ready_dep hk 1 (by kernel_rfl)))
      exact wpOp_plain rfl rfl (wp_load_mid 28 (.tmp 26) rfl b (o + 0 * 32) ea (vB x) _ (HR.out W hb) Tryd.underlying28 rfl Hx.info ⟨hl2 2, (hF.put 2 27 (SP.is (.agg (vB x).toArray)) (.agg (vB x).toArray) (by rw [hD]; rfl) rfl (by rw [hD]; rfl) (by rw [hsz]; decide) (by rw [hl]; decide)), hb, (by rw [getD_set _ _ _ (by decide)]; exact r10)⟩)
    · have hk3 := hk
      exact wpOp_plain rfl rfl (wp_move_v (ac.eval (.tmp 4)) rfl rfl ⟨hl2 3, (hF.put 3 28 (SP.is (.slice (some ⟨b, o, none⟩) p cap)) (ac.eval (.tmp 4)) (by rw [hD]; rfl) (((hF.keep 4 (by rw [hD]; rfl)).trans zs4)) (by rw [hD]; rfl) (by rw [hsz]; decide) (by rw [hl]; decide)), hb, (by rw [getD_set _ _ _ (by decide)]; exact r10)⟩)
    · have hk3 := hk
      have ea := (hF.done 3 (28, SP.is (.slice (some ⟨b, o, none⟩) p cap)) (by rw [hD]; rfl) (ready_dep hk 3 (by kernel_rfl)))
      exact wpOp_plain rfl rfl (wp_index_s 30 28 rfl b o p cap 0 32 ea rfl hp Tryd.underlying30 info_dig ⟨hl2 4, (hF.put 4 29 (SP.is (.pointer (some ⟨b, o + 0 * 32, none⟩))) (.pointer (some ⟨b, o + 0 * 32, none⟩)) (by rw [hD]; rfl) rfl (by rw [hD]; rfl) (by rw [hsz]; decide) (by rw [hl]; decide)), hb, (by rw [getD_set _ _ _ (by decide)]; exact r10)⟩)
    · have hk3 := hk
      have ea := (hF.done 4 (29, SP.is (.pointer (some ⟨b, o + 0 * 32, none⟩))) (by rw [hD]; rfl) (ready_dep hk 4 (by kernel_rfl)))
      exact wpOp_plain rfl rfl (wp_load_mid 28 (.tmp 29) rfl b (o + 0 * 32) ea (vB x) _ (HR.out W hb) Tryd.underlying28 rfl Hx.info ⟨hl2 5, (hF.put 5 30 (SP.is (.agg (vB x).toArray)) (.agg (vB x).toArray) (by rw [hD]; rfl) rfl (by rw [hD]; rfl) (by rw [hsz]; decide) (by rw [hl]; decide)), hb, (by rw [getD_set _ _ _ (by decide)]; exact r10)⟩)
    · have hk3 := hk
      have ea := (hF.done 2 (27, SP.is (.agg (vB x).toArray)) (by rw [hD]; rfl) (ready_dep hk 2 (by kernel_rfl)))
      have eb := (hF.done 5 (30, SP.is (.agg (vB x).toArray)) (by rw [hD]; rfl) (ready_dep hk 5 (by kernel_rfl)))
      exact wpOp_plain rfl rfl (wp_build_cm (.tmp 27) (.tmp 30) rfl x x Hx Hx ea eb ⟨hl2 6, (hF.put 6 31 (SP.is (.agg (cm x x (.slice none 0 0)).toArray)) (.agg (cm x x (.slice none 0 0)).toArray) (by rw [hD]; rfl) rfl (by rw [hD]; rfl) (by rw [hsz]; decide) (by rw [hl]; decide)), hb, (by rw [getD_set _ _ _ (by decide)]; exact r10)⟩)
    · have hk3 := hk
      have hno : ¬ listed.getD 7 false = true := not_yet hk
      rw [if_neg hno] at r10
      have T := r10.there 0 (cm x x (.slice none 0 0)).toArray.size (by rw [List.size_toArray, cm_len Hx Hx]; decide)
      have fin := r10.over (vs := (cm x x (.slice none 0 0))) (by rw [cm_len Hx Hx]; rfl)
      have hT : Fp D a0 listed ac (W.setCells (w.heap.size + 1) 0 (cm x x (.slice none 0 0))) := hF.turn (by rw [hD]; simp only [List.forall_mem_cons, List.not_mem_nil, false_implies, implies_true, and_true]; exact ⟨fun _ h => h, fun _ h => h, fun _ h => h, fun _ h => h, fun _ h => h, fun _ h => h, fun _ h => h, fun _ h => h⟩)
      exact wpOp_plain rfl rfl (wp_store_mid 77 (.tmp 10) (.tmp 31) rfl (w.heap.size + 1) 0 (cm x x (.slice none 0 0)).toArray ((hF.keep 10 (by rw [hD]; rfl)).trans zs10) (hF.done 6 (31, SP.is (.agg (cm x x (.slice none 0 0)).toArray)) (by rw [hD]; rfl) (ready_dep hk 6 (by kernel_rfl))) T (cm_info' Hx Hx _) (cm_one rfl) ⟨hl2 7, (hT.skip 7 1000 (by rw [hD]; rfl) (by rw [hl]; decide)), below_setCells hb (by omega) _, (by rw [if_pos (getD_same (by rw [hl]; decide))]; exact fin)⟩)
  · clear hb r10 
    intro listed ac W hI hr
    obtain ⟨hl, hF, hb, r10⟩ := hI
    have hall := all_listed (by kernel_rfl) hl hr
    rw [if_pos (hall 7 (by decide))] at r10
    have h25 : ac.eval (.tmp 25) = .slice (some ⟨b, o, none⟩) p cap := hF.done 0 (25, SP.is (.slice (some ⟨b, o, none⟩) p cap)) (by rw [hD]; rfl) (hall 0 (by decide))
    have h26 : ac.eval (.tmp 26) = .pointer (some ⟨b, o + 0 * 32, none⟩) := hF.done 1 (26, SP.is (.pointer (some ⟨b, o + 0 * 32, none⟩))) (by rw [hD]; rfl) (hall 1 (by decide))
    have h27 : ac.eval (.tmp 27) = .agg (vB x).toArray := hF.done 2 (27, SP.is (.agg (vB x).toArray)) (by rw [hD]; rfl) (hall 2 (by decide))
    have h28 : ac.eval (.tmp 28) = .slice (some ⟨b, o, none⟩) p cap := hF.done 3 (28, SP.is (.slice (some ⟨b, o, none⟩) p cap)) (by rw [hD]; rfl) (hall 3 (by decide))
    have h29 : ac.eval (.tmp 29) = .pointer (some ⟨b, o + 0 * 32, none⟩) := hF.done 4 (29, SP.is (.pointer (some ⟨b, o + 0 * 32, none⟩))) (by rw [hD]; rfl) (hall 4 (by decide))
    have h30 : ac.eval (.tmp 30) = .agg (vB x).toArray := hF.done 5 (30, SP.is (.agg (vB x).toArray)) (by rw [hD]; rfl) (hall 5 (by decide))
    have h31 : ac.eval (.tmp 31) = .agg (cm x x (.slice none 0 0)).toArray := hF.done 6 (31, SP.is (.agg (cm x x (.slice none 0 0)).toArray)) (by rw [hD]; rfl) (hall 6 (by decide))
    have ea := hF.lay [(25, .slice (some ⟨b, o, none⟩) p cap), (26, .pointer (some ⟨b, o + 0 * 32, none⟩)), (27, .agg (vB x).toArray), (28, .slice (some ⟨b, o, none⟩) p cap), (29, .pointer (some ⟨b, o + 0 * 32, none⟩)), (30, .agg (vB x).toArray), (31, .agg (cm x x (.slice none 0 0)).toArray)] (by rw [hD, hsz]; rfl) (by simp only [List.forall_mem_cons, List.not_mem_nil, false_implies, implies_true, and_true]; exact ⟨h25, h26, h27, h28, h29, h30, h31⟩)
    rw [ha0] at ea
    simp only [List.foldl_cons, List.foldl_nil, List.setIfInBounds_toArray, List.set_cons_zero, List.set_cons_succ] at ea
    clear hF hall hr hl hD  zs4 zs10 ha0 hsz h25 h26 h27 h28 h29 h30 h31
    subst ea
    go_wp2_with fail
    exact bodyPost_ret (results_cell_row Tryd.results45 _ _ (w.heap.size + 1) 77 (cm x x (.slice none 0 0)).toArray (0, 0) _ rfl r10 Tryd.underlying77 rfl (cm_info' Hx Hx _)) rfl ⟨_, [], rfl, ⟨⟨rfl, .inl ⟨rfl, rfl⟩⟩, (fun i hi => by simp at hi)⟩, hb⟩

theorem Txs.two {w : World} {N g : Nat} {v u : Value} {d e : List (BitVec 8)} (hN : N ≤ g) (hr : Row w g [v, u] 38) (ho : w.ownsRow N 5 1 v d.length (vB d)) (hp : w.ownsRow N 5 1 u e.length (vB e)) : Txs w N (.slice (some ⟨g, 0, none⟩) 2 2) [d, e] [v, u] :=
  ⟨⟨rfl, .inr ⟨g, 2, #[v, u], rfl, hN, hr, Nat.le_refl _, by decide, rfl, rfl⟩⟩, fun i hi => by
    rcases (show i = 0 ∨ i = 1 by simp at hi; omega) with rfl | rfl
    · exact ho
    · exact hp⟩

set_option maxRecDepth 100000 in
set_option maxHeartbeats 8000000 in
theorem comes_left (m n k q cap b o : Nat) (kn : Bool) (h1 : 1 ≤ m) (hmn : m < n) (hn : n < 4611686018427387904) (hk : fpart n = k) (hmk : m ≤ k) (was l s1 s2 y dd : List (BitVec 8)) (ts : List (List (BitVec 8))) (hts : ts.length ≤ 3000000000000) (Hw : Dl was) (Hl : Dl l) (H1 : Dl s1) (H2 : Dl s2) (hy : y = [1#8] ++ (s2 ++ l)) (hd : dd = dig y) (hc : q + 1 ≤ cap) (hq : q + 1 < 4611686018427387904) (w : World) (hG : Given w) (hr : w.rangeAt b (o + q * 32) (vB l))
    (hS : ∀ W, Below w.heap.size w W → Calls Tryd.prog 45 #[.int .i64 (m : Int), .int .i64 (k : Int), .bool kn, .agg (vB was).toArray, .slice (some ⟨b, o, none⟩) q cap] W fun e w' => ∃ tv vs, e = .returned (.agg (cm s1 s2 tv).toArray) ∧ Txs w' W.heap.size tv ts vs ∧ Below W.heap.size W w') :
    Calls Tryd.prog 45 #[.int .i64 (m : Int), .int .i64 (n : Int), .bool kn, .agg (vB was).toArray, .slice (some ⟨b, o, none⟩) (q + 1) cap] w fun e w' => ∃ tv vs, e = .returned (.agg (cm s1 dd tv).toArray) ∧ Txs w' w.heap.size tv (ts ++ [y]) vs ∧ Below w.heap.size w w' := by
  have HF : Hid (∀ w, _) := fun w => rbelow_any n (by omega) hn w
  rw [hk] at HF
  have HKN : k < n := by rw [← hk]; exact (fpart_bounds n (by omega) hn).1
  have HS : Hid (∀ W, _ → _) := hS
  have HGV : Hid (∀ W, Below w.heap.size w W → Given W) := fun W hB => hG.low hB
  have HRL : Hid (∀ W, Below w.heap.size w W → W.rangeAt b (o + q * 32) (vB l)) := fun W hB => range_below hr hB (Nat.le_refl _)
  have HY : Hid (y = _) := hy
  have HYL : Hid (y.length = 65) := by show _ = _; rw [hy]; simp only [List.length_append, List.length_cons, List.length_nil]; have e1 : l.length = 32 := Hl; have e2 : s1.length = 32 := H1; have e3 : s2.length = 32 := H2; omega
  have HD : Hid (dd = dig y) := hd
  have Hd : Dl dd := by rw [hd]; exact dl_dig _
  have HTS : Hid (ts.length ≤ 3000000000000) := hts
  have n1 : ¬ (m : Int) = (n : Int) := by omega
  have c1 : (m : Int) ≤ (k : Int) := by omega
  have q1 : ((q + 1 : Nat) : Int) - 1 = (q : Int) := by omega
  have HQ : Hid (q + 1 < 4611686018427387904) := hq
  have HC : Hid (q ≤ cap) := (by omega : q ≤ cap)
  clear hS hk hr hG hc hd hy hts 
  have hb : Below w.heap.size w ((w.alloc (Obj.cells (vB was).toArray 28)).alloc (Obj.cells z65.toArray 77)) := ((Below.refl _ _).alloc (Nat.le_refl _) _).alloc (by simp) _
  have r8 : Row ((w.alloc (Obj.cells (vB was).toArray 28)).alloc (Obj.cells z65.toArray 77)) w.heap.size (vB was) 28 := (Row.new w (vB was) _).alloc _
  have r10 : Row ((w.alloc (Obj.cells (vB was).toArray 28)).alloc (Obj.cells z65.toArray 77)) (w.heap.size + 1) z65 77 := Row.new' (by simp) rfl
  have n0 : Row (((w.alloc (Obj.cells (vB was).toArray 28)).alloc (Obj.cells z65.toArray 77)).alloc (Obj.cells z32.toArray 28)) (w.heap.size + 2) z32 28 := Row.new' (by simp) rfl
  have T0 := Hl.there n0 rfl
  replace n0 := n0.over (vs := vB l) (Hl.over rfl)
  have hB : Below ((w.alloc (Obj.cells (vB was).toArray 28)).alloc (Obj.cells z65.toArray 77)).heap.size ((w.alloc (Obj.cells (vB was).toArray 28)).alloc (Obj.cells z65.toArray 77)) ((((w.alloc (Obj.cells (vB was).toArray 28)).alloc (Obj.cells z65.toArray 77)).alloc (Obj.cells z32.toArray 28)).setCells (w.heap.size + 2) 0 (vB l)) := below_setCells ((Below.refl _ _).alloc (Nat.le_refl _) (Obj.cells z32.toArray 28)) (b := (w.heap.size + 2)) (o := 0) (by simp) (vB l)
  have hrl := HRL.out _ hb
  replace hb := hb.trans (hB.mono hb.size)
  replace r8 := Row.below r8 hB (Row.lt r8)
  replace r10 := Row.below r10 hB (Row.lt r10)
  clear hB
  go_enter Tryd.func45, Tryd.ntmps45
  go_wp2_with (first
    | (go_at_call 41; refine (HF.out _).mono ?_; rintro e W9 ⟨rfl, rfl⟩)
    | (refine wpList_ix_d rfl (.tmp 34) (.tmp 37) rfl b o (q + 1) cap q _ rfl _ (by omega) rfl rfl (by omega) ?_; simp only [Act.put, List.setIfInBounds_toArray, List.set_cons_zero, List.set_cons_succ])
    | (refine wpList_load_w rfl 28 (.tmp 38) rfl b (o + q * 32) rfl (vB l) _ hrl Tryd.underlying28 rfl Hl.info ?_; simp only [Act.put, List.setIfInBounds_toArray, List.set_cons_zero, List.set_cons_succ])
    | (refine wpList_store_mid rfl 28 (.tmp 12) (.tmp 39) rfl (w.heap.size + 2) 0 (vB l).toArray rfl rfl T0 Hl.info' Hl.one ?_; simp only [Act.put]; clear T0 hrl; (change wpList _ _ _ _ _ ((((w.alloc (Obj.cells (vB was).toArray 28)).alloc (Obj.cells z65.toArray 77)).alloc (Obj.cells z32.toArray 28)).setCells (w.heap.size + 2) 0 (vB l))); (generalize ((((w.alloc (Obj.cells (vB was).toArray 28)).alloc (Obj.cells z65.toArray 77)).alloc (Obj.cells z32.toArray 28)).setCells (w.heap.size + 2) 0 (vB l)) = X0 at *)))
  have r12 := n0
  clear n0
  refine wp_named fun a0 ha0 => ?_
  have hsz : a0.tmps.size = 102 := by rw [ha0]; rfl
  have zs0 : a0.eval (.tmp 0) = .int .i64 (m : Int) := by rw [ha0]; rfl
  have zs1 : a0.eval (.tmp 1) = .int .i64 (n : Int) := by rw [ha0]; rfl
  have zs2 : a0.eval (.tmp 2) = .bool kn := by rw [ha0]; rfl
  have zs4 : a0.eval (.tmp 4) = .slice (some ⟨b, o, none⟩) (q + 1) cap := by rw [ha0]; rfl
  have zs8 : a0.eval (.tmp 8) = .pointer (some ⟨w.heap.size, 0, none⟩) := by rw [ha0]; rfl
  have zs11 : a0.eval (.tmp 11) = .int .i64 (k : Int) := by rw [ha0]; rfl
  obtain ⟨D, hD⟩ : ∃ D : List (Tmp × SP), D = [(43, SP.is (.int .i64 (m : Int))), (44, SP.is (.int .i64 (k : Int))), (45, SP.is (.bool kn)), (46, SP.is (.agg (vB was).toArray)), (47, SP.is (.slice (some ⟨b, o, none⟩) (q + 1) cap)), (48, SP.is (.slice (some ⟨b, o, none⟩) (q + 1) cap)), (49, SP.is (.int .i64 ((q + 1 : Nat) : Int))), (50, SP.is (.int .i64 (q : Int))), (51, SP.is (.slice (some ⟨b, o, none⟩) q cap)), (52, SP.any), (13, SP.any), (1000, SP.any)] := ⟨_, rfl⟩
  refine wp_region_down (by kernel_rfl) (fun listed ac W => ∃ (N13 : Nat), listed.size = 12 ∧ Fp D a0 listed ac W ∧ Below w.heap.size w W ∧ Row W w.heap.size ((vB was)) 28 ∧ Row W (w.heap.size + 1) z65 77 ∧ Row W (w.heap.size + 2) ((vB l)) 28 ∧ (listed.getD 10 false = true → ¬ listed.getD 11 false = true → ac.eval (.tmp 13) = .pointer (some ⟨N13, 0, none⟩) ∧ w.heap.size + 2 < N13 ∧ Row W N13 z65 77) ∧ (listed.getD 11 false = true → ac.eval (.tmp 13) = .pointer (some ⟨N13, 0, none⟩) ∧ w.heap.size + 2 < N13 ∧ ∃ tv vs, Row W N13 (cm s1 s2 tv) 77 ∧ Txs W w.heap.size tv ts vs) ∧ (listed.getD 9 false = true → ¬ listed.getD 11 false = true → (SP.cmx w.heap.size s1 s2 ts).P W (ac.eval (.tmp 52)))) ?_ ?_ ?_
  · exact ⟨0, by simp, Fp.start D a0 _ _, Below.drew hb, Row.drew r8, Row.drew r10, Row.drew r12, (fun h _ => (start_no h).elim), (fun h => (start_no h).elim), (fun h _ => (start_no h).elim)⟩
  · clear ha0 hb r8 r10 r12 
    intro listed ac W k hI hdn hk
    obtain ⟨N13, hl, hF, hb, r8, r10, r12, ax10, ay10, ti9⟩ := hI
    have hk1 : k < 12 := List.mem_range.1 (List.mem_filter.1 hk).1
    have hl2 : ∀ j, (listed.setIfInBounds j true).size = 12 := fun j => by rw [Array.size_setIfInBounds]; exact hl
    rcases (show k = 0 ∨ k = 1 ∨ k = 2 ∨ k = 3 ∨ k = 4 ∨ k = 5 ∨ k = 6 ∨ k = 7 ∨ k = 8 ∨ k = 9 ∨ k = 10 ∨ k = 11 by omega) with rfl | rfl | rfl | rfl | rfl | rfl | rfl | rfl | rfl | rfl | rfl | rfl
    · have hk3 := hk
      have hnsx : ¬ listed.getD 11 false = true := fun h => not_yet hk (hdn 11 h 0 (by kernel_rfl))
      exact wpOp_plain rfl rfl (wp_move_v (ac.eval (.tmp 0)) rfl rfl ⟨N13, hl2 0, (hF.put 0 43 (SP.is (.int .i64 (m : Int))) (ac.eval (.tmp 0)) (by rw [hD]; rfl) (((hF.keep 0 (by rw [hD]; rfl)).trans zs0)) (by rw [hD]; rfl) (by rw [hsz]; decide) (by rw [hl]; decide)), hb, r8, r10, r12, (fun h1 h2 => ⟨(eval_put_other ac _ (by decide)).trans ((ax10 (by rwa [getD_set _ _ _ (by decide)] at h1) (by rwa [getD_set _ _ _ (by decide)] at h2)).1), (ax10 (by rwa [getD_set _ _ _ (by decide)] at h1) (by rwa [getD_set _ _ _ (by decide)] at h2)).2.1, (ax10 (by rwa [getD_set _ _ _ (by decide)] at h1) (by rwa [getD_set _ _ _ (by decide)] at h2)).2.2⟩), (fun h => absurd (by rwa [getD_set _ _ _ (by decide)] at h) hnsx), (fun h1 h2 => by change (SP.cmx w.heap.size s1 s2 ts).P _ ((ac.put (some 43) _).eval (.tmp 52)); rw [eval_put_other ac _ (by decide)]; exact ti9 (by rwa [getD_set _ _ _ (by decide)] at h1) (by rwa [getD_set _ _ _ (by decide)] at h2))⟩)
    · have hk3 := hk
      have hnsx : ¬ listed.getD 11 false = true := fun h => not_yet hk (hdn 11 h 1 (by kernel_rfl))
      exact wpOp_plain rfl rfl (wp_move_v (ac.eval (.tmp 11)) rfl rfl ⟨N13, hl2 1, (hF.put 1 44 (SP.is (.int .i64 (k : Int))) (ac.eval (.tmp 11)) (by rw [hD]; rfl) (((hF.keep 11 (by rw [hD]; rfl)).trans zs11)) (by rw [hD]; rfl) (by rw [hsz]; decide) (by rw [hl]; decide)), hb, r8, r10, r12, (fun h1 h2 => ⟨(eval_put_other ac _ (by decide)).trans ((ax10 (by rwa [getD_set _ _ _ (by decide)] at h1) (by rwa [getD_set _ _ _ (by decide)] at h2)).1), (ax10 (by rwa [getD_set _ _ _ (by decide)] at h1) (by rwa [getD_set _ _ _ (by decide)] at h2)).2.1, (ax10 (by rwa [getD_set _ _ _ (by decide)] at h1) (by rwa [getD_set _ _ _ (by decide)] at h2)).2.2⟩), (fun h => absurd (by rwa [getD_set _ _ _ (by decide)] at h) hnsx), (fun h1 h2 => by change (SP.cmx w.heap.size s1 s2 ts).P _ ((ac.put (some 44) _).eval (.tmp 52)); rw [eval_put_other ac _ (by decide)]; exact ti9 (by rwa [getD_set _ _ _ (by decide)] at h1) (by rwa [getD_set _ _ _ (by decide)] at h2))⟩)
    · have hk3 := hk
      have hnsx : ¬ listed.getD 11 false = true := fun h => not_yet hk (hdn 11 h 2 (by kernel_rfl))
      exact wpOp_plain rfl rfl (wp_move_v (ac.eval (.tmp 2)) rfl rfl ⟨N13, hl2 2, (hF.put 2 45 (SP.is (.bool kn)) (ac.eval (.tmp 2)) (by rw [hD]; rfl) (((hF.keep 2 (by rw [hD]; rfl)).trans zs2)) (by rw [hD]; rfl) (by rw [hsz]; decide) (by rw [hl]; decide)), hb, r8, r10, r12, (fun h1 h2 => ⟨(eval_put_other ac _ (by decide)).trans ((ax10 (by rwa [getD_set _ _ _ (by decide)] at h1) (by rwa [getD_set _ _ _ (by decide)] at h2)).1), (ax10 (by rwa [getD_set _ _ _ (by decide)] at h1) (by rwa [getD_set _ _ _ (by decide)] at h2)).2.1, (ax10 (by rwa [getD_set _ _ _ (by decide)] at h1) (by rwa [getD_set _ _ _ (by decide)] at h2)).2.2⟩), (fun h => absurd (by rwa [getD_set _ _ _ (by decide)] at h) hnsx), (fun h1 h2 => by change (SP.cmx w.heap.size s1 s2 ts).P _ ((ac.put (some 45) _).eval (.tmp 52)); rw [eval_put_other ac _ (by decide)]; exact ti9 (by rwa [getD_set _ _ _ (by decide)] at h1) (by rwa [getD_set _ _ _ (by decide)] at h2))⟩)
    · have hk3 := hk
      have hnsx : ¬ listed.getD 11 false = true := fun h => not_yet hk (hdn 11 h 3 (by kernel_rfl))
      exact wpOp_plain rfl rfl (wp_load_mid 28 (.tmp 8) rfl w.heap.size 0 ((hF.keep 8 (by rw [hD]; rfl)).trans zs8) ((vB was)) _ r8.all Tryd.underlying28 rfl Hw.info ⟨N13, hl2 3, (hF.put 3 46 (SP.is (.agg (vB was).toArray)) (.agg (vB was).toArray) (by rw [hD]; rfl) rfl (by rw [hD]; rfl) (by rw [hsz]; decide) (by rw [hl]; decide)), hb, r8, r10, r12, (fun h1 h2 => ⟨(eval_put_other ac _ (by decide)).trans ((ax10 (by rwa [getD_set _ _ _ (by decide)] at h1) (by rwa [getD_set _ _ _ (by decide)] at h2)).1), (ax10 (by rwa [getD_set _ _ _ (by decide)] at h1) (by rwa [getD_set _ _ _ (by decide)] at h2)).2.1, (ax10 (by rwa [getD_set _ _ _ (by decide)] at h1) (by rwa [getD_set _ _ _ (by decide)] at h2)).2.2⟩), (fun h => absurd (by rwa [getD_set _ _ _ (by decide)] at h) hnsx), (fun h1 h2 => by change (SP.cmx w.heap.size s1 s2 ts).P _ ((ac.put (some 46) _).eval (.tmp 52)); rw [eval_put_other ac _ (by decide)]; exact ti9 (by rwa [getD_set _ _ _ (by decide)] at h1) (by rwa [getD_set _ _ _ (by decide)] at h2))⟩)
    · have hk3 := hk
      have hnsx : ¬ listed.getD 11 false = true := fun h => not_yet hk (hdn 11 h 4 (by kernel_rfl))
      exact wpOp_plain rfl rfl (wp_move_v (ac.eval (.tmp 4)) rfl rfl ⟨N13, hl2 4, (hF.put 4 47 (SP.is (.slice (some ⟨b, o, none⟩) (q + 1) cap)) (ac.eval (.tmp 4)) (by rw [hD]; rfl) (((hF.keep 4 (by rw [hD]; rfl)).trans zs4)) (by rw [hD]; rfl) (by rw [hsz]; decide) (by rw [hl]; decide)), hb, r8, r10, r12, (fun h1 h2 => ⟨(eval_put_other ac _ (by decide)).trans ((ax10 (by rwa [getD_set _ _ _ (by decide)] at h1) (by rwa [getD_set _ _ _ (by decide)] at h2)).1), (ax10 (by rwa [getD_set _ _ _ (by decide)] at h1) (by rwa [getD_set _ _ _ (by decide)] at h2)).2.1, (ax10 (by rwa [getD_set _ _ _ (by decide)] at h1) (by rwa [getD_set _ _ _ (by decide)] at h2)).2.2⟩), (fun h => absurd (by rwa [getD_set _ _ _ (by decide)] at h) hnsx), (fun h1 h2 => by change (SP.cmx w.heap.size s1 s2 ts).P _ ((ac.put (some 47) _).eval (.tmp 52)); rw [eval_put_other ac _ (by decide)]; exact ti9 (by rwa [getD_set _ _ _ (by decide)] at h1) (by rwa [getD_set _ _ _ (by decide)] at h2))⟩)
    · have hk3 := hk
      have hnsx : ¬ listed.getD 11 false = true := fun h => not_yet hk (hdn 11 h 5 (by kernel_rfl))
      exact wpOp_plain rfl rfl (wp_move_v (ac.eval (.tmp 4)) rfl rfl ⟨N13, hl2 5, (hF.put 5 48 (SP.is (.slice (some ⟨b, o, none⟩) (q + 1) cap)) (ac.eval (.tmp 4)) (by rw [hD]; rfl) (((hF.keep 4 (by rw [hD]; rfl)).trans zs4)) (by rw [hD]; rfl) (by rw [hsz]; decide) (by rw [hl]; decide)), hb, r8, r10, r12, (fun h1 h2 => ⟨(eval_put_other ac _ (by decide)).trans ((ax10 (by rwa [getD_set _ _ _ (by decide)] at h1) (by rwa [getD_set _ _ _ (by decide)] at h2)).1), (ax10 (by rwa [getD_set _ _ _ (by decide)] at h1) (by rwa [getD_set _ _ _ (by decide)] at h2)).2.1, (ax10 (by rwa [getD_set _ _ _ (by decide)] at h1) (by rwa [getD_set _ _ _ (by decide)] at h2)).2.2⟩), (fun h => absurd (by rwa [getD_set _ _ _ (by decide)] at h) hnsx), (fun h1 h2 => by change (SP.cmx w.heap.size s1 s2 ts).P _ ((ac.put (some 48) _).eval (.tmp 52)); rw [eval_put_other ac _ (by decide)]; exact ti9 (by rwa [getD_set _ _ _ (by decide)] at h1) (by rwa [getD_set _ _ _ (by decide)] at h2))⟩)
    · have hk3 := hk
      have hnsx : ¬ listed.getD 11 false = true := fun h => not_yet hk (hdn 11 h 6 (by kernel_rfl))
      have ea := (hF.done 5 (48, SP.is (.slice (some ⟨b, o, none⟩) (q + 1) cap)) (by rw [hD]; rfl) (ready_dep hk 5 (by kernel_rfl)))
      exact wpOp_plain rfl rfl (wp_len_dg (some ⟨b, o, none⟩) (q + 1) cap rfl ea ⟨N13, hl2 6, (hF.put 6 49 (SP.is (.int .i64 ((q + 1 : Nat) : Int))) (.int .i64 ((q + 1 : Nat) : Int)) (by rw [hD]; rfl) rfl (by rw [hD]; rfl) (by rw [hsz]; decide) (by rw [hl]; decide)), hb, r8, r10, r12, (fun h1 h2 => ⟨(eval_put_other ac _ (by decide)).trans ((ax10 (by rwa [getD_set _ _ _ (by decide)] at h1) (by rwa [getD_set _ _ _ (by decide)] at h2)).1), (ax10 (by rwa [getD_set _ _ _ (by decide)] at h1) (by rwa [getD_set _ _ _ (by decide)] at h2)).2.1, (ax10 (by rwa [getD_set _ _ _ (by decide)] at h1) (by rwa [getD_set _ _ _ (by decide)] at h2)).2.2⟩), (fun h => absurd (by rwa [getD_set _ _ _ (by decide)] at h) hnsx), (fun h1 h2 => by change (SP.cmx w.heap.size s1 s2 ts).P _ ((ac.put (some 49) _).eval (.tmp 52)); rw [eval_put_other ac _ (by decide)]; exact ti9 (by rwa [getD_set _ _ _ (by decide)] at h1) (by rwa [getD_set _ _ _ (by decide)] at h2))⟩)
    · have hk3 := hk
      have hnsx : ¬ listed.getD 11 false = true := fun h => not_yet hk (hdn 11 h 7 (by kernel_rfl))
      have ea := (hF.done 6 (49, SP.is (.int .i64 ((q + 1 : Nat) : Int))) (by rw [hD]; rfl) (ready_dep hk 6 (by kernel_rfl)))
      exact wpOp_plain rfl rfl (wp_sub_1 _ _ rfl ea HQ.out ⟨N13, hl2 7, (hF.put 7 50 (SP.is (.int .i64 (q : Int))) (.int .i64 (q : Int)) (by rw [hD]; rfl) rfl (by rw [hD]; rfl) (by rw [hsz]; decide) (by rw [hl]; decide)), hb, r8, r10, r12, (fun h1 h2 => ⟨(eval_put_other ac _ (by decide)).trans ((ax10 (by rwa [getD_set _ _ _ (by decide)] at h1) (by rwa [getD_set _ _ _ (by decide)] at h2)).1), (ax10 (by rwa [getD_set _ _ _ (by decide)] at h1) (by rwa [getD_set _ _ _ (by decide)] at h2)).2.1, (ax10 (by rwa [getD_set _ _ _ (by decide)] at h1) (by rwa [getD_set _ _ _ (by decide)] at h2)).2.2⟩), (fun h => absurd (by rwa [getD_set _ _ _ (by decide)] at h) hnsx), (fun h1 h2 => by change (SP.cmx w.heap.size s1 s2 ts).P _ ((ac.put (some 50) _).eval (.tmp 52)); rw [eval_put_other ac _ (by decide)]; exact ti9 (by rwa [getD_set _ _ _ (by decide)] at h1) (by rwa [getD_set _ _ _ (by decide)] at h2))⟩)
    · have hk3 := hk
      have hnsx : ¬ listed.getD 11 false = true := fun h => not_yet hk (hdn 11 h 8 (by kernel_rfl))
      have ea := (hF.done 4 (47, SP.is (.slice (some ⟨b, o, none⟩) (q + 1) cap)) (by rw [hD]; rfl) (ready_dep hk 4 (by kernel_rfl)))
      have eb := (hF.done 7 (50, SP.is (.int .i64 (q : Int))) (by rw [hD]; rfl) (ready_dep hk 7 (by kernel_rfl)))
      exact wpOp_plain rfl rfl (wp_slice_cut 30 28 (.tmp 47) (.tmp 50) b o (q + 1) cap q 32 rfl ea eb HC.out Tryd.underlying30 info_dig ⟨N13, hl2 8, (hF.put 8 51 (SP.is (.slice (some ⟨b, o, none⟩) q cap)) (.slice (some ⟨b, o, none⟩) q cap) (by rw [hD]; rfl) rfl (by rw [hD]; rfl) (by rw [hsz]; decide) (by rw [hl]; decide)), hb, r8, r10, r12, (fun h1 h2 => ⟨(eval_put_other ac _ (by decide)).trans ((ax10 (by rwa [getD_set _ _ _ (by decide)] at h1) (by rwa [getD_set _ _ _ (by decide)] at h2)).1), (ax10 (by rwa [getD_set _ _ _ (by decide)] at h1) (by rwa [getD_set _ _ _ (by decide)] at h2)).2.1, (ax10 (by rwa [getD_set _ _ _ (by decide)] at h1) (by rwa [getD_set _ _ _ (by decide)] at h2)).2.2⟩), (fun h => absurd (by rwa [getD_set _ _ _ (by decide)] at h) hnsx), (fun h1 h2 => by change (SP.cmx w.heap.size s1 s2 ts).P _ ((ac.put (some 51) _).eval (.tmp 52)); rw [eval_put_other ac _ (by decide)]; exact ti9 (by rwa [getD_set _ _ _ (by decide)] at h1) (by rwa [getD_set _ _ _ (by decide)] at h2))⟩)
    · have hk3 := hk
      have hnsx : ¬ listed.getD 11 false = true := fun h => not_yet hk (hdn 11 h 9 (by kernel_rfl))
      have ea := (hF.done 0 (43, SP.is (.int .i64 (m : Int))) (by rw [hD]; rfl) (ready_dep hk 0 (by kernel_rfl)))
      have eb := (hF.done 1 (44, SP.is (.int .i64 (k : Int))) (by rw [hD]; rfl) (ready_dep hk 1 (by kernel_rfl)))
      have ec := (hF.done 2 (45, SP.is (.bool kn)) (by rw [hD]; rfl) (ready_dep hk 2 (by kernel_rfl)))
      have ed := (hF.done 3 (46, SP.is (.agg (vB was).toArray)) (by rw [hD]; rfl) (ready_dep hk 3 (by kernel_rfl)))
      have ee := (hF.done 8 (51, SP.is (.slice (some ⟨b, o, none⟩) q cap)) (by rw [hD]; rfl) (ready_dep hk 8 (by kernel_rfl)))
      refine wpOp_plain rfl rfl (wp_fcall_v 45 #[.int .i64 (m : Int), .int .i64 (k : Int), .bool kn, .agg (vB was).toArray, .slice (some ⟨b, o, none⟩) q cap] rfl rfl (by show [ac.eval (.tmp 43), ac.eval (.tmp 44), ac.eval (.tmp 45), ac.eval (.tmp 46), ac.eval (.tmp 51)] = _; rw [show ac.eval (.tmp 43) = _ from ea, show ac.eval (.tmp 44) = _ from eb, show ac.eval (.tmp 45) = _ from ec, show ac.eval (.tmp 46) = _ from ed, show ac.eval (.tmp 51) = _ from ee]) (by go_simp) ((HS.out W hb).mono ?_))
      rintro e W2 ⟨tv, vs, rfl, hX, hB⟩
      exact ⟨_, rfl, N13, hl2 9, ((hF.world hB).put 9 52 (SP.any) (.agg (cm s1 s2 tv).toArray) (by rw [hD]; rfl) trivial (by rw [hD]; rfl) (by rw [hsz]; decide) (by rw [hl]; decide)), hb.trans (hB.mono hb.size), Row.below r8 hB (Row.lt r8), Row.below r10 hB (Row.lt r10), Row.below r12 hB (Row.lt r12), (fun h1 h2 => ⟨(eval_put_other ac _ (by decide)).trans ((ax10 (by rwa [getD_set _ _ _ (by decide)] at h1) (by rwa [getD_set _ _ _ (by decide)] at h2)).1), (ax10 (by rwa [getD_set _ _ _ (by decide)] at h1) (by rwa [getD_set _ _ _ (by decide)] at h2)).2.1, Row.below (ax10 (by rwa [getD_set _ _ _ (by decide)] at h1) (by rwa [getD_set _ _ _ (by decide)] at h2)).2.2 hB (Row.lt (ax10 (by rwa [getD_set _ _ _ (by decide)] at h1) (by rwa [getD_set _ _ _ (by decide)] at h2)).2.2)⟩), (fun h => absurd (by rwa [getD_set _ _ _ (by decide)] at h) hnsx), (fun _ _ => by change (SP.cmx w.heap.size s1 s2 ts).P _ ((ac.put (some 52) _).eval (.tmp 52)); rw [eval_put_same ac _ (by rw [hF.size, hsz]; decide)]; exact ⟨tv, vs, rfl, hX.less hb.size⟩)⟩
    · have hk3 := hk
      have hnsx : ¬ listed.getD 11 false = true := fun h => not_yet hk (hdn 11 h 10 (by kernel_rfl))
      have hsm : w.heap.size + 2 < W.heap.size := Row.lt r12
      have hB : Below W.heap.size W (W.alloc (.cells z65.toArray 77)) := (Below.refl _ _).alloc (Nat.le_refl _) _
      exact wpOp_plain rfl rfl (wp_alloc_cm rfl ⟨W.heap.size, hl2 10, ((hF.world hB).put 10 13 (SP.any) (.pointer (some ⟨W.heap.size, 0, none⟩)) (by rw [hD]; rfl) trivial (by rw [hD]; rfl) (by rw [hsz]; decide) (by rw [hl]; decide)), hb.alloc hb.size _, Row.alloc r8 _, Row.alloc r10 _, Row.alloc r12 _, (fun _ _ => ⟨eval_put_same ac _ (by rw [hF.size, hsz]; decide), hsm, Row.new' rfl rfl⟩), (fun h => absurd (by rwa [getD_set _ _ _ (by decide)] at h) hnsx), (fun h1 h2 => by change (SP.cmx w.heap.size s1 s2 ts).P _ ((ac.put (some 13) _).eval (.tmp 52)); rw [eval_put_other ac _ (by decide)]; exact (SP.cmx w.heap.size s1 s2 ts).st _ _ _ hB (ti9 (by rwa [getD_set _ _ _ (by decide)] at h1) (by rwa [getD_set _ _ _ (by decide)] at h2)))⟩)
    · have hk3 := hk
      obtain ⟨tv, vs, ev, hX⟩ := (ti9 (ready_dep hk 9 (by kernel_rfl)) (not_yet hk))
      have hal := ready_dep hk 10 (by kernel_rfl)
      obtain ⟨e1, m1, y2⟩ := ax10 hal (not_yet hk)
      have T := y2.there 0 (cm s1 s2 tv).toArray.size (by rw [List.size_toArray, cm_len H1 H2]; decide)
      have hT : Fp D a0 listed ac (W.setCells N13 0 (cm s1 s2 tv)) := hF.turn (by rw [hD]; simp only [List.forall_mem_cons, List.not_mem_nil, false_implies, implies_true, and_true]; exact ⟨fun _ h => h, fun _ h => h, fun _ h => h, fun _ h => h, fun _ h => h, fun _ h => h, fun _ h => h, fun _ h => h, fun _ h => h, fun _ h => h, fun _ h => h, fun _ h => h⟩)
      exact wpOp_plain rfl rfl (wp_store_mid 77 (.tmp 13) (.tmp 52) rfl N13 0 (cm s1 s2 tv).toArray e1 ev T (cm_info' H1 H2 _) (cm_one (own_one hX.own)) ⟨N13, hl2 11, (hT.skip 11 1000 (by rw [hD]; rfl) (by rw [hl]; decide)), below_setCells hb (by omega) _, Row.setCells_other r8 _ _ _ (by omega), Row.setCells_other r10 _ _ _ (by omega), Row.setCells_other r12 _ _ _ (by omega), (fun _ h => absurd (getD_same (by rw [hl]; decide)) h), (fun _ => ⟨e1, m1, ⟨tv, vs, y2.over (by rw [cm_len H1 H2]; rfl), hX.set y2 0 _⟩⟩), (fun _ h2 => absurd (getD_same (by rw [hl]; decide)) h2)⟩)
  · clear hb r8 r10 r12 
    intro listed ac W hI hr
    obtain ⟨N13, hl, hF, hb, r8, r10, r12, ax10, ay10, ti9⟩ := hI
    have hall := all_listed (by kernel_rfl) hl hr
    obtain ⟨ea13, m13, p13⟩ := ay10 (hall 11 (by decide))
    have h43 : ac.eval (.tmp 43) = .int .i64 (m : Int) := hF.done 0 (43, SP.is (.int .i64 (m : Int))) (by rw [hD]; rfl) (hall 0 (by decide))
    have h44 : ac.eval (.tmp 44) = .int .i64 (k : Int) := hF.done 1 (44, SP.is (.int .i64 (k : Int))) (by rw [hD]; rfl) (hall 1 (by decide))
    have h45 : ac.eval (.tmp 45) = .bool kn := hF.done 2 (45, SP.is (.bool kn)) (by rw [hD]; rfl) (hall 2 (by decide))
    have h46 : ac.eval (.tmp 46) = .agg (vB was).toArray := hF.done 3 (46, SP.is (.agg (vB was).toArray)) (by rw [hD]; rfl) (hall 3 (by decide))
    have h47 : ac.eval (.tmp 47) = .slice (some ⟨b, o, none⟩) (q + 1) cap := hF.done 4 (47, SP.is (.slice (some ⟨b, o, none⟩) (q + 1) cap)) (by rw [hD]; rfl) (hall 4 (by decide))
    have h48 : ac.eval (.tmp 48) = .slice (some ⟨b, o, none⟩) (q + 1) cap := hF.done 5 (48, SP.is (.slice (some ⟨b, o, none⟩) (q + 1) cap)) (by rw [hD]; rfl) (hall 5 (by decide))
    have h49 : ac.eval (.tmp 49) = .int .i64 ((q + 1 : Nat) : Int) := hF.done 6 (49, SP.is (.int .i64 ((q + 1 : Nat) : Int))) (by rw [hD]; rfl) (hall 6 (by decide))
    have h50 : ac.eval (.tmp 50) = .int .i64 (q : Int) := hF.done 7 (50, SP.is (.int .i64 (q : Int))) (by rw [hD]; rfl) (hall 7 (by decide))
    have h51 : ac.eval (.tmp 51) = .slice (some ⟨b, o, none⟩) q cap := hF.done 8 (51, SP.is (.slice (some ⟨b, o, none⟩) q cap)) (by rw [hD]; rfl) (hall 8 (by decide))
    obtain ⟨x52, h52⟩ : ∃ x, ac.eval (.tmp 52) = x := ⟨_, rfl⟩
    have ea := hF.lay [(43, .int .i64 (m : Int)), (44, .int .i64 (k : Int)), (45, .bool kn), (46, .agg (vB was).toArray), (47, .slice (some ⟨b, o, none⟩) (q + 1) cap), (48, .slice (some ⟨b, o, none⟩) (q + 1) cap), (49, .int .i64 ((q + 1 : Nat) : Int)), (50, .int .i64 (q : Int)), (51, .slice (some ⟨b, o, none⟩) q cap), (52, x52), (13, .pointer (some ⟨N13, 0, none⟩))] (by rw [hD, hsz]; rfl) (by simp only [List.forall_mem_cons, List.not_mem_nil, false_implies, implies_true, and_true]; exact ⟨h43, h44, h45, h46, h47, h48, h49, h50, h51, h52, ea13⟩)
    rw [ha0] at ea
    simp only [List.foldl_cons, List.foldl_nil, List.setIfInBounds_toArray, List.set_cons_zero, List.set_cons_succ] at ea
    clear hF hall hr hl hD ax10 ay10 ti9 zs0 zs1 zs2 zs4 zs8 zs11 ha0 hsz h43 h44 h45 h46 h47 h48 h49 h50 h51 h52 ea13
    subst ea
    obtain ⟨tv, vs, rc, tx⟩ := p13
    clear r8
    have HSa : Hid (w.heap.size ≤ W.heap.size) := hb.size
    go_wp2_with (first
      | (refine wpList_load_w rfl 28 (.tmp 53) rfl N13 32 rfl (vB s2) _ (cm_y H1 rc) Tryd.underlying28 rfl H2.info ?_; simp only [Act.put, List.setIfInBounds_toArray, List.set_cons_zero, List.set_cons_succ])
      | (refine wpList_load_w rfl 28 (.tmp 12) rfl (w.heap.size + 2) 0 rfl (vB l) _ r12.all Tryd.underlying28 rfl Hl.info ?_; simp only [Act.put, List.setIfInBounds_toArray, List.set_cons_zero, List.set_cons_succ]))
    refine (nodeText_any s2 l H2 Hl W).mono ?_
    rintro e V0 ⟨va, rfl, hOa, hB⟩
    replace hb := hb.trans (hB.mono hb.size)
    replace r12 := Row.below r12 hB (Row.lt r12)
    replace r10 := Row.below r10 hB (Row.lt r10)
    replace rc := Row.below rc hB (Row.lt rc)
    replace tx := tx.below hB
    clear hB
    replace hOa := own_less hOa HSa.out
    obtain ⟨ga, ca, ea⟩ := owns_some hOa (by decide)
    subst ea
    rw [← HY.out] at hOa
    have hA : Below V0.heap.size V0 (V0.alloc (.cells #[.slice (some ⟨ga, 0, none⟩) 65 ca] 38)) := (Below.refl _ _).alloc (Nat.le_refl _) _
    have g64 := cm_t H1 H2 rc
    have tx1 := tx.below hA
    have pa := ownsRow_below hOa hA (Nat.le_refl _)
    have hU : Txs (V0.alloc (.cells #[.slice (some ⟨ga, 0, none⟩) 65 ca] 38)) w.heap.size (.slice (some ⟨V0.heap.size, 0, none⟩) 1 1) [y] [.slice (some ⟨ga, 0, none⟩) 65 ca] := Txs.one hb.size (Row.new' rfl rfl) (by rw [HYL.out]; exact pa)
    have hb1 := hb.alloc hb.size (.cells #[.slice (some ⟨ga, 0, none⟩) 65 ca] 38)
    have rc1 := Row.below rc hA (Row.lt rc)
    have ra1 := Row.below r10 hA (Row.lt r10)
    have rl1 := Row.below r12 hA (Row.lt r12)
    go_wp2_with (first
      | (refine wpList_join rfl (.tmp 58) (.tmp 60) rfl _ w w.heap.size w.heap.size _ _ _ _ _ _ tx1 hU (by simp) rfl rfl (by have := HTS.out; simp; omega) hb1.size (Nat.le_refl _) hb1 ?_; intro v3 w3 T3 hb3 hG3; (have rc3 := row_grown rc1 tx1.own (by decide) hG3); (have ra3 := row_grown ra1 tx1.own (by decide) hG3); (have rl3 := row_grown rl1 tx1.own (by decide) hG3); (have qa := own_grown pa tx1.own (by decide) hG3); (obtain ⟨g3, c3, e3, _, _, _⟩ := T3.form (by rw [List.length_append]; simp)); (rw [show (ts ++ [y]).length = ts.length + 1 by simp] at e3); subst e3; clear hG3; simp only [Act.put, List.setIfInBounds_toArray, List.set_cons_zero, List.set_cons_succ])
      | (refine wpList_store1 rfl 22 (.tmp 62) (.tmp 61) rfl N13 64 (Value.slice (some ⟨g3, 0, none⟩) (ts.length + 1) c3) rfl rfl rfl (rc3.there 64 1 (by rw [cm_len H1 H2]; decide)) (by kernel_rfl) rfl ?_; simp only [Act.put]; (have T4 := T3.set rc3 64 [(Value.slice (some ⟨g3, 0, none⟩) (ts.length + 1) c3)]); (have ra4 := Row.set_other ra3 N13 64 (Value.slice (some ⟨g3, 0, none⟩) (ts.length + 1) c3) (by omega)); (have rl4 := Row.set_other rl3 N13 64 (Value.slice (some ⟨g3, 0, none⟩) (ts.length + 1) c3) (by omega)); (have sa := own_set qa rc3 (by decide) 64 [(Value.slice (some ⟨g3, 0, none⟩) (ts.length + 1) c3)]); (change World.ownsRow (w3.setCell ⟨N13, 64, none⟩ (Value.slice (some ⟨g3, 0, none⟩) (ts.length + 1) c3)) _ _ _ _ _ _ at sa); (have rc4 := rc3.set 64 (Value.slice (some ⟨g3, 0, none⟩) (ts.length + 1) c3)); (rw [cm_set_t H1 H2] at rc4); (have hb4 := hb3.setCell (p := ⟨N13, 64, none⟩) (by show w.heap.size ≤ N13; omega) (Value.slice (some ⟨g3, 0, none⟩) (ts.length + 1) c3)); (change wpList _ _ _ _ _ (w3.setCell ⟨N13, 64, none⟩ (Value.slice (some ⟨g3, 0, none⟩) (ts.length + 1) c3))); (change Txs (w3.setCell ⟨N13, 64, none⟩ (Value.slice (some ⟨g3, 0, none⟩) (ts.length + 1) c3)) _ _ _ _ at T4); (generalize w3.setCell ⟨N13, 64, none⟩ (Value.slice (some ⟨g3, 0, none⟩) (ts.length + 1) c3) = w4 at *); (generalize (Value.slice (some ⟨g3, 0, none⟩) (ts.length + 1) c3) = tv4 at *); clear rc3 ra3 rl3 T3 hb3))
    replace rc := rc4
    replace r10 := ra4
    replace r12 := rl4
    replace tx := T4
    replace hb := hb4
    replace hOa := sa
    clear rc4 ra4 rl4 T4 hb4 hA g64 tx1 hU hb1 rc1 ra1 rl1 pa qa sa
    refine (rsum_any y dd HD.out (by rw [HYL.out]; decide) _ w4 (owns_slAt hOa).1 (HGV.out _ hb)).mono ?_
    rintro e V1 ⟨rfl, hB⟩
    replace hb := hb.trans (hB.mono hb.size)
    replace r12 := Row.below r12 hB (Row.lt r12)
    replace r10 := Row.below r10 hB (Row.lt r10)
    replace rc := Row.below rc hB (Row.lt rc)
    replace tx := tx.below hB
    replace hOa := ownsRow_below hOa hB (Nat.le_refl _)
    clear hB
    have T0 := rc.there 32 (vB dd).toArray.size (by rw [List.size_toArray, Hd.len, cm_len H1 H2]; decide)
    have rcn := cm_set_y H1 H2 Hd rc
    have txn := tx.set rc 32 (vB dd)
    have ran := Row.setCells_other r10 N13 32 (vB dd) (by omega)
    have hOan := own_set hOa rc (by decide) 32 (vB dd)
    have hbn := below_setCells hb (b := N13) (o := 32) (by omega) (vB dd)
    clear rc tx r10 r12 hb hOa
    have rc := rcn
    have tx := txn
    have r10 := ran
    have hb := hbn
    have hOa := hOan
    clear rcn txn ran hbn hOan
    go_wp2_with (first
      | (refine wpList_store_mid rfl 28 (.tmp 65) (.tmp 64) rfl N13 32 (vB dd).toArray rfl rfl T0 Hd.info' Hd.one ?_; simp only [Act.put]; clear T0; (change wpList _ _ _ _ _ (V1.setCells N13 32 (vB dd))); (generalize (V1.setCells N13 32 (vB dd)) = Y2 at *))
      | (refine wpList_load_w rfl 77 (.tmp 13) rfl N13 0 rfl (cm s1 dd tv4) _ rc.all Tryd.underlying77 rfl (cm_info H1 Hd _) ?_; simp only [Act.put, List.setIfInBounds_toArray, List.set_cons_zero, List.set_cons_succ])
      | (refine wpList_store_mid rfl 77 (.tmp 10) (.tmp 66) rfl (w.heap.size + 1) 0 (cm s1 dd tv4).toArray rfl rfl (r10.there 0 _ (by rw [List.size_toArray, cm_len H1 Hd]; decide)) (cm_info' H1 Hd _) (cm_one (own_one tx.own)) ?_))
    have r10b := r10.over (vs := cm s1 dd tv4) (by rw [cm_len H1 Hd]; rfl)
    have tx2 := tx.set r10 0 (cm s1 dd tv4)
    have hb2 := below_setCells hb (b := w.heap.size + 1) (o := 0) (by omega) (cm s1 dd tv4)
    exact bodyPost_ret (results_cell_row Tryd.results45 _ _ (w.heap.size + 1) 77 (cm s1 dd tv4).toArray (0, 0) _ rfl r10b Tryd.underlying77 rfl (cm_info' H1 Hd _)) rfl ⟨_, _, rfl, tx2, hb2⟩

set_option maxRecDepth 100000 in
set_option maxHeartbeats 8000000 in
theorem comes_right (m n k q cap b o : Nat) (kn : Bool) (h1 : 1 ≤ m) (hmn : m < n) (hn : n < 4611686018427387904) (hk : fpart n = k) (hmk : ¬ m ≤ k) (was l s1 s2 y z dd de : List (BitVec 8)) (ts : List (List (BitVec 8))) (hts : ts.length ≤ 3000000000000) (Hw : Dl was) (Hl : Dl l) (H1 : Dl s1) (H2 : Dl s2) (hy : y = [1#8] ++ (l ++ s1)) (hz : z = [1#8] ++ (l ++ s2)) (hd : dd = dig y) (he : de = dig z) (hc : q + 1 ≤ cap) (hq : q + 1 < 4611686018427387904) (w : World) (hG : Given w) (hr : w.rangeAt b (o + q * 32) (vB l))
    (hS : ∀ W, Below w.heap.size w W → Calls Tryd.prog 45 #[.int .i64 ((m - k : Nat) : Int), .int .i64 ((n - k : Nat) : Int), .bool false, .agg (vB was).toArray, .slice (some ⟨b, o, none⟩) q cap] W fun e w' => ∃ tv vs, e = .returned (.agg (cm s1 s2 tv).toArray) ∧ Txs w' W.heap.size tv ts vs ∧ Below W.heap.size W w') :
    Calls Tryd.prog 45 #[.int .i64 (m : Int), .int .i64 (n : Int), .bool kn, .agg (vB was).toArray, .slice (some ⟨b, o, none⟩) (q + 1) cap] w fun e w' => ∃ tv vs, e = .returned (.agg (cm dd de tv).toArray) ∧ Txs w' w.heap.size tv (ts ++ [y, z]) vs ∧ Below w.heap.size w w' := by
  have HF : Hid (∀ w, _) := fun w => rbelow_any n (by omega) hn w
  rw [hk] at HF
  have HKN : k < n := by rw [← hk]; exact (fpart_bounds n (by omega) hn).1
  have HS : Hid (∀ W, _ → _) := hS
  have HGV : Hid (∀ W, Below w.heap.size w W → Given W) := fun W hB => hG.low hB
  have HRL : Hid (∀ W, Below w.heap.size w W → W.rangeAt b (o + q * 32) (vB l)) := fun W hB => range_below hr hB (Nat.le_refl _)
  have HY : Hid (y = _) := hy
  have HYL : Hid (y.length = 65) := by show _ = _; rw [hy]; simp only [List.length_append, List.length_cons, List.length_nil]; have e1 : l.length = 32 := Hl; have e2 : s1.length = 32 := H1; have e3 : s2.length = 32 := H2; omega
  have HD : Hid (dd = dig y) := hd
  have Hd : Dl dd := by rw [hd]; exact dl_dig _
  have HZ : Hid (z = _) := hz
  have HZL : Hid (z.length = 65) := by show _ = _; rw [hz]; simp only [List.length_append, List.length_cons, List.length_nil]; have e1 : l.length = 32 := Hl; have e2 : s1.length = 32 := H1; have e3 : s2.length = 32 := H2; omega
  have HE : Hid (de = dig z) := he
  have He : Dl de := by rw [he]; exact dl_dig _
  have HKM : Hid (k ≤ m) := (by omega : k ≤ m)
  have HTS : Hid (ts.length ≤ 3000000000000) := hts
  have n1 : ¬ (m : Int) = (n : Int) := by omega
  have c1 : ¬ (m : Int) ≤ (k : Int) := by omega
  have q1 : ((q + 1 : Nat) : Int) - 1 = (q : Int) := by omega
  have HQ : Hid (q + 1 < 4611686018427387904) := hq
  have HC : Hid (q ≤ cap) := (by omega : q ≤ cap)
  clear hS hk hr hG hc hd hy hts he hz
  have hb : Below w.heap.size w ((w.alloc (Obj.cells (vB was).toArray 28)).alloc (Obj.cells z65.toArray 77)) := ((Below.refl _ _).alloc (Nat.le_refl _) _).alloc (by simp) _
  have r8 : Row ((w.alloc (Obj.cells (vB was).toArray 28)).alloc (Obj.cells z65.toArray 77)) w.heap.size (vB was) 28 := (Row.new w (vB was) _).alloc _
  have r10 : Row ((w.alloc (Obj.cells (vB was).toArray 28)).alloc (Obj.cells z65.toArray 77)) (w.heap.size + 1) z65 77 := Row.new' (by simp) rfl
  have n0 : Row (((w.alloc (Obj.cells (vB was).toArray 28)).alloc (Obj.cells z65.toArray 77)).alloc (Obj.cells z32.toArray 28)) (w.heap.size + 2) z32 28 := Row.new' (by simp) rfl
  have T0 := Hl.there n0 rfl
  replace n0 := n0.over (vs := vB l) (Hl.over rfl)
  have hB : Below ((w.alloc (Obj.cells (vB was).toArray 28)).alloc (Obj.cells z65.toArray 77)).heap.size ((w.alloc (Obj.cells (vB was).toArray 28)).alloc (Obj.cells z65.toArray 77)) ((((w.alloc (Obj.cells (vB was).toArray 28)).alloc (Obj.cells z65.toArray 77)).alloc (Obj.cells z32.toArray 28)).setCells (w.heap.size + 2) 0 (vB l)) := below_setCells ((Below.refl _ _).alloc (Nat.le_refl _) (Obj.cells z32.toArray 28)) (b := (w.heap.size + 2)) (o := 0) (by simp) (vB l)
  have hrl := HRL.out _ hb
  replace hb := hb.trans (hB.mono hb.size)
  replace r8 := Row.below r8 hB (Row.lt r8)
  replace r10 := Row.below r10 hB (Row.lt r10)
  clear hB
  go_enter Tryd.func45, Tryd.ntmps45
  go_wp2_with (first
    | (go_at_call 41; refine (HF.out _).mono ?_; rintro e W9 ⟨rfl, rfl⟩)
    | (refine wpList_ix_d rfl (.tmp 34) (.tmp 37) rfl b o (q + 1) cap q _ rfl _ (by omega) rfl rfl (by omega) ?_; simp only [Act.put, List.setIfInBounds_toArray, List.set_cons_zero, List.set_cons_succ])
    | (refine wpList_load_w rfl 28 (.tmp 38) rfl b (o + q * 32) rfl (vB l) _ hrl Tryd.underlying28 rfl Hl.info ?_; simp only [Act.put, List.setIfInBounds_toArray, List.set_cons_zero, List.set_cons_succ])
    | (refine wpList_store_mid rfl 28 (.tmp 12) (.tmp 39) rfl (w.heap.size + 2) 0 (vB l).toArray rfl rfl T0 Hl.info' Hl.one ?_; simp only [Act.put]; clear T0 hrl; (change wpList _ _ _ _ _ ((((w.alloc (Obj.cells (vB was).toArray 28)).alloc (Obj.cells z65.toArray 77)).alloc (Obj.cells z32.toArray 28)).setCells (w.heap.size + 2) 0 (vB l))); (generalize ((((w.alloc (Obj.cells (vB was).toArray 28)).alloc (Obj.cells z65.toArray 77)).alloc (Obj.cells z32.toArray 28)).setCells (w.heap.size + 2) 0 (vB l)) = X0 at *)))
  have r12 := n0
  clear n0
  refine wp_named fun a0 ha0 => ?_
  have hsz : a0.tmps.size = 102 := by rw [ha0]; rfl
  have zs0 : a0.eval (.tmp 0) = .int .i64 (m : Int) := by rw [ha0]; rfl
  have zs1 : a0.eval (.tmp 1) = .int .i64 (n : Int) := by rw [ha0]; rfl
  have zs2 : a0.eval (.tmp 2) = .bool kn := by rw [ha0]; rfl
  have zs4 : a0.eval (.tmp 4) = .slice (some ⟨b, o, none⟩) (q + 1) cap := by rw [ha0]; rfl
  have zs8 : a0.eval (.tmp 8) = .pointer (some ⟨w.heap.size, 0, none⟩) := by rw [ha0]; rfl
  have zs11 : a0.eval (.tmp 11) = .int .i64 (k : Int) := by rw [ha0]; rfl
  obtain ⟨D, hD⟩ : ∃ D : List (Tmp × SP), D = [(67, SP.is (.int .i64 (m : Int))), (68, SP.is (.int .i64 (k : Int))), (69, SP.is (.int .i64 ((m - k : Nat) : Int))), (70, SP.is (.int .i64 (n : Int))), (71, SP.is (.int .i64 (k : Int))), (72, SP.is (.int .i64 ((n - k : Nat) : Int))), (73, SP.is (.agg (vB was).toArray)), (74, SP.is (.slice (some ⟨b, o, none⟩) (q + 1) cap)), (75, SP.is (.slice (some ⟨b, o, none⟩) (q + 1) cap)), (76, SP.is (.int .i64 ((q + 1 : Nat) : Int))), (77, SP.is (.int .i64 (q : Int))), (78, SP.is (.slice (some ⟨b, o, none⟩) q cap)), (79, SP.any), (15, SP.any), (1000, SP.any)] := ⟨_, rfl⟩
  refine wp_region_down (by kernel_rfl) (fun listed ac W => ∃ (N15 : Nat), listed.size = 15 ∧ Fp D a0 listed ac W ∧ Below w.heap.size w W ∧ Row W w.heap.size ((vB was)) 28 ∧ Row W (w.heap.size + 1) z65 77 ∧ Row W (w.heap.size + 2) ((vB l)) 28 ∧ (listed.getD 13 false = true → ¬ listed.getD 14 false = true → ac.eval (.tmp 15) = .pointer (some ⟨N15, 0, none⟩) ∧ w.heap.size + 2 < N15 ∧ Row W N15 z65 77) ∧ (listed.getD 14 false = true → ac.eval (.tmp 15) = .pointer (some ⟨N15, 0, none⟩) ∧ w.heap.size + 2 < N15 ∧ ∃ tv vs, Row W N15 (cm s1 s2 tv) 77 ∧ Txs W w.heap.size tv ts vs) ∧ (listed.getD 12 false = true → ¬ listed.getD 14 false = true → (SP.cmx w.heap.size s1 s2 ts).P W (ac.eval (.tmp 79)))) ?_ ?_ ?_
  · exact ⟨0, by simp, Fp.start D a0 _ _, Below.drew hb, Row.drew r8, Row.drew r10, Row.drew r12, (fun h _ => (start_no h).elim), (fun h => (start_no h).elim), (fun h _ => (start_no h).elim)⟩
  · clear ha0 hb r8 r10 r12 
    intro listed ac W k hI hdn hk
    obtain ⟨N15, hl, hF, hb, r8, r10, r12, ax13, ay13, ti12⟩ := hI
    have hk1 : k < 15 := List.mem_range.1 (List.mem_filter.1 hk).1
    have hl2 : ∀ j, (listed.setIfInBounds j true).size = 15 := fun j => by rw [Array.size_setIfInBounds]; exact hl
    rcases (show k = 0 ∨ k = 1 ∨ k = 2 ∨ k = 3 ∨ k = 4 ∨ k = 5 ∨ k = 6 ∨ k = 7 ∨ k = 8 ∨ k = 9 ∨ k = 10 ∨ k = 11 ∨ k = 12 ∨ k = 13 ∨ k = 14 by omega) with rfl | rfl | rfl | rfl | rfl | rfl | rfl | rfl | rfl | rfl | rfl | rfl | rfl | rfl | rfl
    · have hk3 := hk
      have hnsx : ¬ listed.getD 14 false = true := fun h => not_yet hk (hdn 14 h 0 (by kernel_rfl))
      exact wpOp_plain rfl rfl (wp_move_v (ac.eval (.tmp 0)) rfl rfl ⟨N15, hl2 0, (hF.put 0 67 (SP.is (.int .i64 (m : Int))) (ac.eval (.tmp 0)) (by rw [hD]; rfl) (((hF.keep 0 (by rw [hD]; rfl)).trans zs0)) (by rw [hD]; rfl) (by rw [hsz]; decide) (by rw [hl]; decide)), hb, r8, r10, r12, (fun h1 h2 => ⟨(eval_put_other ac _ (by decide)).trans ((ax13 (by rwa [getD_set _ _ _ (by decide)] at h1) (by rwa [getD_set _ _ _ (by decide)] at h2)).1), (ax13 (by rwa [getD_set _ _ _ (by decide)] at h1) (by rwa [getD_set _ _ _ (by decide)] at h2)).2.1, (ax13 (by rwa [getD_set _ _ _ (by decide)] at h1) (by rwa [getD_set _ _ _ (by decide)] at h2)).2.2⟩), (fun h => absurd (by rwa [getD_set _ _ _ (by decide)] at h) hnsx), (fun h1 h2 => by change (SP.cmx w.heap.size s1 s2 ts).P _ ((ac.put (some 67) _).eval (.tmp 79)); rw [eval_put_other ac _ (by decide)]; exact ti12 (by rwa [getD_set _ _ _ (by decide)] at h1) (by rwa [getD_set _ _ _ (by decide)] at h2))⟩)
    · have hk3 := hk
      have hnsx : ¬ listed.getD 14 false = true := fun h => not_yet hk (hdn 14 h 1 (by kernel_rfl))
      exact wpOp_plain rfl rfl (wp_move_v (ac.eval (.tmp 11)) rfl rfl ⟨N15, hl2 1, (hF.put 1 68 (SP.is (.int .i64 (k : Int))) (ac.eval (.tmp 11)) (by rw [hD]; rfl) (((hF.keep 11 (by rw [hD]; rfl)).trans zs11)) (by rw [hD]; rfl) (by rw [hsz]; decide) (by rw [hl]; decide)), hb, r8, r10, r12, (fun h1 h2 => ⟨(eval_put_other ac _ (by decide)).trans ((ax13 (by rwa [getD_set _ _ _ (by decide)] at h1) (by rwa [getD_set _ _ _ (by decide)] at h2)).1), (ax13 (by rwa [getD_set _ _ _ (by decide)] at h1) (by rwa [getD_set _ _ _ (by decide)] at h2)).2.1, (ax13 (by rwa [getD_set _ _ _ (by decide)] at h1) (by rwa [getD_set _ _ _ (by decide)] at h2)).2.2⟩), (fun h => absurd (by rwa [getD_set _ _ _ (by decide)] at h) hnsx), (fun h1 h2 => by change (SP.cmx w.heap.size s1 s2 ts).P _ ((ac.put (some 68) _).eval (.tmp 79)); rw [eval_put_other ac _ (by decide)]; exact ti12 (by rwa [getD_set _ _ _ (by decide)] at h1) (by rwa [getD_set _ _ _ (by decide)] at h2))⟩)
    · have hk3 := hk
      have hnsx : ¬ listed.getD 14 false = true := fun h => not_yet hk (hdn 14 h 2 (by kernel_rfl))
      have ea := (hF.done 0 (67, SP.is (.int .i64 (m : Int))) (by rw [hD]; rfl) (ready_dep hk 0 (by kernel_rfl)))
      have eb := (hF.done 1 (68, SP.is (.int .i64 (k : Int))) (by rw [hD]; rfl) (ready_dep hk 1 (by kernel_rfl)))
      exact wpOp_plain rfl rfl (wp_sub_v _ _ rfl ea eb HKM.out (by omega) ⟨N15, hl2 2, (hF.put 2 69 (SP.is (.int .i64 ((m - k : Nat) : Int))) (.int .i64 ((m - k : Nat) : Int)) (by rw [hD]; rfl) rfl (by rw [hD]; rfl) (by rw [hsz]; decide) (by rw [hl]; decide)), hb, r8, r10, r12, (fun h1 h2 => ⟨(eval_put_other ac _ (by decide)).trans ((ax13 (by rwa [getD_set _ _ _ (by decide)] at h1) (by rwa [getD_set _ _ _ (by decide)] at h2)).1), (ax13 (by rwa [getD_set _ _ _ (by decide)] at h1) (by rwa [getD_set _ _ _ (by decide)] at h2)).2.1, (ax13 (by rwa [getD_set _ _ _ (by decide)] at h1) (by rwa [getD_set _ _ _ (by decide)] at h2)).2.2⟩), (fun h => absurd (by rwa [getD_set _ _ _ (by decide)] at h) hnsx), (fun h1 h2 => by change (SP.cmx w.heap.size s1 s2 ts).P _ ((ac.put (some 69) _).eval (.tmp 79)); rw [eval_put_other ac _ (by decide)]; exact ti12 (by rwa [getD_set _ _ _ (by decide)] at h1) (by rwa [getD_set _ _ _ (by decide)] at h2))⟩)
    · have hk3 := hk
      have hnsx : ¬ listed.getD 14 false = true := fun h => not_yet hk (hdn 14 h 3 (by kernel_rfl))
      exact wpOp_plain rfl rfl (wp_move_v (ac.eval (.tmp 1)) rfl rfl ⟨N15, hl2 3, (hF.put 3 70 (SP.is (.int .i64 (n : Int))) (ac.eval (.tmp 1)) (by rw [hD]; rfl) (((hF.keep 1 (by rw [hD]; rfl)).trans zs1)) (by rw [hD]; rfl) (by rw [hsz]; decide) (by rw [hl]; decide)), hb, r8, r10, r12, (fun h1 h2 => ⟨(eval_put_other ac _ (by decide)).trans ((ax13 (by rwa [getD_set _ _ _ (by decide)] at h1) (by rwa [getD_set _ _ _ (by decide)] at h2)).1), (ax13 (by rwa [getD_set _ _ _ (by decide)] at h1) (by rwa [getD_set _ _ _ (by decide)] at h2)).2.1, (ax13 (by rwa [getD_set _ _ _ (by decide)] at h1) (by rwa [getD_set _ _ _ (by decide)] at h2)).2.2⟩), (fun h => absurd (by rwa [getD_set _ _ _ (by decide)] at h) hnsx), (fun h1 h2 => by change (SP.cmx w.heap.size s1 s2 ts).P _ ((ac.put (some 70) _).eval (.tmp 79)); rw [eval_put_other ac _ (by decide)]; exact ti12 (by rwa [getD_set _ _ _ (by decide)] at h1) (by rwa [getD_set _ _ _ (by decide)] at h2))⟩)
    · have hk3 := hk
      have hnsx : ¬ listed.getD 14 false = true := fun h => not_yet hk (hdn 14 h 4 (by kernel_rfl))
      exact wpOp_plain rfl rfl (wp_move_v (ac.eval (.tmp 11)) rfl rfl ⟨N15, hl2 4, (hF.put 4 71 (SP.is (.int .i64 (k : Int))) (ac.eval (.tmp 11)) (by rw [hD]; rfl) (((hF.keep 11 (by rw [hD]; rfl)).trans zs11)) (by rw [hD]; rfl) (by rw [hsz]; decide) (by rw [hl]; decide)), hb, r8, r10, r12, (fun h1 h2 => ⟨(eval_put_other ac _ (by decide)).trans ((ax13 (by rwa [getD_set _ _ _ (by decide)] at h1) (by rwa [getD_set _ _ _ (by decide)] at h2)).1), (ax13 (by rwa [getD_set _ _ _ (by decide)] at h1) (by rwa [getD_set _ _ _ (by decide)] at h2)).2.1, (ax13 (by rwa [getD_set _ _ _ (by decide)] at h1) (by rwa [getD_set _ _ _ (by decide)] at h2)).2.2⟩), (fun h => absurd (by rwa [getD_set _ _ _ (by decide)] at h) hnsx), (fun h1 h2 => by change (SP.cmx w.heap.size s1 s2 ts).P _ ((ac.put (some 71) _).eval (.tmp 79)); rw [eval_put_other ac _ (by decide)]; exact ti12 (by rwa [getD_set _ _ _ (by decide)] at h1) (by rwa [getD_set _ _ _ (by decide)] at h2))⟩)
    · have hk3 := hk
      have hnsx : ¬ listed.getD 14 false = true := fun h => not_yet hk (hdn 14 h 5 (by kernel_rfl))
      have ea := (hF.done 3 (70, SP.is (.int .i64 (n : Int))) (by rw [hD]; rfl) (ready_dep hk 3 (by kernel_rfl)))
      have eb := (hF.done 4 (71, SP.is (.int .i64 (k : Int))) (by rw [hD]; rfl) (ready_dep hk 4 (by kernel_rfl)))
      exact wpOp_plain rfl rfl (wp_sub_v _ _ rfl ea eb (Nat.le_of_lt HKN) hn ⟨N15, hl2 5, (hF.put 5 72 (SP.is (.int .i64 ((n - k : Nat) : Int))) (.int .i64 ((n - k : Nat) : Int)) (by rw [hD]; rfl) rfl (by rw [hD]; rfl) (by rw [hsz]; decide) (by rw [hl]; decide)), hb, r8, r10, r12, (fun h1 h2 => ⟨(eval_put_other ac _ (by decide)).trans ((ax13 (by rwa [getD_set _ _ _ (by decide)] at h1) (by rwa [getD_set _ _ _ (by decide)] at h2)).1), (ax13 (by rwa [getD_set _ _ _ (by decide)] at h1) (by rwa [getD_set _ _ _ (by decide)] at h2)).2.1, (ax13 (by rwa [getD_set _ _ _ (by decide)] at h1) (by rwa [getD_set _ _ _ (by decide)] at h2)).2.2⟩), (fun h => absurd (by rwa [getD_set _ _ _ (by decide)] at h) hnsx), (fun h1 h2 => by change (SP.cmx w.heap.size s1 s2 ts).P _ ((ac.put (some 72) _).eval (.tmp 79)); rw [eval_put_other ac _ (by decide)]; exact ti12 (by rwa [getD_set _ _ _ (by decide)] at h1) (by rwa [getD_set _ _ _ (by decide)] at h2))⟩)
    · have hk3 := hk
      have hnsx : ¬ listed.getD 14 false = true := fun h => not_yet hk (hdn 14 h 6 (by kernel_rfl))
      exact wpOp_plain rfl rfl (wp_load_mid 28 (.tmp 8) rfl w.heap.size 0 ((hF.keep 8 (by rw [hD]; rfl)).trans zs8) ((vB was)) _ r8.all Tryd.underlying28 rfl Hw.info ⟨N15, hl2 6, (hF.put 6 73 (SP.is (.agg (vB was).toArray)) (.agg (vB was).toArray) (by rw [hD]; rfl) rfl (by rw [hD]; rfl) (by rw [hsz]; decide) (by rw [hl]; decide)), hb, r8, r10, r12, (fun h1 h2 => ⟨(eval_put_other ac _ (by decide)).trans ((ax13 (by rwa [getD_set _ _ _ (by decide)] at h1) (by rwa [getD_set _ _ _ (by decide)] at h2)).1), (ax13 (by rwa [getD_set _ _ _ (by decide)] at h1) (by rwa [getD_set _ _ _ (by decide)] at h2)).2.1, (ax13 (by rwa [getD_set _ _ _ (by decide)] at h1) (by rwa [getD_set _ _ _ (by decide)] at h2)).2.2⟩), (fun h => absurd (by rwa [getD_set _ _ _ (by decide)] at h) hnsx), (fun h1 h2 => by change (SP.cmx w.heap.size s1 s2 ts).P _ ((ac.put (some 73) _).eval (.tmp 79)); rw [eval_put_other ac _ (by decide)]; exact ti12 (by rwa [getD_set _ _ _ (by decide)] at h1) (by rwa [getD_set _ _ _ (by decide)] at h2))⟩)
    · have hk3 := hk
      have hnsx : ¬ listed.getD 14 false = true := fun h => not_yet hk (hdn 14 h 7 (by kernel_rfl))
      exact wpOp_plain rfl rfl (wp_move_v (ac.eval (.tmp 4)) rfl rfl ⟨N15, hl2 7, (hF.put 7 74 (SP.is (.slice (some ⟨b, o, none⟩) (q + 1) cap)) (ac.eval (.tmp 4)) (by rw [hD]; rfl) (((hF.keep 4 (by rw [hD]; rfl)).trans zs4)) (by rw [hD]; rfl) (by rw [hsz]; decide) (by rw [hl]; decide)), hb, r8, r10, r12, (fun h1 h2 => ⟨(eval_put_other ac _ (by decide)).trans ((ax13 (by rwa [getD_set _ _ _ (by decide)] at h1) (by rwa [getD_set _ _ _ (by decide)] at h2)).1), (ax13 (by rwa [getD_set _ _ _ (by decide)] at h1) (by rwa [getD_set _ _ _ (by decide)] at h2)).2.1, (ax13 (by rwa [getD_set _ _ _ (by decide)] at h1) (by rwa [getD_set _ _ _ (by decide)] at h2)).2.2⟩), (fun h => absurd (by rwa [getD_set _ _ _ (by decide)] at h) hnsx), (fun h1 h2 => by change (SP.cmx w.heap.size s1 s2 ts).P _ ((ac.put (some 74) _).eval (.tmp 79)); rw [eval_put_other ac _ (by decide)]; exact ti12 (by rwa [getD_set _ _ _ (by decide)] at h1) (by rwa [getD_set _ _ _ (by decide)] at h2))⟩)
    · have hk3 := hk
      have hnsx : ¬ listed.getD 14 false = true := fun h => not_yet hk (hdn 14 h 8 (by kernel_rfl))
      exact wpOp_plain rfl rfl (wp_move_v (ac.eval (.tmp 4)) rfl rfl ⟨N15, hl2 8, (hF.put 8 75 (SP.is (.slice (some ⟨b, o, none⟩) (q + 1) cap)) (ac.eval (.tmp 4)) (by rw [hD]; rfl) (((hF.keep 4 (by rw [hD]; rfl)).trans zs4)) (by rw [hD]; rfl) (by rw [hsz]; decide) (by rw [hl]; decide)), hb, r8, r10, r12, (fun h1 h2 => ⟨(eval_put_other ac _ (by decide)).trans ((ax13 (by rwa [getD_set _ _ _ (by decide)] at h1) (by rwa [getD_set _ _ _ (by decide)] at h2)).1), (ax13 (by rwa [getD_set _ _ _ (by decide)] at h1) (by rwa [getD_set _ _ _ (by decide)] at h2)).2.1, (ax13 (by rwa [getD_set _ _ _ (by decide)] at h1) (by rwa [getD_set _ _ _ (by decide)] at h2)).2.2⟩), (fun h => absurd (by rwa [getD_set _ _ _ (by decide)] at h) hnsx), (fun h1 h2 => by change (SP.cmx w.heap.size s1 s2 ts).P _ ((ac.put (some 75) _).eval (.tmp 79)); rw [eval_put_other ac _ (by decide)]; exact ti12 (by rwa [getD_set _ _ _ (by decide)] at h1) (by rwa [getD_set _ _ _ (by decide)] at h2))⟩)
    · have hk3 := hk
      have hnsx : ¬ listed.getD 14 false = true := fun h => not_yet hk (hdn 14 h 9 (by kernel_rfl))
      have ea := (hF.done 8 (75, SP.is (.slice (some ⟨b, o, none⟩) (q + 1) cap)) (by rw [hD]; rfl) (ready_dep hk 8 (by kernel_rfl)))
      exact wpOp_plain rfl rfl (wp_len_dg (some ⟨b, o, none⟩) (q + 1) cap rfl ea ⟨N15, hl2 9, (hF.put 9 76 (SP.is (.int .i64 ((q + 1 : Nat) : Int))) (.int .i64 ((q + 1 : Nat) : Int)) (by rw [hD]; rfl) rfl (by rw [hD]; rfl) (by rw [hsz]; decide) (by rw [hl]; decide)), hb, r8, r10, r12, (fun h1 h2 => ⟨(eval_put_other ac _ (by decide)).trans ((ax13 (by rwa [getD_set _ _ _ (by decide)] at h1) (by rwa [getD_set _ _ _ (by decide)] at h2)).1), (ax13 (by rwa [getD_set _ _ _ (by decide)] at h1) (by rwa [getD_set _ _ _ (by decide)] at h2)).2.1, (ax13 (by rwa [getD_set _ _ _ (by decide)] at h1) (by rwa [getD_set _ _ _ (by decide)] at h2)).2.2⟩), (fun h => absurd (by rwa [getD_set _ _ _ (by decide)] at h) hnsx), (fun h1 h2 => by change (SP.cmx w.heap.size s1 s2 ts).P _ ((ac.put (some 76) _).eval (.tmp 79)); rw [eval_put_other ac _ (by decide)]; exact ti12 (by rwa [getD_set _ _ _ (by decide)] at h1) (by rwa [getD_set _ _ _ (by decide)] at h2))⟩)
    · have hk3 := hk
      have hnsx : ¬ listed.getD 14 false = true := fun h => not_yet hk (hdn 14 h 10 (by kernel_rfl))
      have ea := (hF.done 9 (76, SP.is (.int .i64 ((q + 1 : Nat) : Int))) (by rw [hD]; rfl) (ready_dep hk 9 (by kernel_rfl)))
      exact wpOp_plain rfl rfl (wp_sub_1 _ _ rfl ea HQ.out ⟨N15, hl2 10, (hF.put 10 77 (SP.is (.int .i64 (q : Int))) (.int .i64 (q : Int)) (by rw [hD]; rfl) rfl (by rw [hD]; rfl) (by rw [hsz]; decide) (by rw [hl]; decide)), hb, r8, r10, r12, (fun h1 h2 => ⟨(eval_put_other ac _ (by decide)).trans ((ax13 (by rwa [getD_set _ _ _ (by decide)] at h1) (by rwa [getD_set _ _ _ (by decide)] at h2)).1), (ax13 (by rwa [getD_set _ _ _ (by decide)] at h1) (by rwa [getD_set _ _ _ (by decide)] at h2)).2.1, (ax13 (by rwa [getD_set _ _ _ (by decide)] at h1) (by rwa [getD_set _ _ _ (by decide)] at h2)).2.2⟩), (fun h => absurd (by rwa [getD_set _ _ _ (by decide)] at h) hnsx), (fun h1 h2 => by change (SP.cmx w.heap.size s1 s2 ts).P _ ((ac.put (some 77) _).eval (.tmp 79)); rw [eval_put_other ac _ (by decide)]; exact ti12 (by rwa [getD_set _ _ _ (by decide)] at h1) (by rwa [getD_set _ _ _ (by decide)] at h2))⟩)
    · have hk3 := hk
      have hnsx : ¬ listed.getD 14 false = true := fun h => not_yet hk (hdn 14 h 11 (by kernel_rfl))
      have ea := (hF.done 7 (74, SP.is (.slice (some ⟨b, o, none⟩) (q + 1) cap)) (by rw [hD]; rfl) (ready_dep hk 7 (by kernel_rfl)))
      have eb := (hF.done 10 (77, SP.is (.int .i64 (q : Int))) (by rw [hD]; rfl) (ready_dep hk 10 (by kernel_rfl)))
      exact wpOp_plain rfl rfl (wp_slice_cut 30 28 (.tmp 74) (.tmp 77) b o (q + 1) cap q 32 rfl ea eb HC.out Tryd.underlying30 info_dig ⟨N15, hl2 11, (hF.put 11 78 (SP.is (.slice (some ⟨b, o, none⟩) q cap)) (.slice (some ⟨b, o, none⟩) q cap) (by rw [hD]; rfl) rfl (by rw [hD]; rfl) (by rw [hsz]; decide) (by rw [hl]; decide)), hb, r8, r10, r12, (fun h1 h2 => ⟨(eval_put_other ac _ (by decide)).trans ((ax13 (by rwa [getD_set _ _ _ (by decide)] at h1) (by rwa [getD_set _ _ _ (by decide)] at h2)).1), (ax13 (by rwa [getD_set _ _ _ (by decide)] at h1) (by rwa [getD_set _ _ _ (by decide)] at h2)).2.1, (ax13 (by rwa [getD_set _ _ _ (by decide)] at h1) (by rwa [getD_set _ _ _ (by decide)] at h2)).2.2⟩), (fun h => absurd (by rwa [getD_set _ _ _ (by decide)] at h) hnsx), (fun h1 h2 => by change (SP.cmx w.heap.size s1 s2 ts).P _ ((ac.put (some 78) _).eval (.tmp 79)); rw [eval_put_other ac _ (by decide)]; exact ti12 (by rwa [getD_set _ _ _ (by decide)] at h1) (by rwa [getD_set _ _ _ (by decide)] at h2))⟩)
    · have hk3 := hk
      have hnsx : ¬ listed.getD 14 false = true := fun h => not_yet hk (hdn 14 h 12 (by kernel_rfl))
      have ea := (hF.done 2 (69, SP.is (.int .i64 ((m - k : Nat) : Int))) (by rw [hD]; rfl) (ready_dep hk 2 (by kernel_rfl)))
      have eb := (hF.done 5 (72, SP.is (.int .i64 ((n - k : Nat) : Int))) (by rw [hD]; rfl) (ready_dep hk 5 (by kernel_rfl)))
      have ec := (hF.done 6 (73, SP.is (.agg (vB was).toArray)) (by rw [hD]; rfl) (ready_dep hk 6 (by kernel_rfl)))
      have ed := (hF.done 11 (78, SP.is (.slice (some ⟨b, o, none⟩) q cap)) (by rw [hD]; rfl) (ready_dep hk 11 (by kernel_rfl)))
      refine wpOp_plain rfl rfl (wp_fcall_v 45 #[.int .i64 ((m - k : Nat) : Int), .int .i64 ((n - k : Nat) : Int), .bool false, .agg (vB was).toArray, .slice (some ⟨b, o, none⟩) q cap] rfl rfl (by show [ac.eval (.tmp 69), ac.eval (.tmp 72), ac.eval (.const (.bool false)), ac.eval (.tmp 73), ac.eval (.tmp 78)] = _; rw [show ac.eval (.tmp 69) = _ from ea, show ac.eval (.tmp 72) = _ from eb, show ac.eval (.tmp 73) = _ from ec, show ac.eval (.tmp 78) = _ from ed]; rfl) (by go_simp) ((HS.out W hb).mono ?_))
      rintro e W2 ⟨tv, vs, rfl, hX, hB⟩
      exact ⟨_, rfl, N15, hl2 12, ((hF.world hB).put 12 79 (SP.any) (.agg (cm s1 s2 tv).toArray) (by rw [hD]; rfl) trivial (by rw [hD]; rfl) (by rw [hsz]; decide) (by rw [hl]; decide)), hb.trans (hB.mono hb.size), Row.below r8 hB (Row.lt r8), Row.below r10 hB (Row.lt r10), Row.below r12 hB (Row.lt r12), (fun h1 h2 => ⟨(eval_put_other ac _ (by decide)).trans ((ax13 (by rwa [getD_set _ _ _ (by decide)] at h1) (by rwa [getD_set _ _ _ (by decide)] at h2)).1), (ax13 (by rwa [getD_set _ _ _ (by decide)] at h1) (by rwa [getD_set _ _ _ (by decide)] at h2)).2.1, Row.below (ax13 (by rwa [getD_set _ _ _ (by decide)] at h1) (by rwa [getD_set _ _ _ (by decide)] at h2)).2.2 hB (Row.lt (ax13 (by rwa [getD_set _ _ _ (by decide)] at h1) (by rwa [getD_set _ _ _ (by decide)] at h2)).2.2)⟩), (fun h => absurd (by rwa [getD_set _ _ _ (by decide)] at h) hnsx), (fun _ _ => by change (SP.cmx w.heap.size s1 s2 ts).P _ ((ac.put (some 79) _).eval (.tmp 79)); rw [eval_put_same ac _ (by rw [hF.size, hsz]; decide)]; exact ⟨tv, vs, rfl, hX.less hb.size⟩)⟩
    · have hk3 := hk
      have hnsx : ¬ listed.getD 14 false = true := fun h => not_yet hk (hdn 14 h 13 (by kernel_rfl))
      have hsm : w.heap.size + 2 < W.heap.size := Row.lt r12
      have hB : Below W.heap.size W (W.alloc (.cells z65.toArray 77)) := (Below.refl _ _).alloc (Nat.le_refl _) _
      exact wpOp_plain rfl rfl (wp_alloc_cm rfl ⟨W.heap.size, hl2 13, ((hF.world hB).put 13 15 (SP.any) (.pointer (some ⟨W.heap.size, 0, none⟩)) (by rw [hD]; rfl) trivial (by rw [hD]; rfl) (by rw [hsz]; decide) (by rw [hl]; decide)), hb.alloc hb.size _, Row.alloc r8 _, Row.alloc r10 _, Row.alloc r12 _, (fun _ _ => ⟨eval_put_same ac _ (by rw [hF.size, hsz]; decide), hsm, Row.new' rfl rfl⟩), (fun h => absurd (by rwa [getD_set _ _ _ (by decide)] at h) hnsx), (fun h1 h2 => by change (SP.cmx w.heap.size s1 s2 ts).P _ ((ac.put (some 15) _).eval (.tmp 79)); rw [eval_put_other ac _ (by decide)]; exact (SP.cmx w.heap.size s1 s2 ts).st _ _ _ hB (ti12 (by rwa [getD_set _ _ _ (by decide)] at h1) (by rwa [getD_set _ _ _ (by decide)] at h2)))⟩)
    · have hk3 := hk
      obtain ⟨tv, vs, ev, hX⟩ := (ti12 (ready_dep hk 12 (by kernel_rfl)) (not_yet hk))
      have hal := ready_dep hk 13 (by kernel_rfl)
      obtain ⟨e1, m1, y2⟩ := ax13 hal (not_yet hk)
      have T := y2.there 0 (cm s1 s2 tv).toArray.size (by rw [List.size_toArray, cm_len H1 H2]; decide)
      have hT : Fp D a0 listed ac (W.setCells N15 0 (cm s1 s2 tv)) := hF.turn (by rw [hD]; simp only [List.forall_mem_cons, List.not_mem_nil, false_implies, implies_true, and_true]; exact ⟨fun _ h => h, fun _ h => h, fun _ h => h, fun _ h => h, fun _ h => h, fun _ h => h, fun _ h => h, fun _ h => h, fun _ h => h, fun _ h => h, fun _ h => h, fun _ h => h, fun _ h => h, fun _ h => h, fun _ h => h⟩)
      exact wpOp_plain rfl rfl (wp_store_mid 77 (.tmp 15) (.tmp 79) rfl N15 0 (cm s1 s2 tv).toArray e1 ev T (cm_info' H1 H2 _) (cm_one (own_one hX.own)) ⟨N15, hl2 14, (hT.skip 14 1000 (by rw [hD]; rfl) (by rw [hl]; decide)), below_setCells hb (by omega) _, Row.setCells_other r8 _ _ _ (by omega), Row.setCells_other r10 _ _ _ (by omega), Row.setCells_other r12 _ _ _ (by omega), (fun _ h => absurd (getD_same (by rw [hl]; decide)) h), (fun _ => ⟨e1, m1, ⟨tv, vs, y2.over (by rw [cm_len H1 H2]; rfl), hX.set y2 0 _⟩⟩), (fun _ h2 => absurd (getD_same (by rw [hl]; decide)) h2)⟩)
  · clear hb r8 r10 r12 
    intro listed ac W hI hr
    obtain ⟨N15, hl, hF, hb, r8, r10, r12, ax13, ay13, ti12⟩ := hI
    have hall := all_listed (by kernel_rfl) hl hr
    obtain ⟨ea15, m15, p15⟩ := ay13 (hall 14 (by decide))
    have h67 : ac.eval (.tmp 67) = .int .i64 (m : Int) := hF.done 0 (67, SP.is (.int .i64 (m : Int))) (by rw [hD]; rfl) (hall 0 (by decide))
    have h68 : ac.eval (.tmp 68) = .int .i64 (k : Int) := hF.done 1 (68, SP.is (.int .i64 (k : Int))) (by rw [hD]; rfl) (hall 1 (by decide))
    have h69 : ac.eval (.tmp 69) = .int .i64 ((m - k : Nat) : Int) := hF.done 2 (69, SP.is (.int .i64 ((m - k : Nat) : Int))) (by rw [hD]; rfl) (hall 2 (by decide))
    have h70 : ac.eval (.tmp 70) = .int .i64 (n : Int) := hF.done 3 (70, SP.is (.int .i64 (n : Int))) (by rw [hD]; rfl) (hall 3 (by decide))
    have h71 : ac.eval (.tmp 71) = .int .i64 (k : Int) := hF.done 4 (71, SP.is (.int .i64 (k : Int))) (by rw [hD]; rfl) (hall 4 (by decide))
    have h72 : ac.eval (.tmp 72) = .int .i64 ((n - k : Nat) : Int) := hF.done 5 (72, SP.is (.int .i64 ((n - k : Nat) : Int))) (by rw [hD]; rfl) (hall 5 (by decide))
    have h73 : ac.eval (.tmp 73) = .agg (vB was).toArray := hF.done 6 (73, SP.is (.agg (vB was).toArray)) (by rw [hD]; rfl) (hall 6 (by decide))
    have h74 : ac.eval (.tmp 74) = .slice (some ⟨b, o, none⟩) (q + 1) cap := hF.done 7 (74, SP.is (.slice (some ⟨b, o, none⟩) (q + 1) cap)) (by rw [hD]; rfl) (hall 7 (by decide))
    have h75 : ac.eval (.tmp 75) = .slice (some ⟨b, o, none⟩) (q + 1) cap := hF.done 8 (75, SP.is (.slice (some ⟨b, o, none⟩) (q + 1) cap)) (by rw [hD]; rfl) (hall 8 (by decide))
    have h76 : ac.eval (.tmp 76) = .int .i64 ((q + 1 : Nat) : Int) := hF.done 9 (76, SP.is (.int .i64 ((q + 1 : Nat) : Int))) (by rw [hD]; rfl) (hall 9 (by decide))
    have h77 : ac.eval (.tmp 77) = .int .i64 (q : Int) := hF.done 10 (77, SP.is (.int .i64 (q : Int))) (by rw [hD]; rfl) (hall 10 (by decide))
    have h78 : ac.eval (.tmp 78) = .slice (some ⟨b, o, none⟩) q cap := hF.done 11 (78, SP.is (.slice (some ⟨b, o, none⟩) q cap)) (by rw [hD]; rfl) (hall 11 (by decide))
    obtain ⟨x79, h79⟩ : ∃ x, ac.eval (.tmp 79) = x := ⟨_, rfl⟩
    have ea := hF.lay [(67, .int .i64 (m : Int)), (68, .int .i64 (k : Int)), (69, .int .i64 ((m - k : Nat) : Int)), (70, .int .i64 (n : Int)), (71, .int .i64 (k : Int)), (72, .int .i64 ((n - k : Nat) : Int)), (73, .agg (vB was).toArray), (74, .slice (some ⟨b, o, none⟩) (q + 1) cap), (75, .slice (some ⟨b, o, none⟩) (q + 1) cap), (76, .int .i64 ((q + 1 : Nat) : Int)), (77, .int .i64 (q : Int)), (78, .slice (some ⟨b, o, none⟩) q cap), (79, x79), (15, .pointer (some ⟨N15, 0, none⟩))] (by rw [hD, hsz]; rfl) (by simp only [List.forall_mem_cons, List.not_mem_nil, false_implies, implies_true, and_true]; exact ⟨h67, h68, h69, h70, h71, h72, h73, h74, h75, h76, h77, h78, h79, ea15⟩)
    rw [ha0] at ea
    simp only [List.foldl_cons, List.foldl_nil, List.setIfInBounds_toArray, List.set_cons_zero, List.set_cons_succ] at ea
    clear hF hall hr hl hD ax13 ay13 ti12 zs0 zs1 zs2 zs4 zs8 zs11 ha0 hsz h67 h68 h69 h70 h71 h72 h73 h74 h75 h76 h77 h78 h79 ea15
    subst ea
    obtain ⟨tv, vs, rc, tx⟩ := p15
    clear r8
    have HSa : Hid (w.heap.size ≤ W.heap.size) := hb.size
    go_wp2_with (first
      | (refine wpList_load_w rfl 28 (.tmp 12) rfl (w.heap.size + 2) 0 rfl (vB l) _ r12.all Tryd.underlying28 rfl Hl.info ?_; simp only [Act.put, List.setIfInBounds_toArray, List.set_cons_zero, List.set_cons_succ])
      | (refine wpList_load_w rfl 28 (.tmp 81) rfl N15 0 rfl (vB s1) _ (cm_x rc) Tryd.underlying28 rfl H1.info ?_; simp only [Act.put, List.setIfInBounds_toArray, List.set_cons_zero, List.set_cons_succ]))
    refine (nodeText_any l s1 Hl H1 W).mono ?_
    rintro e V0 ⟨va, rfl, hOa, hB⟩
    replace hb := hb.trans (hB.mono hb.size)
    replace r12 := Row.below r12 hB (Row.lt r12)
    replace r10 := Row.below r10 hB (Row.lt r10)
    replace rc := Row.below rc hB (Row.lt rc)
    replace tx := tx.below hB
    clear hB
    replace hOa := own_less hOa HSa.out
    obtain ⟨ga, ca, ea⟩ := owns_some hOa (by decide)
    subst ea
    rw [← HY.out] at hOa
    have HSb : Hid (w.heap.size ≤ V0.heap.size) := hb.size
    go_wp2_with (first
      | (refine wpList_load_w rfl 28 (.tmp 12) rfl (w.heap.size + 2) 0 rfl (vB l) _ r12.all Tryd.underlying28 rfl Hl.info ?_; simp only [Act.put, List.setIfInBounds_toArray, List.set_cons_zero, List.set_cons_succ])
      | (refine wpList_load_w rfl 28 (.tmp 85) rfl N15 32 rfl (vB s2) _ (cm_y H1 rc) Tryd.underlying28 rfl H2.info ?_; simp only [Act.put, List.setIfInBounds_toArray, List.set_cons_zero, List.set_cons_succ]))
    refine (nodeText_any l s2 Hl H2 V0).mono ?_
    rintro e V1 ⟨vb, rfl, hOb, hB⟩
    replace hb := hb.trans (hB.mono hb.size)
    replace r12 := Row.below r12 hB (Row.lt r12)
    replace r10 := Row.below r10 hB (Row.lt r10)
    replace rc := Row.below rc hB (Row.lt rc)
    replace tx := tx.below hB
    replace hOa := ownsRow_below hOa hB (Nat.le_refl _)
    clear hB
    replace hOb := own_less hOb HSb.out
    obtain ⟨gb, cb, eb⟩ := owns_some hOb (by decide)
    subst eb
    rw [← HZ.out] at hOb
    have hA : Below V1.heap.size V1 (V1.alloc (.cells #[.slice (some ⟨ga, 0, none⟩) 65 ca, .slice (some ⟨gb, 0, none⟩) 65 cb] 38)) := (Below.refl _ _).alloc (Nat.le_refl _) _
    have g64 := cm_t H1 H2 rc
    have tx1 := tx.below hA
    have pa := ownsRow_below hOa hA (Nat.le_refl _)
    have pb := ownsRow_below hOb hA (Nat.le_refl _)
    have hU : Txs (V1.alloc (.cells #[.slice (some ⟨ga, 0, none⟩) 65 ca, .slice (some ⟨gb, 0, none⟩) 65 cb] 38)) w.heap.size (.slice (some ⟨V1.heap.size, 0, none⟩) 2 2) [y, z] [.slice (some ⟨ga, 0, none⟩) 65 ca, .slice (some ⟨gb, 0, none⟩) 65 cb] := Txs.two hb.size (Row.new' rfl rfl) (by rw [HYL.out]; exact pa) (by rw [HZL.out]; exact pb)
    have hb1 := hb.alloc hb.size (.cells #[.slice (some ⟨ga, 0, none⟩) 65 ca, .slice (some ⟨gb, 0, none⟩) 65 cb] 38)
    have rc1 := Row.below rc hA (Row.lt rc)
    have ra1 := Row.below r10 hA (Row.lt r10)
    have rl1 := Row.below r12 hA (Row.lt r12)
    go_wp2_with (first
      | (refine wpList_join rfl (.tmp 89) (.tmp 92) rfl _ w w.heap.size w.heap.size _ _ _ _ _ _ tx1 hU (by simp) rfl rfl (by have := HTS.out; simp; omega) hb1.size (Nat.le_refl _) hb1 ?_; intro v3 w3 T3 hb3 hG3; (have rc3 := row_grown rc1 tx1.own (by decide) hG3); (have ra3 := row_grown ra1 tx1.own (by decide) hG3); (have rl3 := row_grown rl1 tx1.own (by decide) hG3); (have qa := own_grown pa tx1.own (by decide) hG3); (have qb := own_grown pb tx1.own (by decide) hG3); (obtain ⟨g3, c3, e3, _, _, _⟩ := T3.form (by rw [List.length_append]; simp)); (rw [show (ts ++ [y, z]).length = ts.length + 2 by simp] at e3); subst e3; clear hG3; simp only [Act.put, List.setIfInBounds_toArray, List.set_cons_zero, List.set_cons_succ])
      | (refine wpList_store1 rfl 22 (.tmp 94) (.tmp 93) rfl N15 64 (Value.slice (some ⟨g3, 0, none⟩) (ts.length + 2) c3) rfl rfl rfl (rc3.there 64 1 (by rw [cm_len H1 H2]; decide)) (by kernel_rfl) rfl ?_; simp only [Act.put]; (have T4 := T3.set rc3 64 [(Value.slice (some ⟨g3, 0, none⟩) (ts.length + 2) c3)]); (have ra4 := Row.set_other ra3 N15 64 (Value.slice (some ⟨g3, 0, none⟩) (ts.length + 2) c3) (by omega)); (have rl4 := Row.set_other rl3 N15 64 (Value.slice (some ⟨g3, 0, none⟩) (ts.length + 2) c3) (by omega)); (have sa := own_set qa rc3 (by decide) 64 [(Value.slice (some ⟨g3, 0, none⟩) (ts.length + 2) c3)]); (change World.ownsRow (w3.setCell ⟨N15, 64, none⟩ (Value.slice (some ⟨g3, 0, none⟩) (ts.length + 2) c3)) _ _ _ _ _ _ at sa); (have sb := own_set qb rc3 (by decide) 64 [(Value.slice (some ⟨g3, 0, none⟩) (ts.length + 2) c3)]); (change World.ownsRow (w3.setCell ⟨N15, 64, none⟩ (Value.slice (some ⟨g3, 0, none⟩) (ts.length + 2) c3)) _ _ _ _ _ _ at sb); (have rc4 := rc3.set 64 (Value.slice (some ⟨g3, 0, none⟩) (ts.length + 2) c3)); (rw [cm_set_t H1 H2] at rc4); (have hb4 := hb3.setCell (p := ⟨N15, 64, none⟩) (by show w.heap.size ≤ N15; omega) (Value.slice (some ⟨g3, 0, none⟩) (ts.length + 2) c3)); (change wpList _ _ _ _ _ (w3.setCell ⟨N15, 64, none⟩ (Value.slice (some ⟨g3, 0, none⟩) (ts.length + 2) c3))); (change Txs (w3.setCell ⟨N15, 64, none⟩ (Value.slice (some ⟨g3, 0, none⟩) (ts.length + 2) c3)) _ _ _ _ at T4); (generalize w3.setCell ⟨N15, 64, none⟩ (Value.slice (some ⟨g3, 0, none⟩) (ts.length + 2) c3) = w4 at *); (generalize (Value.slice (some ⟨g3, 0, none⟩) (ts.length + 2) c3) = tv4 at *); clear rc3 ra3 rl3 T3 hb3))
    replace rc := rc4
    replace r10 := ra4
    replace r12 := rl4
    replace tx := T4
    replace hb := hb4
    replace hOa := sa
    replace hOb := sb
    clear rc4 ra4 rl4 T4 hb4 hA g64 tx1 hU hb1 rc1 ra1 rl1 pa qa sa pb qb sb
    refine (rsum_any y dd HD.out (by rw [HYL.out]; decide) _ w4 (owns_slAt hOa).1 (HGV.out _ hb)).mono ?_
    rintro e V2 ⟨rfl, hB⟩
    replace hb := hb.trans (hB.mono hb.size)
    replace r12 := Row.below r12 hB (Row.lt r12)
    replace r10 := Row.below r10 hB (Row.lt r10)
    replace rc := Row.below rc hB (Row.lt rc)
    replace tx := tx.below hB
    replace hOa := ownsRow_below hOa hB (Nat.le_refl _)
    replace hOb := ownsRow_below hOb hB (Nat.le_refl _)
    clear hB
    have T0 := rc.there 0 (vB dd).toArray.size (by rw [List.size_toArray, Hd.len, cm_len H1 H2]; decide)
    have rcn := cm_set_x H1 Hd rc
    have txn := tx.set rc 0 (vB dd)
    have ran := Row.setCells_other r10 N15 0 (vB dd) (by omega)
    have hOan := own_set hOa rc (by decide) 0 (vB dd)
    have hObn := own_set hOb rc (by decide) 0 (vB dd)
    have hbn := below_setCells hb (b := N15) (o := 0) (by omega) (vB dd)
    clear rc tx r10 r12 hb hOa hOb
    have rc := rcn
    have tx := txn
    have r10 := ran
    have hb := hbn
    have hOa := hOan
    have hOb := hObn
    clear rcn txn ran hbn hOan hObn
    go_wp2_with (refine wpList_store_mid rfl 28 (.tmp 97) (.tmp 96) rfl N15 0 (vB dd).toArray rfl rfl T0 Hd.info' Hd.one ?_; simp only [Act.put]; clear T0; (change wpList _ _ _ _ _ (V2.setCells N15 0 (vB dd))); (generalize (V2.setCells N15 0 (vB dd)) = Y3 at *))
    refine (rsum_any z de HE.out (by rw [HZL.out]; decide) _ Y3 (owns_slAt hOb).1 (HGV.out _ hb)).mono ?_
    rintro e V4 ⟨rfl, hB⟩
    replace hb := hb.trans (hB.mono hb.size)
    replace r10 := Row.below r10 hB (Row.lt r10)
    replace rc := Row.below rc hB (Row.lt rc)
    replace tx := tx.below hB
    replace hOa := ownsRow_below hOa hB (Nat.le_refl _)
    replace hOb := ownsRow_below hOb hB (Nat.le_refl _)
    clear hB
    have T0 := rc.there 32 (vB de).toArray.size (by rw [List.size_toArray, He.len, cm_len Hd H2]; decide)
    have rcn := cm_set_y Hd H2 He rc
    have txn := tx.set rc 32 (vB de)
    have ran := Row.setCells_other r10 N15 32 (vB de) (by omega)
    have hOan := own_set hOa rc (by decide) 32 (vB de)
    have hObn := own_set hOb rc (by decide) 32 (vB de)
    have hbn := below_setCells hb (b := N15) (o := 32) (by omega) (vB de)
    clear rc tx r10 hb hOa hOb
    have rc := rcn
    have tx := txn
    have r10 := ran
    have hb := hbn
    have hOa := hOan
    have hOb := hObn
    clear rcn txn ran hbn hOan hObn
    go_wp2_with (first
      | (refine wpList_store_mid rfl 28 (.tmp 100) (.tmp 99) rfl N15 32 (vB de).toArray rfl rfl T0 He.info' He.one ?_; simp only [Act.put]; clear T0; (change wpList _ _ _ _ _ (V4.setCells N15 32 (vB de))); (generalize (V4.setCells N15 32 (vB de)) = Y5 at *))
      | (refine wpList_load_w rfl 77 (.tmp 15) rfl N15 0 rfl (cm dd de tv4) _ rc.all Tryd.underlying77 rfl (cm_info Hd He _) ?_; simp only [Act.put, List.setIfInBounds_toArray, List.set_cons_zero, List.set_cons_succ])
      | (refine wpList_store_mid rfl 77 (.tmp 10) (.tmp 101) rfl (w.heap.size + 1) 0 (cm dd de tv4).toArray rfl rfl (r10.there 0 _ (by rw [List.size_toArray, cm_len Hd He]; decide)) (cm_info' Hd He _) (cm_one (own_one tx.own)) ?_))
    have r10b := r10.over (vs := cm dd de tv4) (by rw [cm_len Hd He]; rfl)
    have tx2 := tx.set r10 0 (cm dd de tv4)
    have hb2 := below_setCells hb (b := w.heap.size + 1) (o := 0) (by omega) (cm dd de tv4)
    exact bodyPost_ret (results_cell_row Tryd.results45 _ _ (w.heap.size + 1) 77 (cm dd de tv4).toArray (0, 0) _ rfl r10b Tryd.underlying77 rfl (cm_info' Hd He _)) rfl ⟨_, _, rfl, tx2, hb2⟩

/-- comes of a growth of the right length. -/
theorem comes_any (n : Nat) : ∀ (m : Nat) (k : Bool) (was : List (BitVec 8)) (ds : List (List (BitVec 8))), Dl was → 1 ≤ m → m ≤ n → n ≤ 1099511627776 → ds.length = gs m n k → ∀ (A : Option Addr) (cap : Nat) (w : World), Given w → PAt w (.slice A ds.length cap) ds →
    Calls Tryd.prog 45 #[.int .i64 (m : Int), .int .i64 (n : Int), .bool k, .agg (vB was).toArray, .slice A ds.length cap] w fun e w' => ∃ tv vs, e = .returned (.agg (cm (rsb m n k was ds).1 (rsb m n k was ds).2 tv).toArray) ∧ Txs w' w.heap.size tv (gt m n k was ds) vs ∧ Below w.heap.size w w' := by
  induction n using Nat.strongRecOn with
  | ind n ih =>
    intro m k was ds Hw h1 hm hn hlen A cap w hG hp
    have hn' : n < 4611686018427387904 := by omega
    by_cases e : m = n
    · subst e
      rw [rsb_same, gt_same]
      rw [gs_same] at hlen
      cases k
      · have h0 : 0 < ds.length := by rw [hlen]; decide
        have h32 := hp.1
        obtain ⟨b, o, e, hr⟩ := pat_range0 hp h0
        subst e
        exact comes_told m ds.length cap b o was _ (by rw [List.getD_eq_getElem?_getD, List.getElem?_eq_getElem h0]; exact h32 _ (List.getElem_mem _)) h0 w hr
      · exact comes_known m was Hw _ w
    · have hb := fpart_bounds n (by omega) hn'
      have hp0 := fpart_pos n
      obtain ⟨h32, A', cap', eA, hcap, h4⟩ := hp
      simp only [Value.slice.injEq] at eA
      obtain ⟨rfl, _, rfl⟩ := eA
      rcases List.eq_nil_or_concat ds with e0 | ⟨rs, l, e0⟩
      · exfalso
        rw [e0] at hlen
        by_cases hk : m ≤ fpart n
        · rw [gs_left m n k (by omega) h1 hn' hk] at hlen; simp at hlen
        · rw [gs_right m n k (by omega) h1 hn' hk] at hlen; simp at hlen
      · rw [List.concat_eq_append] at e0
        subst e0
        rcases h4 with h4 | ⟨b, o, rfl, h4⟩
        · simp at h4
        have hl32 : Dl l := h32 l (by simp)
        have hrs : ∀ d ∈ rs, d.length = 32 := fun d hd => h32 d (by simp [hd])
        rw [List.flatMap_append] at h4
        have hlast : w.rangeAt b (o + rs.length * 32) (vB l) := by
          have := ran_right h4 (flat_length rs hrs)
          simpa using this
        have hrest : w.rangeAt b o (rs.flatMap vB) := ran_left h4
        rw [List.length_append, List.length_singleton] at hcap hlen ⊢
        have hsub : ∀ W, Below w.heap.size w W → PAt W (.slice (some ⟨b, o, none⟩) rs.length cap) rs := fun W hB => ⟨hrs, _, _, rfl, by omega, .inr ⟨b, o, rfl, range_below hrest hB (Nat.le_refl _)⟩⟩
        have hg := gs_le n m k h1 hm hn'
        by_cases hk : m ≤ fpart n
        · rw [gs_left m n k (by omega) h1 hn' hk] at hlen hg
          have hd := rsb_len (fpart n) m k was rs Hw hrs h1 hk (by omega) (by omega)
          have hgl := gt_len (fpart n) m k was rs h1 hk (by omega)
          have hg2 := gs_le (fpart n) m k h1 hk (by omega)
          rw [rsb_left m n k was l rs (by omega) h1 hn' hk, gt_left m n k was l rs (by omega) h1 hn' hk]
          exact comes_left m n (fpart n) rs.length cap b o k h1 (by omega) hn' rfl hk was l _ _ _ _ _ (by omega) Hw hl32 hd.1 hd.2 rfl rfl hcap (by omega) w hG hlast
            (fun W hB => ih (fpart n) hb.1 m k was rs Hw h1 hk (by omega) (by omega) _ _ W (hG.low hB) (hsub W hB))
        · rw [gs_right m n k (by omega) h1 hn' hk] at hlen hg
          have hd := rsb_len (n - fpart n) (m - fpart n) false was rs Hw hrs (by omega) (by omega) (by omega) (by omega)
          have hgl := gt_len (n - fpart n) (m - fpart n) false was rs (by omega) (by omega) (by omega)
          have hg2 := gs_le (n - fpart n) (m - fpart n) false (by omega) (by omega) (by omega)
          rw [rsb_right m n k was l rs (by omega) h1 hn' hk, gt_right m n k was l rs (by omega) h1 hn' hk]
          exact comes_right m n (fpart n) rs.length cap b o k h1 (by omega) hn' rfl hk was l _ _ _ _ _ _ _ (by omega) Hw hl32 hd.1 hd.2 rfl rfl rfl rfl hcap (by omega) w hG hlast
            (fun W hB => ih (n - fpart n) (by omega) (m - fpart n) false was rs Hw (by omega) (by omega) (by omega) (by omega) _ _ W (hG.low hB) (hsub W hB))

end Go.Proofs.YtnogjhbohljjnabDoor
