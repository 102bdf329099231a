/-
  the duel: span, goesOn, mover, refuses.
-/
import Derived.Test.YtddkmpbcjieolaaDuB
namespace Go.Proofs.Ytddkmpbcjieolaa
open Go Go.RowKit
open Sha

theorem results_rT {P : Program} {fn : Func} {p : Tmp} {ty et : TypeId} {N : Nat} (h : fn.results = #[.cell p ty]) (tmps : Array Value) (w : World) (g : Nat) (t : TypeId) (cs : List Value)
    (hp : tmps.getD p undef = .pointer (some ⟨g, 0, none⟩)) (hg : Row w g cs t) (hu : P.underlying ty = some (.array N et)) (hi : (P.info? ty).map (·.size) = some cs.length) :
    (results fn tmps).run P w = .ok (.agg cs.toArray) w := by
  have hp' : tmps[p]?.getD undef = .pointer (some ⟨g, 0, none⟩) := by simpa using hp
  have hr := run_loadVar_row (P := P) w g t ty cs.toArray (0, 0) (.array N et) hg hu rfl (by simp [hi])
  simp [results, h, hp', asAddr, hr]
theorem info_vA {l : List (BitVec 8)} (h : l.length = 20) : (Try.prog.info? tAd).map (·.size) = some (vB l).length := by rw [vB_length, h]; exact info_A
section
variable {ops : Array Oper} {rest : List Oper} {op : Oper} {a : Act} {w : World} {Q : Exit → Act → World → Prop}
set_option maxRecDepth 100000 in
theorem wpList_alA (hgd : op.guard = none) (ho : op.op = .alloc tAd) (h : ∀ X, Row X w.heap.size (vB zA) tAd → Below w.heap.size w X → X.heap.size = w.heap.size + 1 → wpList Try.prog ops Q rest (a.put op.dst (.pointer (some ⟨w.heap.size, 0, none⟩))) X) : wpList Try.prog ops Q (op :: rest) a w :=
  wpList_plain hgd fun _ hK => by
    unfold Oper.wp execOp
    simp only [ho]
    go_simp
    exact hK _ _ (h _ (Row.new' (cs := vB zA) rfl rfl) ((Below.refl _ _).alloc (Nat.le_refl _) _) (by simp))
end
theorem wp_neAd {Q : Exit → Act → World → Prop} {o : Oper} {a : Act} {w : World} {K : Act → World → Prop} (x y : Operand) (yt : TypeId) (ho : o.op = .binOp .neq tAd x y yt) (l r : List (BitVec 8)) (hl : l.length = 20) (hr : r.length = 20) (hx : a.eval x = .agg (vB l).toArray) (hy : a.eval y = .agg (vB r).toArray) (B : Bool) (hB : (!decide (l = r)) = B) (h : K (a.put o.dst (.bool B)) w) : Oper.wp Try.prog o a w K Q := by
  have hr := run_neqAd w l r hl hr
  rw [hB] at hr
  unfold Oper.wp execOp
  simp only [ho, hx, hy, Sem.run_bind, run_eqGuard_agg w .neq tAd x y _ _ guardAd, Result.andThen_ok, hr, Sem.run_pure, Oper.upon_value]
  exact h
set_option maxRecDepth 100000 in
set_option maxHeartbeats 4000000 in
theorem span_any (w : World) (p : Nat) (a b : Int) (c1 : w.cell? ⟨p, 42, none⟩ = some (.int .i64 a)) (c2 : w.cell? ⟨p, 108, none⟩ = some (.int .i64 b)) (a0 : 0 ≤ a) (a1 : a ≤ 1099511627776) (b0 : 0 ≤ b) (b1 : b ≤ 1099511627776) :
    Calls Try.prog 16 #[.pointer (some ⟨p, 0, none⟩)] w fun e w' => e = .returned (.int .i64 (b - a)) ∧ ∃ n, w' = w.drewN n := by
  go_enter Try.func16, Try.ntmps16
  go_wp2_with fail
  go_quiet (fail)
  go_wp2_with fail
  go_ret
  exact ⟨rfl, _, rfl⟩
set_option maxRecDepth 100000 in
set_option maxHeartbeats 4000000 in
theorem goes_ok (w : World) (p : Nat) (la now : Int) (c1 : w.cell? ⟨p, 243, none⟩ = some (.int .i64 la)) (h1 : isTmB now = true) (h2 : la ≤ now) :
    Calls Try.prog 18 #[.pointer (some ⟨p, 0, none⟩), .int .i64 now] w fun e w' => e = .returned (.bool true) ∧ w' = w := by
  have HT : Hid (∀ w, Calls Try.prog 12 #[.int .i64 now] w fun e w' => e = .returned (.bool true) ∧ w' = w) := fun w => by rw [← h1]; exact isTm_x now w
  clear h1
  go_enter Try.func18, Try.ntmps18
  go_wp2_with (go_at_call 12; refine Calls.mono (HT.out _) ?_; rintro e X ⟨rfl, rfl⟩)
  go_ret
  exact ⟨rfl, rfl⟩
def Du.mover (d : Du) : List (BitVec 8) := if d.st = 1 then d.df else d.ch
theorem Du.mover_len {d : Du} (h : d.Wf) : d.mover.length = 20 := by unfold Du.mover; split; exact h.f; exact h.c
set_option maxRecDepth 100000 in
set_option maxHeartbeats 4000000 in
theorem mover_any {w : World} {p : Nat} {d : Du} (h : Dm w p d) : Calls Try.prog 20 #[.pointer (some ⟨p, 0, none⟩)] w fun e w' => e = .returned (.agg (vB d.mover).toArray) ∧ Below w.heap.size w w' := by
  have HC : Hid (∀ X, Below w.heap.size w X → X.cell? ⟨p, 41, none⟩ = some (.int .i64 d.st)) := fun X k => (h.be k).c_st
  by_cases hs : d.st = 1
  · have HS : Hid (d.st = 1) := hs
    obtain ⟨Lm, hLm⟩ : ∃ L, L = d.df := ⟨_, rfl⟩
    have HLm : Hid (d.mover = Lm) := by show _ = _; unfold Du.mover; first | rw [if_pos hs, hLm] | rw [if_neg hs, hLm]
    have HL2 : Hid (Lm.length = 20) := by show _ = _; rw [← HLm.out]; exact Du.mover_len h.wf
    have HR : Hid (∀ X, Below w.heap.size w X → X.rangeAt p 21 (vB Lm)) := fun X k => by rw [hLm]; exact (h.be k).df
    clear h hLm
    go_enter Try.func20, Try.ntmps20
    go_wp2_with (first
      | (refine wpList_alA rfl rfl ?_; intro X1 q1 q2 q3; have R1 : Hid (Row X1 w.heap.size (vB zA) tAd) := q1; have B1 : Hid (Below w.heap.size w X1) := q2; have cs := HC.out X1 q2; clear q1 q2 q3; simp only [Act.put, List.setIfInBounds_toArray, List.set_cons_zero, List.set_cons_succ])
      | (refine wpList_ldS rfl tAd (.tmp 12) rfl p 21 rfl (vB Lm) _ (HR.out _ B1.out) Try.underlying24 rfl (info_vA HL2.out) ?_; simp only [Act.put, List.setIfInBounds_toArray, List.set_cons_zero, List.set_cons_succ])
      | (refine wpList_stL rfl tAd (.tmp 2) (.tmp 13) rfl w.heap.size (vB Lm) (vB zA) tAd rfl rfl R1.out (by { rw [vB_length, vB_length, HL2.out]; rfl }) (info_vA HL2.out) (all_one (vB_one _)) ?_; intro X2 q1 q2; have R2 : Hid (Row X2 w.heap.size (vB Lm) tAd) := q1; have B2 : Hid (Below w.heap.size w X2) := gro_newL B1.out (Nat.le_refl _) q2; clear q1 q2))
    exact bodyPost_ret (results_rT rfl _ _ w.heap.size tAd (vB Lm) rfl R2.out Try.underlying24 (info_vA HL2.out)) rfl ⟨by rw [HLm.out], B2.out⟩
  · have HS : Hid (d.st ≠ 1) := hs
    obtain ⟨Lm, hLm⟩ : ∃ L, L = d.ch := ⟨_, rfl⟩
    have HLm : Hid (d.mover = Lm) := by show _ = _; unfold Du.mover; first | rw [if_pos hs, hLm] | rw [if_neg hs, hLm]
    have HL2 : Hid (Lm.length = 20) := by show _ = _; rw [← HLm.out]; exact Du.mover_len h.wf
    have HR : Hid (∀ X, Below w.heap.size w X → X.rangeAt p 1 (vB Lm)) := fun X k => by rw [hLm]; exact (h.be k).ch
    clear h hLm
    go_enter Try.func20, Try.ntmps20
    go_wp2_with (first
      | (refine wpList_alA rfl rfl ?_; intro X1 q1 q2 q3; have R1 : Hid (Row X1 w.heap.size (vB zA) tAd) := q1; have B1 : Hid (Below w.heap.size w X1) := q2; have cs := HC.out X1 q2; clear q1 q2 q3; simp only [Act.put, List.setIfInBounds_toArray, List.set_cons_zero, List.set_cons_succ])
      | (refine wpList_ldS rfl tAd (.tmp 17) rfl p 1 rfl (vB Lm) _ (HR.out _ B1.out) Try.underlying24 rfl (info_vA HL2.out) ?_; simp only [Act.put, List.setIfInBounds_toArray, List.set_cons_zero, List.set_cons_succ])
      | (refine wpList_stL rfl tAd (.tmp 2) (.tmp 18) rfl w.heap.size (vB Lm) (vB zA) tAd rfl rfl R1.out (by { rw [vB_length, vB_length, HL2.out]; rfl }) (info_vA HL2.out) (all_one (vB_one _)) ?_; intro X2 q1 q2; have R2 : Hid (Row X2 w.heap.size (vB Lm) tAd) := q1; have B2 : Hid (Below w.heap.size w X2) := gro_newL B1.out (Nat.le_refl _) q2; clear q1 q2))
    exact bodyPost_ret (results_rT rfl _ _ w.heap.size tAd (vB Lm) rfl R2.out Try.underlying24 (info_vA HL2.out)) rfl ⟨by rw [HLm.out], B2.out⟩
set_option maxRecDepth 100000 in
set_option maxHeartbeats 4000000 in
theorem refuses_ok {w : World} {p : Nat} {d : Du} (h : Dm w p d) (sx : Int) (by_ : List (BitVec 8)) (now : Int) (h1 : isTmB now = true) (h2 : d.last ≤ now) (h3 : d.st = sx) (h4 : by_ = d.mover) (h5 : now ≤ d.unt) :
    Calls Try.prog 15 #[.pointer (some ⟨p, 0, none⟩), .int .i64 sx, .agg (vB by_).toArray, .int .i64 now] w fun e w' => e = .returned (.int .i64 0) ∧ Below w.heap.size w w' := by
  obtain ⟨mv, hmv⟩ : ∃ m, m = d.mover := ⟨_, rfl⟩
  have HLM : Hid (mv.length = 20) := by show _ = _; rw [hmv]; exact Du.mover_len h.wf
  have HLB : Hid (by_.length = 20) := by show _ = _; rw [h4]; exact Du.mover_len h.wf
  have HNE : Hid ((!decide (by_ = mv)) = false) := by show _ = _; rw [hmv, h4]; simp
  obtain ⟨u, hu⟩ : ∃ u, u = d.unt := ⟨_, rfl⟩
  rw [← hu] at h5
  have HCS : Hid (∀ X, Below w.heap.size w X → X.cell? ⟨p, 41, none⟩ = some (.int .i64 sx)) := fun X k => by rw [← h3]; exact (h.be k).c_st
  have HCU : Hid (∀ X, Below w.heap.size w X → X.cell? ⟨p, 240, none⟩ = some (.int .i64 u)) := fun X k => by rw [hu]; exact (h.be k).c_unt
  have HGO : Hid (∀ X, Below w.heap.size w X → Calls Try.prog 18 #[.pointer (some ⟨p, 0, none⟩), .int .i64 now] X fun e w' => e = .returned (.bool true) ∧ w' = X) := fun X k => goes_ok X p d.last now (h.be k).c_last h1 h2
  have HMV0 : Hid (∀ X, Below w.heap.size w X → Calls Try.prog 20 #[.pointer (some ⟨p, 0, none⟩)] X fun e w' => e = .returned (.agg (vB mv).toArray) ∧ Below X.heap.size X w') := fun X k => by rw [hmv]; exact mover_any (h.be k)
  clear h hmv h4 h3 h2 h1 hu
  go_enter Try.func15, Try.ntmps15
  go_upto_region 7 with (first
    | (refine wpList_bxG tAd rfl (.tmp 2) rfl (vB by_) rfl ?_; intro V q1 q2 q3; have R1 : Hid (Row V w.heap.size (vB by_) tAd) := q1; have B1 : Hid (Below w.heap.size w V) := q2; have cs := HCS.out V q2; clear q1 q2 q3; simp only [Act.put, List.setIfInBounds_toArray, List.set_cons_zero, List.set_cons_succ])
    | (go_at_call 18; refine Calls.mono (HGO.out _ B1.out) ?_; rintro e V ⟨rfl, rfl⟩))
  obtain ⟨bB, hbB⟩ : ∃ b, b = w.heap.size := ⟨_, rfl⟩
  rw [← hbB] at R1 ⊢
  have hb1 := Below.refl V.heap.size V
  have rB := R1.out
  have HMV : Hid (∀ W, Below V.heap.size V W → Calls Try.prog 20 #[.pointer (some ⟨p, 0, none⟩)] W fun e w' => e = .returned (.agg (vB mv).toArray) ∧ Below W.heap.size W w') := fun W k => HMV0.out W (B1.out.trans (k.mono B1.out.size))
  clear cs hbB HMV0
  refine wp_named fun a0 ha0 => ?_
  have hsz : a0.tmps.size = 38 := by rw [ha0]; rfl
  have zs0 : a0.eval (.tmp 0) = .pointer (some ⟨p, 0, none⟩) := by rw [ha0]; rfl
  have zs6 : a0.eval (.tmp 6) = .pointer (some ⟨bB, 0, none⟩) := by rw [ha0]; rfl
  obtain ⟨D, hD⟩ : ∃ D : List (Tmp × SP), D = [(26, SP.is (.agg (vB by_).toArray)), (27, SP.is (.pointer (some ⟨p, 0, none⟩))), (28, SP.is (.agg (vB mv).toArray)), (29, SP.is (.bool false)), (25, SP.is (.bool false))] := ⟨_, rfl⟩
  refine wp_region_down (by kernel_rfl) (fun listed ac W => listed.size = 5 ∧ Fp D a0 listed ac W ∧ Below V.heap.size V W ∧ Row W bB ((vB by_)) tAd) ?_ ?_ ?_
  · exact ⟨by simp, Fp.start D a0 _ _, Below.drew hb1, Row.drew rB⟩
  · clear ha0 hb1 rB 
    intro listed ac W k hI hdn hk
    obtain ⟨hl, hF, hb1, rB⟩ := hI
    have hk1 : k < 5 := List.mem_range.1 (List.mem_filter.1 hk).1
    have hl2 : ∀ j, (listed.setIfInBounds j true).size = 5 := fun j => by rw [Array.size_setIfInBounds]; exact hl
    rcases (show k = 0 ∨ k = 1 ∨ k = 2 ∨ k = 3 ∨ k = 4 by omega) with rfl | rfl | rfl | rfl | rfl
    · have hk3 := hk
      exact wpOp_plain rfl rfl (wp_load_mid tAd (.tmp 6) rfl bB 0 ((hF.keep 6 (by rw [hD]; rfl)).trans zs6) ((vB by_)) _ rB.all Try.underlying24 rfl (info_vA HLB.out) ⟨hl2 0, (hF.put 0 26 (SP.is (.agg (vB by_).toArray)) (.agg (vB by_).toArray) (by rw [hD]; rfl) rfl (by rw [hD]; rfl) (by rw [hsz]; decide) (by rw [hl]; decide)), hb1, rB⟩)
    · have hk3 := hk
      exact wpOp_plain rfl rfl (wp_move_v (ac.eval (.tmp 0)) rfl rfl ⟨hl2 1, (hF.put 1 27 (SP.is (.pointer (some ⟨p, 0, none⟩))) (ac.eval (.tmp 0)) (by rw [hD]; rfl) (((hF.keep 0 (by rw [hD]; rfl)).trans zs0)) (by rw [hD]; rfl) (by rw [hsz]; decide) (by rw [hl]; decide)), hb1, rB⟩)
    · have hk3 := hk
      have ea := (hF.done 1 (27, SP.is (.pointer (some ⟨p, 0, none⟩))) (by rw [hD]; rfl) (ready_dep hk 1 (by kernel_rfl)))
      refine wpOp_plain rfl rfl (wp_fcall_v 20 #[.pointer (some ⟨p, 0, none⟩)] rfl rfl (by show [ac.eval (.tmp 27)] = _; rw [show ac.eval (.tmp 27) = _ from ea]) (by go_simp) ((HMV.out W hb1).mono ?_))
      rintro e W2 ⟨rfl, hB⟩
      exact ⟨_, rfl, hl2 2, ((hF.world hB).put 2 28 (SP.is (.agg (vB mv).toArray)) (.agg (vB mv).toArray) (by rw [hD]; rfl) rfl (by rw [hD]; rfl) (by rw [hsz]; decide) (by rw [hl]; decide)), hb1.trans (hB.mono hb1.size), Row.below rB hB (Row.lt rB)⟩
    · have hk3 := hk
      have e0 := (hF.done 0 (26, SP.is (.agg (vB by_).toArray)) (by rw [hD]; rfl) (ready_dep hk 0 (by kernel_rfl)))
      have e1 := (hF.done 2 (28, SP.is (.agg (vB mv).toArray)) (by rw [hD]; rfl) (ready_dep hk 2 (by kernel_rfl)))
      exact wpOp_plain rfl rfl (wp_neAd (.tmp 26) (.tmp 28) _ rfl by_ mv HLB.out HLM.out e0 e1 false HNE.out ⟨hl2 3, (hF.put 3 29 (SP.is (.bool false)) (.bool false) (by rw [hD]; rfl) rfl (by rw [hD]; rfl) (by rw [hsz]; decide) (by rw [hl]; decide)), hb1, rB⟩)
    · have hk3 := hk
      exact wpOp_plain rfl rfl (wp_assign_v (ac.eval (.tmp 29)) rfl rfl ⟨hl2 4, (hF.put 4 25 (SP.is (.bool false)) (ac.eval (.tmp 29)) (by rw [hD]; rfl) ((hF.done 3 (29, SP.is (.bool false)) (by rw [hD]; rfl) (ready_dep hk 3 (by kernel_rfl)))) (by rw [hD]; rfl) (by rw [hsz]; decide) (by rw [hl]; decide)), hb1, rB⟩)
  · clear hb1 rB 
    intro listed ac W hI hr
    obtain ⟨hl, hF, hb1, rB⟩ := hI
    have hall := all_listed (by kernel_rfl) hl hr
    have h26 : ac.eval (.tmp 26) = .agg (vB by_).toArray := hF.done 0 (26, SP.is (.agg (vB by_).toArray)) (by rw [hD]; rfl) (hall 0 (by decide))
    have h27 : ac.eval (.tmp 27) = .pointer (some ⟨p, 0, none⟩) := hF.done 1 (27, SP.is (.pointer (some ⟨p, 0, none⟩))) (by rw [hD]; rfl) (hall 1 (by decide))
    have h28 : ac.eval (.tmp 28) = .agg (vB mv).toArray := hF.done 2 (28, SP.is (.agg (vB mv).toArray)) (by rw [hD]; rfl) (hall 2 (by decide))
    have h29 : ac.eval (.tmp 29) = .bool false := hF.done 3 (29, SP.is (.bool false)) (by rw [hD]; rfl) (hall 3 (by decide))
    have h25 : ac.eval (.tmp 25) = .bool false := hF.done 4 (25, SP.is (.bool false)) (by rw [hD]; rfl) (hall 4 (by decide))
    have ea := hF.lay [(26, .agg (vB by_).toArray), (27, .pointer (some ⟨p, 0, none⟩)), (28, .agg (vB mv).toArray), (29, .bool false), (25, .bool false)] (by rw [hD, hsz]; rfl) (by simp only [List.forall_mem_cons, List.not_mem_nil, false_implies, implies_true, and_true]; exact ⟨h26, h27, h28, h29, h25⟩)
    rw [ha0] at ea
    simp only [List.foldl_cons, List.foldl_nil, List.setIfInBounds_toArray, List.set_cons_zero, List.set_cons_succ] at ea
    clear hF hall hr hl hD  zs0 zs6 ha0 hsz h26 h27 h28 h29 h25
    subst ea
    have B2 : Hid (Below w.heap.size w W) := B1.out.trans (hb1.mono B1.out.size)
    have cu := HCU.out W B2.out
    clear hb1 rB
    go_wp2_with fail
    go_ret
    exact ⟨rfl, B2.out⟩

end Go.Proofs.Ytddkmpbcjieolaa
