/-
  the inbox: Check of entries that may be, with one behind them that is refused.
-/
import Derived.Test.YtmfmdlaeflahlaaGreatDoorIbV
import Derived.Test.YtmfmdlaeflahlaaGreatDoorIbF
import Derived.Test.YtmfmdlaeflahlaaGreatDoorIbO

namespace Go.Proofs.YtmfmdlaeflahlaaGreatDoor
open Go Go.RowKit
open Sha

theorem rfE.pos {e : Ev} {t0 E : Int} (h : rfE e t0 E) : E = 150 ∨ E = 153 := by
  rcases h with ⟨_, h⟩ | ⟨_, _, h⟩
  · exact .inl h
  · exact .inr h
set_option maxRecDepth 100000 in
set_option maxHeartbeats 4000000 in
theorem numbered_no (kk : List (BitVec 8)) (e : Ev) (hw : e.Wf) (A : Option Addr) (n cap : Nat) (hn : e.d.length = n) (hnil : A = none → cap = 0) (L : List Value) (hL : L = e.cells (.slice A n cap)) (R : List Value) (t0 E : Int) (hR : Irw R t0 kk) (hE : rfE e t0 E) (N : Int) (w : World) (hK : Tab w 1) (hS : SlAt w (.slice A n cap) e.d) :
    Calls Tryz.prog 53 #[.agg R.toArray, .int .i64 N, .agg L.toArray] w fun r w' => r = .returned (.tuple #[.agg zR.toArray, .int .i64 E]) ∧ Below w.heap.size w w' := by
  have HI : Hid ((Tryz.prog.info? 46).map (·.size) = some L.length) := by rw [hL]; exact Ev.info hw _
  have HIR : Hid ((Tryz.prog.info? 97).map (·.size) = some R.length) := hR.info
  obtain ⟨z, hz⟩ : ∃ z, z = zR := ⟨_, rfl⟩
  have HZ : Hid (z = zR) := hz
  have HZI : Hid ((Tryz.prog.info? 97).map (·.size) = some z.length) := by rw [hz]; exact info_row
  have HZO : Hid (z.toArray.all (·.oneCell') = true) := by rw [hz]; exact zR_one
  have HNX : Hid (∀ X, Below w.heap.size w X → Calls Tryz.prog 44 #[.agg R.toArray, .agg L.toArray] X fun r w' => r = .returned (.tuple #[.agg z.toArray, .int .i64 E]) ∧ Below X.heap.size X w') := fun X k => by rw [hz]; exact rnext_no e hw kk A n cap hn hnil L hL R t0 E hR hE X (hK.below k hK.lt) (hS.be k)
  have hE0 : ¬ E = 0 := by rcases hE.pos with q | q <;> omega
  rw [← hz]
  clear hw hn hnil hL hK hS hR hE hz
  go_enter Tryz.func53, Tryz.ntmps53
  go_upto_region 1 with (first
    | (refine wpList_boxG 97 rfl (.tmp 0) rfl R rfl ?_; intro X1 q1 q2 q3; have R1 : Hid (Row X1 w.heap.size R 97) := q1; have B1 : Hid (Below w.heap.size w X1) := q2; clear q1 q2 q3; simp only [Act.put, List.setIfInBounds_toArray, List.set_cons_zero, List.set_cons_succ])
    | (refine wpList_boxG 46 rfl (.tmp 2) rfl L rfl ?_; intro X2 q1 q2 q3; have E2 : Hid (Row X2 X1.heap.size L 46) := q1; have B2 : Hid (Below w.heap.size w X2) := B1.out.trans (q2.mono B1.out.size); have R2 : Hid (Row X2 w.heap.size R 97) := Row.below R1.out q2 R1.out.lt; clear q1 q2 q3 R1; simp only [Act.put, List.setIfInBounds_toArray, List.set_cons_zero, List.set_cons_succ])
    | (refine wpList_allocR rfl rfl ?_; intro X3 q1 q2; have Z3 : Hid (Row X3 X2.heap.size z 97) := (by rw [HZ.out]; exact q1); have B3 : Hid (Below w.heap.size w X3) := B2.out.trans (q2.mono B2.out.size); have R3 : Hid (Row X3 w.heap.size R 97) := Row.below R2.out q2 R2.out.lt; have E3 : Hid (Row X3 X1.heap.size L 46) := Row.below E2.out q2 E2.out.lt; have N3 : Hid (w.heap.size ≤ X2.heap.size) := B2.out.size; clear q1 q2 R2 E2; simp only [Act.put, List.setIfInBounds_toArray, List.set_cons_zero, List.set_cons_succ]))
  obtain ⟨b, hb⟩ : ∃ b, b = X2.heap.size := ⟨_, rfl⟩
  obtain ⟨be, hbe⟩ : ∃ b, b = X1.heap.size := ⟨_, rfl⟩
  obtain ⟨br, hbr⟩ : ∃ b, b = w.heap.size := ⟨_, rfl⟩
  have N4 : Hid (w.heap.size ≤ b) := by show _ ≤ _; rw [hb]; exact N3.out
  rw [← hb] at Z3 ⊢
  rw [← hbe] at E3 ⊢
  rw [← hbr] at R3 ⊢
  clear hb hbe hbr B1 B2 N3
  go_upto_region 2 with (first
    | (refine wpList_load_w rfl 97 (.tmp 3) rfl br (0) rfl (R) _ R3.out.all Tryz.underlying97 rfl HIR.out ?_; simp only [Act.put, List.setIfInBounds_toArray, List.set_cons_zero, List.set_cons_succ])
    | (refine wpList_load_w rfl 46 (.tmp 5) rfl be (0) rfl (L) _ E3.out.all Tryz.underlying46 rfl HI.out ?_; simp only [Act.put, List.setIfInBounds_toArray, List.set_cons_zero, List.set_cons_succ])
    | (go_at_call 44; refine Calls.mono (HNX.out X3 B3.out) ?_; rintro e4 X4 ⟨rfl, q3⟩; have B4 : Hid (Below w.heap.size w X4) := B3.out.trans (q3.mono B3.out.size); have Z4 : Hid (Row X4 b z 97) := Row.below Z3.out q3 Z3.out.lt; clear q3)
    | (refine wpList_allocR rfl rfl ?_; intro X5 q1 q2; have D5 : Hid (Row X5 X4.heap.size z 97) := (by rw [HZ.out]; exact q1); have B5 : Hid (Below w.heap.size w X5) := B4.out.trans (q2.mono B4.out.size); have Z5 : Hid (Row X5 b z 97) := Row.below Z4.out q2 Z4.out.lt; have N5 : Hid (b < X4.heap.size) := Z4.out.lt; clear q1 q2; simp only [Act.put, List.setIfInBounds_toArray, List.set_cons_zero, List.set_cons_succ])
    | (refine wpList_storeL rfl 97 (.tmp 8) (.tmp 14) rfl X4.heap.size z z 97 rfl rfl D5.out rfl HZI.out HZO.out ?_; intro X6 q1 q2; have G6 : Hid (Gro (· = X4.heap.size) X5 X6) := (by rw [q1]; exact gro_over (Gro.refl _ _) _ 0 z rfl); clear q1 q2; simp only [Act.put]))
  have B6 : Hid (Below w.heap.size w X6) := B5.out.trans (G6.out.to_below B5.out.size (fun k ek => by rw [ek]; exact B4.out.size))
  have Z6 : Hid (Row X6 b z 97) := G6.out.row Z5.out (fun ek => by have := N5.out; omega)
  generalize X4.heap.size = bd
  clear D5 B5 Z5 B4 Z4 B3 Z3 R3 E3 G6 HNX N5 HIR HI
  go_wp2_with (first
    | (refine wpList_buildR0 rfl rfl z HZ.out ?_; simp only [Act.put, List.setIfInBounds_toArray, List.set_cons_zero, List.set_cons_succ])
    | (refine wpList_storeL rfl 97 (.tmp 6) (.tmp 19) rfl b z z 97 rfl rfl Z6.out rfl HZI.out HZO.out ?_; intro X7 q1 q2; have B7 : Hid (Below w.heap.size w X7) := (by rw [q1]; exact below_setCells B6.out N4.out _); have R7 : Hid (Row X7 b z 97) := q2; clear q1 q2; simp only [Act.put]))
  exact bodyPost_ret (results_rowS_tmp Tryz.results53 _ _ b 97 z (.int .i64 E) rfl rfl R7.out Tryz.underlying97 HZI.out) rfl ⟨rfl, B7.out⟩
set_option maxRecDepth 100000 in
set_option maxHeartbeats 4000000 in
theorem add_no (w0 : World) (p : Nat) (v : Value) (es : List Ev) (hes : es.length ≤ 1000000) (e : Ev) (hw : e.Wf) (A : Option Addr) (n cap : Nat) (hn : e.d.length = n) (hnil : A = none → cap = 0) (L : List Value) (hL : L = e.cells (.slice A n cap)) (E : Int) (hE : rfE e (ltm es es.length) E) (w : World) (hb : Bx w0 w p v es) (hK : Tab w 1) (hS : SlAt w (.slice A n cap) e.d) :
    Calls Tryz.prog 33 #[.pointer (some ⟨p, 0, none⟩), .agg L.toArray] w fun r w' => r = .returned (.tuple #[.int .i64 0, .int .i64 E]) ∧ Below w.heap.size w w' := by
  obtain ⟨Av, cv, hv⟩ := hb.form
  subst hv
  obtain ⟨N, hN⟩ : ∃ N, N = es.length := ⟨_, rfl⟩
  have HI : Hid ((Tryz.prog.info? 46).map (·.size) = some L.length) := by rw [hL]; exact Ev.info hw _
  obtain ⟨z, hz⟩ : ∃ z, z = zR := ⟨_, rfl⟩
  have HZI : Hid ((Tryz.prog.info? 97).map (·.size) = some z.toArray.size) := by rw [hz]; exact info_row
  have HZO : Hid (z.toArray.all (·.oneCell') = true) := by rw [hz]; exact zR_one
  have HZL : Hid (z.length = zR.length) := by rw [hz]; exact rfl
  obtain ⟨R, hR, hRo, hRc⟩ := last_any hb es.length (Nat.le_refl _) hes
  have HLA0 : Hid (∀ X, Below w.heap.size w X → Calls Tryz.prog 49 #[.pointer (some ⟨p, 0, none⟩), .int .i64 (N : Int)] X fun r w' => r = .returned (.agg R.toArray) ∧ Below X.heap.size X w') := by rw [hN]; exact hRc
  have HNU0 : Hid (∀ X, Below w.heap.size w X → Calls Tryz.prog 53 #[.agg R.toArray, .int .i64 (N : Int), .agg L.toArray] X fun r w' => r = .returned (.tuple #[.agg z.toArray, .int .i64 E]) ∧ Below X.heap.size X w') := fun X k => by rw [hz]; exact numbered_no _ e hw A n cap hn hnil L hL R _ E hR hE N X (hK.below k hK.lt) (hS.be k)
  have hE0 : ¬ E = 0 := by rcases hE.pos with q | q <;> omega
  have HB : Hid (Bx w0 w p (.slice Av N cv) es) := by rw [hN]; exact hb
  have hNM : N ≤ 1000000 := by omega
  clear hN hw hn hnil hL hb hK hS hR hRo hRc hE hes hz
  have c0 := HB.out.row.cell 0 _ rfl
  go_enter Tryz.func33, Tryz.ntmps33
  go_upto_region 1 with (refine wpList_boxG 46 rfl (.tmp 1) rfl L rfl ?_; intro V q1 q2 q3; have R1 : Hid (Row V w.heap.size L 46) := q1; have B1 : Hid (Below w.heap.size w V) := q2; clear q1 q2 q3; simp only [Act.put, List.setIfInBounds_toArray, List.set_cons_zero, List.set_cons_succ])
  obtain ⟨be, hbe⟩ : ∃ b, b = w.heap.size := ⟨_, rfl⟩
  rw [← hbe] at R1 ⊢
  clear hbe c0
  have B2 : Hid (Bx w0 V p (.slice Av N cv) es) := HB.out.keep B1.out
  have c1 := B2.out.row.cell 0 _ rfl
  go_upto_region 4 with fail
  have HLA : Hid (∀ X, Below V.heap.size V X → Calls Tryz.prog 49 #[.pointer (some ⟨p, 0, none⟩), .int .i64 (N : Int)] X fun r w' => r = .returned (.agg R.toArray) ∧ Below X.heap.size X w') := fun X k => HLA0.out X (B1.out.trans (k.mono B1.out.size))
  have HNU : Hid (∀ X, Below V.heap.size V X → Calls Tryz.prog 53 #[.agg R.toArray, .int .i64 (N : Int), .agg L.toArray] X fun r w' => r = .returned (.tuple #[.agg z.toArray, .int .i64 E]) ∧ Below X.heap.size X w') := fun X k => HNU0.out X (B1.out.trans (k.mono B1.out.size))
  have hb1 := Below.refl V.heap.size V
  have rL := R1.out
  have hbeV := rL.lt
  clear R1 HLA0 HNU0 c1
  refine wp_named fun a0 ha0 => ?_
  have hsz : a0.tmps.size = 39 := by rw [ha0]; rfl
  have zs0 : a0.eval (.tmp 0) = .pointer (some ⟨p, 0, none⟩) := by rw [ha0]; rfl
  have zs3 : a0.eval (.tmp 3) = .pointer (some ⟨be, 0, none⟩) := by rw [ha0]; rfl
  have zs6 : a0.eval (.tmp 6) = .int .i64 (N : Int) := by rw [ha0]; rfl
  obtain ⟨D, hD⟩ : ∃ D : List (Tmp × SP), D = [(17, SP.is (.pointer (some ⟨p, 0, none⟩))), (18, SP.is (.int .i64 (N : Int))), (19, SP.is (.agg R.toArray)), (20, SP.is (.int .i64 (N : Int))), (21, SP.is (.agg L.toArray)), (22, SP.is (.tuple #[.agg z.toArray, .int .i64 E])), (16, SP.is (.tuple #[.agg z.toArray, .int .i64 E])), (23, SP.is (.agg z.toArray)), (24, SP.is (.int .i64 E)), (7, SP.any), (1000, SP.any), (8, SP.is (.int .i64 E))] := ⟨_, rfl⟩
  refine wp_region_down (by kernel_rfl) (fun listed ac W => ∃ (N7 : Nat), listed.size = 12 ∧ Fp D a0 listed ac W ∧ Below V.heap.size V W ∧ Row W be L 46 ∧ (listed.getD 9 false = true → ¬ listed.getD 10 false = true → ac.eval (.tmp 7) = .pointer (some ⟨N7, 0, none⟩) ∧ V.heap.size - 1 < N7 ∧ Row W N7 zR 97) ∧ (listed.getD 10 false = true → ac.eval (.tmp 7) = .pointer (some ⟨N7, 0, none⟩) ∧ V.heap.size - 1 < N7 ∧ Row W N7 z 97)) ?_ ?_ ?_
  · exact ⟨0, by simp, Fp.start D a0 _ _, Below.drew hb1, Row.drew rL, (fun h _ => (start_no h).elim), (fun h => (start_no h).elim)⟩
  · clear ha0 hb1 rL 
    intro listed ac W k hI hdn hk
    obtain ⟨N7, hl, hF, hb1, rL, ax9, ay9⟩ := hI
    have hk1 : k < 12 := List.mem_range.1 (List.mem_filter.1 hk).1
    have hl2 : ∀ j, (listed.setIfInBounds j true).size = 12 := fun j => by rw [Array.size_setIfInBounds]; exact hl
    rcases (show k = 0 ∨ k = 1 ∨ k = 2 ∨ k = 3 ∨ k = 4 ∨ k = 5 ∨ k = 6 ∨ k = 7 ∨ k = 8 ∨ k = 9 ∨ k = 10 ∨ k = 11 by omega) with rfl | rfl | rfl | rfl | rfl | rfl | rfl | rfl | rfl | rfl | rfl | rfl
    · have hk3 := hk
      have hnsx : ¬ listed.getD 10 false = true := fun h => not_yet hk (hdn 10 h 0 (by kernel_rfl))
      exact wpOp_plain rfl rfl (wp_move_v (ac.eval (.tmp 0)) rfl rfl ⟨N7, hl2 0, (hF.put 0 17 (SP.is (.pointer (some ⟨p, 0, none⟩))) (ac.eval (.tmp 0)) (by rw [hD]; rfl) (((hF.keep 0 (by rw [hD]; rfl)).trans zs0)) (by rw [hD]; rfl) (by rw [hsz]; decide) (by rw [hl]; decide)), hb1, rL, (fun h1 h2 => ⟨(eval_put_other ac _ (by decide)).trans ((ax9 (by rwa [getD_set _ _ _ (by decide)] at h1) (by rwa [getD_set _ _ _ (by decide)] at h2)).1), (ax9 (by rwa [getD_set _ _ _ (by decide)] at h1) (by rwa [getD_set _ _ _ (by decide)] at h2)).2.1, (ax9 (by rwa [getD_set _ _ _ (by decide)] at h1) (by rwa [getD_set _ _ _ (by decide)] at h2)).2.2⟩), (fun h => absurd (by rwa [getD_set _ _ _ (by decide)] at h) hnsx)⟩)
    · have hk3 := hk
      have hnsx : ¬ listed.getD 10 false = true := fun h => not_yet hk (hdn 10 h 1 (by kernel_rfl))
      exact wpOp_plain rfl rfl (wp_move_v (ac.eval (.tmp 6)) rfl rfl ⟨N7, hl2 1, (hF.put 1 18 (SP.is (.int .i64 (N : Int))) (ac.eval (.tmp 6)) (by rw [hD]; rfl) (((hF.keep 6 (by rw [hD]; rfl)).trans zs6)) (by rw [hD]; rfl) (by rw [hsz]; decide) (by rw [hl]; decide)), hb1, rL, (fun h1 h2 => ⟨(eval_put_other ac _ (by decide)).trans ((ax9 (by rwa [getD_set _ _ _ (by decide)] at h1) (by rwa [getD_set _ _ _ (by decide)] at h2)).1), (ax9 (by rwa [getD_set _ _ _ (by decide)] at h1) (by rwa [getD_set _ _ _ (by decide)] at h2)).2.1, (ax9 (by rwa [getD_set _ _ _ (by decide)] at h1) (by rwa [getD_set _ _ _ (by decide)] at h2)).2.2⟩), (fun h => absurd (by rwa [getD_set _ _ _ (by decide)] at h) hnsx)⟩)
    · have hk3 := hk
      have hnsx : ¬ listed.getD 10 false = true := fun h => not_yet hk (hdn 10 h 2 (by kernel_rfl))
      have ea := (hF.done 0 (17, SP.is (.pointer (some ⟨p, 0, none⟩))) (by rw [hD]; rfl) (ready_dep hk 0 (by kernel_rfl)))
      have eb := (hF.done 1 (18, SP.is (.int .i64 (N : Int))) (by rw [hD]; rfl) (ready_dep hk 1 (by kernel_rfl)))
      refine wpOp_plain rfl rfl (wp_fcall_v 49 #[.pointer (some ⟨p, 0, none⟩), .int .i64 (N : Int)] rfl rfl (by show [ac.eval (.tmp 17), ac.eval (.tmp 18)] = _; rw [show ac.eval (.tmp 17) = _ from ea, show ac.eval (.tmp 18) = _ from eb]) (by go_simp) ((HLA.out W hb1).mono ?_))
      rintro e W2 ⟨rfl, hB⟩
      exact ⟨_, rfl, N7, hl2 2, ((hF.world hB).put 2 19 (SP.is (.agg R.toArray)) (.agg R.toArray) (by rw [hD]; rfl) rfl (by rw [hD]; rfl) (by rw [hsz]; decide) (by rw [hl]; decide)), hb1.trans (hB.mono hb1.size), Row.below rL hB (Row.lt rL), (fun h1 h2 => ⟨(eval_put_other ac _ (by decide)).trans ((ax9 (by rwa [getD_set _ _ _ (by decide)] at h1) (by rwa [getD_set _ _ _ (by decide)] at h2)).1), (ax9 (by rwa [getD_set _ _ _ (by decide)] at h1) (by rwa [getD_set _ _ _ (by decide)] at h2)).2.1, Row.below (ax9 (by rwa [getD_set _ _ _ (by decide)] at h1) (by rwa [getD_set _ _ _ (by decide)] at h2)).2.2 hB (Row.lt (ax9 (by rwa [getD_set _ _ _ (by decide)] at h1) (by rwa [getD_set _ _ _ (by decide)] at h2)).2.2)⟩), (fun h => absurd (by rwa [getD_set _ _ _ (by decide)] at h) hnsx)⟩
    · have hk3 := hk
      have hnsx : ¬ listed.getD 10 false = true := fun h => not_yet hk (hdn 10 h 3 (by kernel_rfl))
      exact wpOp_plain rfl rfl (wp_move_v (ac.eval (.tmp 6)) rfl rfl ⟨N7, hl2 3, (hF.put 3 20 (SP.is (.int .i64 (N : Int))) (ac.eval (.tmp 6)) (by rw [hD]; rfl) (((hF.keep 6 (by rw [hD]; rfl)).trans zs6)) (by rw [hD]; rfl) (by rw [hsz]; decide) (by rw [hl]; decide)), hb1, rL, (fun h1 h2 => ⟨(eval_put_other ac _ (by decide)).trans ((ax9 (by rwa [getD_set _ _ _ (by decide)] at h1) (by rwa [getD_set _ _ _ (by decide)] at h2)).1), (ax9 (by rwa [getD_set _ _ _ (by decide)] at h1) (by rwa [getD_set _ _ _ (by decide)] at h2)).2.1, (ax9 (by rwa [getD_set _ _ _ (by decide)] at h1) (by rwa [getD_set _ _ _ (by decide)] at h2)).2.2⟩), (fun h => absurd (by rwa [getD_set _ _ _ (by decide)] at h) hnsx)⟩)
    · have hk3 := hk
      have hnsx : ¬ listed.getD 10 false = true := fun h => not_yet hk (hdn 10 h 4 (by kernel_rfl))
      exact wpOp_plain rfl rfl (wp_load_mid 46 (.tmp 3) rfl be 0 ((hF.keep 3 (by rw [hD]; rfl)).trans zs3) L _ rL.all Tryz.underlying46 rfl HI.out ⟨N7, hl2 4, (hF.put 4 21 (SP.is (.agg L.toArray)) (.agg L.toArray) (by rw [hD]; rfl) rfl (by rw [hD]; rfl) (by rw [hsz]; decide) (by rw [hl]; decide)), hb1, rL, (fun h1 h2 => ⟨(eval_put_other ac _ (by decide)).trans ((ax9 (by rwa [getD_set _ _ _ (by decide)] at h1) (by rwa [getD_set _ _ _ (by decide)] at h2)).1), (ax9 (by rwa [getD_set _ _ _ (by decide)] at h1) (by rwa [getD_set _ _ _ (by decide)] at h2)).2.1, (ax9 (by rwa [getD_set _ _ _ (by decide)] at h1) (by rwa [getD_set _ _ _ (by decide)] at h2)).2.2⟩), (fun h => absurd (by rwa [getD_set _ _ _ (by decide)] at h) hnsx)⟩)
    · have hk3 := hk
      have hnsx : ¬ listed.getD 10 false = true := fun h => not_yet hk (hdn 10 h 5 (by kernel_rfl))
      have ea := (hF.done 2 (19, SP.is (.agg R.toArray)) (by rw [hD]; rfl) (ready_dep hk 2 (by kernel_rfl)))
      have eb := (hF.done 3 (20, SP.is (.int .i64 (N : Int))) (by rw [hD]; rfl) (ready_dep hk 3 (by kernel_rfl)))
      have ec := (hF.done 4 (21, SP.is (.agg L.toArray)) (by rw [hD]; rfl) (ready_dep hk 4 (by kernel_rfl)))
      refine wpOp_plain rfl rfl (wp_fcall_v 53 #[.agg R.toArray, .int .i64 (N : Int), .agg L.toArray] rfl rfl (by show [ac.eval (.tmp 19), ac.eval (.tmp 20), ac.eval (.tmp 21)] = _; rw [show ac.eval (.tmp 19) = _ from ea, show ac.eval (.tmp 20) = _ from eb, show ac.eval (.tmp 21) = _ from ec]) (by go_simp) ((HNU.out W hb1).mono ?_))
      rintro e W2 ⟨rfl, hB⟩
      exact ⟨_, rfl, N7, hl2 5, ((hF.world hB).put 5 22 (SP.is (.tuple #[.agg z.toArray, .int .i64 E])) (.tuple #[.agg z.toArray, .int .i64 E]) (by rw [hD]; rfl) rfl (by rw [hD]; rfl) (by rw [hsz]; decide) (by rw [hl]; decide)), hb1.trans (hB.mono hb1.size), Row.below rL hB (Row.lt rL), (fun h1 h2 => ⟨(eval_put_other ac _ (by decide)).trans ((ax9 (by rwa [getD_set _ _ _ (by decide)] at h1) (by rwa [getD_set _ _ _ (by decide)] at h2)).1), (ax9 (by rwa [getD_set _ _ _ (by decide)] at h1) (by rwa [getD_set _ _ _ (by decide)] at h2)).2.1, Row.below (ax9 (by rwa [getD_set _ _ _ (by decide)] at h1) (by rwa [getD_set _ _ _ (by decide)] at h2)).2.2 hB (Row.lt (ax9 (by rwa [getD_set _ _ _ (by decide)] at h1) (by rwa [getD_set _ _ _ (by decide)] at h2)).2.2)⟩), (fun h => absurd (by rwa [getD_set _ _ _ (by decide)] at h) hnsx)⟩
    · have hk3 := hk
      have hnsx : ¬ listed.getD 10 false = true := fun h => not_yet hk (hdn 10 h 6 (by kernel_rfl))
      exact wpOp_plain rfl rfl (wp_move_v (ac.eval (.tmp 22)) rfl rfl ⟨N7, hl2 6, (hF.put 6 16 (SP.is (.tuple #[.agg z.toArray, .int .i64 E])) (ac.eval (.tmp 22)) (by rw [hD]; rfl) ((hF.done 5 (22, SP.is (.tuple #[.agg z.toArray, .int .i64 E])) (by rw [hD]; rfl) (ready_dep hk 5 (by kernel_rfl)))) (by rw [hD]; rfl) (by rw [hsz]; decide) (by rw [hl]; decide)), hb1, rL, (fun h1 h2 => ⟨(eval_put_other ac _ (by decide)).trans ((ax9 (by rwa [getD_set _ _ _ (by decide)] at h1) (by rwa [getD_set _ _ _ (by decide)] at h2)).1), (ax9 (by rwa [getD_set _ _ _ (by decide)] at h1) (by rwa [getD_set _ _ _ (by decide)] at h2)).2.1, (ax9 (by rwa [getD_set _ _ _ (by decide)] at h1) (by rwa [getD_set _ _ _ (by decide)] at h2)).2.2⟩), (fun h => absurd (by rwa [getD_set _ _ _ (by decide)] at h) hnsx)⟩)
    · have hk3 := hk
      have hnsx : ¬ listed.getD 10 false = true := fun h => not_yet hk (hdn 10 h 7 (by kernel_rfl))
      exact wpOp_plain rfl rfl (wp_extract (.tmp 16) 0 rfl _ (hF.done 6 (16, SP.is (.tuple #[.agg z.toArray, .int .i64 E])) (by rw [hD]; rfl) (ready_dep hk 6 (by kernel_rfl))) (.agg z.toArray) rfl ⟨N7, hl2 7, (hF.put 7 23 (SP.is (.agg z.toArray)) (.agg z.toArray) (by rw [hD]; rfl) rfl (by rw [hD]; rfl) (by rw [hsz]; decide) (by rw [hl]; decide)), hb1, rL, (fun h1 h2 => ⟨(eval_put_other ac _ (by decide)).trans ((ax9 (by rwa [getD_set _ _ _ (by decide)] at h1) (by rwa [getD_set _ _ _ (by decide)] at h2)).1), (ax9 (by rwa [getD_set _ _ _ (by decide)] at h1) (by rwa [getD_set _ _ _ (by decide)] at h2)).2.1, (ax9 (by rwa [getD_set _ _ _ (by decide)] at h1) (by rwa [getD_set _ _ _ (by decide)] at h2)).2.2⟩), (fun h => absurd (by rwa [getD_set _ _ _ (by decide)] at h) hnsx)⟩)
    · have hk3 := hk
      exact wpOp_plain rfl rfl (wp_extract (.tmp 16) 1 rfl _ (hF.done 6 (16, SP.is (.tuple #[.agg z.toArray, .int .i64 E])) (by rw [hD]; rfl) (ready_dep hk 6 (by kernel_rfl))) (.int .i64 E) rfl ⟨N7, hl2 8, (hF.put 8 24 (SP.is (.int .i64 E)) (.int .i64 E) (by rw [hD]; rfl) rfl (by rw [hD]; rfl) (by rw [hsz]; decide) (by rw [hl]; decide)), hb1, rL, (fun h1 h2 => ⟨(eval_put_other ac _ (by decide)).trans ((ax9 (by rwa [getD_set _ _ _ (by decide)] at h1) (by rwa [getD_set _ _ _ (by decide)] at h2)).1), (ax9 (by rwa [getD_set _ _ _ (by decide)] at h1) (by rwa [getD_set _ _ _ (by decide)] at h2)).2.1, (ax9 (by rwa [getD_set _ _ _ (by decide)] at h1) (by rwa [getD_set _ _ _ (by decide)] at h2)).2.2⟩), (fun h => ⟨(eval_put_other ac _ (by decide)).trans ((ay9 (by rwa [getD_set _ _ _ (by decide)] at h)).1), (ay9 (by rwa [getD_set _ _ _ (by decide)] at h)).2⟩)⟩)
    · have hk3 := hk
      have hnsx : ¬ listed.getD 10 false = true := fun h => not_yet hk (hdn 10 h 9 (by kernel_rfl))
      have hsm : V.heap.size - 1 < W.heap.size := (by have := hb1.size; have := Row.lt rL; omega)
      have hB : Below W.heap.size W (W.alloc (.cells zR.toArray 97)) := (Below.refl _ _).alloc (Nat.le_refl _) _
      exact wpOp_plain rfl rfl (wp_allocRw rfl ⟨W.heap.size, hl2 9, ((hF.world hB).put 9 7 (SP.any) (.pointer (some ⟨W.heap.size, 0, none⟩)) (by rw [hD]; rfl) trivial (by rw [hD]; rfl) (by rw [hsz]; decide) (by rw [hl]; decide)), hb1.alloc hb1.size _, Row.alloc rL _, (fun _ _ => ⟨eval_put_same ac _ (by rw [hF.size, hsz]; decide), hsm, Row.new' rfl rfl⟩), (fun h => absurd (by rwa [getD_set _ _ _ (by decide)] at h) hnsx)⟩)
    · have hk3 := hk
      have e9 := (hF.done 7 (23, SP.is (.agg z.toArray)) (by rw [hD]; rfl) (ready_dep hk 7 (by kernel_rfl)))
      have hal := ready_dep hk 9 (by kernel_rfl)
      obtain ⟨e1, m1, y2⟩ := ax9 hal (not_yet hk)
      have T := y2.there 0 z.toArray.size (by rw [List.size_toArray, HZL.out]; decide)
      have hT : Fp D a0 listed ac (W.setCells N7 0 z) := hF.turn (by rw [hD]; simp only [List.forall_mem_cons, List.not_mem_nil, false_implies, implies_true, and_true]; exact ⟨fun _ h => h, fun _ h => h, fun _ h => h, fun _ h => h, fun _ h => h, fun _ h => h, fun _ h => h, fun _ h => h, fun _ h => h, fun _ h => h, fun _ h => h, fun _ h => h⟩)
      exact wpOp_plain rfl rfl (wp_store_mid 97 (.tmp 7) (.tmp 23) rfl N7 0 z.toArray e1 e9 T HZI.out HZO.out ⟨N7, hl2 10, (hT.skip 10 1000 (by rw [hD]; rfl) (by rw [hl]; decide)), below_setCells hb1 (by omega) _, Row.setCells_other rL _ _ _ (by omega), (fun _ h => absurd (getD_same (by rw [hl]; decide)) h), (fun _ => ⟨e1, m1, y2.over HZL.out⟩)⟩)
    · have hk3 := hk
      exact wpOp_plain rfl rfl (wp_assign_v (ac.eval (.tmp 24)) rfl rfl ⟨N7, hl2 11, (hF.put 11 8 (SP.is (.int .i64 E)) (ac.eval (.tmp 24)) (by rw [hD]; rfl) ((hF.done 8 (24, SP.is (.int .i64 E)) (by rw [hD]; rfl) (ready_dep hk 8 (by kernel_rfl)))) (by rw [hD]; rfl) (by rw [hsz]; decide) (by rw [hl]; decide)), hb1, rL, (fun h1 h2 => ⟨(eval_put_other ac _ (by decide)).trans ((ax9 (by rwa [getD_set _ _ _ (by decide)] at h1) (by rwa [getD_set _ _ _ (by decide)] at h2)).1), (ax9 (by rwa [getD_set _ _ _ (by decide)] at h1) (by rwa [getD_set _ _ _ (by decide)] at h2)).2.1, (ax9 (by rwa [getD_set _ _ _ (by decide)] at h1) (by rwa [getD_set _ _ _ (by decide)] at h2)).2.2⟩), (fun h => ⟨(eval_put_other ac _ (by decide)).trans ((ay9 (by rwa [getD_set _ _ _ (by decide)] at h)).1), (ay9 (by rwa [getD_set _ _ _ (by decide)] at h)).2⟩)⟩)
  · clear hb1 rL 
    intro listed ac W hI hr
    obtain ⟨N7, hl, hF, hb1, rL, ax9, ay9⟩ := hI
    have hall := all_listed (by kernel_rfl) hl hr
    obtain ⟨ea7, m7, p7⟩ := ay9 (hall 10 (by decide))
    have h17 : ac.eval (.tmp 17) = .pointer (some ⟨p, 0, none⟩) := hF.done 0 (17, SP.is (.pointer (some ⟨p, 0, none⟩))) (by rw [hD]; rfl) (hall 0 (by decide))
    have h18 : ac.eval (.tmp 18) = .int .i64 (N : Int) := hF.done 1 (18, SP.is (.int .i64 (N : Int))) (by rw [hD]; rfl) (hall 1 (by decide))
    have h19 : ac.eval (.tmp 19) = .agg R.toArray := hF.done 2 (19, SP.is (.agg R.toArray)) (by rw [hD]; rfl) (hall 2 (by decide))
    have h20 : ac.eval (.tmp 20) = .int .i64 (N : Int) := hF.done 3 (20, SP.is (.int .i64 (N : Int))) (by rw [hD]; rfl) (hall 3 (by decide))
    have h21 : ac.eval (.tmp 21) = .agg L.toArray := hF.done 4 (21, SP.is (.agg L.toArray)) (by rw [hD]; rfl) (hall 4 (by decide))
    have h22 : ac.eval (.tmp 22) = .tuple #[.agg z.toArray, .int .i64 E] := hF.done 5 (22, SP.is (.tuple #[.agg z.toArray, .int .i64 E])) (by rw [hD]; rfl) (hall 5 (by decide))
    have h16 : ac.eval (.tmp 16) = .tuple #[.agg z.toArray, .int .i64 E] := hF.done 6 (16, SP.is (.tuple #[.agg z.toArray, .int .i64 E])) (by rw [hD]; rfl) (hall 6 (by decide))
    have h23 : ac.eval (.tmp 23) = .agg z.toArray := hF.done 7 (23, SP.is (.agg z.toArray)) (by rw [hD]; rfl) (hall 7 (by decide))
    have h24 : ac.eval (.tmp 24) = .int .i64 E := hF.done 8 (24, SP.is (.int .i64 E)) (by rw [hD]; rfl) (hall 8 (by decide))
    have h8 : ac.eval (.tmp 8) = .int .i64 E := hF.done 11 (8, SP.is (.int .i64 E)) (by rw [hD]; rfl) (hall 11 (by decide))
    have ea := hF.lay [(17, .pointer (some ⟨p, 0, none⟩)), (18, .int .i64 (N : Int)), (19, .agg R.toArray), (20, .int .i64 (N : Int)), (21, .agg L.toArray), (22, .tuple #[.agg z.toArray, .int .i64 E]), (16, .tuple #[.agg z.toArray, .int .i64 E]), (23, .agg z.toArray), (24, .int .i64 E), (7, .pointer (some ⟨N7, 0, none⟩)), (8, .int .i64 E)] (by rw [hD, hsz]; rfl) (by simp only [List.forall_mem_cons, List.not_mem_nil, false_implies, implies_true, and_true]; exact ⟨h17, h18, h19, h20, h21, h22, h16, h23, h24, ea7, h8⟩)
    rw [ha0] at ea
    simp only [List.foldl_cons, List.foldl_nil, List.setIfInBounds_toArray, List.set_cons_zero, List.set_cons_succ] at ea
    clear hF hall hr hl hD ax9 ay9 zs0 zs3 zs6 ha0 hsz h17 h18 h19 h20 h21 h22 h16 h23 h24 ea7 h8
    subst ea
    have BQ : Hid (Below w.heap.size w W) := B1.out.trans (hb1.mono B1.out.size)
    clear hbeV rL hb1 B1 B2 HLA HNU HB
    go_wp2
    go_ret2
    exact ⟨rfl, BQ.out⟩
theorem built_ez : Tryz.prog.built 46 [] = some zE.toArray := by kernel_rfl
theorem wpList_buildEz {ops : Array Oper} {rest : List Oper} {op : Oper} {a : Act} {w : World} {Q : Exit → Act → World → Prop} (hw : Region.wanted op (yielded ops a.tmps) = true) (ho : op.op = .build 46 #[]) (R : List Value) (hR : R = zE) (h : wpList Tryz.prog ops Q rest (a.put op.dst (.agg R.toArray)) w) : wpList Tryz.prog ops Q (op :: rest) a w :=
  BigFrame.wpList_want hw fun _ hK => by
    subst hR
    have hr := run_build (P := Tryz.prog) w 46 #[] _ built_ez
    unfold Oper.wp execOp
    simp only [ho, List.map_toArray, List.map_nil, Sem.run_bind, hr, Result.andThen_ok, Sem.run_pure, Oper.upon_value]
    exact hK _ _ h
set_option maxRecDepth 100000 in
set_option maxHeartbeats 4000000 in
theorem entry_no {w0 w : World} {p : Nat} {v : Value} {es : List Ev} (h : Bx w0 w p v es) (hn : es.length ≤ 1000000) (i : Int) (hi : i < 0 ∨ (es.length : Int) ≤ i) :
    Calls Tryz.prog 34 #[.pointer (some ⟨p, 0, none⟩), .int .i64 i] w fun r w' => r = .returned (.tuple #[.agg zE.toArray, .int .i64 151]) ∧ Below w.heap.size w w' := by
  obtain ⟨A, cap, hv⟩ := h.form
  obtain ⟨N, hN⟩ : ∃ N, N = es.length := ⟨_, rfl⟩
  have HC : Hid (∀ X, Below w.heap.size w X → X.cell? ⟨p, 0, none⟩ = some (.slice A N cap)) := fun X k => by have := (h.keep k).row.cell 0 _ rfl; rw [hv] at this; rw [hN]; exact this
  obtain ⟨z, hz⟩ : ∃ z, z = zE := ⟨_, rfl⟩
  have HZ : Hid (z = zE) := hz
  have HZI : Hid ((Tryz.prog.info? 46).map (·.size) = some z.length) := by rw [hz]; exact info_ent
  have HZO : Hid (z.toArray.all (·.oneCell') = true) := by rw [hz]; exact all_oneCell_toArray zE_one
  have h2 : N ≤ 1000000 := by omega
  rw [← hN] at hi
  rw [← hz]
  clear h hv hN hn hz
  go_enter Tryz.func34, Tryz.ntmps34
  go_upto_region 1 with (refine wpList_allocE rfl rfl ?_; intro X3 q1 q2; have Z3 : Hid (Row X3 w.heap.size z 46) := (by rw [HZ.out]; exact q1); have B3 : Hid (Below w.heap.size w X3) := q2; clear q1 q2; simp only [Act.put, List.setIfInBounds_toArray, List.set_cons_zero, List.set_cons_succ])
  have c0 := HC.out X3 B3.out
  obtain ⟨b, hb⟩ : ∃ b, b = w.heap.size := ⟨_, rfl⟩
  have NB : Hid (w.heap.size ≤ b) := by rw [hb]; exact Nat.le_refl _
  rw [← hb] at Z3 ⊢
  clear hb HC
  by_cases h0 : i < 0
  · clear hi
    go_wp2_with (first
      | (refine wpList_buildEz rfl rfl z HZ.out ?_; simp only [Act.put, List.setIfInBounds_toArray, List.set_cons_zero, List.set_cons_succ])
      | (refine wpList_storeL rfl 46 (.tmp 4) (.tmp 22) rfl b z z 46 rfl rfl Z3.out rfl HZI.out HZO.out ?_; intro X7 q1 q2; have B7 : Hid (Below w.heap.size w X7) := (by rw [q1]; exact below_setCells B3.out NB.out _); have R7 : Hid (Row X7 b z 46) := q2; clear q1 q2; simp only [Act.put]))
    exact bodyPost_ret (results_rowS_tmp Tryz.results34 _ _ b 46 z (.int .i64 151) rfl rfl R7.out Tryz.underlying46 HZI.out) rfl ⟨rfl, B7.out⟩
  · have h1 : (N : Int) ≤ i := by omega
    clear hi
    go_wp2_with (first
      | (refine wpList_buildEz rfl rfl z HZ.out ?_; simp only [Act.put, List.setIfInBounds_toArray, List.set_cons_zero, List.set_cons_succ])
      | (refine wpList_storeL rfl 46 (.tmp 4) (.tmp 22) rfl b z z 46 rfl rfl Z3.out rfl HZI.out HZO.out ?_; intro X7 q1 q2; have B7 : Hid (Below w.heap.size w X7) := (by rw [q1]; exact below_setCells B3.out NB.out _); have R7 : Hid (Row X7 b z 46) := q2; clear q1 q2; simp only [Act.put]))
    exact bodyPost_ret (results_rowS_tmp Tryz.results34 _ _ b 46 z (.int .i64 151) rfl rfl R7.out Tryz.underlying46 HZI.out) rfl ⟨rfl, B7.out⟩

end Go.Proofs.YtmfmdlaeflahlaaGreatDoor

namespace Go.Proofs.YtmfmdlaeflahlaaGreatDoor
open Go Go.RowKit
open Sha

set_option maxRecDepth 100000 in
set_option maxHeartbeats 8000000 in
theorem check_no (es : List Ev) (ho : Okr es) (A0 : Option Addr) (N c0 : Nat) (M : Nat) (hM : M = es.length) (hN : N = M + 1) (hNb : N ≤ 100000) (kk tt : List (BitVec 8)) (hk : kk.length = 32) (htt : tt.length = 32) (w : World) (hT : Tab w 1) (el : Ev) (hwl : el.Wf) (h0 : EsAt w A0 (es ++ [el])) (E : Int) (hE : rfE el (ltm es es.length) E) :
    Calls Tryz.prog 17 #[.agg (vB kk).toArray, .agg (vB tt).toArray, .slice A0 N c0] w fun r w' => r = .returned (.int .i64 E) ∧ Below w.heap.size w w' := by
  have HO : Hid (Okr es) := ho
  have HN : Hid (M = es.length) := hM
  have HNM : Hid (N = M + 1) := hN
  have HWL : Hid el.Wf := hwl
  have HT : Hid (∀ X, Below w.heap.size w X → Tab X 1) := fun X k => hT.below k hT.lt
  have HES : Hid (EsAt w A0 (es ++ [el])) := h0
  have HKK : Hid (kk.length = 32) := hk
  have HTT : Hid (tt.length = 32) := htt
  have HEE : Hid (rfE el (ltm es es.length) E) := hE
  obtain ⟨MK, hMK⟩ : ∃ M, M = vB kk := ⟨_, rfl⟩
  obtain ⟨MT, hMT⟩ : ∃ M, M = vB tt := ⟨_, rfl⟩
  have HMK : Hid (MK = vB kk) := hMK
  have HMT : Hid (MT = vB tt) := hMT
  have HIK : Hid ((Tryz.prog.info? 51).map (·.size) = some (vB kk).length) := by show _ = _; rw [vB_length, hk]; exact info_dg
  have HIT : Hid ((Tryz.prog.info? 51).map (·.size) = some (vB tt).length) := by show _ = _; rw [vB_length, htt]; exact info_dg
  obtain ⟨R0, hR0⟩ : ∃ R, R = zE ++ vB kk := ⟨_, rfl⟩
  have HR0 : Hid (R0 = zE ++ vB kk) := hR0
  have HL0 : Hid (R0.length = zR.length) := by show _ = _; rw [hR0, rw_len _ _ (by decide) hk]; rfl
  have HI0 : Hid ((Tryz.prog.info? 97).map (·.size) = some R0.length) := by show _ = _; rw [HL0.out]; exact info_row
  have HO0 : Hid (R0.toArray.all (·.oneCell') = true) := by rw [hR0]; exact rw_one _ _ zE_one
  rw [← hMK, ← hMT]
  clear ho hN hM hwl hT h0 hk htt hE hMK hMT hR0
  go_enter Tryz.func17, Tryz.ntmps17
  go_upto_region 1 with (first
    | (refine wpList_boxG 51 rfl (.tmp 0) rfl MK rfl ?_; intro X1 q1 q2 q3; have D1 : Hid (Row X1 w.heap.size (vB kk) 51) := (by rw [← HMK.out]; exact q1); have B1 : Hid (Below w.heap.size w X1) := q2; clear q1 q2 q3; simp only [Act.put, List.setIfInBounds_toArray, List.set_cons_zero, List.set_cons_succ])
    | (refine wpList_boxG 51 rfl (.tmp 1) rfl MT rfl ?_; intro X2 q1 q2 q3; have T2 : Hid (Row X2 X1.heap.size (vB tt) 51) := (by rw [← HMT.out]; exact q1); have D2 : Hid (Row X2 w.heap.size (vB kk) 51) := Row.below D1.out q2 D1.out.lt; have B2 : Hid (Below w.heap.size w X2) := B1.out.trans (q2.mono B1.out.size); clear q1 q2 q3; simp only [Act.put, List.setIfInBounds_toArray, List.set_cons_zero, List.set_cons_succ]))
  obtain ⟨bk, hbk⟩ : ∃ b, b = w.heap.size := ⟨_, rfl⟩
  obtain ⟨bt, hbt⟩ : ∃ b, b = X1.heap.size := ⟨_, rfl⟩
  have NT : Hid (bt < X2.heap.size) := by rw [hbt]; exact T2.out.lt
  rw [← hbk] at D2 ⊢
  rw [← hbt] at T2 ⊢
  clear hbk hbt D1 B1
  go_upto_region 2 with (first
    | (refine wpList_load_w rfl 51 (.tmp 3) rfl bk (0) rfl (vB kk) _ D2.out.all Tryz.underlying51 rfl HIK.out ?_; simp only [Act.put, List.setIfInBounds_toArray, List.set_cons_zero, List.set_cons_succ])
    | (refine wpList_buildR1 rfl (.tmp 12) rfl kk HKK.out rfl R0 HR0.out ?_; simp only [Act.put, List.setIfInBounds_toArray, List.set_cons_zero, List.set_cons_succ])
    | (refine wpList_allocR rfl rfl ?_; intro X3 q1 q2; have Z3 : Hid (Row X3 X2.heap.size zR 97) := q1; have B3 : Hid (Below X2.heap.size X2 X3) := q2; clear q1 q2; simp only [Act.put, List.setIfInBounds_toArray, List.set_cons_zero, List.set_cons_succ])
    | (refine wpList_storeL rfl 97 (.tmp 7) (.tmp 13) rfl X2.heap.size R0 zR 97 rfl rfl Z3.out HL0.out HI0.out HO0.out ?_; intro X4 q1 q2; have R4 : Hid (Row X4 X2.heap.size R0 97) := q2; have B4 : Hid (Below X2.heap.size X2 X4) := (by rw [q1]; exact below_setCells B3.out (Nat.le_refl _) _); clear q1 q2; simp only [Act.put]))
  obtain ⟨bl, hbl⟩ : ∃ b, b = X2.heap.size := ⟨_, rfl⟩
  have T4 : Hid (Row X4 bt (vB tt) 51) := Row.below T2.out B4.out T2.out.lt
  have C0 : Hid (Ck w X4 bl (ltm es 0) (lkf kk (es.take 0))) := ⟨⟨R0, by rw [hbl]; exact R4.out, by rw [HR0.out]; exact Irw.first kk HKK.out, by rw [HR0.out]; exact row_oneI _ _ zE_one⟩, by rw [hbl]; exact B2.out.size, B2.out.trans (B4.out.mono B2.out.size)⟩
  rw [← hbl] at R4 ⊢
  have NBT : Hid (bt ≠ bl) := by show _ ≠ _; have := NT.out; omega
  clear hbl B2 B3 B4 Z3 R4 D2 T2 HR0 HL0 HI0 HO0 HIK HMK HMT NT
  go_wp2_with fail
  go_loopw [16] (fun v16 wr => ∃ (i : Nat), i ≤ M ∧ v16 = .int .i64 (i : Int) ∧ Hid (Ck w wr bl (ltm es i) (lkf kk (es.take i))) ∧ Hid (Row wr bt (vB tt) 51)) (fun v16 _ => M - (intOf v16).toNat)
  case atStart => exact ⟨0, Nat.zero_le _, rfl, C0, T4⟩
  case round =>
    obtain ⟨i, hi, rfl, HC, HTR⟩ := hrel
    clear C0 T4
    obtain ⟨R, hRr, hRi, hRo⟩ := HC.out.r
    have HRr : Hid (Row wr bl R 97) := hRr
    have HRi : Hid (Irw R (ltm es i) (lkf kk (es.take i))) := hRi
    have HRL : Hid (R.length = 81) := hRi.len
    have HRI : Hid ((Tryz.prog.info? 97).map (·.size) = some R.length) := hRi.info
    have HBW : Hid (Below w.heap.size w wr) := HC.out.be
    have HBL : Hid (w.heap.size ≤ bl) := HC.out.b0
    clear hRr hRi hRo HC
    by_cases hlt : i < M
    · obtain ⟨e, he⟩ : ∃ e, es[i]? = some e := ⟨_, List.getElem?_eq_getElem (by have := HN.out; omega)⟩
      obtain ⟨b, o, A', c', hA0, hrg, hsl, hnil⟩ := HES.out i e (by rw [List.getElem?_append_left (by have := HN.out; omega)]; exact he)
      subst hA0
      obtain ⟨hw, hm⟩ := HO.out.wf he
      have hup := HO.out.up i e he
      obtain ⟨n, hn⟩ : ∃ n, n = e.d.length := ⟨_, rfl⟩
      rw [← hn] at hrg hsl
      obtain ⟨L, hL⟩ : ∃ L, L = e.cells (.slice A' n c') := ⟨_, rfl⟩
      rw [← hL] at hrg
      obtain ⟨q, hq⟩ : ∃ q, q = o + i * 49 := ⟨_, rfl⟩
      have HQ : Hid (o + i * 49 = q) := hq.symm
      rw [← hq] at hrg
      obtain ⟨dd, hdd⟩ : ∃ d, d = nx (lkf kk (es.take i)) e := ⟨_, rfl⟩
      have hlk : lkf kk (es.take (i + 1)) = dd := by rw [List.take_add_one, he, lkf_app, hdd]; rfl
      have hlt2 : ltm es (i + 1) = e.tm := by simp [ltm, he]
      have HDL : Hid (dd.length = 32) := by rw [hdd]; exact dig_length _
      have hNM := HNM.out
      have hlt2N : i < N := by omega
      clear hNM
      have HIN : Hid (i < N) := hlt2N
      have HI : Hid ((Tryz.prog.info? 46).map (·.size) = some L.length) := by rw [hL]; exact Ev.info hw _
      have HLZ : Hid (L.length = zE.length) := by show _ = _; rw [hL, Ev.len hw]; rfl
      have HLO : Hid (L.toArray.all (·.oneCell') = true) := by rw [hL]; exact all_oneCell_toArray (Ev.one e _ _ _)
      have HR : Hid (∀ X, Below w.heap.size w X → X.rangeAt b q L) := fun X k => range_be hrg k
      obtain ⟨R', hR'⟩ : ∃ R', R' = L ++ vB dd := ⟨_, rfl⟩
      have HRN : Hid (Irw R' (ltm es (i + 1)) (lkf kk (es.take (i + 1)))) := by rw [hlk, hlt2, hR', hL]; exact Irw.of hw _ dd HDL.out
      have HRL' : Hid (R'.length = zR.length) := by rw [HRN.out.len]; exact rfl
      have HRI' : Hid ((Tryz.prog.info? 97).map (·.size) = some R'.length) := HRN.out.info
      have HRO1 : Hid (∀ u ∈ R', u.oneCell' = true) := by rw [hR']; exact row_oneI _ _ (by rw [hL]; exact Ev.one e _ _ _)
      have HRO' : Hid (R'.toArray.all (·.oneCell') = true) := all_oneCell_toArray HRO1.out
      have HNX : Hid (∀ X, Below w.heap.size w X → Calls Tryz.prog 44 #[.agg R.toArray, .agg L.toArray] X fun r w' => r = .returned (.tuple #[.agg R'.toArray, .int .i64 0]) ∧ Below X.heap.size X w') := fun X k => by rw [hR']; exact rnext_ok e hw hm (lkf kk (es.take i)) dd hdd A' n c' hn.symm hnil L hL R _ HRi.out hup X (HT.out X k) (hsl.be k)
      clear he hrg hsl hnil hw hm hup hn hL hq hdd hlk hlt2 hR'
      go_upto_region 5 with (first
        | (refine wpList_ixO 52 46 (.tmp 14) (.tmp 16) rfl b o N c0 i 49 q HQ.out rfl rfl HIN.out Tryz.underlying52 info_ent rfl ?_; simp only [Act.put, List.setIfInBounds_toArray, List.set_cons_zero, List.set_cons_succ])
        | (refine wpList_load_w rfl 46 (.tmp 18) rfl b (q) rfl (L) _ (HR.out wr HBW.out) Tryz.underlying46 rfl HI.out ?_; simp only [Act.put, List.setIfInBounds_toArray, List.set_cons_zero, List.set_cons_succ])
        | (refine wpList_allocE rfl rfl ?_; intro Y1 q1 q2; have Z1 : Hid (Row Y1 wr.heap.size zE 46) := q1; have B1 : Hid (Below wr.heap.size wr Y1) := q2; clear q1 q2; simp only [Act.put, List.setIfInBounds_toArray, List.set_cons_zero, List.set_cons_succ])
        | (refine wpList_storeL rfl 46 (.tmp 9) (.tmp 19) rfl wr.heap.size L zE 46 rfl rfl Z1.out HLZ.out HI.out HLO.out ?_; intro Y2 q1 q2; have E2 : Hid (Row Y2 wr.heap.size L 46) := q2; have B2 : Hid (Below wr.heap.size wr Y2) := (by rw [q1]; exact below_setCells B1.out (Nat.le_refl _) _); clear q1 q2; simp only [Act.put]))
      obtain ⟨be, hbe⟩ : ∃ b, b = wr.heap.size := ⟨_, rfl⟩
      rw [← hbe] at E2 ⊢
      have RR2 : Hid (Row Y2 bl R 97) := Row.below HRr.out B2.out HRr.out.lt
      have TT2 : Hid (Row Y2 bt (vB tt) 51) := Row.below HTR.out B2.out HTR.out.lt
      have BW2 : Hid (Below w.heap.size w Y2) := HBW.out.trans (B2.out.mono HBW.out.size)
      clear hbe Z1 B1 B2 HRr HTR HBW HR HQ HIN HLZ HLO
      go_upto_region 6 with (first
        | (refine wpList_load_w rfl 97 (.tmp 7) rfl bl (0) rfl (R) _ RR2.out.all Tryz.underlying97 rfl HRI.out ?_; simp only [Act.put, List.setIfInBounds_toArray, List.set_cons_zero, List.set_cons_succ])
        | (refine wpList_load_w rfl 46 (.tmp 9) rfl be (0) rfl (L) _ E2.out.all Tryz.underlying46 rfl HI.out ?_; simp only [Act.put, List.setIfInBounds_toArray, List.set_cons_zero, List.set_cons_succ])
        | (go_at_call 44; refine Calls.mono (HNX.out Y2 BW2.out) ?_; rintro e4 Y3 ⟨rfl, q3⟩; have B3 : Hid (Below Y2.heap.size Y2 Y3) := q3; clear q3)
        | (refine wpList_allocR rfl rfl ?_; intro Y4 q1 q2; have Z4 : Hid (Row Y4 Y3.heap.size zR 97) := q1; have B4 : Hid (Below Y3.heap.size Y3 Y4) := q2; clear q1 q2; simp only [Act.put, List.setIfInBounds_toArray, List.set_cons_zero, List.set_cons_succ])
        | (refine wpList_storeL rfl 97 (.tmp 10) (.tmp 24) rfl Y3.heap.size R' zR 97 rfl rfl Z4.out HRL'.out HRI'.out HRO'.out ?_; intro Y5 q1 q2; have N5 : Hid (Row Y5 Y3.heap.size R' 97) := q2; have B5 : Hid (Below Y3.heap.size Y3 Y5) := (by rw [q1]; exact below_setCells B4.out (Nat.le_refl _) _); clear q1 q2; simp only [Act.put]))
      have B25 : Below Y2.heap.size Y2 Y5 := B3.out.trans (B5.out.mono B3.out.size)
      obtain ⟨bn, hbn⟩ : ∃ b, b = Y3.heap.size := ⟨_, rfl⟩
      rw [← hbn] at N5 ⊢
      have RR5 : Hid (Row Y5 bl R 97) := Row.below RR2.out B25 RR2.out.lt
      have TT5 : Hid (Row Y5 bt (vB tt) 51) := Row.below TT2.out B25 TT2.out.lt
      have BW5 : Hid (Below w.heap.size w Y5) := BW2.out.trans (B25.mono BW2.out.size)
      have HLR : Hid (R'.length = R.length) := by rw [HRL.out, HRL'.out]; exact rfl
      clear hbn B25 Z4 B3 B4 B5 RR2 TT2 BW2 E2 HNX
      go_upto_region 9 with (first
        | (refine wpList_load_w rfl 97 (.tmp 10) rfl bn (0) rfl (R') _ N5.out.all Tryz.underlying97 rfl HRI'.out ?_; simp only [Act.put, List.setIfInBounds_toArray, List.set_cons_zero, List.set_cons_succ])
        | (refine wpList_storeL rfl 97 (.tmp 7) (.tmp 29) rfl bl R' R 97 rfl rfl RR5.out HLR.out HRI'.out HRO'.out ?_; intro Y6 q1 q2; have R6 : Hid (Row Y6 bl R' 97) := q2; have T6 : Hid (Row Y6 bt (vB tt) 51) := (by rw [q1]; exact (gro_over (Gro.refl _ _) bl 0 R' rfl : Gro (· = bl) _ _).row TT5.out NBT.out); have B6 : Hid (Below w.heap.size w Y6) := (by rw [q1]; exact below_setCells BW5.out HBL.out _); clear q1 q2; simp only [Act.put]))
      have CN : Hid (Ck w Y6 bl (ltm es (i + 1)) (lkf kk (es.take (i + 1)))) := ⟨⟨R', R6.out, HRN.out, HRO1.out⟩, HBL.out, B6.out⟩
      clear RR5 TT5 BW5 N5 R6 B6 HRN HRO1
      go_wp2_with fail
      go_roundw
      case rel => exact ⟨i + 1, hlt, rfl, CN, T6⟩
      case measure => simp [intOf]; omega
    · obtain rfl : i = M := by omega
      obtain ⟨b, o, A', c', hA0, hrg, hsl, hnil⟩ := HES.out i el (by rw [HN.out, List.getElem?_append_right (Nat.le_refl _), Nat.sub_self]; rfl)
      subst hA0
      have hw := HWL.out
      obtain ⟨n, hn⟩ : ∃ n, n = el.d.length := ⟨_, rfl⟩
      rw [← hn] at hrg hsl
      obtain ⟨L, hL⟩ : ∃ L, L = el.cells (.slice A' n c') := ⟨_, rfl⟩
      rw [← hL] at hrg
      obtain ⟨q, hq⟩ : ∃ q, q = o + i * 49 := ⟨_, rfl⟩
      have HQ : Hid (o + i * 49 = q) := hq.symm
      rw [← hq] at hrg
      have hNM := HNM.out
      have hlt2N : i < N := by omega
      clear hNM
      have HIN : Hid (i < N) := hlt2N
      have HI : Hid ((Tryz.prog.info? 46).map (·.size) = some L.length) := by rw [hL]; exact Ev.info hw _
      have HLZ : Hid (L.length = zE.length) := by show _ = _; rw [hL, Ev.len hw]; rfl
      have HLO : Hid (L.toArray.all (·.oneCell') = true) := by rw [hL]; exact all_oneCell_toArray (Ev.one el _ _ _)
      have HR : Hid (∀ X, Below w.heap.size w X → X.rangeAt b q L) := fun X k => range_be hrg k
      obtain ⟨R', hR'⟩ : ∃ R', R' = zR := ⟨_, rfl⟩
      have HRL' : Hid (R'.length = zR.length) := by rw [hR']; exact rfl
      have HRI' : Hid ((Tryz.prog.info? 97).map (·.size) = some R'.length) := by rw [hR']; exact info_row
      have HRO' : Hid (R'.toArray.all (·.oneCell') = true) := by rw [hR']; exact zR_one
      have HNX : Hid (∀ X, Below w.heap.size w X → Calls Tryz.prog 44 #[.agg R.toArray, .agg L.toArray] X fun r w' => r = .returned (.tuple #[.agg R'.toArray, .int .i64 E]) ∧ Below X.heap.size X w') := fun X k => by rw [hR']; exact rnext_no el hw (lkf kk (es.take i)) A' n c' hn.symm hnil L hL R _ E HRi.out (by rw [HN.out]; exact HEE.out) X (HT.out X k) (hsl.be k)
      have hE0 : ¬ E = 0 := by rcases HEE.out.pos with q | q <;> omega
      clear hrg hsl hnil hw hn hL hq hR' hlt
      go_upto_region 5 with (first
        | (refine wpList_ixO 52 46 (.tmp 14) (.tmp 16) rfl b o N c0 i 49 q HQ.out rfl rfl HIN.out Tryz.underlying52 info_ent rfl ?_; simp only [Act.put, List.setIfInBounds_toArray, List.set_cons_zero, List.set_cons_succ])
        | (refine wpList_load_w rfl 46 (.tmp 18) rfl b (q) rfl (L) _ (HR.out wr HBW.out) Tryz.underlying46 rfl HI.out ?_; simp only [Act.put, List.setIfInBounds_toArray, List.set_cons_zero, List.set_cons_succ])
        | (refine wpList_allocE rfl rfl ?_; intro Y1 q1 q2; have Z1 : Hid (Row Y1 wr.heap.size zE 46) := q1; have B1 : Hid (Below wr.heap.size wr Y1) := q2; clear q1 q2; simp only [Act.put, List.setIfInBounds_toArray, List.set_cons_zero, List.set_cons_succ])
        | (refine wpList_storeL rfl 46 (.tmp 9) (.tmp 19) rfl wr.heap.size L zE 46 rfl rfl Z1.out HLZ.out HI.out HLO.out ?_; intro Y2 q1 q2; have E2 : Hid (Row Y2 wr.heap.size L 46) := q2; have B2 : Hid (Below wr.heap.size wr Y2) := (by rw [q1]; exact below_setCells B1.out (Nat.le_refl _) _); clear q1 q2; simp only [Act.put]))
      obtain ⟨be, hbe⟩ : ∃ b, b = wr.heap.size := ⟨_, rfl⟩
      rw [← hbe] at E2 ⊢
      have RR2 : Hid (Row Y2 bl R 97) := Row.below HRr.out B2.out HRr.out.lt
      have TT2 : Hid (Row Y2 bt (vB tt) 51) := Row.below HTR.out B2.out HTR.out.lt
      have BW2 : Hid (Below w.heap.size w Y2) := HBW.out.trans (B2.out.mono HBW.out.size)
      clear hbe Z1 B1 B2 HRr HTR HBW HR HQ HIN HLZ HLO
      go_upto_region 6 with (first
        | (refine wpList_load_w rfl 97 (.tmp 7) rfl bl (0) rfl (R) _ RR2.out.all Tryz.underlying97 rfl HRI.out ?_; simp only [Act.put, List.setIfInBounds_toArray, List.set_cons_zero, List.set_cons_succ])
        | (refine wpList_load_w rfl 46 (.tmp 9) rfl be (0) rfl (L) _ E2.out.all Tryz.underlying46 rfl HI.out ?_; simp only [Act.put, List.setIfInBounds_toArray, List.set_cons_zero, List.set_cons_succ])
        | (go_at_call 44; refine Calls.mono (HNX.out Y2 BW2.out) ?_; rintro e4 Y3 ⟨rfl, q3⟩; have B3 : Hid (Below Y2.heap.size Y2 Y3) := q3; clear q3)
        | (refine wpList_allocR rfl rfl ?_; intro Y4 q1 q2; have Z4 : Hid (Row Y4 Y3.heap.size zR 97) := q1; have B4 : Hid (Below Y3.heap.size Y3 Y4) := q2; clear q1 q2; simp only [Act.put, List.setIfInBounds_toArray, List.set_cons_zero, List.set_cons_succ])
        | (refine wpList_storeL rfl 97 (.tmp 10) (.tmp 24) rfl Y3.heap.size R' zR 97 rfl rfl Z4.out HRL'.out HRI'.out HRO'.out ?_; intro Y5 q1 q2; have N5 : Hid (Row Y5 Y3.heap.size R' 97) := q2; have B5 : Hid (Below Y3.heap.size Y3 Y5) := (by rw [q1]; exact below_setCells B4.out (Nat.le_refl _) _); clear q1 q2; simp only [Act.put]))
      have BW5 : Hid (Below w.heap.size w Y5) := BW2.out.trans ((B3.out.trans (B5.out.mono B3.out.size)).mono BW2.out.size)
      clear Z4 B3 B4 B5 RR2 TT2 BW2 E2 HNX N5
      go_wp2_with fail
      go_ret
      exact ⟨rfl, BW5.out⟩

end Go.Proofs.YtmfmdlaeflahlaaGreatDoor
