/-
  Check's refusals of a size and of an index.
-/
import Derived.Test.YtkgfaioinajkjaaDoorTEq

namespace Go.Proofs.YtkgfaioinajkjaaDoor
open Go Go.RowKit
open Sha

theorem und_u8 : Tryd.prog.underlying 5 = some (.int .u8) := Tryd.underlying5

set_option maxRecDepth 100000 in
set_option maxHeartbeats 4000000 in
theorem chk_len (n i m cap : Nat) (A : Option Addr) (hin : i < n) (hn : n ≤ 1099511627776) (hm : pl n i = m) (root dd : List (BitVec 8)) (hr0 : root.length = 32) (hd0 : dd.length = 32) (B : Bool) (hB0 : (!decide (dd = root)) = B) (lv : Value) (w : World)
    (hS : ∀ W, Below w.heap.size w W → Calls Tryd.prog 39 #[.slice A m cap, .int .i64 (n : Int), .int .i64 (i : Int), lv] W fun e w' => e = .returned (.agg (vB dd).toArray) ∧ Below W.heap.size W w') :
    Calls Tryd.prog 24 #[.agg (vB root).toArray, .int .i64 (n : Int), .int .i64 (i : Int), lv, .slice A m cap] w fun e w' => e = .returned (.int .i64 (if B then 43 else 0)) ∧ Below w.heap.size w w' := by
  have HR0 : Hid (root.length = 32) := hr0
  have HD0 : Hid (dd.length = 32) := hd0
  have HBB : Hid ((!decide (dd = root)) = B) := hB0
  have HIL : Hid ((Tryd.prog.info? 42).map (·.size) = some (vB root).length) := by show _ = _; rw [info_dig]; simp [vB_length, hr0]
  have HS : Hid (∀ W, _ → _) := hS
  have HPL : Hid (∀ W : World, Calls Tryd.prog 38 #[.int .i64 (n : Int), .int .i64 (i : Int)] W fun e w' => e = .returned (.int .i64 (m : Int)) ∧ Below W.heap.size W w') := fun W => by
    rw [← hm]
    exact (plen_any n i hin (by omega) W).mono fun e w' h => ⟨h.1, by rw [h.2]; exact Below.refl _ _⟩
  have c1 : ¬ (n : Int) < 1 := by omega
  have c2 : ¬ (1099511627776 : Int) < (n : Int) := by omega
  have c2b : (n : Int) ≤ 1099511627776 := by omega
  have c2c : decide ((1099511627776 : Int) < (n : Int)) = false := decide_eq_false c2
  have c3 : ¬ (i : Int) < 0 := by omega
  have c4 : ¬ (n : Int) ≤ (i : Int) := by omega
  clear hr0 hd0 hB0 hS hm hn hin
  have hb1 : Below w.heap.size w (w.alloc (Obj.cells (vB root).toArray 42)) := (Below.refl _ _).alloc (Nat.le_refl _) _
  have r0 : Row (w.alloc (Obj.cells (vB root).toArray 42)) w.heap.size (vB root) 42 := Row.new' rfl rfl
  go_enter Tryd.func24, Tryd.ntmps24
  go_wp2_with fail
  refine wp_named fun a0 ha0 => ?_
  have hsz : a0.tmps.size = 39 := by rw [ha0]; rfl
  have s1 : a0.eval (.tmp 1) = .int .i64 (n : Int) := by rw [ha0]; rfl
  have s2 : a0.eval (.tmp 2) = .int .i64 (i : Int) := by rw [ha0]; rfl
  have s3 : a0.eval (.tmp 3) = lv := by rw [ha0]; rfl
  have s4 : a0.eval (.tmp 4) = .slice A m cap := by rw [ha0]; rfl
  have s5 : a0.eval (.tmp 5) = .pointer (some ⟨w.heap.size, 0, none⟩) := by rw [ha0]; rfl
  obtain ⟨D, hD⟩ : ∃ D : List (Tmp × SP), D = [(24, SP.is (.slice A m cap)), (25, SP.is (.int .i64 (m : Int))), (26, SP.is (.int .i64 (n : Int))), (27, SP.is (.int .i64 (i : Int))), (28, SP.is (.int .i64 (m : Int))), (29, SP.is (.bool false)), (30, SP.is (.bool false)), (31, SP.is (.slice A m cap)), (32, SP.is (.int .i64 (n : Int))), (33, SP.is (.int .i64 (i : Int))), (34, SP.is (lv)), (35, SP.is (.agg (vB dd).toArray)), (36, SP.is (.agg (vB root).toArray)), (37, SP.is (.bool B)), (38, SP.is (.bool B))] := ⟨_, rfl⟩
  refine wp_region_down (by kernel_rfl) (fun listed ac W => listed.size = 15 ∧ Fp D a0 listed ac W ∧ Below w.heap.size w W ∧ Row W w.heap.size ((vB root)) 42) ?_ ?_ ?_
  · exact ⟨by simp, Fp.start D a0 _ _, Below.drew hb1, Row.drew r0⟩
  · clear ha0 hb1 r0 
    intro listed ac W k hI hdn hk
    obtain ⟨hl, hF, hb1, r0⟩ := hI
    have hk1 : k < 15 := List.mem_range.1 (List.mem_filter.1 hk).1
    have hl2 : ∀ j, (listed.setIfInBounds j true).size = 15 := fun j => by rw [Array.size_setIfInBounds]; exact hl
    rcases (show k = 0 ∨ k = 1 ∨ k = 2 ∨ k = 3 ∨ k = 4 ∨ k = 5 ∨ k = 6 ∨ k = 7 ∨ k = 8 ∨ k = 9 ∨ k = 10 ∨ k = 11 ∨ k = 12 ∨ k = 13 ∨ k = 14 by omega) with rfl | rfl | rfl | rfl | rfl | rfl | rfl | rfl | rfl | rfl | rfl | rfl | rfl | rfl | rfl
    · have hk3 := hk
      exact wpOp_plain rfl rfl (wp_move_v (ac.eval (.tmp 4)) rfl rfl ⟨hl2 0, (hF.put 0 24 (SP.is (.slice A m cap)) (ac.eval (.tmp 4)) (by rw [hD]; rfl) (((hF.keep 4 (by rw [hD]; rfl)).trans s4)) (by rw [hD]; rfl) (by rw [hsz]; decide) (by rw [hl]; decide)), hb1, r0⟩)
    · have hk3 := hk
      have ea := (hF.done 0 (24, SP.is (.slice A m cap)) (by rw [hD]; rfl) (ready_dep hk 0 (by kernel_rfl)))
      exact wpOp_plain rfl rfl (wp_len_s 26 42 A m cap rfl Tryd.underlying26 ea ⟨hl2 1, (hF.put 1 25 (SP.is (.int .i64 (m : Int))) (.int .i64 (m : Int)) (by rw [hD]; rfl) rfl (by rw [hD]; rfl) (by rw [hsz]; decide) (by rw [hl]; decide)), hb1, r0⟩)
    · have hk3 := hk
      exact wpOp_plain rfl rfl (wp_move_v (ac.eval (.tmp 1)) rfl rfl ⟨hl2 2, (hF.put 2 26 (SP.is (.int .i64 (n : Int))) (ac.eval (.tmp 1)) (by rw [hD]; rfl) (((hF.keep 1 (by rw [hD]; rfl)).trans s1)) (by rw [hD]; rfl) (by rw [hsz]; decide) (by rw [hl]; decide)), hb1, r0⟩)
    · have hk3 := hk
      exact wpOp_plain rfl rfl (wp_move_v (ac.eval (.tmp 2)) rfl rfl ⟨hl2 3, (hF.put 3 27 (SP.is (.int .i64 (i : Int))) (ac.eval (.tmp 2)) (by rw [hD]; rfl) (((hF.keep 2 (by rw [hD]; rfl)).trans s2)) (by rw [hD]; rfl) (by rw [hsz]; decide) (by rw [hl]; decide)), hb1, r0⟩)
    · have hk3 := hk
      have ea := (hF.done 2 (26, SP.is (.int .i64 (n : Int))) (by rw [hD]; rfl) (ready_dep hk 2 (by kernel_rfl)))
      have eb := (hF.done 3 (27, SP.is (.int .i64 (i : Int))) (by rw [hD]; rfl) (ready_dep hk 3 (by kernel_rfl)))
      refine wpOp_plain rfl rfl (wp_fcall_v 38 #[.int .i64 (n : Int), .int .i64 (i : Int)] rfl rfl (by show [ac.eval (.tmp 26), ac.eval (.tmp 27)] = _; rw [show ac.eval (.tmp 26) = _ from ea, show ac.eval (.tmp 27) = _ from eb]) (by go_simp) ((HPL.out W).mono ?_))
      rintro e W2 ⟨rfl, hB⟩
      exact ⟨_, rfl, hl2 4, ((hF.world hB).put 4 28 (SP.is (.int .i64 (m : Int))) (.int .i64 (m : Int)) (by rw [hD]; rfl) rfl (by rw [hD]; rfl) (by rw [hsz]; decide) (by rw [hl]; decide)), hb1.trans (hB.mono hb1.size), Row.below r0 hB (Row.lt r0)⟩
    · have hk3 := hk
      have ea := (hF.done 1 (25, SP.is (.int .i64 (m : Int))) (by rw [hD]; rfl) (ready_dep hk 1 (by kernel_rfl)))
      have eb := (hF.done 4 (28, SP.is (.int .i64 (m : Int))) (by rw [hD]; rfl) (ready_dep hk 4 (by kernel_rfl)))
      exact wpOp_plain rfl rfl (wp_neqint_v rfl ea eb (by simp) ⟨hl2 5, (hF.put 5 29 (SP.is (.bool false)) (.bool false) (by rw [hD]; rfl) rfl (by rw [hD]; rfl) (by rw [hsz]; decide) (by rw [hl]; decide)), hb1, r0⟩)
    · have hk3 := hk
      exact wpOp_plain rfl rfl (wp_move_v (ac.eval (.tmp 29)) rfl rfl ⟨hl2 6, (hF.put 6 30 (SP.is (.bool false)) (ac.eval (.tmp 29)) (by rw [hD]; rfl) ((hF.done 5 (29, SP.is (.bool false)) (by rw [hD]; rfl) (ready_dep hk 5 (by kernel_rfl)))) (by rw [hD]; rfl) (by rw [hsz]; decide) (by rw [hl]; decide)), hb1, r0⟩)
    · have hk3 := hk
      exact wpOp_wanted rfl (wanted_g (g := 6) (b := false) rfl rfl (hF.done 6 (30, SP.is (.bool false)) (by rw [hD]; rfl) (ready_dep hk 6 (by kernel_rfl))) (by rw [hF.size, hsz]; decide)) (wp_move_v (ac.eval (.tmp 4)) rfl rfl ⟨hl2 7, (hF.put 7 31 (SP.is (.slice A m cap)) (ac.eval (.tmp 4)) (by rw [hD]; rfl) (((hF.keep 4 (by rw [hD]; rfl)).trans s4)) (by rw [hD]; rfl) (by rw [hsz]; decide) (by rw [hl]; decide)), hb1, r0⟩)
    · have hk3 := hk
      exact wpOp_wanted rfl (wanted_g (g := 6) (b := false) rfl rfl (hF.done 6 (30, SP.is (.bool false)) (by rw [hD]; rfl) (ready_dep hk 6 (by kernel_rfl))) (by rw [hF.size, hsz]; decide)) (wp_move_v (ac.eval (.tmp 1)) rfl rfl ⟨hl2 8, (hF.put 8 32 (SP.is (.int .i64 (n : Int))) (ac.eval (.tmp 1)) (by rw [hD]; rfl) (((hF.keep 1 (by rw [hD]; rfl)).trans s1)) (by rw [hD]; rfl) (by rw [hsz]; decide) (by rw [hl]; decide)), hb1, r0⟩)
    · have hk3 := hk
      exact wpOp_wanted rfl (wanted_g (g := 6) (b := false) rfl rfl (hF.done 6 (30, SP.is (.bool false)) (by rw [hD]; rfl) (ready_dep hk 6 (by kernel_rfl))) (by rw [hF.size, hsz]; decide)) (wp_move_v (ac.eval (.tmp 2)) rfl rfl ⟨hl2 9, (hF.put 9 33 (SP.is (.int .i64 (i : Int))) (ac.eval (.tmp 2)) (by rw [hD]; rfl) (((hF.keep 2 (by rw [hD]; rfl)).trans s2)) (by rw [hD]; rfl) (by rw [hsz]; decide) (by rw [hl]; decide)), hb1, r0⟩)
    · have hk3 := hk
      exact wpOp_wanted rfl (wanted_g (g := 6) (b := false) rfl rfl (hF.done 6 (30, SP.is (.bool false)) (by rw [hD]; rfl) (ready_dep hk 6 (by kernel_rfl))) (by rw [hF.size, hsz]; decide)) (wp_move_v (ac.eval (.tmp 3)) rfl rfl ⟨hl2 10, (hF.put 10 34 (SP.is (lv)) (ac.eval (.tmp 3)) (by rw [hD]; rfl) (((hF.keep 3 (by rw [hD]; rfl)).trans s3)) (by rw [hD]; rfl) (by rw [hsz]; decide) (by rw [hl]; decide)), hb1, r0⟩)
    · have hk3 := hk
      have ea := (hF.done 7 (31, SP.is (.slice A m cap)) (by rw [hD]; rfl) (ready_dep hk 7 (by kernel_rfl)))
      have eb := (hF.done 8 (32, SP.is (.int .i64 (n : Int))) (by rw [hD]; rfl) (ready_dep hk 8 (by kernel_rfl)))
      have ec := (hF.done 9 (33, SP.is (.int .i64 (i : Int))) (by rw [hD]; rfl) (ready_dep hk 9 (by kernel_rfl)))
      have ed := (hF.done 10 (34, SP.is (lv)) (by rw [hD]; rfl) (ready_dep hk 10 (by kernel_rfl)))
      refine wpOp_wanted rfl (wanted_g (g := 6) (b := false) rfl rfl (hF.done 6 (30, SP.is (.bool false)) (by rw [hD]; rfl) (ready_dep hk 6 (by kernel_rfl))) (by rw [hF.size, hsz]; decide)) (wp_fcall_v 39 #[.slice A m cap, .int .i64 (n : Int), .int .i64 (i : Int), lv] rfl rfl (by show [ac.eval (.tmp 31), ac.eval (.tmp 32), ac.eval (.tmp 33), ac.eval (.tmp 34)] = _; rw [show ac.eval (.tmp 31) = _ from ea, show ac.eval (.tmp 32) = _ from eb, show ac.eval (.tmp 33) = _ from ec, show ac.eval (.tmp 34) = _ from ed]) (by go_simp) ((HS.out W hb1).mono ?_))
      rintro e W2 ⟨rfl, hB⟩
      exact ⟨_, rfl, hl2 11, ((hF.world hB).put 11 35 (SP.is (.agg (vB dd).toArray)) (.agg (vB dd).toArray) (by rw [hD]; rfl) rfl (by rw [hD]; rfl) (by rw [hsz]; decide) (by rw [hl]; decide)), hb1.trans (hB.mono hb1.size), Row.below r0 hB (Row.lt r0)⟩
    · have hk3 := hk
      exact wpOp_wanted rfl (wanted_g (g := 6) (b := false) rfl rfl (hF.done 6 (30, SP.is (.bool false)) (by rw [hD]; rfl) (ready_dep hk 6 (by kernel_rfl))) (by rw [hF.size, hsz]; decide)) (wp_load_mid 42 (.tmp 5) rfl w.heap.size 0 ((hF.keep 5 (by rw [hD]; rfl)).trans s5) ((vB root)) _ r0.all Tryd.underlying42 rfl HIL.out ⟨hl2 12, (hF.put 12 36 (SP.is (.agg (vB root).toArray)) (.agg (vB root).toArray) (by rw [hD]; rfl) rfl (by rw [hD]; rfl) (by rw [hsz]; decide) (by rw [hl]; decide)), hb1, r0⟩)
    · have hk3 := hk
      have ea := (hF.done 11 (35, SP.is (.agg (vB dd).toArray)) (by rw [hD]; rfl) (ready_dep hk 11 (by kernel_rfl)))
      have eb := (hF.done 12 (36, SP.is (.agg (vB root).toArray)) (by rw [hD]; rfl) (ready_dep hk 12 (by kernel_rfl)))
      exact wpOp_wanted rfl (wanted_g (g := 6) (b := false) rfl rfl (hF.done 6 (30, SP.is (.bool false)) (by rw [hD]; rfl) (ready_dep hk 6 (by kernel_rfl))) (by rw [hF.size, hsz]; decide)) (wp_neq_d 42 (.tmp 35) (.tmp 36) _ rfl 5 32 dd root ea eb Tryd.underlying42 und_u8 info_u8 HD0.out HR0.out guard_dig B HBB.out ⟨hl2 13, (hF.put 13 37 (SP.is (.bool B)) (.bool B) (by rw [hD]; rfl) rfl (by rw [hD]; rfl) (by rw [hsz]; decide) (by rw [hl]; decide)), hb1, r0⟩)
    · have hk3 := hk
      have ea := (hF.done 6 (30, SP.is (.bool false)) (by rw [hD]; rfl) (ready_dep hk 6 (by kernel_rfl)))
      have eb := (hF.done 13 (37, SP.is (.bool B)) (by rw [hD]; rfl) (ready_dep hk 13 (by kernel_rfl)))
      exact wpOp_plain rfl rfl (wp_pick_f (.bool B) rfl ea eb ⟨hl2 14, (hF.put 14 38 (SP.is (.bool B)) (.bool B) (by rw [hD]; rfl) rfl (by rw [hD]; rfl) (by rw [hsz]; decide) (by rw [hl]; decide)), hb1, r0⟩)
  · clear hb1 r0 
    intro listed ac W hI hr
    obtain ⟨hl, hF, hb1, r0⟩ := hI
    have hall := all_listed (by kernel_rfl) hl hr
    have h24 : ac.eval (.tmp 24) = .slice A m cap := hF.done 0 (24, SP.is (.slice A m cap)) (by rw [hD]; rfl) (hall 0 (by decide))
    have h25 : ac.eval (.tmp 25) = .int .i64 (m : Int) := hF.done 1 (25, SP.is (.int .i64 (m : Int))) (by rw [hD]; rfl) (hall 1 (by decide))
    have h26 : ac.eval (.tmp 26) = .int .i64 (n : Int) := hF.done 2 (26, SP.is (.int .i64 (n : Int))) (by rw [hD]; rfl) (hall 2 (by decide))
    have h27 : ac.eval (.tmp 27) = .int .i64 (i : Int) := hF.done 3 (27, SP.is (.int .i64 (i : Int))) (by rw [hD]; rfl) (hall 3 (by decide))
    have h28 : ac.eval (.tmp 28) = .int .i64 (m : Int) := hF.done 4 (28, SP.is (.int .i64 (m : Int))) (by rw [hD]; rfl) (hall 4 (by decide))
    have h29 : ac.eval (.tmp 29) = .bool false := hF.done 5 (29, SP.is (.bool false)) (by rw [hD]; rfl) (hall 5 (by decide))
    have h30 : ac.eval (.tmp 30) = .bool false := hF.done 6 (30, SP.is (.bool false)) (by rw [hD]; rfl) (hall 6 (by decide))
    have h31 : ac.eval (.tmp 31) = .slice A m cap := hF.done 7 (31, SP.is (.slice A m cap)) (by rw [hD]; rfl) (hall 7 (by decide))
    have h32 : ac.eval (.tmp 32) = .int .i64 (n : Int) := hF.done 8 (32, SP.is (.int .i64 (n : Int))) (by rw [hD]; rfl) (hall 8 (by decide))
    have h33 : ac.eval (.tmp 33) = .int .i64 (i : Int) := hF.done 9 (33, SP.is (.int .i64 (i : Int))) (by rw [hD]; rfl) (hall 9 (by decide))
    have h34 : ac.eval (.tmp 34) = lv := hF.done 10 (34, SP.is (lv)) (by rw [hD]; rfl) (hall 10 (by decide))
    have h35 : ac.eval (.tmp 35) = .agg (vB dd).toArray := hF.done 11 (35, SP.is (.agg (vB dd).toArray)) (by rw [hD]; rfl) (hall 11 (by decide))
    have h36 : ac.eval (.tmp 36) = .agg (vB root).toArray := hF.done 12 (36, SP.is (.agg (vB root).toArray)) (by rw [hD]; rfl) (hall 12 (by decide))
    have h37 : ac.eval (.tmp 37) = .bool B := hF.done 13 (37, SP.is (.bool B)) (by rw [hD]; rfl) (hall 13 (by decide))
    have h38 : ac.eval (.tmp 38) = .bool B := hF.done 14 (38, SP.is (.bool B)) (by rw [hD]; rfl) (hall 14 (by decide))
    have ea := hF.lay [(24, .slice A m cap), (25, .int .i64 (m : Int)), (26, .int .i64 (n : Int)), (27, .int .i64 (i : Int)), (28, .int .i64 (m : Int)), (29, .bool false), (30, .bool false), (31, .slice A m cap), (32, .int .i64 (n : Int)), (33, .int .i64 (i : Int)), (34, lv), (35, .agg (vB dd).toArray), (36, .agg (vB root).toArray), (37, .bool B), (38, .bool B)] (by rw [hD, hsz]; rfl) (by simp only [List.forall_mem_cons, List.not_mem_nil, false_implies, implies_true, and_true]; exact ⟨h24, h25, h26, h27, h28, h29, h30, h31, h32, h33, h34, h35, h36, h37, h38⟩)
    rw [ha0] at ea
    simp only [List.foldl_cons, List.foldl_nil, List.setIfInBounds_toArray, List.set_cons_zero, List.set_cons_succ] at ea
    clear hF hall hr hl hD  s1 s2 s3 s4 s5 ha0 hsz h24 h25 h26 h27 h28 h29 h30 h31 h32 h33 h34 h35 h36 h37 h38
    subst ea
    cases B
    · go_wp2_with fail
      go_ret
      exact ⟨rfl, hb1⟩
    · go_wp2_with fail
      go_ret
      exact ⟨rfl, hb1⟩

/-- Check of a path of the right length. -/
theorem check_len (n i : Nat) (hin : i < n) (hn : n ≤ 1099511627776) (root lf : List (BitVec 8)) (ds : List (List (BitVec 8))) (hds : ds.length = pl n i) (hr0 : root.length = 32) (hlf : lf.length < 1152921504606846975) (v lv : Value) (w : World) (hK : Tab w 4) (hp : PAt w v ds) (hv : SlAt w lv lf) :
    Calls Tryd.prog 24 #[.agg (vB root).toArray, .int .i64 (n : Int), .int .i64 (i : Int), lv, v] w fun e w' => e = .returned (.int .i64 (if rb n i lf ds = root then 0 else 43)) ∧ Below w.heap.size w w' := by
  have hp' := hp
  obtain ⟨h1, A, cap, rfl, hcap, h4⟩ := hp
  refine (chk_len n i ds.length cap A hin hn hds.symm root (rb n i lf ds) hr0 (rb_length _ _ _ _) _ rfl lv w (fun W hB => rby_any n i lf ds _ hin (by omega) hds rfl hlf _ lv W (hK.below hB hK.lt) (hp'.below hB) (hv.below hB (Nat.le_refl _)))).mono fun e w' h => ⟨?_, h.2⟩
  rw [h.1]
  by_cases e : rb n i lf ds = root <;> simp [e]

end Go.Proofs.YtkgfaioinajkjaaDoor

namespace Go.Proofs.YtkgfaioinajkjaaDoor
open Go Go.RowKit
open Sha

set_option maxRecDepth 100000 in
set_option maxHeartbeats 1000000 in
theorem check_small (n i : Int) (hn : n < 1) (root : List (BitVec 8)) (lv v : Value) (w : World) :
    Calls Tryd.prog 24 #[.agg (vB root).toArray, .int .i64 n, .int .i64 i, lv, v] w fun e w' => e = .returned (.int .i64 40) ∧ Below w.heap.size w w' := by
  have hb1 : Below w.heap.size w (w.alloc (Obj.cells (vB root).toArray 42)) := (Below.refl _ _).alloc (Nat.le_refl _) _
  go_enter Tryd.func24, Tryd.ntmps24
  go_wp2_with fail
  go_ret
  exact ⟨rfl, hb1⟩
set_option maxRecDepth 100000 in
set_option maxHeartbeats 1000000 in
theorem check_great (n i : Int) (hn : 1099511627776 < n) (root : List (BitVec 8)) (lv v : Value) (w : World) :
    Calls Tryd.prog 24 #[.agg (vB root).toArray, .int .i64 n, .int .i64 i, lv, v] w fun e w' => e = .returned (.int .i64 40) ∧ Below w.heap.size w w' := by
  have hb1 : Below w.heap.size w (w.alloc (Obj.cells (vB root).toArray 42)) := (Below.refl _ _).alloc (Nat.le_refl _) _
  have c1 : ¬ n < 1 := by omega
  have c2 : ¬ n ≤ 1099511627776 := by omega
  have c3 : decide (1099511627776 < n) = true := decide_eq_true hn
  go_enter Tryd.func24, Tryd.ntmps24
  go_wp2_with fail
  go_ret
  exact ⟨rfl, hb1⟩
set_option maxRecDepth 100000 in
set_option maxHeartbeats 1000000 in
theorem check_below (n i : Int) (h1 : 1 ≤ n) (hn : n ≤ 1099511627776) (hi : i < 0) (root : List (BitVec 8)) (lv v : Value) (w : World) :
    Calls Tryd.prog 24 #[.agg (vB root).toArray, .int .i64 n, .int .i64 i, lv, v] w fun e w' => e = .returned (.int .i64 41) ∧ Below w.heap.size w w' := by
  have hb1 : Below w.heap.size w (w.alloc (Obj.cells (vB root).toArray 42)) := (Below.refl _ _).alloc (Nat.le_refl _) _
  have c1 : ¬ n < 1 := by omega
  have c2 : ¬ 1099511627776 < n := by omega
  have c3 : decide (1099511627776 < n) = false := decide_eq_false c2
  clear h1
  go_enter Tryd.func24, Tryd.ntmps24
  go_wp2_with fail
  go_ret
  exact ⟨rfl, hb1⟩
set_option maxRecDepth 100000 in
set_option maxHeartbeats 1000000 in
theorem check_above (n i : Int) (h1 : 1 ≤ n) (hn : n ≤ 1099511627776) (hi : n ≤ i) (root : List (BitVec 8)) (lv v : Value) (w : World) :
    Calls Tryd.prog 24 #[.agg (vB root).toArray, .int .i64 n, .int .i64 i, lv, v] w fun e w' => e = .returned (.int .i64 41) ∧ Below w.heap.size w w' := by
  have hb1 : Below w.heap.size w (w.alloc (Obj.cells (vB root).toArray 42)) := (Below.refl _ _).alloc (Nat.le_refl _) _
  have c1 : ¬ n < 1 := by omega
  have c2 : ¬ 1099511627776 < n := by omega
  have c3 : decide (1099511627776 < n) = false := decide_eq_false c2
  have c4 : ¬ i < 0 := by omega
  clear h1
  go_enter Tryd.func24, Tryd.ntmps24
  go_wp2_with fail
  go_ret
  exact ⟨rfl, hb1⟩

end Go.Proofs.YtkgfaioinajkjaaDoor
