/-
  Check of a path of another length; Check of whatever comes.
-/
import Derived.Test.YtkgfaioinajkjaaDoorTChkE
import Derived.Test.YtkgfaioinajkjaaDoorTDg
namespace Go.Proofs.YtkgfaioinajkjaaDoor
open Go Go.RowKit
open Sha

section
variable {P : Program} {ops : Array Oper} {Q : Exit → Act → World → Prop} {o : Oper} {a : Act} {w : World} {K : Act → World → Prop} {i : Nat}
theorem wpOp_off (ho : ops[i]? = some o) (hw : Region.wanted o (yielded ops a.tmps) = false) (h : K (a.put o.dst undef) w) : wpOp P ops Q i K a w := by
  unfold wpOp
  rw [ho]
  simp only [hw]
  exact h
theorem unwanted_g {g : Nat} {b : Bool} {t : Tmp} (ho : o.guard = some (g, b)) (hg : ((ops[g]?).bind fun o => o.dst) = some t) (h : a.eval (.tmp t) = .bool (!b)) (hs : t < a.tmps.size) : Region.wanted o (yielded ops a.tmps) = false := by
  have h2 : a.tmps[t]? = some (.bool (!b)) := by
    rw [Array.getElem?_eq_getElem hs]
    have : a.tmps[t]?.getD undef = .bool (!b) := by simpa [Act.eval] using h
    rw [Array.getElem?_eq_getElem hs] at this
    simpa using this
  cases b <;> simp [Region.wanted, ho, yielded, hg, h2]
end

set_option maxRecDepth 100000 in
set_option maxHeartbeats 4000000 in
theorem chk_other (n i m k cap : Nat) (A : Option Addr) (hin : i < n) (hn : n ≤ 1099511627776) (hm : pl n i = m) (hk : k ≠ m) (root : List (BitVec 8)) (hr0 : root.length = 32) (lv : Value) (w : World) :
    Calls Tryd.prog 24 #[.agg (vB root).toArray, .int .i64 (n : Int), .int .i64 (i : Int), lv, .slice A k cap] w fun e w' => e = .returned (.int .i64 43) ∧ Below w.heap.size w w' := by
  have HIL : Hid ((Tryd.prog.info? 42).map (·.size) = some (vB root).length) := by show _ = _; rw [info_dig]; simp [vB_length, hr0]
  have HKM : Hid ((!((k : Int) == (m : Int))) = true) := by show _ = _; simpa using fun h => hk (by omega)
  have HPL : Hid (∀ W : World, Calls Tryd.prog 38 #[.int .i64 (n : Int), .int .i64 (i : Int)] W fun e w' => e = .returned (.int .i64 (m : Int)) ∧ Below W.heap.size W w') := fun W => by
    rw [← hm]
    exact (plen_any n i hin (by omega) W).mono fun e w' h => ⟨h.1, by rw [h.2]; exact Below.refl _ _⟩
  have c1 : ¬ (n : Int) < 1 := by omega
  have c2 : ¬ (1099511627776 : Int) < (n : Int) := by omega
  have c2b : (n : Int) ≤ 1099511627776 := by omega
  have c2c : decide ((1099511627776 : Int) < (n : Int)) = false := decide_eq_false c2
  have c3 : ¬ (i : Int) < 0 := by omega
  have c4 : ¬ (n : Int) ≤ (i : Int) := by omega
  clear hr0 hm hn hin hk
  have hb1 : Below w.heap.size w (w.alloc (Obj.cells (vB root).toArray 42)) := (Below.refl _ _).alloc (Nat.le_refl _) _
  have r0 : Row (w.alloc (Obj.cells (vB root).toArray 42)) w.heap.size (vB root) 42 := Row.new' rfl rfl
  go_enter Tryd.func24, Tryd.ntmps24
  go_wp2_with fail
  refine wp_named fun a0 ha0 => ?_
  have hsz : a0.tmps.size = 39 := by rw [ha0]; rfl
  have s1 : a0.eval (.tmp 1) = .int .i64 (n : Int) := by rw [ha0]; rfl
  have s2 : a0.eval (.tmp 2) = .int .i64 (i : Int) := by rw [ha0]; rfl
  have s3 : a0.eval (.tmp 3) = lv := by rw [ha0]; rfl
  have s4 : a0.eval (.tmp 4) = .slice A k cap := by rw [ha0]; rfl
  have s5 : a0.eval (.tmp 5) = .pointer (some ⟨w.heap.size, 0, none⟩) := by rw [ha0]; rfl
  obtain ⟨D, hD⟩ : ∃ D : List (Tmp × SP), D = [(24, SP.is (.slice A k cap)), (25, SP.is (.int .i64 (k : Int))), (26, SP.is (.int .i64 (n : Int))), (27, SP.is (.int .i64 (i : Int))), (28, SP.is (.int .i64 (m : Int))), (29, SP.is (.bool true)), (30, SP.is (.bool true)), (31, SP.is (undef)), (32, SP.is (undef)), (33, SP.is (undef)), (34, SP.is (undef)), (35, SP.is (undef)), (36, SP.is (undef)), (37, SP.is (undef)), (38, SP.is (.bool true))] := ⟨_, rfl⟩
  refine wp_region_down (by kernel_rfl) (fun listed ac W => listed.size = 15 ∧ Fp D a0 listed ac W ∧ Below w.heap.size w W ∧ Row W w.heap.size ((vB root)) 42) ?_ ?_ ?_
  · exact ⟨by simp, Fp.start D a0 _ _, Below.drew hb1, Row.drew r0⟩
  · clear ha0 hb1 r0 
    intro listed ac W k hI hdn hk
    obtain ⟨hl, hF, hb1, r0⟩ := hI
    have hk1 : k < 15 := List.mem_range.1 (List.mem_filter.1 hk).1
    have hl2 : ∀ j, (listed.setIfInBounds j true).size = 15 := fun j => by rw [Array.size_setIfInBounds]; exact hl
    rcases (show k = 0 ∨ k = 1 ∨ k = 2 ∨ k = 3 ∨ k = 4 ∨ k = 5 ∨ k = 6 ∨ k = 7 ∨ k = 8 ∨ k = 9 ∨ k = 10 ∨ k = 11 ∨ k = 12 ∨ k = 13 ∨ k = 14 by omega) with rfl | rfl | rfl | rfl | rfl | rfl | rfl | rfl | rfl | rfl | rfl | rfl | rfl | rfl | rfl
    · have hk3 := hk
      exact wpOp_plain rfl rfl (wp_move_v (ac.eval (.tmp 4)) rfl rfl ⟨hl2 0, (hF.put 0 24 (SP.is (.slice A k cap)) (ac.eval (.tmp 4)) (by rw [hD]; rfl) (((hF.keep 4 (by rw [hD]; rfl)).trans s4)) (by rw [hD]; rfl) (by rw [hsz]; decide) (by rw [hl]; decide)), hb1, r0⟩)
    · have hk3 := hk
      have ea := (hF.done 0 (24, SP.is (.slice A k cap)) (by rw [hD]; rfl) (ready_dep hk 0 (by kernel_rfl)))
      exact wpOp_plain rfl rfl (wp_len_s 26 42 A k cap rfl Tryd.underlying26 ea ⟨hl2 1, (hF.put 1 25 (SP.is (.int .i64 (k : Int))) (.int .i64 (k : Int)) (by rw [hD]; rfl) rfl (by rw [hD]; rfl) (by rw [hsz]; decide) (by rw [hl]; decide)), hb1, r0⟩)
    · have hk3 := hk
      exact wpOp_plain rfl rfl (wp_move_v (ac.eval (.tmp 1)) rfl rfl ⟨hl2 2, (hF.put 2 26 (SP.is (.int .i64 (n : Int))) (ac.eval (.tmp 1)) (by rw [hD]; rfl) (((hF.keep 1 (by rw [hD]; rfl)).trans s1)) (by rw [hD]; rfl) (by rw [hsz]; decide) (by rw [hl]; decide)), hb1, r0⟩)
    · have hk3 := hk
      exact wpOp_plain rfl rfl (wp_move_v (ac.eval (.tmp 2)) rfl rfl ⟨hl2 3, (hF.put 3 27 (SP.is (.int .i64 (i : Int))) (ac.eval (.tmp 2)) (by rw [hD]; rfl) (((hF.keep 2 (by rw [hD]; rfl)).trans s2)) (by rw [hD]; rfl) (by rw [hsz]; decide) (by rw [hl]; decide)), hb1, r0⟩)
    · have hk3 := hk
      have ea := (hF.done 2 (26, SP.is (.int .i64 (n : Int))) (by rw [hD]; rfl) (ready_dep hk 2 (by kernel_rfl)))
      have eb := (hF.done 3 (27, SP.is (.int .i64 (i : Int))) (by rw [hD]; rfl) (ready_dep hk 3 (by kernel_rfl)))
      refine wpOp_plain rfl rfl (wp_fcall_v 38 #[.int .i64 (n : Int), .int .i64 (i : Int)] rfl rfl (by show [ac.eval (.tmp 26), ac.eval (.tmp 27)] = _; rw [show ac.eval (.tmp 26) = _ from ea, show ac.eval (.tmp 27) = _ from eb]) (by go_simp) ((HPL.out W).mono ?_))
      rintro e W2 ⟨rfl, hB⟩
      exact ⟨_, rfl, hl2 4, ((hF.world hB).put 4 28 (SP.is (.int .i64 (m : Int))) (.int .i64 (m : Int)) (by rw [hD]; rfl) rfl (by rw [hD]; rfl) (by rw [hsz]; decide) (by rw [hl]; decide)), hb1.trans (hB.mono hb1.size), Row.below r0 hB (Row.lt r0)⟩
    · have hk3 := hk
      have ea := (hF.done 1 (25, SP.is (.int .i64 (k : Int))) (by rw [hD]; rfl) (ready_dep hk 1 (by kernel_rfl)))
      have eb := (hF.done 4 (28, SP.is (.int .i64 (m : Int))) (by rw [hD]; rfl) (ready_dep hk 4 (by kernel_rfl)))
      exact wpOp_plain rfl rfl (wp_neqint_v rfl ea eb HKM.out ⟨hl2 5, (hF.put 5 29 (SP.is (.bool true)) (.bool true) (by rw [hD]; rfl) rfl (by rw [hD]; rfl) (by rw [hsz]; decide) (by rw [hl]; decide)), hb1, r0⟩)
    · have hk3 := hk
      exact wpOp_plain rfl rfl (wp_move_v (ac.eval (.tmp 29)) rfl rfl ⟨hl2 6, (hF.put 6 30 (SP.is (.bool true)) (ac.eval (.tmp 29)) (by rw [hD]; rfl) ((hF.done 5 (29, SP.is (.bool true)) (by rw [hD]; rfl) (ready_dep hk 5 (by kernel_rfl)))) (by rw [hD]; rfl) (by rw [hsz]; decide) (by rw [hl]; decide)), hb1, r0⟩)
    · have hk3 := hk
      exact wpOp_off rfl (unwanted_g (g := 6) (b := false) rfl rfl (hF.done 6 (30, SP.is (.bool true)) (by rw [hD]; rfl) (ready_dep hk 6 (by kernel_rfl))) (by rw [hF.size, hsz]; decide)) ⟨hl2 7, (hF.put 7 31 (SP.is (undef)) undef (by rw [hD]; rfl) rfl (by rw [hD]; rfl) (by rw [hsz]; decide) (by rw [hl]; decide)), hb1, r0⟩
    · have hk3 := hk
      exact wpOp_off rfl (unwanted_g (g := 6) (b := false) rfl rfl (hF.done 6 (30, SP.is (.bool true)) (by rw [hD]; rfl) (ready_dep hk 6 (by kernel_rfl))) (by rw [hF.size, hsz]; decide)) ⟨hl2 8, (hF.put 8 32 (SP.is (undef)) undef (by rw [hD]; rfl) rfl (by rw [hD]; rfl) (by rw [hsz]; decide) (by rw [hl]; decide)), hb1, r0⟩
    · have hk3 := hk
      exact wpOp_off rfl (unwanted_g (g := 6) (b := false) rfl rfl (hF.done 6 (30, SP.is (.bool true)) (by rw [hD]; rfl) (ready_dep hk 6 (by kernel_rfl))) (by rw [hF.size, hsz]; decide)) ⟨hl2 9, (hF.put 9 33 (SP.is (undef)) undef (by rw [hD]; rfl) rfl (by rw [hD]; rfl) (by rw [hsz]; decide) (by rw [hl]; decide)), hb1, r0⟩
    · have hk3 := hk
      exact wpOp_off rfl (unwanted_g (g := 6) (b := false) rfl rfl (hF.done 6 (30, SP.is (.bool true)) (by rw [hD]; rfl) (ready_dep hk 6 (by kernel_rfl))) (by rw [hF.size, hsz]; decide)) ⟨hl2 10, (hF.put 10 34 (SP.is (undef)) undef (by rw [hD]; rfl) rfl (by rw [hD]; rfl) (by rw [hsz]; decide) (by rw [hl]; decide)), hb1, r0⟩
    · have hk3 := hk
      exact wpOp_off rfl (unwanted_g (g := 6) (b := false) rfl rfl (hF.done 6 (30, SP.is (.bool true)) (by rw [hD]; rfl) (ready_dep hk 6 (by kernel_rfl))) (by rw [hF.size, hsz]; decide)) ⟨hl2 11, (hF.put 11 35 (SP.is (undef)) undef (by rw [hD]; rfl) rfl (by rw [hD]; rfl) (by rw [hsz]; decide) (by rw [hl]; decide)), hb1, r0⟩
    · have hk3 := hk
      exact wpOp_off rfl (unwanted_g (g := 6) (b := false) rfl rfl (hF.done 6 (30, SP.is (.bool true)) (by rw [hD]; rfl) (ready_dep hk 6 (by kernel_rfl))) (by rw [hF.size, hsz]; decide)) ⟨hl2 12, (hF.put 12 36 (SP.is (undef)) undef (by rw [hD]; rfl) rfl (by rw [hD]; rfl) (by rw [hsz]; decide) (by rw [hl]; decide)), hb1, r0⟩
    · have hk3 := hk
      exact wpOp_off rfl (unwanted_g (g := 6) (b := false) rfl rfl (hF.done 6 (30, SP.is (.bool true)) (by rw [hD]; rfl) (ready_dep hk 6 (by kernel_rfl))) (by rw [hF.size, hsz]; decide)) ⟨hl2 13, (hF.put 13 37 (SP.is (undef)) undef (by rw [hD]; rfl) rfl (by rw [hD]; rfl) (by rw [hsz]; decide) (by rw [hl]; decide)), hb1, r0⟩
    · have hk3 := hk
      have ea := (hF.done 6 (30, SP.is (.bool true)) (by rw [hD]; rfl) (ready_dep hk 6 (by kernel_rfl)))
      exact wpOp_plain rfl rfl (wp_pick_v (.bool true) rfl ea rfl ⟨hl2 14, (hF.put 14 38 (SP.is (.bool true)) (.bool true) (by rw [hD]; rfl) rfl (by rw [hD]; rfl) (by rw [hsz]; decide) (by rw [hl]; decide)), hb1, r0⟩)
  · clear hb1 r0 
    intro listed ac W hI hr
    obtain ⟨hl, hF, hb1, r0⟩ := hI
    have hall := all_listed (by kernel_rfl) hl hr
    have h24 : ac.eval (.tmp 24) = .slice A k cap := hF.done 0 (24, SP.is (.slice A k cap)) (by rw [hD]; rfl) (hall 0 (by decide))
    have h25 : ac.eval (.tmp 25) = .int .i64 (k : Int) := hF.done 1 (25, SP.is (.int .i64 (k : Int))) (by rw [hD]; rfl) (hall 1 (by decide))
    have h26 : ac.eval (.tmp 26) = .int .i64 (n : Int) := hF.done 2 (26, SP.is (.int .i64 (n : Int))) (by rw [hD]; rfl) (hall 2 (by decide))
    have h27 : ac.eval (.tmp 27) = .int .i64 (i : Int) := hF.done 3 (27, SP.is (.int .i64 (i : Int))) (by rw [hD]; rfl) (hall 3 (by decide))
    have h28 : ac.eval (.tmp 28) = .int .i64 (m : Int) := hF.done 4 (28, SP.is (.int .i64 (m : Int))) (by rw [hD]; rfl) (hall 4 (by decide))
    have h29 : ac.eval (.tmp 29) = .bool true := hF.done 5 (29, SP.is (.bool true)) (by rw [hD]; rfl) (hall 5 (by decide))
    have h30 : ac.eval (.tmp 30) = .bool true := hF.done 6 (30, SP.is (.bool true)) (by rw [hD]; rfl) (hall 6 (by decide))
    have h31 : ac.eval (.tmp 31) = undef := hF.done 7 (31, SP.is (undef)) (by rw [hD]; rfl) (hall 7 (by decide))
    have h32 : ac.eval (.tmp 32) = undef := hF.done 8 (32, SP.is (undef)) (by rw [hD]; rfl) (hall 8 (by decide))
    have h33 : ac.eval (.tmp 33) = undef := hF.done 9 (33, SP.is (undef)) (by rw [hD]; rfl) (hall 9 (by decide))
    have h34 : ac.eval (.tmp 34) = undef := hF.done 10 (34, SP.is (undef)) (by rw [hD]; rfl) (hall 10 (by decide))
    have h35 : ac.eval (.tmp 35) = undef := hF.done 11 (35, SP.is (undef)) (by rw [hD]; rfl) (hall 11 (by decide))
    have h36 : ac.eval (.tmp 36) = undef := hF.done 12 (36, SP.is (undef)) (by rw [hD]; rfl) (hall 12 (by decide))
    have h37 : ac.eval (.tmp 37) = undef := hF.done 13 (37, SP.is (undef)) (by rw [hD]; rfl) (hall 13 (by decide))
    have h38 : ac.eval (.tmp 38) = .bool true := hF.done 14 (38, SP.is (.bool true)) (by rw [hD]; rfl) (hall 14 (by decide))
    have ea := hF.lay [(24, .slice A k cap), (25, .int .i64 (k : Int)), (26, .int .i64 (n : Int)), (27, .int .i64 (i : Int)), (28, .int .i64 (m : Int)), (29, .bool true), (30, .bool true), (31, undef), (32, undef), (33, undef), (34, undef), (35, undef), (36, undef), (37, undef), (38, .bool true)] (by rw [hD, hsz]; rfl) (by simp only [List.forall_mem_cons, List.not_mem_nil, false_implies, implies_true, and_true]; exact ⟨h24, h25, h26, h27, h28, h29, h30, h31, h32, h33, h34, h35, h36, h37, h38⟩)
    rw [ha0] at ea
    simp only [List.foldl_cons, List.foldl_nil, List.setIfInBounds_toArray, List.set_cons_zero, List.set_cons_succ] at ea
    clear hF hall hr hl hD  s1 s2 s3 s4 s5 ha0 hsz h24 h25 h26 h27 h28 h29 h30 h31 h32 h33 h34 h35 h36 h37 h38
    subst ea
    go_wp2_with fail
    go_ret
    exact ⟨rfl, hb1⟩

/-- What Check answers. -/
def ck (root : List (BitVec 8)) (n i : Int) (lf : List (BitVec 8)) (ds : List (List (BitVec 8))) : Int :=
  if n < 1 ∨ 1099511627776 < n then 40 else if i < 0 ∨ n ≤ i then 41 else if ds.length = pl n.toNat i.toNat ∧ rb n.toNat i.toNat lf ds = root then 0 else 43
/-- Check of whatever comes. -/
theorem check_any (n i : Int) (root lf : List (BitVec 8)) (ds : List (List (BitVec 8))) (hr0 : root.length = 32) (hlf : lf.length < 1152921504606846975) (v lv : Value) (w : World) (hK : Tab w 4) (hp : PAt w v ds) (hv : SlAt w lv lf) :
    Calls Tryd.prog 24 #[.agg (vB root).toArray, .int .i64 n, .int .i64 i, lv, v] w fun e w' => e = .returned (.int .i64 (ck root n i lf ds)) ∧ Below w.heap.size w w' := by
  unfold ck
  by_cases h1 : n < 1
  · rw [if_pos (.inl h1)]; exact check_small n i h1 root lv v w
  by_cases h2 : 1099511627776 < n
  · rw [if_pos (.inr h2)]; exact check_great n i h2 root lv v w
  rw [if_neg (by omega)]
  by_cases h3 : i < 0
  · rw [if_pos (.inl h3)]; exact check_below n i (by omega) (by omega) h3 root lv v w
  by_cases h4 : n ≤ i
  · rw [if_pos (.inr h4)]; exact check_above n i (by omega) (by omega) h4 root lv v w
  rw [if_neg (by omega)]
  obtain ⟨N, rfl⟩ : ∃ N : Nat, n = (N : Int) := ⟨n.toNat, by omega⟩
  obtain ⟨I, rfl⟩ : ∃ I : Nat, i = (I : Int) := ⟨i.toNat, by omega⟩
  simp only [Int.toNat_natCast]
  by_cases h5 : ds.length = pl N I
  · have h := check_len N I (by omega) (by omega) root lf ds h5 hr0 hlf v lv w hK hp hv
    by_cases h6 : rb N I lf ds = root
    · rw [if_pos h6] at h
      rw [if_pos ⟨h5, h6⟩]; exact h
    · rw [if_neg h6] at h
      rw [if_neg (fun x => h6 x.2)]; exact h
  · rw [if_neg (fun x => h5 x.1)]
    obtain ⟨_, A, cap, rfl, _, _⟩ := hp
    exact chk_other N I _ ds.length cap A (by omega) (by omega) rfl h5 root hr0 lv w

end Go.Proofs.YtkgfaioinajkjaaDoor
