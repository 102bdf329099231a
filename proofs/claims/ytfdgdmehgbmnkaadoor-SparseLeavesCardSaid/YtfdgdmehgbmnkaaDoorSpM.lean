/-
  sparse: which half a single key that is asked for lies in.
-/
import Derived.Test.YtfdgdmehgbmnkaaDoorSpJ
namespace Go.Proofs.YtfdgdmehgbmnkaaDoor
open Go Go.RowKit
open Sha

section
variable {o : Oper} {a : Act} {w : World} {K : Act → World → Prop} {Q : Exit → Act → World → Prop}
theorem ld_AB (w : World) (b f : Nat) (v : Value) (h : w.cell? ⟨b, f, none⟩ = some v) : (loadVar 35 ⟨b, f, none⟩).run Tryd.prog w = .ok v w := by
  simp [loadVar, isAgg, run_underlying Tryd.underlying35, h]
theorem wp_ldAB {x : Operand} (b f : Nat) (v : Value) (ho : o.op = .load 35 x) (hx : a.eval x = .pointer (some ⟨b, f, none⟩)) (hc : w.cell? ⟨b, f, none⟩ = some v) (h : K (a.put o.dst v) w) : Oper.wp Tryd.prog o a w K Q := by
  unfold Oper.wp execOp
  simp only [ho, hx, Instr.loadAt, Instr.sureAddr, Sem.run_bind, Sem.run_pure, Result.andThen_ok, ld_AB w b f v hc, Oper.upon_value]
  exact h
theorem ld_I (w : World) (b f : Nat) (v : Value) (h : w.cell? ⟨b, f, none⟩ = some v) : (loadVar 3 ⟨b, f, none⟩).run Tryd.prog w = .ok v w := by
  simp [loadVar, isAgg, run_underlying Tryd.underlying3, h]
theorem wp_ldI {x : Operand} (b f : Nat) (v : Value) (ho : o.op = .load 3 x) (hx : a.eval x = .pointer (some ⟨b, f, none⟩)) (hc : w.cell? ⟨b, f, none⟩ = some v) (h : K (a.put o.dst v) w) : Oper.wp Tryd.prog o a w K Q := by
  unfold Oper.wp execOp
  simp only [ho, hx, Instr.loadAt, Instr.sureAddr, Sem.run_bind, Sem.run_pure, Result.andThen_ok, ld_I w b f v hc, Oper.upon_value]
  exact h
theorem wp_bdO {x : Operand} (ho : o.op = .fieldAddr 59 x 0) (B f : Nat) (hx : a.eval x = .pointer (some ⟨B, f, none⟩)) (h : K (a.put o.dst (.pointer (some ⟨B, f, none⟩))) w) : Oper.wp Tryd.prog o a w K Q := by
  unfold Oper.wp execOp
  simp only [ho, hx]
  go_simp
  exact h
end
set_option maxRecDepth 100000 in
set_option maxHeartbeats 4000000 in
theorem inLeft1_any (u : List (BitVec 8)) (hu : u.length = 32) (i : Nat) (hi : i < 256) (B : Bool) (hB0 : bitOf u i = B) (p2 p3 ab ao cap : Nat) (w : World) (h2 : w.cell? ⟨p2, 0, none⟩ = some (.slice (some ⟨ab, ao, none⟩) 1 cap)) (h3 : w.cell? ⟨p3, 0, none⟩ = some (.int .i64 (i : Int)))
    (hR : ∀ W, Below w.heap.size w W → W.rangeAt ab ao (vB u)) :
    Calls Tryd.prog 83 #[.int .i64 0, .pointer (some ⟨p2, 0, none⟩), .pointer (some ⟨p3, 0, none⟩)] w fun e w' => e = .returned (.bool B) ∧ Below w.heap.size w w' := by
  have HC2 : Hid (∀ W, Below w.heap.size w W → W.cell? ⟨p2, 0, none⟩ = some (.slice (some ⟨ab, ao, none⟩) 1 cap)) := fun W k => (k.cell (World.block_lt_of_cell? w _ h2)).trans h2
  have HC3 : Hid (∀ W, Below w.heap.size w W → W.cell? ⟨p3, 0, none⟩ = some (.int .i64 (i : Int))) := fun W k => (k.cell (World.block_lt_of_cell? w _ h3)).trans h3
  have HR : Hid (∀ W, Below w.heap.size w W → W.rangeAt ab (ao + 0 * 64) (vB u)) := fun W k => by rw [Nat.zero_mul, Nat.add_zero]; exact hR W k
  have HIK : Hid ((Tryd.prog.info? 29).map (·.size) = some (vB u).length) := by show _ = _; rw [vB_length, hu]; exact info_dig
  have HBT : Hid (∀ W, Calls Tryd.prog 61 #[.agg (vB u).toArray, .int .i64 (i : Int)] W fun e w' => e = .returned (.bool B) ∧ Below W.heap.size W w') := fun W => by rw [← hB0]; exact bitAt_any u hu i hi W
  clear h2 h3 hR hu hi hB0
  have hb1 : Below w.heap.size w w := Below.refl _ _
  go_enter Tryd.func83, Tryd.ntmps83
  go_upto_region 1 with fail
  refine wp_named fun a0 ha0 => ?_
  have hsz : a0.tmps.size = 12 := by rw [ha0]; rfl
  have zs0 : a0.eval (.tmp 0) = .int .i64 0 := by rw [ha0]; rfl
  have zs1 : a0.eval (.tmp 1) = .pointer (some ⟨p2, 0, none⟩) := by rw [ha0]; rfl
  have zs2 : a0.eval (.tmp 2) = .pointer (some ⟨p3, 0, none⟩) := by rw [ha0]; rfl
  obtain ⟨D, hD⟩ : ∃ D : List (Tmp × SP), D = [(5, SP.is (.slice (some ⟨ab, ao, none⟩) 1 cap)), (6, SP.is (.int .i64 0)), (7, SP.is (.pointer (some ⟨ab, ao + 0 * 64, none⟩))), (8, SP.is (.pointer (some ⟨ab, ao + 0 * 64, none⟩))), (9, SP.is (.agg (vB u).toArray)), (10, SP.is (.int .i64 (i : Int))), (11, SP.is (.bool B)), (4, SP.is (.bool B))] := ⟨_, rfl⟩
  refine wp_region_down (by kernel_rfl) (fun listed ac W => listed.size = 8 ∧ Fp D a0 listed ac W ∧ Below w.heap.size w W) ?_ ?_ ?_
  · exact ⟨by simp, Fp.start D a0 _ _, Below.drew hb1⟩
  · clear ha0 hb1  
    intro listed ac W k hI hdn hk
    obtain ⟨hl, hF, hb1⟩ := hI
    have hk1 : k < 8 := List.mem_range.1 (List.mem_filter.1 hk).1
    have hl2 : ∀ j, (listed.setIfInBounds j true).size = 8 := fun j => by rw [Array.size_setIfInBounds]; exact hl
    rcases (show k = 0 ∨ k = 1 ∨ k = 2 ∨ k = 3 ∨ k = 4 ∨ k = 5 ∨ k = 6 ∨ k = 7 by omega) with rfl | rfl | rfl | rfl | rfl | rfl | rfl | rfl
    · have hk3 := hk
      exact wpOp_plain rfl rfl (wp_ldAB p2 0 (.slice (some ⟨ab, ao, none⟩) 1 cap) rfl ((hF.keep 1 (by rw [hD]; rfl)).trans zs1) (HC2.out W hb1) ⟨hl2 0, (hF.put 0 5 (SP.is (.slice (some ⟨ab, ao, none⟩) 1 cap)) (.slice (some ⟨ab, ao, none⟩) 1 cap) (by rw [hD]; rfl) rfl (by rw [hD]; rfl) (by rw [hsz]; decide) (by rw [hl]; decide)), hb1⟩)
    · have hk3 := hk
      exact wpOp_plain rfl rfl (wp_move_v (ac.eval (.tmp 0)) rfl rfl ⟨hl2 1, (hF.put 1 6 (SP.is (.int .i64 0)) (ac.eval (.tmp 0)) (by rw [hD]; rfl) (((hF.keep 0 (by rw [hD]; rfl)).trans zs0)) (by rw [hD]; rfl) (by rw [hsz]; decide) (by rw [hl]; decide)), hb1⟩)
    · have hk3 := hk
      have e1 := (hF.done 0 (5, SP.is (.slice (some ⟨ab, ao, none⟩) 1 cap)) (by rw [hD]; rfl) (ready_dep hk 0 (by kernel_rfl)))
      have e2 := (hF.done 1 (6, SP.is (.int .i64 0)) (by rw [hD]; rfl) (ready_dep hk 1 (by kernel_rfl)))
      exact wpOp_plain rfl rfl (wp_index_s 35 59 rfl ab ao 1 cap 0 64 e1 e2 (by decide) Tryd.underlying35 info_bd ⟨hl2 2, (hF.put 2 7 (SP.is (.pointer (some ⟨ab, ao + 0 * 64, none⟩))) (.pointer (some ⟨ab, ao + 0 * 64, none⟩)) (by rw [hD]; rfl) rfl (by rw [hD]; rfl) (by rw [hsz]; decide) (by rw [hl]; decide)), hb1⟩)
    · have hk3 := hk
      have e1 := (hF.done 2 (7, SP.is (.pointer (some ⟨ab, ao + 0 * 64, none⟩))) (by rw [hD]; rfl) (ready_dep hk 2 (by kernel_rfl)))
      exact wpOp_plain rfl rfl (wp_bdO rfl ab (ao + 0 * 64) e1 ⟨hl2 3, (hF.put 3 8 (SP.is (.pointer (some ⟨ab, ao + 0 * 64, none⟩))) (.pointer (some ⟨ab, ao + 0 * 64, none⟩)) (by rw [hD]; rfl) rfl (by rw [hD]; rfl) (by rw [hsz]; decide) (by rw [hl]; decide)), hb1⟩)
    · have hk3 := hk
      have e1 := (hF.done 3 (8, SP.is (.pointer (some ⟨ab, ao + 0 * 64, none⟩))) (by rw [hD]; rfl) (ready_dep hk 3 (by kernel_rfl)))
      exact wpOp_plain rfl rfl (wp_load_mid 29 (.tmp 8) rfl ab (ao + 0 * 64) e1 (vB u) _ (HR.out W hb1) Tryd.underlying29 rfl HIK.out ⟨hl2 4, (hF.put 4 9 (SP.is (.agg (vB u).toArray)) (.agg (vB u).toArray) (by rw [hD]; rfl) rfl (by rw [hD]; rfl) (by rw [hsz]; decide) (by rw [hl]; decide)), hb1⟩)
    · have hk3 := hk
      exact wpOp_plain rfl rfl (wp_ldI p3 0 (.int .i64 (i : Int)) rfl ((hF.keep 2 (by rw [hD]; rfl)).trans zs2) (HC3.out W hb1) ⟨hl2 5, (hF.put 5 10 (SP.is (.int .i64 (i : Int))) (.int .i64 (i : Int)) (by rw [hD]; rfl) rfl (by rw [hD]; rfl) (by rw [hsz]; decide) (by rw [hl]; decide)), hb1⟩)
    · have hk3 := hk
      have ea := (hF.done 4 (9, SP.is (.agg (vB u).toArray)) (by rw [hD]; rfl) (ready_dep hk 4 (by kernel_rfl)))
      have eb := (hF.done 5 (10, SP.is (.int .i64 (i : Int))) (by rw [hD]; rfl) (ready_dep hk 5 (by kernel_rfl)))
      refine wpOp_plain rfl rfl (wp_fcall_v 61 #[.agg (vB u).toArray, .int .i64 (i : Int)] rfl rfl (by show [ac.eval (.tmp 9), ac.eval (.tmp 10)] = _; rw [show ac.eval (.tmp 9) = _ from ea, show ac.eval (.tmp 10) = _ from eb]) (by go_simp) ((HBT.out W).mono ?_))
      rintro e W2 ⟨rfl, hB⟩
      exact ⟨_, rfl, hl2 6, ((hF.world hB).put 6 11 (SP.is (.bool B)) (.bool B) (by rw [hD]; rfl) rfl (by rw [hD]; rfl) (by rw [hsz]; decide) (by rw [hl]; decide)), hb1.trans (hB.mono hb1.size)⟩
    · have hk3 := hk
      exact wpOp_plain rfl rfl (wp_assign_v (ac.eval (.tmp 11)) rfl rfl ⟨hl2 7, (hF.put 7 4 (SP.is (.bool B)) (ac.eval (.tmp 11)) (by rw [hD]; rfl) ((hF.done 6 (11, SP.is (.bool B)) (by rw [hD]; rfl) (ready_dep hk 6 (by kernel_rfl)))) (by rw [hD]; rfl) (by rw [hsz]; decide) (by rw [hl]; decide)), hb1⟩)
  · clear hb1  
    intro listed ac W hI hr
    obtain ⟨hl, hF, hb1⟩ := hI
    have hall := all_listed (by kernel_rfl) hl hr
    have h5 : ac.eval (.tmp 5) = .slice (some ⟨ab, ao, none⟩) 1 cap := hF.done 0 (5, SP.is (.slice (some ⟨ab, ao, none⟩) 1 cap)) (by rw [hD]; rfl) (hall 0 (by decide))
    have h6 : ac.eval (.tmp 6) = .int .i64 0 := hF.done 1 (6, SP.is (.int .i64 0)) (by rw [hD]; rfl) (hall 1 (by decide))
    have h7 : ac.eval (.tmp 7) = .pointer (some ⟨ab, ao + 0 * 64, none⟩) := hF.done 2 (7, SP.is (.pointer (some ⟨ab, ao + 0 * 64, none⟩))) (by rw [hD]; rfl) (hall 2 (by decide))
    have h8 : ac.eval (.tmp 8) = .pointer (some ⟨ab, ao + 0 * 64, none⟩) := hF.done 3 (8, SP.is (.pointer (some ⟨ab, ao + 0 * 64, none⟩))) (by rw [hD]; rfl) (hall 3 (by decide))
    have h9 : ac.eval (.tmp 9) = .agg (vB u).toArray := hF.done 4 (9, SP.is (.agg (vB u).toArray)) (by rw [hD]; rfl) (hall 4 (by decide))
    have h10 : ac.eval (.tmp 10) = .int .i64 (i : Int) := hF.done 5 (10, SP.is (.int .i64 (i : Int))) (by rw [hD]; rfl) (hall 5 (by decide))
    have h11 : ac.eval (.tmp 11) = .bool B := hF.done 6 (11, SP.is (.bool B)) (by rw [hD]; rfl) (hall 6 (by decide))
    have h4 : ac.eval (.tmp 4) = .bool B := hF.done 7 (4, SP.is (.bool B)) (by rw [hD]; rfl) (hall 7 (by decide))
    have ea := hF.lay [(5, .slice (some ⟨ab, ao, none⟩) 1 cap), (6, .int .i64 0), (7, .pointer (some ⟨ab, ao + 0 * 64, none⟩)), (8, .pointer (some ⟨ab, ao + 0 * 64, none⟩)), (9, .agg (vB u).toArray), (10, .int .i64 (i : Int)), (11, .bool B), (4, .bool B)] (by rw [hD, hsz]; rfl) (by simp only [List.forall_mem_cons, List.not_mem_nil, false_implies, implies_true, and_true]; exact ⟨h5, h6, h7, h8, h9, h10, h11, h4⟩)
    rw [ha0] at ea
    simp only [List.foldl_cons, List.foldl_nil, List.setIfInBounds_toArray, List.set_cons_zero, List.set_cons_succ] at ea
    clear hF hall hr hl hD  zs0 zs1 zs2 ha0 hsz h5 h6 h7 h8 h9 h10 h11 h4
    subst ea
    go_wp2_with fail
    go_ret
    exact ⟨rfl, hb1⟩
/-- sort.Search in one place. -/
theorem search_one (B : Bool) (p q : Value) (w : World) (hF : Calls Tryd.prog 83 #[.int .i64 0, p, q] w fun e w' => e = .returned (.bool B) ∧ Below w.heap.size w w') :
    Calls Tryd.prog 82 #[.int .i64 1, .func (.func 83) #[] #[p, q]] w fun e w' => e = .returned (.int .i64 (if B then 0 else 1)) ∧ Below w.heap.size w w' := by
  have HF : Hid _ := hF
  clear hF
  go_enter Tryd.func82, Tryd.ntmps82
  go_wp2
  go_loopw [5, 6] (fun i j wr => (i = .int .i64 0 ∧ j = .int .i64 1 ∧ wr = w) ∨ (i = .int .i64 (if B then 0 else 1) ∧ j = .int .i64 (if B then 0 else 1) ∧ Hid (Below w.heap.size w wr))) (fun i j _ => (intOf j - intOf i).toNat)
  case atStart => exact .inl ⟨rfl, rfl, rfl⟩
  case round =>
    rcases hrel with ⟨rfl, rfl, rfl⟩ | ⟨rfl, rfl, hb⟩
    · cases B with
      | true =>
        go_wp2_with (go_at_call 83; refine Calls.mono HF.out ?_; rintro e X ⟨rfl, qq⟩; have BX : Hid (Below _ _ X) := qq; clear qq)
        exact ⟨.inr ⟨rfl, rfl, BX⟩, by decide⟩
      | false =>
        go_wp2_with (go_at_call 83; refine Calls.mono HF.out ?_; rintro e X ⟨rfl, qq⟩; have BX : Hid (Below _ _ X) := qq; clear qq)
        exact ⟨.inr ⟨rfl, rfl, BX⟩, by decide⟩
    · cases B with
      | true =>
        go_wp2
        go_ret
        exact ⟨rfl, hb.out⟩
      | false =>
        go_wp2
        go_ret
        exact ⟨rfl, hb.out⟩
set_option maxRecDepth 100000 in
set_option maxHeartbeats 4000000 in
theorem inLeft_one (u : List (BitVec 8)) (hu : u.length = 32) (i : Nat) (hi : i < 256) (ab ao cap : Nat) (w : World) (hR : ∀ W, Below w.heap.size w W → W.rangeAt ab ao (vB u)) :
    Calls Tryd.prog 68 #[.slice (some ⟨ab, ao, none⟩) 1 cap, .int .i64 (i : Int)] w fun e w' => e = .returned (.int .i64 (if bitOf u i then 0 else 1)) ∧ Below w.heap.size w w' := by
  have hmf : ∀ (fn : Fn) (first cap : Array Value) (w : World), (Instr.makeFunc fn first cap).run Tryd.prog w = .ok (.func fn first cap) w := fun _ _ _ _ => rfl
  have hB : Below w.heap.size w ((w.alloc (Obj.cells #[.slice (some ⟨ab, ao, none⟩) 1 cap] 35)).alloc (Obj.cells #[.int .i64 (i : Int)] 3)) := ((Below.refl _ _).alloc (Nat.le_refl _) _).alloc (by simp) _
  have r1 : Row ((w.alloc (Obj.cells #[.slice (some ⟨ab, ao, none⟩) 1 cap] 35)).alloc (Obj.cells #[.int .i64 (i : Int)] 3)) w.heap.size [.slice (some ⟨ab, ao, none⟩) 1 cap] 35 := (Row.new w [.slice (some ⟨ab, ao, none⟩) 1 cap] _).alloc _
  have r2 : Row ((w.alloc (Obj.cells #[.slice (some ⟨ab, ao, none⟩) 1 cap] 35)).alloc (Obj.cells #[.int .i64 (i : Int)] 3)) (w.heap.size + 1) [.int .i64 (i : Int)] 3 := Row.new' (by simp) rfl
  have HS : Hid _ := search_one (bitOf u i) _ _ _ (inLeft1_any u hu i hi _ rfl w.heap.size (w.heap.size + 1) ab ao cap _ (r1.cell 0 _ rfl) (r2.cell 0 _ rfl) (fun W k => hR W (hB.trans (k.mono hB.size))))
  have HB : Hid _ := hB
  clear hB r1 r2 hR hu hi
  generalize (if bitOf u i then (0 : Int) else 1) = z at HS ⊢
  go_enter Tryd.func68, Tryd.ntmps68
  go_wp2_with (go_at_call 82; refine Calls.mono HS.out ?_; rintro e X ⟨rfl, qq⟩; have BX : Hid (Below w.heap.size w X) := HB.out.trans (qq.mono HB.out.size); clear qq)
  go_ret
  exact ⟨rfl, BX.out⟩

end Go.Proofs.YtfdgdmehgbmnkaaDoor
