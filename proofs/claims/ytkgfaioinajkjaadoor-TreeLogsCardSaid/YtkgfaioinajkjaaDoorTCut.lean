/-
  Lists of digests in memory; cutLast.
-/
import Derived.Test.YtkgfaioinajkjaaDoorTRoot

namespace Go.Proofs.YtkgfaioinajkjaaDoor
open Go Go.RowKit
open Sha

/-- How many digests a path has, by fuel. -/
def plF : Nat → Nat → Nat → Nat
  | 0, _, _ => 0
  | f + 1, n, i => if n = 1 then 0 else if i < fpart n then plF f (fpart n) i + 1 else plF f (n - fpart n) (i - fpart n) + 1
/-- How many digests the path of leaf i of n has. -/
def pl (n i : Nat) : Nat := plF n n i
theorem plF_fuel : ∀ (f g n i : Nat), 1 ≤ n → n ≤ f → n ≤ g → n < 4611686018427387904 → plF f n i = plF g n i
  | 0, _, _, _, h1, h, _, _ => by omega
  | _ + 1, 0, _, _, h1, _, h, _ => by omega
  | f + 1, g + 1, n, i, h1, hf, hg, hl => by
    unfold plF
    split
    · rfl
    · have hb := fpart_bounds n (by omega) hl
      have hp := fpart_pos n
      rw [plF_fuel f g (fpart n) i (by omega) (by omega) (by omega) (by omega), plF_fuel f g (n - fpart n) (i - fpart n) (by omega) (by omega) (by omega) (by omega)]
theorem pl_one (i : Nat) : pl 1 i = 0 := rfl
theorem pl_many (n i : Nat) (h2 : 2 ≤ n) (hl : n < 4611686018427387904) : pl n i = if i < fpart n then pl (fpart n) i + 1 else pl (n - fpart n) (i - fpart n) + 1 := by
  have hb := fpart_bounds n h2 hl
  have hp := fpart_pos n
  have e : pl n i = plF (n + 1) n i := plF_fuel _ _ n i (by omega) (Nat.le_refl _) (by omega) hl
  rw [e]
  unfold plF
  rw [if_neg (by omega), plF_fuel n (fpart n) (fpart n) i (by omega) (by omega) (Nat.le_refl _) (by omega), plF_fuel n (n - fpart n) (n - fpart n) (i - fpart n) (by omega) (by omega) (Nat.le_refl _) (by omega)]
  rfl
theorem pl_left (n i : Nat) (h2 : 2 ≤ n) (hl : n < 4611686018427387904) (h : i < fpart n) : pl n i = pl (fpart n) i + 1 := by rw [pl_many n i h2 hl, if_pos h]
theorem pl_right (n i : Nat) (h2 : 2 ≤ n) (hl : n < 4611686018427387904) (h : ¬ i < fpart n) : pl n i = pl (n - fpart n) (i - fpart n) + 1 := by rw [pl_many n i h2 hl, if_neg h]
theorem pl_lt (n : Nat) : ∀ i, 1 ≤ n → n < 4611686018427387904 → pl n i < n := by
  induction n using Nat.strongRecOn with
  | ind n ih =>
    intro i h1 hl
    by_cases e : n = 1
    · subst e; rw [pl_one]; omega
    · have hb := fpart_bounds n (by omega) hl
      have hp := fpart_pos n
      have := ih (fpart n) (by omega) i (by omega) (by omega)
      have := ih (n - fpart n) (by omega) (i - fpart n) (by omega) (by omega)
      rw [pl_many n i (by omega) hl]
      split <;> omega

set_option maxRecDepth 100000 in
set_option maxHeartbeats 1000000 in
theorem plen_one (i : Int) (w : World) :
    Calls Tryd.prog 38 #[.int .i64 1, .int .i64 i] w fun e w' => e = .returned (.int .i64 0) ∧ w' = w := by
  go_enter Tryd.func38, Tryd.ntmps38
  go_wp2_with fail
  go_ret
  exact ⟨rfl, rfl⟩
set_option maxRecDepth 100000 in
set_option maxHeartbeats 1000000 in
theorem plen_left (n i k p : Nat) (h2 : 2 ≤ n) (hn : n < 4611686018427387904) (hk : fpart n = k) (hi : i < k) (hp : p < 4611686018427387904) (w : World)
    (hR : Calls Tryd.prog 38 #[.int .i64 (k : Int), .int .i64 (i : Int)] w fun e w' => e = .returned (.int .i64 (p : Int)) ∧ w' = w) :
    Calls Tryd.prog 38 #[.int .i64 (n : Int), .int .i64 (i : Int)] w fun e w' => e = .returned (.int .i64 ((p + 1 : Nat) : Int)) ∧ w' = w := by
  have HF : Hid (∀ w, _) := fun w => first_any n h2 hn w
  rw [hk] at HF
  have HR : Hid (Calls _ _ _ _ _) := hR
  have n1 : ¬ (n : Int) = 1 := by omega
  have c1 : (i : Int) < (k : Int) := by omega
  clear hk hR h2
  go_enter Tryd.func38, Tryd.ntmps38
  go_wp2_with (first
    | (go_at_call 37; refine (HF.out w).mono ?_; rintro e w ⟨rfl, rfl⟩)
    | (go_at_call 38; refine HR.out.mono ?_; rintro e w ⟨rfl, rfl⟩))
  go_ret
  exact ⟨rfl, rfl⟩
set_option maxRecDepth 100000 in
set_option maxHeartbeats 1000000 in
theorem plen_right (n i k p : Nat) (h2 : 2 ≤ n) (hn : n < 4611686018427387904) (hk : fpart n = k) (hi : ¬ i < k) (hin : i < n) (hp : p < 4611686018427387904) (w : World)
    (hR : Calls Tryd.prog 38 #[.int .i64 ((n - k : Nat) : Int), .int .i64 ((i - k : Nat) : Int)] w fun e w' => e = .returned (.int .i64 (p : Int)) ∧ w' = w) :
    Calls Tryd.prog 38 #[.int .i64 (n : Int), .int .i64 (i : Int)] w fun e w' => e = .returned (.int .i64 ((p + 1 : Nat) : Int)) ∧ w' = w := by
  have HF : Hid (∀ w, _) := fun w => first_any n h2 hn w
  rw [hk] at HF
  have hkn : k ≤ i := by omega
  have HR : Hid (Calls _ _ _ _ _) := hR
  have n1 : ¬ (n : Int) = 1 := by omega
  have c1 : ¬ (i : Int) < (k : Int) := by omega
  have e1 : (n : Int) - (k : Int) = ((n - k : Nat) : Int) := by omega
  have e2 : (i : Int) - (k : Int) = ((i - k : Nat) : Int) := by omega
  clear hk hR h2
  go_enter Tryd.func38, Tryd.ntmps38
  go_wp2_with (first
    | (go_at_call 37; refine (HF.out w).mono ?_; rintro e w ⟨rfl, rfl⟩)
    | (go_at_call 38; refine HR.out.mono ?_; rintro e w ⟨rfl, rfl⟩))
  go_ret
  exact ⟨rfl, rfl⟩
/-- pathLen of any leaf of any size. -/
theorem plen_any (n : Nat) : ∀ (i : Nat), i < n → n < 4611686018427387904 → ∀ w : World,
    Calls Tryd.prog 38 #[.int .i64 (n : Int), .int .i64 (i : Int)] w fun e w' => e = .returned (.int .i64 (pl n i : Int)) ∧ w' = w := by
  induction n using Nat.strongRecOn with
  | ind n ih =>
    intro i hi hl w
    by_cases e : n = 1
    · subst e; exact plen_one _ w
    · have hb := fpart_bounds n (by omega) hl
      have hp := fpart_pos n
      by_cases hk : i < fpart n
      · rw [pl_left n i (by omega) hl hk]
        have := pl_lt (fpart n) i (by omega) (by omega)
        exact plen_left n i (fpart n) _ (by omega) hl rfl hk (by omega) w (ih (fpart n) hb.1 i hk (by omega) w)
      · rw [pl_right n i (by omega) hl hk]
        have := pl_lt (n - fpart n) (i - fpart n) (by omega) (by omega)
        exact plen_right n i (fpart n) _ (by omega) hl rfl hk hi (by omega) w (ih (n - fpart n) (by omega) (i - fpart n) (by omega) (by omega) w)

end Go.Proofs.YtkgfaioinajkjaaDoor

namespace Go.Proofs.YtkgfaioinajkjaaDoor
open Go Go.RowKit
open Sha

section
variable {P : Program} {Q : Exit → Act → World → Prop} {o : Oper} {a : Act} {w : World} {K : Act → World → Prop}
theorem wp_slice_3 (t e : TypeId) (x z m : Operand) (b f n cap k : Nat) (ho : o.op = .slice t x none (some z) (some m)) (hx : a.eval x = .slice (some ⟨b, f, none⟩) n cap) (hz : a.eval z = .int .i64 (k : Int)) (hm : a.eval m = .int .i64 (k : Int)) (hk : k ≤ cap)
    (hu : P.underlying t = some (.slice e)) {s : Nat} (hs : (P.info? e).map (·.size) = some s) (h : K (a.put o.dst (.slice (some ⟨b, f, none⟩) k k)) w) : Oper.wp P o a w K Q := by
  cases hq : P.info? e with
  | none => simp [hq] at hs
  | some i =>
    have hr : (Instr.sliceAt t (.slice (some ⟨b, f, none⟩) n cap) none (some (.int .i64 (k : Int))) (some (.int .i64 (k : Int)))).run P w = .ok (.slice (some ⟨b, f, none⟩) k k) w := by
      simp [Instr.sliceAt, Instr.slice, run_underlying hu, Instr.sliceBounds, Instr.sliceBound, asIntOf, sizeOf, typeInfo, hq, hk, Addr.add_mid]
    unfold Oper.wp execOp
    simp only [ho, hx, hz, hm, Option.map_some, Option.map_none, Sem.run_bind, hr, Result.andThen_ok, Sem.run_pure, Oper.upon_value]
    exact h
theorem wp_index_s (T e : TypeId) {x y : Operand} (ho : o.op = .indexAddr T x y) (b f n c t s : Nat) (hx : a.eval x = .slice (some ⟨b, f, none⟩) n c) (hy : a.eval y = .int .i64 (t : Int)) (ht : t < n)
    (hu : P.underlying T = some (.slice e)) (hs : (P.info? e).map (·.size) = some s) (h : K (a.put o.dst (.pointer (some ⟨b, f + t * s, none⟩))) w) : Oper.wp P o a w K Q := by
  refine wp_pure (v := .pointer (some ⟨b, f + t * s, none⟩)) ?_ h
  have hr : (Instr.indexAt T (.slice (some ⟨b, f, none⟩) n c) (.int .i64 (t : Int))).run P w = .ok (.pointer (some ⟨b, f + t * s, none⟩)) w := by
    cases hi : P.info? e with
    | none => rw [hi] at hs; cases hs
    | some ie =>
      rw [hi] at hs
      have h4 : ie.size = s := by simpa using hs
      simp [Instr.indexAt, run_underlying hu, asIntOf, ht, sizeOf, typeInfo, hi, h4, Addr.add_mid]
  unfold execOp
  simp only [ho, hx, hy, Sem.run_bind, hr, Result.andThen_ok]
  rfl
end
theorem results_tmp_row {P : Program} {fn : Func} {p q : Tmp} {ty : TypeId} {n : Nat} {e : TypeId} (h : fn.results = #[.tmp q, .cell p ty]) (tmps : Array Value) (w : World) (g : Nat) (t : TypeId) (cs : List Value) (v : Value)
    (hp : tmps.getD p undef = .pointer (some ⟨g, 0, none⟩)) (hv : tmps.getD q undef = v) (hg : Row w g cs t) (hu : P.underlying ty = some (.array n e)) (hi : (P.info? ty).map (·.size) = some n) (hl : cs.length = n) :
    (results fn tmps).run P w = .ok (.tuple #[v, .agg cs.toArray]) w := by
  have hp' : tmps[p]?.getD undef = .pointer (some ⟨g, 0, none⟩) := by simpa using hp
  have hv' : tmps[q]?.getD undef = v := by simpa using hv
  have hr := run_loadVar_row (P := P) w g t ty cs.toArray (0, 0) (.array n e) hg hu rfl (by simp [hi, hl])
  simp [results, h, hp', hv', asAddr, hr]

set_option maxRecDepth 100000 in
set_option maxHeartbeats 4000000 in
theorem cut_any (n cap b o : Nat) (l : List (BitVec 8)) (hl0 : l.length = 32) (hc : n + 1 ≤ cap) (hn : n < 4611686018427387904) (w : World) (hr : w.rangeAt b (o + n * 32) (vB l)) :
    Calls Tryd.prog 49 #[.slice (some ⟨b, o, none⟩) (n + 1) cap] w fun e w' => e = .returned (.tuple #[.slice (some ⟨b, o, none⟩) n n, .agg (vB l).toArray]) ∧ Below w.heap.size w w' := by
  have HL0 : Hid (l.length = 32) := hl0
  have HI5 : Hid ((Tryd.prog.info? 42).map (·.size) = some (vB l).toArray.size) := by show _ = _; rw [info_dig]; simp [vB_length, hl0]
  have HIL : Hid ((Tryd.prog.info? 42).map (·.size) = some (vB l).length) := by show _ = _; rw [info_dig]; simp [vB_length, hl0]
  have HR : Hid (∀ W, Below w.heap.size w W → W.rangeAt b (o + n * 32) (vB l)) := fun W hB => range_below hr hB (Nat.le_refl _)
  have HC : Hid (n ≤ cap) := (by omega : n ≤ cap)
  have e1 : ((n + 1 : Nat) : Int) - 1 = (n : Int) := by omega
  clear hr hl0 hc
  have hb1 : Below w.heap.size w (w.alloc (Obj.cells (vB (List.replicate 32 0#8)).toArray 42)) := (Below.refl _ _).alloc (Nat.le_refl _) _
  have r0 : Row (w.alloc (Obj.cells (vB (List.replicate 32 0#8)).toArray 42)) w.heap.size (vB (List.replicate 32 0#8)) 42 := Row.new' rfl rfl
  go_enter Tryd.func49, Tryd.ntmps49
  go_wp2_with fail
  refine wp_named fun a0 ha0 => ?_
  have hsz : a0.tmps.size = 16 := by rw [ha0]; rfl
  have s0 : a0.eval (.tmp 0) = .slice (some ⟨b, o, none⟩) (n + 1) cap := by rw [ha0]; rfl
  have s4 : a0.eval (.tmp 4) = .int .i64 (n : Int) := by rw [ha0]; rfl
  have s3 : a0.eval (.tmp 3) = .pointer (some ⟨w.heap.size, 0, none⟩) := by rw [ha0]; rfl
  obtain ⟨D, hD⟩ : ∃ D : List (Tmp × SP), D = [(8, SP.is (.slice (some ⟨b, o, none⟩) (n + 1) cap)), (9, SP.is (.int .i64 (n : Int))), (10, SP.is (.int .i64 (n : Int))), (11, SP.is (.slice (some ⟨b, o, none⟩) n n)), (12, SP.is (.slice (some ⟨b, o, none⟩) (n + 1) cap)), (13, SP.is (.int .i64 (n : Int))), (14, SP.is (.pointer (some ⟨b, o + n * 32, none⟩))), (15, SP.is (.agg (vB l).toArray)), (2, SP.is (.slice (some ⟨b, o, none⟩) n n)), (1000, SP.any)] := ⟨_, rfl⟩
  refine wp_region_down (by kernel_rfl) (fun listed ac W => listed.size = 10 ∧ Fp D a0 listed ac W ∧ Below w.heap.size w W ∧ Row W w.heap.size (if listed.getD 9 false = true then (vB l) else vB (List.replicate 32 0#8)) 42) ?_ ?_ ?_
  · exact ⟨by simp, Fp.start D a0 _ _, Below.drew hb1, (by rw [if_neg (fun h => start_no h)]; exact Row.drew r0)⟩
  · clear ha0 hb1 r0 
    intro listed ac W k hI hdn hk
    obtain ⟨hl, hF, hb1, r0⟩ := hI
    have hk1 : k < 10 := List.mem_range.1 (List.mem_filter.1 hk).1
    have hl2 : ∀ j, (listed.setIfInBounds j true).size = 10 := fun j => by rw [Array.size_setIfInBounds]; exact hl
    rcases (show k = 0 ∨ k = 1 ∨ k = 2 ∨ k = 3 ∨ k = 4 ∨ k = 5 ∨ k = 6 ∨ k = 7 ∨ k = 8 ∨ k = 9 by omega) with rfl | rfl | rfl | rfl | rfl | rfl | rfl | rfl | rfl | rfl
    · have hk3 := hk
      exact wpOp_plain rfl rfl (wp_move_v (ac.eval (.tmp 0)) rfl rfl ⟨hl2 0, (hF.put 0 8 (SP.is (.slice (some ⟨b, o, none⟩) (n + 1) cap)) (ac.eval (.tmp 0)) (by rw [hD]; rfl) (((hF.keep 0 (by rw [hD]; rfl)).trans s0)) (by rw [hD]; rfl) (by rw [hsz]; decide) (by rw [hl]; decide)), hb1, (by rw [getD_set _ _ _ (by decide)]; exact r0)⟩)
    · have hk3 := hk
      exact wpOp_plain rfl rfl (wp_move_v (ac.eval (.tmp 4)) rfl rfl ⟨hl2 1, (hF.put 1 9 (SP.is (.int .i64 (n : Int))) (ac.eval (.tmp 4)) (by rw [hD]; rfl) (((hF.keep 4 (by rw [hD]; rfl)).trans s4)) (by rw [hD]; rfl) (by rw [hsz]; decide) (by rw [hl]; decide)), hb1, (by rw [getD_set _ _ _ (by decide)]; exact r0)⟩)
    · have hk3 := hk
      exact wpOp_plain rfl rfl (wp_move_v (ac.eval (.tmp 4)) rfl rfl ⟨hl2 2, (hF.put 2 10 (SP.is (.int .i64 (n : Int))) (ac.eval (.tmp 4)) (by rw [hD]; rfl) (((hF.keep 4 (by rw [hD]; rfl)).trans s4)) (by rw [hD]; rfl) (by rw [hsz]; decide) (by rw [hl]; decide)), hb1, (by rw [getD_set _ _ _ (by decide)]; exact r0)⟩)
    · have hk3 := hk
      have ea := (hF.done 0 (8, SP.is (.slice (some ⟨b, o, none⟩) (n + 1) cap)) (by rw [hD]; rfl) (ready_dep hk 0 (by kernel_rfl)))
      have eb := (hF.done 1 (9, SP.is (.int .i64 (n : Int))) (by rw [hD]; rfl) (ready_dep hk 1 (by kernel_rfl)))
      have ec := (hF.done 2 (10, SP.is (.int .i64 (n : Int))) (by rw [hD]; rfl) (ready_dep hk 2 (by kernel_rfl)))
      exact wpOp_plain rfl rfl (wp_slice_3 26 42 (.tmp 8) (.tmp 9) (.tmp 10) b o (n + 1) cap n rfl ea eb ec HC.out Tryd.underlying26 info_dig ⟨hl2 3, (hF.put 3 11 (SP.is (.slice (some ⟨b, o, none⟩) n n)) (.slice (some ⟨b, o, none⟩) n n) (by rw [hD]; rfl) rfl (by rw [hD]; rfl) (by rw [hsz]; decide) (by rw [hl]; decide)), hb1, (by rw [getD_set _ _ _ (by decide)]; exact r0)⟩)
    · have hk3 := hk
      exact wpOp_plain rfl rfl (wp_move_v (ac.eval (.tmp 0)) rfl rfl ⟨hl2 4, (hF.put 4 12 (SP.is (.slice (some ⟨b, o, none⟩) (n + 1) cap)) (ac.eval (.tmp 0)) (by rw [hD]; rfl) (((hF.keep 0 (by rw [hD]; rfl)).trans s0)) (by rw [hD]; rfl) (by rw [hsz]; decide) (by rw [hl]; decide)), hb1, (by rw [getD_set _ _ _ (by decide)]; exact r0)⟩)
    · have hk3 := hk
      exact wpOp_plain rfl rfl (wp_move_v (ac.eval (.tmp 4)) rfl rfl ⟨hl2 5, (hF.put 5 13 (SP.is (.int .i64 (n : Int))) (ac.eval (.tmp 4)) (by rw [hD]; rfl) (((hF.keep 4 (by rw [hD]; rfl)).trans s4)) (by rw [hD]; rfl) (by rw [hsz]; decide) (by rw [hl]; decide)), hb1, (by rw [getD_set _ _ _ (by decide)]; exact r0)⟩)
    · have hk3 := hk
      have ea := (hF.done 4 (12, SP.is (.slice (some ⟨b, o, none⟩) (n + 1) cap)) (by rw [hD]; rfl) (ready_dep hk 4 (by kernel_rfl)))
      have eb := (hF.done 5 (13, SP.is (.int .i64 (n : Int))) (by rw [hD]; rfl) (ready_dep hk 5 (by kernel_rfl)))
      exact wpOp_plain rfl rfl (wp_index_s 26 42 rfl b o (n + 1) cap n 32 ea eb (Nat.lt_succ_self n) Tryd.underlying26 info_dig ⟨hl2 6, (hF.put 6 14 (SP.is (.pointer (some ⟨b, o + n * 32, none⟩))) (.pointer (some ⟨b, o + n * 32, none⟩)) (by rw [hD]; rfl) rfl (by rw [hD]; rfl) (by rw [hsz]; decide) (by rw [hl]; decide)), hb1, (by rw [getD_set _ _ _ (by decide)]; exact r0)⟩)
    · have hk3 := hk
      have ea := (hF.done 6 (14, SP.is (.pointer (some ⟨b, o + n * 32, none⟩))) (by rw [hD]; rfl) (ready_dep hk 6 (by kernel_rfl)))
      exact wpOp_plain rfl rfl (wp_load_mid 42 (.tmp 14) rfl b (o + n * 32) ea (vB l) _ (HR.out W hb1) Tryd.underlying42 rfl HIL.out ⟨hl2 7, (hF.put 7 15 (SP.is (.agg (vB l).toArray)) (.agg (vB l).toArray) (by rw [hD]; rfl) rfl (by rw [hD]; rfl) (by rw [hsz]; decide) (by rw [hl]; decide)), hb1, (by rw [getD_set _ _ _ (by decide)]; exact r0)⟩)
    · have hk3 := hk
      exact wpOp_plain rfl rfl (wp_assign_v (ac.eval (.tmp 11)) rfl rfl ⟨hl2 8, (hF.put 8 2 (SP.is (.slice (some ⟨b, o, none⟩) n n)) (ac.eval (.tmp 11)) (by rw [hD]; rfl) ((hF.done 3 (11, SP.is (.slice (some ⟨b, o, none⟩) n n)) (by rw [hD]; rfl) (ready_dep hk 3 (by kernel_rfl)))) (by rw [hD]; rfl) (by rw [hsz]; decide) (by rw [hl]; decide)), hb1, (by rw [getD_set _ _ _ (by decide)]; exact r0)⟩)
    · have hk3 := hk
      have hno : ¬ listed.getD 9 false = true := not_yet hk
      rw [if_neg hno] at r0
      have T := r0.there 0 (vB l).toArray.size (by simp [vB_length, HL0.out])
      have fin := r0.over (vs := (vB l)) (by rw [vB_length, HL0.out]; rfl)
      have hT : Fp D a0 listed ac (W.setCells w.heap.size 0 (vB l)) := hF.turn (by rw [hD]; simp only [List.forall_mem_cons, List.not_mem_nil, false_implies, implies_true, and_true]; exact ⟨fun _ h => h, fun _ h => h, fun _ h => h, fun _ h => h, fun _ h => h, fun _ h => h, fun _ h => h, fun _ h => h, fun _ h => h, fun _ h => h⟩)
      exact wpOp_plain rfl rfl (wp_store_mid 42 (.tmp 3) (.tmp 15) rfl w.heap.size 0 (vB l).toArray ((hF.keep 3 (by rw [hD]; rfl)).trans s3) (hF.done 7 (15, SP.is (.agg (vB l).toArray)) (by rw [hD]; rfl) (ready_dep hk 7 (by kernel_rfl))) T HI5.out (all_oneCell_toArray (vB_one l)) ⟨hl2 9, (hT.skip 9 1000 (by rw [hD]; rfl) (by rw [hl]; decide)), below_setCells hb1 (by omega) _, (by rw [if_pos (getD_same (by rw [hl]; decide))]; exact fin)⟩)
  · clear hb1 r0 
    intro listed ac W hI hr
    obtain ⟨hl, hF, hb1, r0⟩ := hI
    have hall := all_listed (by kernel_rfl) hl hr
    rw [if_pos (hall 9 (by decide))] at r0
    have h8 : ac.eval (.tmp 8) = .slice (some ⟨b, o, none⟩) (n + 1) cap := hF.done 0 (8, SP.is (.slice (some ⟨b, o, none⟩) (n + 1) cap)) (by rw [hD]; rfl) (hall 0 (by decide))
    have h9 : ac.eval (.tmp 9) = .int .i64 (n : Int) := hF.done 1 (9, SP.is (.int .i64 (n : Int))) (by rw [hD]; rfl) (hall 1 (by decide))
    have h10 : ac.eval (.tmp 10) = .int .i64 (n : Int) := hF.done 2 (10, SP.is (.int .i64 (n : Int))) (by rw [hD]; rfl) (hall 2 (by decide))
    have h11 : ac.eval (.tmp 11) = .slice (some ⟨b, o, none⟩) n n := hF.done 3 (11, SP.is (.slice (some ⟨b, o, none⟩) n n)) (by rw [hD]; rfl) (hall 3 (by decide))
    have h12 : ac.eval (.tmp 12) = .slice (some ⟨b, o, none⟩) (n + 1) cap := hF.done 4 (12, SP.is (.slice (some ⟨b, o, none⟩) (n + 1) cap)) (by rw [hD]; rfl) (hall 4 (by decide))
    have h13 : ac.eval (.tmp 13) = .int .i64 (n : Int) := hF.done 5 (13, SP.is (.int .i64 (n : Int))) (by rw [hD]; rfl) (hall 5 (by decide))
    have h14 : ac.eval (.tmp 14) = .pointer (some ⟨b, o + n * 32, none⟩) := hF.done 6 (14, SP.is (.pointer (some ⟨b, o + n * 32, none⟩))) (by rw [hD]; rfl) (hall 6 (by decide))
    have h15 : ac.eval (.tmp 15) = .agg (vB l).toArray := hF.done 7 (15, SP.is (.agg (vB l).toArray)) (by rw [hD]; rfl) (hall 7 (by decide))
    have h2 : ac.eval (.tmp 2) = .slice (some ⟨b, o, none⟩) n n := hF.done 8 (2, SP.is (.slice (some ⟨b, o, none⟩) n n)) (by rw [hD]; rfl) (hall 8 (by decide))
    have ea := hF.lay [(8, .slice (some ⟨b, o, none⟩) (n + 1) cap), (9, .int .i64 (n : Int)), (10, .int .i64 (n : Int)), (11, .slice (some ⟨b, o, none⟩) n n), (12, .slice (some ⟨b, o, none⟩) (n + 1) cap), (13, .int .i64 (n : Int)), (14, .pointer (some ⟨b, o + n * 32, none⟩)), (15, .agg (vB l).toArray), (2, .slice (some ⟨b, o, none⟩) n n)] (by rw [hD, hsz]; rfl) (by simp only [List.forall_mem_cons, List.not_mem_nil, false_implies, implies_true, and_true]; exact ⟨h8, h9, h10, h11, h12, h13, h14, h15, h2⟩)
    rw [ha0] at ea
    simp only [List.foldl_cons, List.foldl_nil, List.setIfInBounds_toArray, List.set_cons_zero, List.set_cons_succ] at ea
    clear hF hall hr hl hD  s0 s4 s3 ha0 hsz h8 h9 h10 h11 h12 h13 h14 h15 h2
    subst ea
    go_wp2_with fail
    exact bodyPost_ret (results_tmp_row Tryd.results49 _ _ w.heap.size 42 (vB l) _ rfl rfl r0 Tryd.underlying42 info_dig (by rw [vB_length, HL0.out])) rfl ⟨rfl, hb1⟩

end Go.Proofs.YtkgfaioinajkjaaDoor
