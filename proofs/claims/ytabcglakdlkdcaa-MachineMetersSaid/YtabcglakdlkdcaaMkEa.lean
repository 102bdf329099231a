/-
  wide.Of, leaveCount, leaveWhether.
-/
import Derived.Test.YtabcglakdlkdcaaMkDe
import Derived.Test.YtabcglakdlkdcaaMkDl
namespace Go.Proofs.Ytabcglakdlkdcaa
open Go Go.RowKit
open Sha
open Wd

theorem wq_small (k : Nat) (hk : k < 18446744073709551616) : wq k = [.int .u64 (k : Int), .int .u64 0, .int .u64 0, .int .u64 0] := by
  have h0 : lim k 0 = k := by unfold lim; rw [Nat.mul_zero, Nat.pow_zero, Nat.div_one, Nat.mod_eq_of_lt hk]
  have hi : ∀ i, 1 ≤ i → lim k i = 0 := fun i hi => by
    have h1 := Nat.pow_le_pow_right (n := 2) (by decide) (show 64 ≤ 64 * i by omega)
    have e : k / 2 ^ (64 * i) = 0 := Nat.div_eq_of_lt (Nat.lt_of_lt_of_le hk (Nat.le_trans (by decide) h1))
    exact (congrArg (· % 18446744073709551616) e).trans (Nat.zero_mod _)
  rw [wq_cells, h0, hi 1 (by decide), hi 2 (by decide), hi 3 (by decide)]
  rfl
section
variable {ops : Array Oper} {rest : List Oper} {op : Oper} {a : Act} {w : World} {Q : Exit → Act → World → Prop}
theorem cvt_iu (x : Operand) (ho : op.op = .convert 3 25 x) (hgd : op.guard = none) (k : Nat) (hk : k < 18446744073709551616) (hx : a.eval x = .int .i64 (k : Int))
    (h : wpList Try.prog ops Q rest (a.put op.dst (.int .u64 (k : Int))) w) : wpList Try.prog ops Q (op :: rest) a w :=
  wpList_plain hgd fun _ hK => by
    have hr : IntKind.u64.wrap (k : Int) = (k : Int) := by rw [IntKind.wrap_u64]; omega
    unfold Oper.wp execOp
    simp only [ho, hx]
    go_simp
    exact hK _ _ h
end
set_option maxRecDepth 100000 in
set_option maxHeartbeats 4000000 in
theorem of_w (k : Nat) (hk : k < 18446744073709551616) (w : World) : Calls Try.prog 75 #[.int .u64 (k : Int)] w fun e w' => e = .returned (.agg (wq k).toArray) ∧ Below w.heap.size w w' := by
  obtain ⟨L, hL⟩ : ∃ L, L = wq k := ⟨_, rfl⟩
  have HLC : Hid (L = [.int .u64 (k : Int), .int .u64 0, .int .u64 0, .int .u64 0]) := by rw [hL]; exact wq_small k hk
  have HI : Hid ((Try.prog.info? 27).map (·.size) = some L.length ∧ L.length = zW.length ∧ L.toArray.all (·.oneCell') = true) := by rw [hL]; exact ⟨info_Wq _, wq_len _, wq_one _⟩
  rw [← hL]
  clear hL hk
  go_enter Try.func75, Try.ntmps75
  go_wp2_with (first
    | (refine wpList_allocW rfl rfl ?_; intro X1 q1 q2 q3; have R1 : Hid (Row X1 w.heap.size zW 27) := q1; have B1 : Hid (Below w.heap.size w X1) := q2; clear q1 q2 q3; simp only [Act.put, List.setIfInBounds_toArray, List.set_cons_zero, List.set_cons_succ])
    | (refine wpList_storeL rfl 27 (.tmp 2) (.tmp 4) rfl w.heap.size L zW 27 rfl (by rw [HLC.out]; rfl) R1.out HI.out.2.1 HI.out.1 HI.out.2.2 ?_; intro X2 q1 q2; have E2 : Hid (X2 = _) := q1; have R2 : Hid (Row X2 w.heap.size L 27) := q2; clear q1 q2; simp only [Act.put]))
  exact bodyPost_ret (results_row Try.results75 _ _ w.heap.size 27 L rfl R2.out Try.underlying27 (by kernel_rfl) HI.out.2.1) rfl ⟨rfl, by rw [E2.out]; exact below_setCells B1.out (Nat.le_refl _) _⟩
set_option maxRecDepth 100000 in
set_option maxHeartbeats 4000000 in
theorem count_any (r T gs n : Nat) (pl : Value) (C : List Value) (h av stk : Value) (ss : List Nat) (l nx : Nat) (an : List Value) (ls : List Ins) (ags : List Nat) (k : Nat) (hk : k < 18446744073709551616) (k0 w0 w : World) (H : Rn k0 w0 w r T gs n pl C h av stk ss l nx an ls ags) (hss : ss.length ≤ 1000) : Calls Try.prog 60 #[.pointer (some ⟨r, 0, none⟩), .int .i64 (k : Int)] w fun e w' => e = .returned (.int .i64 0) ∧ ∃ stk', Rn k0 w0 w' r T gs n pl C h av stk' (ss ++ [k]) l nx an ls ags := by
  obtain ⟨L, hL⟩ : ∃ L, L = wq k := ⟨_, rfl⟩
  have HOF : Hid (∀ W, Calls Try.prog 75 #[.int .u64 (k : Int)] W fun e w' => e = .returned (.agg L.toArray) ∧ Below W.heap.size W w') := fun W => by rw [hL]; exact of_w k hk W
  have HLV : Hid (∀ W, Rn k0 w0 W r T gs n pl C h av stk ss l nx an ls ags → Calls Try.prog 49 #[.pointer (some ⟨r, 0, none⟩), .agg L.toArray] W fun e w' => e = .returned (.int .i64 0) ∧ ∃ stk', Rn k0 w0 w' r T gs n pl C h av stk' (ss ++ [k]) l nx an ls ags) := fun W hW => by rw [hL]; exact leave_any r T gs n pl C h av stk ss l nx an ls ags k k0 w0 W hW hss
  have HH : Hid (Rn k0 w0 w r T gs n pl C h av stk ss l nx an ls ags) := H
  have HK : Hid (k < 18446744073709551616) := hk
  clear H hss hL hk
  go_enter Try.func60, Try.ntmps60
  go_wp2_with (first
    | (refine cvt_iu (.tmp 6) rfl rfl k HK.out rfl ?_; simp only [Act.put, List.setIfInBounds_toArray, List.set_cons_zero, List.set_cons_succ])
    | (go_at_call 75; refine Calls.mono (HOF.out w) ?_; rintro e X1 ⟨rfl, q⟩; have HR : Hid (Rn k0 w0 X1 r T gs n pl C h av stk ss l nx an ls ags) := HH.out.keep q; clear q)
    | (go_at_call 49; refine Calls.mono (HLV.out X1 HR.out) ?_; rintro e Y ⟨rfl, stk', q⟩; have HQ : Hid (Rn k0 w0 Y r T gs n pl C h av stk' (ss ++ [k]) l nx an ls ags) := q; clear q))
  go_ret
  exact ⟨rfl, _, HQ.out⟩
theorem whether_any (r T gs n : Nat) (pl : Value) (C : List Value) (h av stk : Value) (ss : List Nat) (l nx : Nat) (an : List Value) (ls : List Ins) (ags : List Nat) (B : Bool) (k0 w0 w : World) (H : Rn k0 w0 w r T gs n pl C h av stk ss l nx an ls ags) (hss : ss.length ≤ 1000) : Calls Try.prog 56 #[.pointer (some ⟨r, 0, none⟩), .bool B] w fun e w' => e = .returned (.int .i64 0) ∧ ∃ stk', Rn k0 w0 w' r T gs n pl C h av stk' (ss ++ [if B = true then 1 else 0]) l nx an ls ags := by
  cases B
  · exact whether_0 r T gs n pl C h av stk ss l nx an ls ags k0 w0 w H hss
  · exact whether_1 r T gs n pl C h av stk ss l nx an ls ags k0 w0 w H hss

end Go.Proofs.Ytabcglakdlkdcaa
