/-
  each instruction that asks no host, one step.
-/
import Derived.Test.YtabcglakdlkdcaaMkEa
import Derived.Test.YtabcglakdlkdcaaMkEh
import Derived.Test.YtabcglakdlkdcaaMkDb
import Derived.Test.YtabcglakdlkdcaaMkEd
import Derived.Test.YtabcglakdlkdcaaMkEe

namespace Go.Proofs.Ytabcglakdlkdcaa
open Go Go.RowKit
open Sha
open Wd
set_option maxRecDepth 100000 in
set_option maxHeartbeats 4000000 in
theorem do_stop (r T gs n : Nat) (pl : Value) (C : List Value) (h av stk : Value) (ss : List Nat) (l nx : Nat) (an : List Value) (ls : List Ins) (ags : List Nat) (I : List Value) (k0 w0 w : World) (H : Rn k0 w0 w r T gs n pl C h av stk (ss) l nx an ls ags) : Calls Try.prog 17 #[.pointer (some ⟨r, 0, none⟩), .agg I.toArray] w fun e w' => e = .returned (.int .i64 105) ∧ Rn k0 w0 w' r T gs n pl C h av stk (ss) l nx an ls ags := by
  have HH : Hid (Rn k0 w0 w r T gs n pl C h av stk ss l nx an ls ags) := H
  clear H
  go_enter Try.func17, Try.ntmps17
  go_wp2_with (refine wpList_boxG 77 rfl (.tmp 1) rfl I rfl ?_; intro X1 q1 q2 q3; have R1 : Hid (Row X1 w.heap.size I 77) := q1; have HR : Hid (Rn k0 w0 X1 r T gs n pl C h av stk (ss) l nx an ls ags) := HH.out.keep q2; clear q1 q2 q3; simp only [Act.put, List.setIfInBounds_toArray, List.set_cons_zero, List.set_cons_succ])
  go_ret
  exact ⟨rfl, HR.out⟩
set_option maxRecDepth 100000 in
set_option maxHeartbeats 4000000 in
theorem do_pop (r T gs n : Nat) (pl : Value) (C : List Value) (h av stk : Value) (ss : List Nat) (l nx : Nat) (an : List Value) (ls : List Ins) (ags : List Nat) (I : List Value) (x : Nat) (k0 w0 w : World) (H : Rn k0 w0 w r T gs n pl C h av stk (ss ++ [x]) l nx an ls ags) (hss : ss.length ≤ 900) : Calls Try.prog 20 #[.pointer (some ⟨r, 0, none⟩), .agg I.toArray] w fun e w' => e = .returned (.int .i64 0) ∧ ∃ stk', Rn k0 w0 w' r T gs n pl C h av stk' (ss) l nx an ls ags := by
  obtain ⟨L, hL⟩ : ∃ L, L = wq x := ⟨_, rfl⟩
  have HTK : Hid (∀ W, Rn k0 w0 W r T gs n pl C h av stk (ss ++ [x]) l nx an ls ags → Calls Try.prog 48 #[.pointer (some ⟨r, 0, none⟩)] W fun e w' => e = .returned (.agg L.toArray) ∧ ∃ stk', Rn k0 w0 w' r T gs n pl C h av stk' ss l nx an ls ags) := fun W hW => by
    rw [hL]
    refine Calls.mono (take_any r T gs n pl C h av stk ss l nx an ls ags x k0 w0 W hW (by omega)) ?_
    rintro e w' ⟨q1, _, _, stk2, _, q⟩
    exact ⟨q1, stk2, q⟩
  have HH : Hid (Rn k0 w0 w r T gs n pl C h av stk (ss ++ [x]) l nx an ls ags) := H
  clear H hss hL
  go_enter Try.func20, Try.ntmps20
  go_wp2_with (first
    | (refine wpList_boxG 77 rfl (.tmp 1) rfl I rfl ?_; intro X1 q1 q2 q3; have R1 : Hid (Row X1 w.heap.size I 77) := q1; have HR : Hid (Rn k0 w0 X1 r T gs n pl C h av stk (ss ++ [x]) l nx an ls ags) := HH.out.keep q2; clear q1 q2 q3; simp only [Act.put, List.setIfInBounds_toArray, List.set_cons_zero, List.set_cons_succ])
    | (go_at_call 48; refine Calls.mono (HTK.out X1 HR.out) ?_; rintro e X2 ⟨rfl, stk2, q⟩; have HR2 : Hid (Rn k0 w0 X2 r T gs n pl C h av stk2 ss l nx an ls ags) := q; clear q))
  go_ret
  exact ⟨rfl, _, HR2.out⟩
set_option maxRecDepth 100000 in
set_option maxHeartbeats 4000000 in
theorem do_not (r T gs n : Nat) (pl : Value) (C : List Value) (h av stk : Value) (ss : List Nat) (l nx : Nat) (an : List Value) (ls : List Ins) (ags : List Nat) (I : List Value) (x z : Nat) (hx : x < 2 ^ 256) (hz : z = if decide (x = 0) = true then 1 else 0) (k0 w0 w : World) (H : Rn k0 w0 w r T gs n pl C h av stk (ss ++ [x]) l nx an ls ags) (hss : ss.length ≤ 900) : Calls Try.prog 30 #[.pointer (some ⟨r, 0, none⟩), .agg I.toArray] w fun e w' => e = .returned (.int .i64 0) ∧ ∃ stk', Rn k0 w0 w' r T gs n pl C h av stk' (ss ++ [z]) l nx an ls ags := by
  obtain ⟨L, hL⟩ : ∃ L, L = wq x := ⟨_, rfl⟩
  obtain ⟨B, hB⟩ : ∃ B, B = decide (x = 0) := ⟨_, rfl⟩
  have HTK : Hid (∀ W, Rn k0 w0 W r T gs n pl C h av stk (ss ++ [x]) l nx an ls ags → Calls Try.prog 48 #[.pointer (some ⟨r, 0, none⟩)] W fun e w' => e = .returned (.agg L.toArray) ∧ ∃ stk', Rn k0 w0 w' r T gs n pl C h av stk' ss l nx an ls ags) := fun W hW => by
    rw [hL]
    refine Calls.mono (take_any r T gs n pl C h av stk ss l nx an ls ags x k0 w0 W hW (by omega)) ?_
    rintro e w' ⟨q1, _, _, stk2, _, q⟩
    exact ⟨q1, stk2, q⟩
  have HOP : Hid (∀ W, Calls Try.prog 58 #[.agg L.toArray] W fun e w' => e = .returned (.bool B) ∧ Below W.heap.size W w') := fun W => by rw [hL, hB]; exact isZero_any x hx W
  have HW : Hid (∀ stk' W B', B' = B → Rn k0 w0 W r T gs n pl C h av stk' (ss) l nx an ls ags → Calls Try.prog 56 #[.pointer (some ⟨r, 0, none⟩), .bool B'] W fun e w' => e = .returned (.int .i64 0) ∧ ∃ stk', Rn k0 w0 w' r T gs n pl C h av stk' (ss ++ [z]) l nx an ls ags) := fun stk' W B' hB' hW => by rw [hz, hB', hB]; exact whether_any r T gs n pl C h av stk' ss l nx an ls ags _ k0 w0 W hW (by omega)
  have HH : Hid (Rn k0 w0 w r T gs n pl C h av stk (ss ++ [x]) l nx an ls ags) := H
  clear H hss hL hx hz hB
  go_enter Try.func30, Try.ntmps30
  go_wp2_with (first
    | (refine wpList_boxG 77 rfl (.tmp 1) rfl I rfl ?_; intro X1 q1 q2 q3; have R1 : Hid (Row X1 w.heap.size I 77) := q1; have HR : Hid (Rn k0 w0 X1 r T gs n pl C h av stk (ss ++ [x]) l nx an ls ags) := HH.out.keep q2; clear q1 q2 q3; simp only [Act.put, List.setIfInBounds_toArray, List.set_cons_zero, List.set_cons_succ])
    | (go_at_call 48; refine Calls.mono (HTK.out X1 HR.out) ?_; rintro e X2 ⟨rfl, stk2, q⟩; have HR2 : Hid (Rn k0 w0 X2 r T gs n pl C h av stk2 ss l nx an ls ags) := q; clear q)
    | (go_at_call 58; refine Calls.mono (HOP.out X2) ?_; rintro e X3 ⟨rfl, q⟩; have HR3 : Hid (Rn k0 w0 X3 r T gs n pl C h av stk2 ss l nx an ls ags) := HR2.out.keep q; clear q)
    | (go_at_call 56; refine Calls.mono (HW.out stk2 X3 _ rfl HR3.out) ?_; rintro e X9 ⟨rfl, stk', q⟩; have HQ : Hid (Rn k0 w0 X9 r T gs n pl C h av stk' (ss ++ [z]) l nx an ls ags) := q; clear q))
  go_ret
  exact ⟨rfl, _, HQ.out⟩
set_option maxRecDepth 100000 in
set_option maxHeartbeats 4000000 in
theorem do_same (r T gs n : Nat) (pl : Value) (C : List Value) (h av stk : Value) (ss : List Nat) (l nx : Nat) (an : List Value) (ls : List Ins) (ags : List Nat) (I : List Value) (x y z : Nat) (hx : x < 2 ^ 256) (hy : y < 2 ^ 256) (hz : z = if decide (x = y) = true then 1 else 0) (k0 w0 w : World) (H : Rn k0 w0 w r T gs n pl C h av stk (ss ++ [x] ++ [y]) l nx an ls ags) (hss : ss.length ≤ 900) : Calls Try.prog 29 #[.pointer (some ⟨r, 0, none⟩), .agg I.toArray] w fun e w' => e = .returned (.int .i64 0) ∧ ∃ stk', Rn k0 w0 w' r T gs n pl C h av stk' (ss ++ [z]) l nx an ls ags := by
  obtain ⟨LX, hLX⟩ : ∃ L, L = wq x := ⟨_, rfl⟩
  obtain ⟨LY, hLY⟩ : ∃ L, L = wq y := ⟨_, rfl⟩
  obtain ⟨B, hB⟩ : ∃ B, B = decide (x = y) := ⟨_, rfl⟩
  have HTT : Hid (∀ W, Rn k0 w0 W r T gs n pl C h av stk (ss ++ [x] ++ [y]) l nx an ls ags → Calls Try.prog 52 #[.pointer (some ⟨r, 0, none⟩)] W fun e w' => e = .returned (.tuple #[.agg LX.toArray, .agg LY.toArray]) ∧ ∃ stk', Rn k0 w0 w' r T gs n pl C h av stk' ss l nx an ls ags) := fun W hW => by
    rw [hLX, hLY]
    refine Calls.mono (takeTwo_any r T gs n pl C h av stk ss l nx an ls ags x y k0 w0 W hW (by omega)) ?_
    rintro e w' ⟨q1, q2⟩
    obtain ⟨_, _, stk2, q⟩ := q2
    exact ⟨q1, stk2, q⟩
  obtain ⟨cm, hcm⟩ : ∃ cm, cm = cmpR x y := ⟨_, rfl⟩
  have hcB : (cm == 0) = B := by
    rw [hB, hcm]
    unfold cmpR
    by_cases he : x = y
    · rw [if_pos he, decide_eq_true he]; rfl
    · rw [if_neg he, decide_eq_false he]
      split <;> rfl
  have HCB : Hid ((cm == 0) = B ∧ decide (cm = 0) = B) := ⟨hcB, by rw [← hcB]; rfl⟩
  have HOP : Hid (∀ W, Calls Try.prog 57 #[.agg LX.toArray, .agg LY.toArray] W fun e w' => e = .returned (.int .i64 cm) ∧ Below W.heap.size W w') := fun W => by
    rw [hLX, hLY, hcm]
    exact cmp_any x y hx hy W
  have HW : Hid (∀ stk' W B', B' = B → Rn k0 w0 W r T gs n pl C h av stk' (ss) l nx an ls ags → Calls Try.prog 56 #[.pointer (some ⟨r, 0, none⟩), .bool B'] W fun e w' => e = .returned (.int .i64 0) ∧ ∃ stk', Rn k0 w0 w' r T gs n pl C h av stk' (ss ++ [z]) l nx an ls ags) := fun stk' W B' hB' hW => by rw [hz, hB', hB]; exact whether_any r T gs n pl C h av stk' ss l nx an ls ags _ k0 w0 W hW (by omega)
  have HH : Hid (Rn k0 w0 w r T gs n pl C h av stk (ss ++ [x] ++ [y]) l nx an ls ags) := H
  clear H hss hLX hLY hx hy hz hB hcm hcB
  go_enter Try.func29, Try.ntmps29
  go_wp2_with (first
    | (refine wpList_boxG 77 rfl (.tmp 1) rfl I rfl ?_; intro X1 q1 q2 q3; have R1 : Hid (Row X1 w.heap.size I 77) := q1; have HR : Hid (Rn k0 w0 X1 r T gs n pl C h av stk (ss ++ [x] ++ [y]) l nx an ls ags) := HH.out.keep q2; clear q1 q2 q3; simp only [Act.put, List.setIfInBounds_toArray, List.set_cons_zero, List.set_cons_succ])
    | (go_at_call 52; refine Calls.mono (HTT.out X1 HR.out) ?_; rintro e X2 ⟨rfl, stk2, q⟩; have HR2 : Hid (Rn k0 w0 X2 r T gs n pl C h av stk2 ss l nx an ls ags) := q; clear q)
    | (go_at_call 57; refine Calls.mono (HOP.out X2) ?_; rintro e X3 ⟨rfl, q⟩; have HR3 : Hid (Rn k0 w0 X3 r T gs n pl C h av stk2 ss l nx an ls ags) := HR2.out.keep q; clear q)
    | (go_at_call 56; refine Calls.mono (HW.out stk2 X3 _ (by first | exact HCB.out.1 | exact HCB.out.2) HR3.out) ?_; rintro e X9 ⟨rfl, stk', q⟩; have HQ : Hid (Rn k0 w0 X9 r T gs n pl C h av stk' (ss ++ [z]) l nx an ls ags) := q; clear q))
  go_ret
  exact ⟨rfl, _, HQ.out⟩

end Go.Proofs.Ytabcglakdlkdcaa

namespace Go.Proofs.Ytabcglakdlkdcaa
open Go Go.RowKit
open Sha
open Wd
set_option maxRecDepth 100000 in
set_option maxHeartbeats 4000000 in
theorem do_token (r T gs n : Nat) (pl : Value) (C : List Value) (h av stk : Value) (ss : List Nat) (l nx : Nat) (an : List Value) (ls : List Ins) (ags : List Nat) (I : List Value) (k : Nat) (hk : k < 18446744073709551616) (hC : C[40]? = some (.int .i64 (k : Int))) (k0 w0 w : World) (H : Rn k0 w0 w r T gs n pl C h av stk (ss) l nx an ls ags) (hss : ss.length ≤ 900) : Calls Try.prog 37 #[.pointer (some ⟨r, 0, none⟩), .agg I.toArray] w fun e w' => e = .returned (.int .i64 0) ∧ ∃ stk', Rn k0 w0 w' r T gs n pl C h av stk' (ss ++ [k]) l nx an ls ags := by
  have HLC : Hid (∀ W, Rn k0 w0 W r T gs n pl C h av stk (ss) l nx an ls ags → Calls Try.prog 60 #[.pointer (some ⟨r, 0, none⟩), .int .i64 (k : Int)] W fun e w' => e = .returned (.int .i64 0) ∧ ∃ stk', Rn k0 w0 w' r T gs n pl C h av stk' (ss ++ [k]) l nx an ls ags) := fun W hW => count_any r T gs n pl C h av stk ss l nx an ls ags k hk k0 w0 W hW (by omega)
  have HH : Hid (Rn k0 w0 w r T gs n pl C h av stk (ss) l nx an ls ags) := H
  have HC : Hid (C[40]? = some (.int .i64 (k : Int))) := hC
  clear H hss hk hC
  go_enter Try.func37, Try.ntmps37
  go_upto_region 1 with (refine wpList_boxG 77 rfl (.tmp 1) rfl I rfl ?_; intro X1 q1 q2 q3; have R1 : Hid (Row X1 w.heap.size I 77) := q1; have HR : Hid (Rn k0 w0 X1 r T gs n pl C h av stk (ss) l nx an ls ags) := HH.out.keep q2; clear q1 q2 q3; simp only [Act.put, List.setIfInBounds_toArray, List.set_cons_zero, List.set_cons_succ])
  have c1 : X1.cell? ⟨r, 43, none⟩ = some (.int .i64 (k : Int)) := HR.out.row.cell 43 _ ((rc_low HR.out.clen 40 (by decide)).trans HC.out)
  go_wp2_with (go_at_call 60; refine Calls.mono (HLC.out X1 HR.out) ?_; rintro e X9 ⟨rfl, stk', q⟩; have HQ : Hid (Rn k0 w0 X9 r T gs n pl C h av stk' (ss ++ [k]) l nx an ls ags) := q; clear q)
  go_ret
  exact ⟨rfl, _, HQ.out⟩
set_option maxRecDepth 100000 in
set_option maxHeartbeats 4000000 in
theorem do_time (r T gs n : Nat) (pl : Value) (C : List Value) (h av stk : Value) (ss : List Nat) (l nx : Nat) (an : List Value) (ls : List Ins) (ags : List Nat) (I : List Value) (k : Nat) (hk : k < 18446744073709551616) (hC : C[46]? = some (.int .i64 (k : Int))) (k0 w0 w : World) (H : Rn k0 w0 w r T gs n pl C h av stk (ss) l nx an ls ags) (hss : ss.length ≤ 900) : Calls Try.prog 39 #[.pointer (some ⟨r, 0, none⟩), .agg I.toArray] w fun e w' => e = .returned (.int .i64 0) ∧ ∃ stk', Rn k0 w0 w' r T gs n pl C h av stk' (ss ++ [k]) l nx an ls ags := by
  have HLC : Hid (∀ W, Rn k0 w0 W r T gs n pl C h av stk (ss) l nx an ls ags → Calls Try.prog 60 #[.pointer (some ⟨r, 0, none⟩), .int .i64 (k : Int)] W fun e w' => e = .returned (.int .i64 0) ∧ ∃ stk', Rn k0 w0 w' r T gs n pl C h av stk' (ss ++ [k]) l nx an ls ags) := fun W hW => count_any r T gs n pl C h av stk ss l nx an ls ags k hk k0 w0 W hW (by omega)
  have HH : Hid (Rn k0 w0 w r T gs n pl C h av stk (ss) l nx an ls ags) := H
  have HC : Hid (C[46]? = some (.int .i64 (k : Int))) := hC
  clear H hss hk hC
  go_enter Try.func39, Try.ntmps39
  go_upto_region 1 with (refine wpList_boxG 77 rfl (.tmp 1) rfl I rfl ?_; intro X1 q1 q2 q3; have R1 : Hid (Row X1 w.heap.size I 77) := q1; have HR : Hid (Rn k0 w0 X1 r T gs n pl C h av stk (ss) l nx an ls ags) := HH.out.keep q2; clear q1 q2 q3; simp only [Act.put, List.setIfInBounds_toArray, List.set_cons_zero, List.set_cons_succ])
  have c1 : X1.cell? ⟨r, 49, none⟩ = some (.int .i64 (k : Int)) := HR.out.row.cell 49 _ ((rc_low HR.out.clen 46 (by decide)).trans HC.out)
  go_wp2_with (go_at_call 60; refine Calls.mono (HLC.out X1 HR.out) ?_; rintro e X9 ⟨rfl, stk', q⟩; have HQ : Hid (Rn k0 w0 X9 r T gs n pl C h av stk' (ss ++ [k]) l nx an ls ags) := q; clear q)
  go_ret
  exact ⟨rfl, _, HQ.out⟩
set_option maxRecDepth 100000 in
set_option maxHeartbeats 4000000 in
theorem do_gas (r T gs n : Nat) (pl : Value) (C : List Value) (h av stk : Value) (ss : List Nat) (l nx : Nat) (an : List Value) (ls : List Ins) (ags : List Nat) (I : List Value) (k : Nat) (hk : k < 18446744073709551616) (hC : k = l) (k0 w0 w : World) (H : Rn k0 w0 w r T gs n pl C h av stk (ss) l nx an ls ags) (hss : ss.length ≤ 900) : Calls Try.prog 40 #[.pointer (some ⟨r, 0, none⟩), .agg I.toArray] w fun e w' => e = .returned (.int .i64 0) ∧ ∃ stk', Rn k0 w0 w' r T gs n pl C h av stk' (ss ++ [k]) l nx an ls ags := by
  have HLC : Hid (∀ W, Rn k0 w0 W r T gs n pl C h av stk (ss) l nx an ls ags → Calls Try.prog 60 #[.pointer (some ⟨r, 0, none⟩), .int .i64 (k : Int)] W fun e w' => e = .returned (.int .i64 0) ∧ ∃ stk', Rn k0 w0 w' r T gs n pl C h av stk' (ss ++ [k]) l nx an ls ags) := fun W hW => count_any r T gs n pl C h av stk ss l nx an ls ags k hk k0 w0 W hW (by omega)
  have HH : Hid (Rn k0 w0 w r T gs n pl C h av stk (ss) l nx an ls ags) := H
  have HC : Hid (k = l) := hC
  clear H hss hk hC
  go_enter Try.func40, Try.ntmps40
  go_upto_region 1 with (refine wpList_boxG 77 rfl (.tmp 1) rfl I rfl ?_; intro X1 q1 q2 q3; have R1 : Hid (Row X1 w.heap.size I 77) := q1; have HR : Hid (Rn k0 w0 X1 r T gs n pl C h av stk (ss) l nx an ls ags) := HH.out.keep q2; clear q1 q2 q3; simp only [Act.put, List.setIfInBounds_toArray, List.set_cons_zero, List.set_cons_succ])
  have c1 : X1.cell? ⟨r, 53, none⟩ = some (.int .i64 (k : Int)) := HR.out.row.cell 53 _ (by rw [HC.out]; exact rc_hi HR.out.clen 2)
  go_wp2_with (go_at_call 60; refine Calls.mono (HLC.out X1 HR.out) ?_; rintro e X9 ⟨rfl, stk', q⟩; have HQ : Hid (Rn k0 w0 X9 r T gs n pl C h av stk' (ss ++ [k]) l nx an ls ags) := q; clear q)
  go_ret
  exact ⟨rfl, _, HQ.out⟩
set_option maxRecDepth 100000 in
set_option maxHeartbeats 4000000 in
theorem do_args (r T gs n : Nat) (pl : Value) (C : List Value) (h av stk : Value) (ss : List Nat) (l nx : Nat) (an : List Value) (ls : List Ins) (ags : List Nat) (I : List Value) (k : Nat) (hk : k < 18446744073709551616) (hC : k = ags.length) (k0 w0 w : World) (H : Rn k0 w0 w r T gs n pl C h av stk (ss) l nx an ls ags) (hss : ss.length ≤ 900) : Calls Try.prog 34 #[.pointer (some ⟨r, 0, none⟩), .agg I.toArray] w fun e w' => e = .returned (.int .i64 0) ∧ ∃ stk', Rn k0 w0 w' r T gs n pl C h av stk' (ss ++ [k]) l nx an ls ags := by
  have HLC : Hid (∀ W, Rn k0 w0 W r T gs n pl C h av stk (ss) l nx an ls ags → Calls Try.prog 60 #[.pointer (some ⟨r, 0, none⟩), .int .i64 (k : Int)] W fun e w' => e = .returned (.int .i64 0) ∧ ∃ stk', Rn k0 w0 w' r T gs n pl C h av stk' (ss ++ [k]) l nx an ls ags) := fun W hW => count_any r T gs n pl C h av stk ss l nx an ls ags k hk k0 w0 W hW (by omega)
  have HH : Hid (Rn k0 w0 w r T gs n pl C h av stk (ss) l nx an ls ags) := H
  obtain ⟨A0, c0, hav, _, _⟩ := Lw.form H.arg
  have HAV : Hid (av = .slice A0 k c0) := by rw [hC]; exact hav
  clear H hss hk hC hav
  go_enter Try.func34, Try.ntmps34
  go_upto_region 1 with (refine wpList_boxG 77 rfl (.tmp 1) rfl I rfl ?_; intro X1 q1 q2 q3; have R1 : Hid (Row X1 w.heap.size I 77) := q1; have HR : Hid (Rn k0 w0 X1 r T gs n pl C h av stk (ss) l nx an ls ags) := HH.out.keep q2; clear q1 q2 q3; simp only [Act.put, List.setIfInBounds_toArray, List.set_cons_zero, List.set_cons_succ])
  have c1 : X1.cell? ⟨r, 48, none⟩ = some (.slice A0 k c0) := HR.out.row.cell 48 _ ((rc_low HR.out.clen 45 (by decide)).trans (HR.out.cargs.trans (congrArg some HAV.out)))
  go_wp2_with (go_at_call 60; refine Calls.mono (HLC.out X1 HR.out) ?_; rintro e X9 ⟨rfl, stk', q⟩; have HQ : Hid (Rn k0 w0 X9 r T gs n pl C h av stk' (ss ++ [k]) l nx an ls ags) := q; clear q)
  go_ret
  exact ⟨rfl, _, HQ.out⟩

end Go.Proofs.Ytabcglakdlkdcaa

namespace Go.Proofs.Ytabcglakdlkdcaa
open Go Go.RowKit
open Sha
open Wd

/-- What a call says besides its arguments and its gas. -/
structure Cl where
  sf : List (BitVec 8)
  cr : List (BitVec 8)
  tok : Nat
  amt : Nat
  tm : Nat
/-- The call's cells say it. -/
structure Cl.In (c : Cl) (C : List Value) : Prop where
  l1 : c.sf.length = 20
  l2 : c.cr.length = 20
  sf : ∀ j v, (vB c.sf)[j]? = some v → C[0 + j]? = some v
  cr : ∀ j v, (vB c.cr)[j]? = some v → C[20 + j]? = some v
  tok : C[40]? = some (.int .i64 (c.tok : Int))
  tokl : c.tok < 18446744073709551616
  amt : ∀ j v, (wq c.amt)[j]? = some v → C[41 + j]? = some v
  amtl : c.amt < 2 ^ 256
  tm : C[46]? = some (.int .i64 (c.tm : Int))
  tml : c.tm < 18446744073709551616
/-- What an instruction does that asks no host, once its gas is paid: an error, or the stack (its top first) and which instruction is next. -/
def exi (cl : Cl) (ags : List Nat) (ls : List Ins) (c a ni : Nat) (st : List Nat) (l nx : Nat) : Except Int (List Nat × Nat) := match c with
  | 0 => .error 105
  | 2 => .ok (a :: st, nx)
  | 3 => .ok (st.drop 1, nx)
  | 4 => .ok (st.getD ni 0 :: st, nx)
  | 5 => .ok ((st.set 0 (st.getD ni 0)).set ni (st.getD 0 0), nx)
  | 12 => .ok ((if decide (st.getD 1 0 = st.getD 0 0) = true then 1 else 0) :: st.drop 2, nx)
  | 13 => .ok ((if decide (st.getD 0 0 = 0) = true then 1 else 0) :: st.drop 1, nx)
  | 14 => .ok (st, stf ls ni - 1)
  | 15 => .ok (st.drop 1, if st.getD 0 0 = 0 then nx else stf ls ni - 1)
  | 16 => .ok (ags.getD ni 0 :: st, nx)
  | 17 => .ok (ags.length :: st, nx)
  | 18 => .ok (nb cl.cr :: st, nx)
  | 19 => .ok (nb cl.sf :: st, nx)
  | 20 => .ok (cl.tok :: st, nx)
  | 21 => .ok (cl.amt :: st, nx)
  | 22 => .ok (cl.tm :: st, nx)
  | 23 => .ok (l :: st, nx)
  | c => match bin c (st.getD 1 0) (st.getD 0 0) with
    | some (z, E) => if E = 0 then .ok (z :: st.drop 2, nx) else .error 104
    | none => .error 0
theorem cfe_push (args : Array Value) (W : World) : (callFunc 19 args).run Try.prog W = .ok (.enter 19 args) W := by
  go_simp
theorem sp_push (r T gs n : Nat) (pl : Value) (C : List Value) (h av stk : Value) (st : List Nat) (l nx : Nat) (an : List Value) (ls : List Ins) (ags : List Nat) (cl : Cl) (pi ai ni : Nat) (hl : l ≤ 10000) (hsl : st.length ≤ 64) (hnx : nx ≤ 1024) (k0 w0 w : World) (H : Rn k0 w0 w r T gs n pl C h av stk st.reverse l nx an ls ags) : Calls Try.prog 47 #[.pointer (some ⟨r, 0, none⟩), .agg (ic 2 pi ai ni).toArray] w fun e w' => ∃ v, e = .returned (.int .i64 v) ∧ StP k0 w0 w' r T gs n pl C h av l an ls ags 1 (0) (1) st (exi cl ags ls 2 ai ni st (l - 1) (nx + 1)) v := by
  refine stp_of r T gs n pl C h av stk st l nx an ls ags 2 pi ai ni _ 1 1 0 1 19 (by decide) rfl (0) (1) (fun W => needs_any _ _ 1 1 0 1 rfl rfl _ W) hl (by omega) hsl hnx k0 w0 w H _ cfe_push ?_
  intro hg ht hm W hW
  refine Calls.mono (do_push r T gs n pl C h av stk st.reverse _ _ an ls ags _ 2 pi ai ni rfl k0 w0 W hW (by rw [List.length_reverse]; omega)) ?_
  rintro e w' ⟨rfl, stk', q⟩
  exact ⟨0, rfl, rfl, stk', by rw [List.reverse_cons]; exact q⟩
theorem cfe_args (args : Array Value) (W : World) : (callFunc 34 args).run Try.prog W = .ok (.enter 34 args) W := by
  go_simp
theorem sp_args (r T gs n : Nat) (pl : Value) (C : List Value) (h av stk : Value) (st : List Nat) (l nx : Nat) (an : List Value) (ls : List Ins) (ags : List Nat) (cl : Cl) (pi ai ni : Nat) (hl : l ≤ 10000) (hsl : st.length ≤ 64) (hnx : nx ≤ 1024) (h8 : ags.length ≤ 8) (k0 w0 w : World) (H : Rn k0 w0 w r T gs n pl C h av stk st.reverse l nx an ls ags) : Calls Try.prog 47 #[.pointer (some ⟨r, 0, none⟩), .agg (ic 17 pi ai ni).toArray] w fun e w' => ∃ v, e = .returned (.int .i64 v) ∧ StP k0 w0 w' r T gs n pl C h av l an ls ags 2 (0) (1) st (exi cl ags ls 17 ai ni st (l - 2) (nx + 1)) v := by
  refine stp_of r T gs n pl C h av stk st l nx an ls ags 17 pi ai ni _ 0 2 0 1 34 (by decide) rfl (0) (1) (fun W => needs_any _ _ 0 2 0 1 rfl rfl _ W) hl (by omega) hsl hnx k0 w0 w H _ cfe_args ?_
  intro hg ht hm W hW
  refine Calls.mono (do_args r T gs n pl C h av stk st.reverse _ _ an ls ags _ ags.length (by omega) rfl k0 w0 W hW (by rw [List.length_reverse]; omega)) ?_
  rintro e w' ⟨rfl, stk', q⟩
  exact ⟨0, rfl, rfl, stk', by rw [List.reverse_cons]; exact q⟩
theorem cfe_caller (args : Array Value) (W : World) : (callFunc 35 args).run Try.prog W = .ok (.enter 35 args) W := by
  go_simp
theorem sp_caller (r T gs n : Nat) (pl : Value) (C : List Value) (h av stk : Value) (st : List Nat) (l nx : Nat) (an : List Value) (ls : List Ins) (ags : List Nat) (cl : Cl) (hcl : cl.In C) (pi ai ni : Nat) (hl : l ≤ 10000) (hsl : st.length ≤ 64) (hnx : nx ≤ 1024) (k0 w0 w : World) (H : Rn k0 w0 w r T gs n pl C h av stk st.reverse l nx an ls ags) : Calls Try.prog 47 #[.pointer (some ⟨r, 0, none⟩), .agg (ic 18 pi ai ni).toArray] w fun e w' => ∃ v, e = .returned (.int .i64 v) ∧ StP k0 w0 w' r T gs n pl C h av l an ls ags 2 (0) (1) st (exi cl ags ls 18 ai ni st (l - 2) (nx + 1)) v := by
  refine stp_of r T gs n pl C h av stk st l nx an ls ags 18 pi ai ni _ 0 2 0 1 35 (by decide) rfl (0) (1) (fun W => needs_any _ _ 0 2 0 1 rfl rfl _ W) hl (by omega) hsl hnx k0 w0 w H _ cfe_caller ?_
  intro hg ht hm W hW
  refine Calls.mono (do_caller r T gs n pl C h av stk st.reverse _ _ an ls ags _ cl.cr hcl.l2 hcl.cr k0 w0 W hW (by rw [List.length_reverse]; omega)) ?_
  rintro e w' ⟨rfl, stk', q⟩
  exact ⟨0, rfl, rfl, stk', by rw [List.reverse_cons]; exact q⟩
theorem cfe_self (args : Array Value) (W : World) : (callFunc 36 args).run Try.prog W = .ok (.enter 36 args) W := by
  go_simp
theorem sp_self (r T gs n : Nat) (pl : Value) (C : List Value) (h av stk : Value) (st : List Nat) (l nx : Nat) (an : List Value) (ls : List Ins) (ags : List Nat) (cl : Cl) (hcl : cl.In C) (pi ai ni : Nat) (hl : l ≤ 10000) (hsl : st.length ≤ 64) (hnx : nx ≤ 1024) (k0 w0 w : World) (H : Rn k0 w0 w r T gs n pl C h av stk st.reverse l nx an ls ags) : Calls Try.prog 47 #[.pointer (some ⟨r, 0, none⟩), .agg (ic 19 pi ai ni).toArray] w fun e w' => ∃ v, e = .returned (.int .i64 v) ∧ StP k0 w0 w' r T gs n pl C h av l an ls ags 2 (0) (1) st (exi cl ags ls 19 ai ni st (l - 2) (nx + 1)) v := by
  refine stp_of r T gs n pl C h av stk st l nx an ls ags 19 pi ai ni _ 0 2 0 1 36 (by decide) rfl (0) (1) (fun W => needs_any _ _ 0 2 0 1 rfl rfl _ W) hl (by omega) hsl hnx k0 w0 w H _ cfe_self ?_
  intro hg ht hm W hW
  refine Calls.mono (do_self r T gs n pl C h av stk st.reverse _ _ an ls ags _ cl.sf hcl.l1 hcl.sf k0 w0 W hW (by rw [List.length_reverse]; omega)) ?_
  rintro e w' ⟨rfl, stk', q⟩
  exact ⟨0, rfl, rfl, stk', by rw [List.reverse_cons]; exact q⟩
theorem cfe_token (args : Array Value) (W : World) : (callFunc 37 args).run Try.prog W = .ok (.enter 37 args) W := by
  go_simp
theorem sp_token (r T gs n : Nat) (pl : Value) (C : List Value) (h av stk : Value) (st : List Nat) (l nx : Nat) (an : List Value) (ls : List Ins) (ags : List Nat) (cl : Cl) (hcl : cl.In C) (pi ai ni : Nat) (hl : l ≤ 10000) (hsl : st.length ≤ 64) (hnx : nx ≤ 1024) (k0 w0 w : World) (H : Rn k0 w0 w r T gs n pl C h av stk st.reverse l nx an ls ags) : Calls Try.prog 47 #[.pointer (some ⟨r, 0, none⟩), .agg (ic 20 pi ai ni).toArray] w fun e w' => ∃ v, e = .returned (.int .i64 v) ∧ StP k0 w0 w' r T gs n pl C h av l an ls ags 2 (0) (1) st (exi cl ags ls 20 ai ni st (l - 2) (nx + 1)) v := by
  refine stp_of r T gs n pl C h av stk st l nx an ls ags 20 pi ai ni _ 0 2 0 1 37 (by decide) rfl (0) (1) (fun W => needs_any _ _ 0 2 0 1 rfl rfl _ W) hl (by omega) hsl hnx k0 w0 w H _ cfe_token ?_
  intro hg ht hm W hW
  refine Calls.mono (do_token r T gs n pl C h av stk st.reverse _ _ an ls ags _ cl.tok hcl.tokl hcl.tok k0 w0 W hW (by rw [List.length_reverse]; omega)) ?_
  rintro e w' ⟨rfl, stk', q⟩
  exact ⟨0, rfl, rfl, stk', by rw [List.reverse_cons]; exact q⟩
theorem cfe_amount (args : Array Value) (W : World) : (callFunc 38 args).run Try.prog W = .ok (.enter 38 args) W := by
  go_simp
theorem sp_amount (r T gs n : Nat) (pl : Value) (C : List Value) (h av stk : Value) (st : List Nat) (l nx : Nat) (an : List Value) (ls : List Ins) (ags : List Nat) (cl : Cl) (hcl : cl.In C) (pi ai ni : Nat) (hl : l ≤ 10000) (hsl : st.length ≤ 64) (hnx : nx ≤ 1024) (k0 w0 w : World) (H : Rn k0 w0 w r T gs n pl C h av stk st.reverse l nx an ls ags) : Calls Try.prog 47 #[.pointer (some ⟨r, 0, none⟩), .agg (ic 21 pi ai ni).toArray] w fun e w' => ∃ v, e = .returned (.int .i64 v) ∧ StP k0 w0 w' r T gs n pl C h av l an ls ags 2 (0) (1) st (exi cl ags ls 21 ai ni st (l - 2) (nx + 1)) v := by
  refine stp_of r T gs n pl C h av stk st l nx an ls ags 21 pi ai ni _ 0 2 0 1 38 (by decide) rfl (0) (1) (fun W => needs_any _ _ 0 2 0 1 rfl rfl _ W) hl (by omega) hsl hnx k0 w0 w H _ cfe_amount ?_
  intro hg ht hm W hW
  refine Calls.mono (do_amount r T gs n pl C h av stk st.reverse _ _ an ls ags _ cl.amt hcl.amt k0 w0 W hW (by rw [List.length_reverse]; omega)) ?_
  rintro e w' ⟨rfl, stk', q⟩
  exact ⟨0, rfl, rfl, stk', by rw [List.reverse_cons]; exact q⟩
theorem cfe_time (args : Array Value) (W : World) : (callFunc 39 args).run Try.prog W = .ok (.enter 39 args) W := by
  go_simp
theorem sp_time (r T gs n : Nat) (pl : Value) (C : List Value) (h av stk : Value) (st : List Nat) (l nx : Nat) (an : List Value) (ls : List Ins) (ags : List Nat) (cl : Cl) (hcl : cl.In C) (pi ai ni : Nat) (hl : l ≤ 10000) (hsl : st.length ≤ 64) (hnx : nx ≤ 1024) (k0 w0 w : World) (H : Rn k0 w0 w r T gs n pl C h av stk st.reverse l nx an ls ags) : Calls Try.prog 47 #[.pointer (some ⟨r, 0, none⟩), .agg (ic 22 pi ai ni).toArray] w fun e w' => ∃ v, e = .returned (.int .i64 v) ∧ StP k0 w0 w' r T gs n pl C h av l an ls ags 2 (0) (1) st (exi cl ags ls 22 ai ni st (l - 2) (nx + 1)) v := by
  refine stp_of r T gs n pl C h av stk st l nx an ls ags 22 pi ai ni _ 0 2 0 1 39 (by decide) rfl (0) (1) (fun W => needs_any _ _ 0 2 0 1 rfl rfl _ W) hl (by omega) hsl hnx k0 w0 w H _ cfe_time ?_
  intro hg ht hm W hW
  refine Calls.mono (do_time r T gs n pl C h av stk st.reverse _ _ an ls ags _ cl.tm hcl.tml hcl.tm k0 w0 W hW (by rw [List.length_reverse]; omega)) ?_
  rintro e w' ⟨rfl, stk', q⟩
  exact ⟨0, rfl, rfl, stk', by rw [List.reverse_cons]; exact q⟩
theorem cfe_gas (args : Array Value) (W : World) : (callFunc 40 args).run Try.prog W = .ok (.enter 40 args) W := by
  go_simp
theorem sp_gas (r T gs n : Nat) (pl : Value) (C : List Value) (h av stk : Value) (st : List Nat) (l nx : Nat) (an : List Value) (ls : List Ins) (ags : List Nat) (cl : Cl) (pi ai ni : Nat) (hl : l ≤ 10000) (hsl : st.length ≤ 64) (hnx : nx ≤ 1024) (k0 w0 w : World) (H : Rn k0 w0 w r T gs n pl C h av stk st.reverse l nx an ls ags) : Calls Try.prog 47 #[.pointer (some ⟨r, 0, none⟩), .agg (ic 23 pi ai ni).toArray] w fun e w' => ∃ v, e = .returned (.int .i64 v) ∧ StP k0 w0 w' r T gs n pl C h av l an ls ags 2 (0) (1) st (exi cl ags ls 23 ai ni st (l - 2) (nx + 1)) v := by
  refine stp_of r T gs n pl C h av stk st l nx an ls ags 23 pi ai ni _ 0 2 0 1 40 (by decide) rfl (0) (1) (fun W => needs_any _ _ 0 2 0 1 rfl rfl _ W) hl (by omega) hsl hnx k0 w0 w H _ cfe_gas ?_
  intro hg ht hm W hW
  refine Calls.mono (do_gas r T gs n pl C h av stk st.reverse _ _ an ls ags _ (l - 2) (by omega) rfl k0 w0 W hW (by rw [List.length_reverse]; omega)) ?_
  rintro e w' ⟨rfl, stk', q⟩
  exact ⟨0, rfl, rfl, stk', by rw [List.reverse_cons]; exact q⟩
theorem cfe_stop (args : Array Value) (W : World) : (callFunc 17 args).run Try.prog W = .ok (.enter 17 args) W := by
  go_simp
theorem sp_stop (r T gs n : Nat) (pl : Value) (C : List Value) (h av stk : Value) (st : List Nat) (l nx : Nat) (an : List Value) (ls : List Ins) (ags : List Nat) (cl : Cl) (pi ai ni : Nat) (hl : l ≤ 10000) (hsl : st.length ≤ 64) (hnx : nx ≤ 1024) (k0 w0 w : World) (H : Rn k0 w0 w r T gs n pl C h av stk st.reverse l nx an ls ags) : Calls Try.prog 47 #[.pointer (some ⟨r, 0, none⟩), .agg (ic 0 pi ai ni).toArray] w fun e w' => ∃ v, e = .returned (.int .i64 v) ∧ StP k0 w0 w' r T gs n pl C h av l an ls ags 1 (0) (0) st (exi cl ags ls 0 ai ni st (l - 1) (nx + 1)) v := by
  refine stp_of r T gs n pl C h av stk st l nx an ls ags 0 pi ai ni _ 0 1 0 0 17 (by decide) rfl (0) (0) (fun W => needs_any _ _ 0 1 0 0 rfl rfl _ W) hl (by omega) hsl hnx k0 w0 w H _ cfe_stop ?_
  intro hg ht hm W hW
  refine Calls.mono (do_stop r T gs n pl C h av stk st.reverse _ _ an ls ags _ k0 w0 W hW) ?_
  rintro e w' ⟨rfl, q⟩
  exact ⟨105, rfl, rfl, _, _, _, q⟩
theorem cfe_pop (args : Array Value) (W : World) : (callFunc 20 args).run Try.prog W = .ok (.enter 20 args) W := by
  go_simp
theorem sp_pop (r T gs n : Nat) (pl : Value) (C : List Value) (h av stk : Value) (st : List Nat) (l nx : Nat) (an : List Value) (ls : List Ins) (ags : List Nat) (cl : Cl) (pi ai ni : Nat) (hl : l ≤ 10000) (hsl : st.length ≤ 64) (hnx : nx ≤ 1024) (k0 w0 w : World) (H : Rn k0 w0 w r T gs n pl C h av stk st.reverse l nx an ls ags) : Calls Try.prog 47 #[.pointer (some ⟨r, 0, none⟩), .agg (ic 3 pi ai ni).toArray] w fun e w' => ∃ v, e = .returned (.int .i64 v) ∧ StP k0 w0 w' r T gs n pl C h av l an ls ags 1 (1) (0) st (exi cl ags ls 3 ai ni st (l - 1) (nx + 1)) v := by
  refine stp_of r T gs n pl C h av stk st l nx an ls ags 3 pi ai ni _ 0 1 1 0 20 (by decide) rfl (1) (0) (fun W => needs_any _ _ 0 1 1 0 rfl rfl _ W) hl (by omega) hsl hnx k0 w0 w H _ cfe_pop ?_
  intro hg ht hm W hW
  obtain ⟨x, st', rfl⟩ : ∃ x st', st = x :: st' := by
    cases st with
    | nil => exact absurd ht (by decide)
    | cons x st' => exact ⟨x, st', rfl⟩
  rw [List.reverse_cons] at hW
  have hsr : st'.reverse.length ≤ 900 := by rw [List.length_reverse]; rw [List.length_cons] at hsl; omega
  refine Calls.mono (do_pop r T gs n pl C h av stk st'.reverse _ _ an ls ags _ x k0 w0 W hW hsr) ?_
  rintro e w' ⟨rfl, stk', q⟩
  exact ⟨0, rfl, rfl, stk', q⟩
theorem cfe_not (args : Array Value) (W : World) : (callFunc 30 args).run Try.prog W = .ok (.enter 30 args) W := by
  go_simp
theorem sp_not (r T gs n : Nat) (pl : Value) (C : List Value) (h av stk : Value) (st : List Nat) (l nx : Nat) (an : List Value) (ls : List Ins) (ags : List Nat) (cl : Cl) (pi ai ni : Nat) (hst : ∀ a ∈ st, a < 2 ^ 256) (hl : l ≤ 10000) (hsl : st.length ≤ 64) (hnx : nx ≤ 1024) (k0 w0 w : World) (H : Rn k0 w0 w r T gs n pl C h av stk st.reverse l nx an ls ags) : Calls Try.prog 47 #[.pointer (some ⟨r, 0, none⟩), .agg (ic 13 pi ai ni).toArray] w fun e w' => ∃ v, e = .returned (.int .i64 v) ∧ StP k0 w0 w' r T gs n pl C h av l an ls ags 2 (1) (1) st (exi cl ags ls 13 ai ni st (l - 2) (nx + 1)) v := by
  refine stp_of r T gs n pl C h av stk st l nx an ls ags 13 pi ai ni _ 0 2 1 1 30 (by decide) rfl (1) (1) (fun W => needs_any _ _ 0 2 1 1 rfl rfl _ W) hl (by omega) hsl hnx k0 w0 w H _ cfe_not ?_
  intro hg ht hm W hW
  obtain ⟨x, st', rfl⟩ : ∃ x st', st = x :: st' := by
    cases st with
    | nil => exact absurd ht (by decide)
    | cons x st' => exact ⟨x, st', rfl⟩
  rw [List.reverse_cons] at hW
  have hx : x < 2 ^ 256 := hst x (by simp)
  have hsr : st'.reverse.length ≤ 900 := by rw [List.length_reverse]; rw [List.length_cons] at hsl; omega
  refine Calls.mono (do_not r T gs n pl C h av stk st'.reverse _ _ an ls ags _ x _ hx rfl k0 w0 W hW hsr) ?_
  rintro e w' ⟨rfl, stk', q⟩
  exact ⟨0, rfl, rfl, stk', by rw [List.reverse_cons]; exact q⟩
theorem cfe_same (args : Array Value) (W : World) : (callFunc 29 args).run Try.prog W = .ok (.enter 29 args) W := by
  go_simp
theorem sp_same (r T gs n : Nat) (pl : Value) (C : List Value) (h av stk : Value) (st : List Nat) (l nx : Nat) (an : List Value) (ls : List Ins) (ags : List Nat) (cl : Cl) (pi ai ni : Nat) (hst : ∀ a ∈ st, a < 2 ^ 256) (hl : l ≤ 10000) (hsl : st.length ≤ 64) (hnx : nx ≤ 1024) (k0 w0 w : World) (H : Rn k0 w0 w r T gs n pl C h av stk st.reverse l nx an ls ags) : Calls Try.prog 47 #[.pointer (some ⟨r, 0, none⟩), .agg (ic 12 pi ai ni).toArray] w fun e w' => ∃ v, e = .returned (.int .i64 v) ∧ StP k0 w0 w' r T gs n pl C h av l an ls ags 2 (2) (1) st (exi cl ags ls 12 ai ni st (l - 2) (nx + 1)) v := by
  refine stp_of r T gs n pl C h av stk st l nx an ls ags 12 pi ai ni _ 0 2 2 1 29 (by decide) rfl (2) (1) (fun W => needs_any _ _ 0 2 2 1 rfl rfl _ W) hl (by omega) hsl hnx k0 w0 w H _ cfe_same ?_
  intro hg ht hm W hW
  obtain ⟨y, x, st', rfl⟩ : ∃ y x st', st = y :: x :: st' := by
    cases st with
    | nil => exact absurd ht (by decide)
    | cons y st' => cases st' with
      | nil => exact absurd ht (by rw [List.length_singleton]; decide)
      | cons x st' => exact ⟨y, x, st', rfl⟩
  rw [List.reverse_cons, List.reverse_cons] at hW
  have hy : y < 2 ^ 256 := hst y (by simp)
  have hx : x < 2 ^ 256 := hst x (by simp)
  have hsr : st'.reverse.length ≤ 900 := by rw [List.length_reverse]; rw [List.length_cons, List.length_cons] at hsl; omega
  refine Calls.mono (do_same r T gs n pl C h av stk st'.reverse _ _ an ls ags _ x y _ hx hy rfl k0 w0 W hW hsr) ?_
  rintro e w' ⟨rfl, stk', q⟩
  exact ⟨0, rfl, rfl, stk', by rw [List.reverse_cons]; exact q⟩
theorem cfe_jump (args : Array Value) (W : World) : (callFunc 31 args).run Try.prog W = .ok (.enter 31 args) W := by
  go_simp
theorem sp_jump (r T gs n : Nat) (pl : Value) (C : List Value) (h av stk : Value) (st : List Nat) (l nx : Nat) (an : List Value) (ls : List Ins) (ags : List Nat) (cl : Cl) (pi ai ni : Nat) (hl : l ≤ 10000) (hsl : st.length ≤ 64) (hnx : nx ≤ 1024) (m : Nat) (hp : ni < n) (hm : stf ls ni = m + 1) (hml : m ≤ 100000) (k0 w0 w : World) (H : Rn k0 w0 w r T gs n pl C h av stk st.reverse l nx an ls ags) : Calls Try.prog 47 #[.pointer (some ⟨r, 0, none⟩), .agg (ic 14 pi ai ni).toArray] w fun e w' => ∃ v, e = .returned (.int .i64 v) ∧ StP k0 w0 w' r T gs n pl C h av l an ls ags 5 (0) (0) st (exi cl ags ls 14 ai ni st (l - 5) (nx + 1)) v := by
  refine stp_of r T gs n pl C h av stk st l nx an ls ags 14 pi ai ni _ 5 5 0 0 31 (by decide) rfl (0) (0) (fun W => needs_any _ _ 5 5 0 0 rfl rfl _ W) hl (by omega) hsl hnx k0 w0 w H _ cfe_jump ?_
  intro hg ht hm W hW
  refine Calls.mono (do_jump r T gs n pl C h av stk st.reverse _ _ an ls ags _ 14 pi ai ni m rfl hp ‹stf ls ni = m + 1› hml k0 w0 W hW) ?_
  rintro e w' ⟨rfl, stk', q⟩
  refine ⟨0, rfl, rfl, stk', ?_⟩
  rw [show stf ls ni - 1 = m by omega]
  exact q
theorem cfe_when (args : Array Value) (W : World) : (callFunc 32 args).run Try.prog W = .ok (.enter 32 args) W := by
  go_simp
theorem sp_when (r T gs n : Nat) (pl : Value) (C : List Value) (h av stk : Value) (st : List Nat) (l nx : Nat) (an : List Value) (ls : List Ins) (ags : List Nat) (cl : Cl) (pi ai ni : Nat) (hst : ∀ a ∈ st, a < 2 ^ 256) (hl : l ≤ 10000) (hsl : st.length ≤ 64) (hnx : nx ≤ 1024) (m : Nat) (hp : ni < n) (hm : stf ls ni = m + 1) (hml : m ≤ 100000) (k0 w0 w : World) (H : Rn k0 w0 w r T gs n pl C h av stk st.reverse l nx an ls ags) : Calls Try.prog 47 #[.pointer (some ⟨r, 0, none⟩), .agg (ic 15 pi ai ni).toArray] w fun e w' => ∃ v, e = .returned (.int .i64 v) ∧ StP k0 w0 w' r T gs n pl C h av l an ls ags 5 (1) (0) st (exi cl ags ls 15 ai ni st (l - 5) (nx + 1)) v := by
  refine stp_of r T gs n pl C h av stk st l nx an ls ags 15 pi ai ni _ 5 5 1 0 32 (by decide) rfl (1) (0) (fun W => needs_any _ _ 5 5 1 0 rfl rfl _ W) hl (by omega) hsl hnx k0 w0 w H _ cfe_when ?_
  intro hg ht hm W hW
  obtain ⟨x, st', rfl⟩ : ∃ x st', st = x :: st' := by
    cases st with
    | nil => exact absurd ht (by decide)
    | cons x st' => exact ⟨x, st', rfl⟩
  rw [List.reverse_cons] at hW
  have hx : x < 2 ^ 256 := hst x (by simp)
  have hsr : st'.reverse.length ≤ 900 := by rw [List.length_reverse]; rw [List.length_cons] at hsl; omega
  by_cases hx0 : x = 0
  · refine Calls.mono (do_when0 r T gs n pl C h av stk st'.reverse _ _ an ls ags _ x hx hx0 k0 w0 W hW hsr) ?_
    rintro e w' ⟨rfl, stk', q⟩
    refine ⟨0, rfl, rfl, stk', ?_⟩
    show Rn _ _ _ _ _ _ _ _ _ _ _ _ _ _ (if x = 0 then nx + 1 else stf ls ni - 1) _ _ _
    rw [if_pos hx0]
    exact q
  · refine Calls.mono (do_when1 r T gs n pl C h av stk st'.reverse _ _ an ls ags _ x hx hx0 15 pi ai ni m rfl hp ‹stf ls ni = m + 1› hml k0 w0 W hW hsr) ?_
    rintro e w' ⟨rfl, stk', q⟩
    refine ⟨0, rfl, rfl, stk', ?_⟩
    show Rn _ _ _ _ _ _ _ _ _ _ _ _ _ _ (if x = 0 then nx + 1 else stf ls ni - 1) _ _ _
    rw [if_neg hx0, show stf ls ni - 1 = m by omega]
    exact q
theorem cfe_add (args : Array Value) (W : World) : (callFunc 23 args).run Try.prog W = .ok (.enter 23 args) W := by
  go_simp
theorem sp_add (r T gs n : Nat) (pl : Value) (C : List Value) (h av stk : Value) (st : List Nat) (l nx : Nat) (an : List Value) (ls : List Ins) (ags : List Nat) (cl : Cl) (pi ai ni : Nat) (hst : ∀ a ∈ st, a < 2 ^ 256) (hl : l ≤ 10000) (hsl : st.length ≤ 64) (hnx : nx ≤ 1024) (k0 w0 w : World) (H : Rn k0 w0 w r T gs n pl C h av stk st.reverse l nx an ls ags) : Calls Try.prog 47 #[.pointer (some ⟨r, 0, none⟩), .agg (ic 6 pi ai ni).toArray] w fun e w' => ∃ v, e = .returned (.int .i64 v) ∧ StP k0 w0 w' r T gs n pl C h av l an ls ags 2 (2) (1) st (exi cl ags ls 6 ai ni st (l - 2) (nx + 1)) v := by
  refine stp_of r T gs n pl C h av stk st l nx an ls ags 6 pi ai ni _ 0 2 2 1 23 (by decide) rfl (2) (1) (fun W => needs_any _ _ 0 2 2 1 rfl rfl _ W) hl (by omega) hsl hnx k0 w0 w H _ cfe_add ?_
  intro hg ht hm W hW
  obtain ⟨y, x, st', rfl⟩ : ∃ y x st', st = y :: x :: st' := by
    cases st with
    | nil => exact absurd ht (by decide)
    | cons y st' => cases st' with
      | nil => exact absurd ht (by rw [List.length_singleton]; decide)
      | cons x st' => exact ⟨y, x, st', rfl⟩
  rw [List.reverse_cons, List.reverse_cons] at hW
  have hy : y < 2 ^ 256 := hst y (by simp)
  have hx : x < 2 ^ 256 := hst x (by simp)
  have hsr : st'.reverse.length ≤ 900 := by rw [List.length_reverse]; rw [List.length_cons, List.length_cons] at hsl; omega
  obtain ⟨z, E, hb⟩ : ∃ z E, bin 6 x y = some (z, E) := ⟨_, _, rfl⟩
  obtain ⟨hz, hE⟩ : _ ∧ _ := by simpa [bin] using hb
  refine Calls.mono (do_add r T gs n pl C h av stk st'.reverse _ _ an ls ags _ x y z E hx hy hz.symm hE.symm k0 w0 W hW hsr) ?_
  rintro e w' ⟨v, rfl, q1, q2⟩
  refine ⟨v, rfl, ?_⟩
  have er : exi cl ags ls 6 ai ni (y :: x :: st') (l - 2) (nx + 1) = (match bin 6 x y with | some (z, E) => if E = 0 then .ok (z :: st', nx + 1) else .error 104 | none => .error 0) := rfl
  rw [er, hb]
  show DoP _ _ _ _ _ _ _ _ _ _ _ _ _ _ _ (if E = 0 then _ else _) _
  by_cases hE0 : E = 0
  · rw [if_pos hE0]
    obtain ⟨hv, stk', q⟩ := q1 hE0
    exact ⟨hv, stk', by rw [List.reverse_cons]; exact q⟩
  · rw [if_neg hE0]
    obtain ⟨hv, stk', q⟩ := q2 hE0
    exact ⟨hv, stk', _, _, q⟩
theorem cfe_sub (args : Array Value) (W : World) : (callFunc 24 args).run Try.prog W = .ok (.enter 24 args) W := by
  go_simp
theorem sp_sub (r T gs n : Nat) (pl : Value) (C : List Value) (h av stk : Value) (st : List Nat) (l nx : Nat) (an : List Value) (ls : List Ins) (ags : List Nat) (cl : Cl) (pi ai ni : Nat) (hst : ∀ a ∈ st, a < 2 ^ 256) (hl : l ≤ 10000) (hsl : st.length ≤ 64) (hnx : nx ≤ 1024) (k0 w0 w : World) (H : Rn k0 w0 w r T gs n pl C h av stk st.reverse l nx an ls ags) : Calls Try.prog 47 #[.pointer (some ⟨r, 0, none⟩), .agg (ic 7 pi ai ni).toArray] w fun e w' => ∃ v, e = .returned (.int .i64 v) ∧ StP k0 w0 w' r T gs n pl C h av l an ls ags 2 (2) (1) st (exi cl ags ls 7 ai ni st (l - 2) (nx + 1)) v := by
  refine stp_of r T gs n pl C h av stk st l nx an ls ags 7 pi ai ni _ 0 2 2 1 24 (by decide) rfl (2) (1) (fun W => needs_any _ _ 0 2 2 1 rfl rfl _ W) hl (by omega) hsl hnx k0 w0 w H _ cfe_sub ?_
  intro hg ht hm W hW
  obtain ⟨y, x, st', rfl⟩ : ∃ y x st', st = y :: x :: st' := by
    cases st with
    | nil => exact absurd ht (by decide)
    | cons y st' => cases st' with
      | nil => exact absurd ht (by rw [List.length_singleton]; decide)
      | cons x st' => exact ⟨y, x, st', rfl⟩
  rw [List.reverse_cons, List.reverse_cons] at hW
  have hy : y < 2 ^ 256 := hst y (by simp)
  have hx : x < 2 ^ 256 := hst x (by simp)
  have hsr : st'.reverse.length ≤ 900 := by rw [List.length_reverse]; rw [List.length_cons, List.length_cons] at hsl; omega
  obtain ⟨z, E, hb⟩ : ∃ z E, bin 7 x y = some (z, E) := ⟨_, _, rfl⟩
  obtain ⟨hz, hE⟩ : _ ∧ _ := by simpa [bin] using hb
  refine Calls.mono (do_sub r T gs n pl C h av stk st'.reverse _ _ an ls ags _ x y z E hx hy hz.symm hE.symm k0 w0 W hW hsr) ?_
  rintro e w' ⟨v, rfl, q1, q2⟩
  refine ⟨v, rfl, ?_⟩
  have er : exi cl ags ls 7 ai ni (y :: x :: st') (l - 2) (nx + 1) = (match bin 7 x y with | some (z, E) => if E = 0 then .ok (z :: st', nx + 1) else .error 104 | none => .error 0) := rfl
  rw [er, hb]
  show DoP _ _ _ _ _ _ _ _ _ _ _ _ _ _ _ (if E = 0 then _ else _) _
  by_cases hE0 : E = 0
  · rw [if_pos hE0]
    obtain ⟨hv, stk', q⟩ := q1 hE0
    exact ⟨hv, stk', by rw [List.reverse_cons]; exact q⟩
  · rw [if_neg hE0]
    obtain ⟨hv, stk', q⟩ := q2 hE0
    exact ⟨hv, stk', _, _, q⟩
theorem cfe_mul (args : Array Value) (W : World) : (callFunc 25 args).run Try.prog W = .ok (.enter 25 args) W := by
  go_simp
theorem sp_mul (r T gs n : Nat) (pl : Value) (C : List Value) (h av stk : Value) (st : List Nat) (l nx : Nat) (an : List Value) (ls : List Ins) (ags : List Nat) (cl : Cl) (pi ai ni : Nat) (hst : ∀ a ∈ st, a < 2 ^ 256) (hl : l ≤ 10000) (hsl : st.length ≤ 64) (hnx : nx ≤ 1024) (k0 w0 w : World) (H : Rn k0 w0 w r T gs n pl C h av stk st.reverse l nx an ls ags) : Calls Try.prog 47 #[.pointer (some ⟨r, 0, none⟩), .agg (ic 8 pi ai ni).toArray] w fun e w' => ∃ v, e = .returned (.int .i64 v) ∧ StP k0 w0 w' r T gs n pl C h av l an ls ags 5 (2) (1) st (exi cl ags ls 8 ai ni st (l - 5) (nx + 1)) v := by
  refine stp_of r T gs n pl C h av stk st l nx an ls ags 8 pi ai ni _ 0 5 2 1 25 (by decide) rfl (2) (1) (fun W => needs_any _ _ 0 5 2 1 rfl rfl _ W) hl (by omega) hsl hnx k0 w0 w H _ cfe_mul ?_
  intro hg ht hm W hW
  obtain ⟨y, x, st', rfl⟩ : ∃ y x st', st = y :: x :: st' := by
    cases st with
    | nil => exact absurd ht (by decide)
    | cons y st' => cases st' with
      | nil => exact absurd ht (by rw [List.length_singleton]; decide)
      | cons x st' => exact ⟨y, x, st', rfl⟩
  rw [List.reverse_cons, List.reverse_cons] at hW
  have hy : y < 2 ^ 256 := hst y (by simp)
  have hx : x < 2 ^ 256 := hst x (by simp)
  have hsr : st'.reverse.length ≤ 900 := by rw [List.length_reverse]; rw [List.length_cons, List.length_cons] at hsl; omega
  obtain ⟨z, E, hb⟩ : ∃ z E, bin 8 x y = some (z, E) := ⟨_, _, rfl⟩
  obtain ⟨hz, hE⟩ : _ ∧ _ := by simpa [bin] using hb
  refine Calls.mono (do_mul r T gs n pl C h av stk st'.reverse _ _ an ls ags _ x y z E hx hy hz.symm hE.symm k0 w0 W hW hsr) ?_
  rintro e w' ⟨v, rfl, q1, q2⟩
  refine ⟨v, rfl, ?_⟩
  have er : exi cl ags ls 8 ai ni (y :: x :: st') (l - 5) (nx + 1) = (match bin 8 x y with | some (z, E) => if E = 0 then .ok (z :: st', nx + 1) else .error 104 | none => .error 0) := rfl
  rw [er, hb]
  show DoP _ _ _ _ _ _ _ _ _ _ _ _ _ _ _ (if E = 0 then _ else _) _
  by_cases hE0 : E = 0
  · rw [if_pos hE0]
    obtain ⟨hv, stk', q⟩ := q1 hE0
    exact ⟨hv, stk', by rw [List.reverse_cons]; exact q⟩
  · rw [if_neg hE0]
    obtain ⟨hv, stk', q⟩ := q2 hE0
    exact ⟨hv, stk', _, _, q⟩
theorem cfe_div (args : Array Value) (W : World) : (callFunc 26 args).run Try.prog W = .ok (.enter 26 args) W := by
  go_simp
theorem sp_div (r T gs n : Nat) (pl : Value) (C : List Value) (h av stk : Value) (st : List Nat) (l nx : Nat) (an : List Value) (ls : List Ins) (ags : List Nat) (cl : Cl) (pi ai ni : Nat) (hst : ∀ a ∈ st, a < 2 ^ 256) (hl : l ≤ 10000) (hsl : st.length ≤ 64) (hnx : nx ≤ 1024) (k0 w0 w : World) (H : Rn k0 w0 w r T gs n pl C h av stk st.reverse l nx an ls ags) : Calls Try.prog 47 #[.pointer (some ⟨r, 0, none⟩), .agg (ic 9 pi ai ni).toArray] w fun e w' => ∃ v, e = .returned (.int .i64 v) ∧ StP k0 w0 w' r T gs n pl C h av l an ls ags 10 (2) (1) st (exi cl ags ls 9 ai ni st (l - 10) (nx + 1)) v := by
  refine stp_of r T gs n pl C h av stk st l nx an ls ags 9 pi ai ni _ 0 10 2 1 26 (by decide) rfl (2) (1) (fun W => needs_any _ _ 0 10 2 1 rfl rfl _ W) hl (by omega) hsl hnx k0 w0 w H _ cfe_div ?_
  intro hg ht hm W hW
  obtain ⟨y, x, st', rfl⟩ : ∃ y x st', st = y :: x :: st' := by
    cases st with
    | nil => exact absurd ht (by decide)
    | cons y st' => cases st' with
      | nil => exact absurd ht (by rw [List.length_singleton]; decide)
      | cons x st' => exact ⟨y, x, st', rfl⟩
  rw [List.reverse_cons, List.reverse_cons] at hW
  have hy : y < 2 ^ 256 := hst y (by simp)
  have hx : x < 2 ^ 256 := hst x (by simp)
  have hsr : st'.reverse.length ≤ 900 := by rw [List.length_reverse]; rw [List.length_cons, List.length_cons] at hsl; omega
  obtain ⟨z, E, hb⟩ : ∃ z E, bin 9 x y = some (z, E) := ⟨_, _, rfl⟩
  obtain ⟨hz, hE⟩ : _ ∧ _ := by simpa [bin] using hb
  refine Calls.mono (do_div r T gs n pl C h av stk st'.reverse _ _ an ls ags _ x y z E hx hy hz.symm hE.symm k0 w0 W hW hsr) ?_
  rintro e w' ⟨v, rfl, q1, q2⟩
  refine ⟨v, rfl, ?_⟩
  have er : exi cl ags ls 9 ai ni (y :: x :: st') (l - 10) (nx + 1) = (match bin 9 x y with | some (z, E) => if E = 0 then .ok (z :: st', nx + 1) else .error 104 | none => .error 0) := rfl
  rw [er, hb]
  show DoP _ _ _ _ _ _ _ _ _ _ _ _ _ _ _ (if E = 0 then _ else _) _
  by_cases hE0 : E = 0
  · rw [if_pos hE0]
    obtain ⟨hv, stk', q⟩ := q1 hE0
    exact ⟨hv, stk', by rw [List.reverse_cons]; exact q⟩
  · rw [if_neg hE0]
    obtain ⟨hv, stk', q⟩ := q2 hE0
    exact ⟨hv, stk', _, _, q⟩
theorem cfe_mod (args : Array Value) (W : World) : (callFunc 27 args).run Try.prog W = .ok (.enter 27 args) W := by
  go_simp
theorem sp_mod (r T gs n : Nat) (pl : Value) (C : List Value) (h av stk : Value) (st : List Nat) (l nx : Nat) (an : List Value) (ls : List Ins) (ags : List Nat) (cl : Cl) (pi ai ni : Nat) (hst : ∀ a ∈ st, a < 2 ^ 256) (hl : l ≤ 10000) (hsl : st.length ≤ 64) (hnx : nx ≤ 1024) (k0 w0 w : World) (H : Rn k0 w0 w r T gs n pl C h av stk st.reverse l nx an ls ags) : Calls Try.prog 47 #[.pointer (some ⟨r, 0, none⟩), .agg (ic 10 pi ai ni).toArray] w fun e w' => ∃ v, e = .returned (.int .i64 v) ∧ StP k0 w0 w' r T gs n pl C h av l an ls ags 10 (2) (1) st (exi cl ags ls 10 ai ni st (l - 10) (nx + 1)) v := by
  refine stp_of r T gs n pl C h av stk st l nx an ls ags 10 pi ai ni _ 0 10 2 1 27 (by decide) rfl (2) (1) (fun W => needs_any _ _ 0 10 2 1 rfl rfl _ W) hl (by omega) hsl hnx k0 w0 w H _ cfe_mod ?_
  intro hg ht hm W hW
  obtain ⟨y, x, st', rfl⟩ : ∃ y x st', st = y :: x :: st' := by
    cases st with
    | nil => exact absurd ht (by decide)
    | cons y st' => cases st' with
      | nil => exact absurd ht (by rw [List.length_singleton]; decide)
      | cons x st' => exact ⟨y, x, st', rfl⟩
  rw [List.reverse_cons, List.reverse_cons] at hW
  have hy : y < 2 ^ 256 := hst y (by simp)
  have hx : x < 2 ^ 256 := hst x (by simp)
  have hsr : st'.reverse.length ≤ 900 := by rw [List.length_reverse]; rw [List.length_cons, List.length_cons] at hsl; omega
  obtain ⟨z, E, hb⟩ : ∃ z E, bin 10 x y = some (z, E) := ⟨_, _, rfl⟩
  obtain ⟨hz, hE⟩ : _ ∧ _ := by simpa [bin] using hb
  refine Calls.mono (do_mod r T gs n pl C h av stk st'.reverse _ _ an ls ags _ x y z E hx hy hz.symm hE.symm k0 w0 W hW hsr) ?_
  rintro e w' ⟨v, rfl, q1, q2⟩
  refine ⟨v, rfl, ?_⟩
  have er : exi cl ags ls 10 ai ni (y :: x :: st') (l - 10) (nx + 1) = (match bin 10 x y with | some (z, E) => if E = 0 then .ok (z :: st', nx + 1) else .error 104 | none => .error 0) := rfl
  rw [er, hb]
  show DoP _ _ _ _ _ _ _ _ _ _ _ _ _ _ _ (if E = 0 then _ else _) _
  by_cases hE0 : E = 0
  · rw [if_pos hE0]
    obtain ⟨hv, stk', q⟩ := q1 hE0
    exact ⟨hv, stk', by rw [List.reverse_cons]; exact q⟩
  · rw [if_neg hE0]
    obtain ⟨hv, stk', q⟩ := q2 hE0
    exact ⟨hv, stk', _, _, q⟩
theorem cfe_less (args : Array Value) (W : World) : (callFunc 28 args).run Try.prog W = .ok (.enter 28 args) W := by
  go_simp
theorem sp_less (r T gs n : Nat) (pl : Value) (C : List Value) (h av stk : Value) (st : List Nat) (l nx : Nat) (an : List Value) (ls : List Ins) (ags : List Nat) (cl : Cl) (pi ai ni : Nat) (hst : ∀ a ∈ st, a < 2 ^ 256) (hl : l ≤ 10000) (hsl : st.length ≤ 64) (hnx : nx ≤ 1024) (k0 w0 w : World) (H : Rn k0 w0 w r T gs n pl C h av stk st.reverse l nx an ls ags) : Calls Try.prog 47 #[.pointer (some ⟨r, 0, none⟩), .agg (ic 11 pi ai ni).toArray] w fun e w' => ∃ v, e = .returned (.int .i64 v) ∧ StP k0 w0 w' r T gs n pl C h av l an ls ags 2 (2) (1) st (exi cl ags ls 11 ai ni st (l - 2) (nx + 1)) v := by
  refine stp_of r T gs n pl C h av stk st l nx an ls ags 11 pi ai ni _ 0 2 2 1 28 (by decide) rfl (2) (1) (fun W => needs_any _ _ 0 2 2 1 rfl rfl _ W) hl (by omega) hsl hnx k0 w0 w H _ cfe_less ?_
  intro hg ht hm W hW
  obtain ⟨y, x, st', rfl⟩ : ∃ y x st', st = y :: x :: st' := by
    cases st with
    | nil => exact absurd ht (by decide)
    | cons y st' => cases st' with
      | nil => exact absurd ht (by rw [List.length_singleton]; decide)
      | cons x st' => exact ⟨y, x, st', rfl⟩
  rw [List.reverse_cons, List.reverse_cons] at hW
  have hy : y < 2 ^ 256 := hst y (by simp)
  have hx : x < 2 ^ 256 := hst x (by simp)
  have hsr : st'.reverse.length ≤ 900 := by rw [List.length_reverse]; rw [List.length_cons, List.length_cons] at hsl; omega
  obtain ⟨z, E, hb⟩ : ∃ z E, bin 11 x y = some (z, E) := ⟨_, _, rfl⟩
  obtain ⟨hz, hE⟩ : _ ∧ _ := by simpa [bin] using hb
  refine Calls.mono (do_less r T gs n pl C h av stk st'.reverse _ _ an ls ags _ x y z E hx hy hz.symm hE.symm k0 w0 W hW hsr) ?_
  rintro e w' ⟨v, rfl, q1, q2⟩
  refine ⟨v, rfl, ?_⟩
  have er : exi cl ags ls 11 ai ni (y :: x :: st') (l - 2) (nx + 1) = (match bin 11 x y with | some (z, E) => if E = 0 then .ok (z :: st', nx + 1) else .error 104 | none => .error 0) := rfl
  rw [er, hb]
  show DoP _ _ _ _ _ _ _ _ _ _ _ _ _ _ _ (if E = 0 then _ else _) _
  by_cases hE0 : E = 0
  · rw [if_pos hE0]
    obtain ⟨hv, stk', q⟩ := q1 hE0
    exact ⟨hv, stk', by rw [List.reverse_cons]; exact q⟩
  · rw [if_neg hE0]
    obtain ⟨hv, stk', q⟩ := q2 hE0
    exact ⟨hv, stk', _, _, q⟩

end Go.Proofs.Ytabcglakdlkdcaa
