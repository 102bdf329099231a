/-
  the do-functions of two numbers.
-/
import Derived.Test.YtclbiophgnkggaaGreatDoorMkY
namespace Go.Proofs.YtclbiophgnkggaaGreatDoor
open Go Go.RowKit
open Sha
open Wd
set_option maxRecDepth 100000 in
set_option maxHeartbeats 4000000 in
theorem leaveRes (r T gs n : Nat) (pl : Value) (C : List Value) (h av stk : Value) (ss : List Nat) (l nx : Nat) (an : List Value) (ls : List Ins) (ags : List Nat) (z : Nat) (E : Int) (k0 w0 w : World) (H : Rn k0 w0 w r T gs n pl C h av stk ss l nx an ls ags) (hss : ss.length ≤ 1000) : Calls Tryz.prog 67 #[.pointer (some ⟨r, 0, none⟩), .agg (wq z).toArray, .int .i64 E] w fun e w' => ∃ v, e = .returned (.int .i64 v) ∧ ((E = 0 → v = 0 ∧ ∃ stk', Rn k0 w0 w' r T gs n pl C h av stk' (ss ++ [z]) l nx an ls ags) ∧ (E ≠ 0 → v = 104 ∧ ∃ stk', Rn k0 w0 w' r T gs n pl C h av stk' ss l nx an ls ags)) := by
  by_cases hE : E = 0
  · subst hE
    refine Calls.mono (leaveResult_ok r T gs n pl C h av stk ss l nx an ls ags z k0 w0 w H hss) ?_
    rintro e w' ⟨rfl, q⟩
    exact ⟨0, rfl, fun _ => ⟨rfl, q⟩, fun h => absurd rfl h⟩
  · refine Calls.mono (leaveResult_no r T gs n pl C h av stk ss l nx an ls ags z E (by simpa using hE) k0 w0 w H) ?_
    rintro e w' ⟨rfl, q⟩
    exact ⟨104, rfl, fun h => absurd h hE, fun _ => ⟨rfl, stk, q⟩⟩
set_option maxRecDepth 100000 in
set_option maxHeartbeats 4000000 in
theorem do_add (r T gs n : Nat) (pl : Value) (C : List Value) (h av stk : Value) (ss : List Nat) (l nx : Nat) (an : List Value) (ls : List Ins) (ags : List Nat) (I : List Value) (x y z : Nat) (E : Int) (hx : x < 2 ^ 256) (hy : y < 2 ^ 256) (hz : z = addR x y) (hE : E = addE x y) (k0 w0 w : World) (H : Rn k0 w0 w r T gs n pl C h av stk (ss ++ [x] ++ [y]) l nx an ls ags) (hss : ss.length ≤ 900) : Calls Tryz.prog 35 #[.pointer (some ⟨r, 0, none⟩), .agg I.toArray] w fun e w' => ∃ v, e = .returned (.int .i64 v) ∧ ((E = 0 → v = 0 ∧ ∃ stk', Rn k0 w0 w' r T gs n pl C h av stk' (ss ++ [z]) l nx an ls ags) ∧ (E ≠ 0 → v = 104 ∧ ∃ stk', Rn k0 w0 w' r T gs n pl C h av stk' ss l nx an ls ags)) := by
  obtain ⟨LX, hLX⟩ : ∃ L, L = wq x := ⟨_, rfl⟩
  obtain ⟨LY, hLY⟩ : ∃ L, L = wq y := ⟨_, rfl⟩
  obtain ⟨LZ, hLZ⟩ : ∃ L, L = wq z := ⟨_, rfl⟩
  have HTT : Hid (∀ W, Rn k0 w0 W r T gs n pl C h av stk (ss ++ [x] ++ [y]) l nx an ls ags → Calls Tryz.prog 69 #[.pointer (some ⟨r, 0, none⟩)] W fun e w' => e = .returned (.tuple #[.agg LX.toArray, .agg LY.toArray]) ∧ ∃ stk', Rn k0 w0 w' r T gs n pl C h av stk' ss l nx an ls ags) := fun W hW => by
    rw [hLX, hLY]
    refine Calls.mono (takeTwo_any r T gs n pl C h av stk ss l nx an ls ags x y k0 w0 W hW (by omega)) ?_
    rintro e w' ⟨q1, q2⟩
    obtain ⟨_, _, stk2, q⟩ := q2
    exact ⟨q1, stk2, q⟩
  have HOP : Hid (∀ W, Calls Tryz.prog 68 #[.agg LX.toArray, .agg LY.toArray] W fun e w' => e = .returned (.tuple #[.agg LZ.toArray, .int .i64 E]) ∧ Below W.heap.size W w') := fun W => by
    rw [hLX, hLY, hLZ, hz, hE]
    exact add_any x y hx hy W
  have HLR : Hid (∀ stk' W, Rn k0 w0 W r T gs n pl C h av stk' ss l nx an ls ags → Calls Tryz.prog 67 #[.pointer (some ⟨r, 0, none⟩), .agg LZ.toArray, .int .i64 E] W fun e w' => ∃ v, e = .returned (.int .i64 v) ∧ ((E = 0 → v = 0 ∧ ∃ stk', Rn k0 w0 w' r T gs n pl C h av stk' (ss ++ [z]) l nx an ls ags) ∧ (E ≠ 0 → v = 104 ∧ ∃ stk', Rn k0 w0 w' r T gs n pl C h av stk' ss l nx an ls ags))) := fun stk' W hW => by rw [hLZ]; exact leaveRes r T gs n pl C h av stk' ss l nx an ls ags z E k0 w0 W hW (by omega)
  have HH : Hid (Rn k0 w0 w r T gs n pl C h av stk (ss ++ [x] ++ [y]) l nx an ls ags) := H
  clear H hss hLX hLY hLZ hx hy hz hE
  go_enter Tryz.func35, Tryz.ntmps35
  go_wp2_with (first
    | (refine wpList_boxG 53 rfl (.tmp 1) rfl I rfl ?_; intro X1 q1 q2 q3; have HR : Hid (Rn k0 w0 X1 r T gs n pl C h av stk (ss ++ [x] ++ [y]) l nx an ls ags) := HH.out.keep q2; clear q1 q2 q3; simp only [Act.put, List.setIfInBounds_toArray, List.set_cons_zero, List.set_cons_succ])
    | (go_at_call 69; refine Calls.mono (HTT.out X1 HR.out) ?_; rintro e X2 ⟨rfl, stk2, q⟩; have HR2 : Hid (Rn k0 w0 X2 r T gs n pl C h av stk2 ss l nx an ls ags) := q; clear q)
    | (go_at_call 68; refine Calls.mono (HOP.out X2) ?_; rintro e X3 ⟨rfl, q⟩; have HR3 : Hid (Rn k0 w0 X3 r T gs n pl C h av stk2 ss l nx an ls ags) := HR2.out.keep q; clear q)
    | (go_at_call 67; refine Calls.mono (HLR.out stk2 X3 HR3.out) ?_; rintro e X9 ⟨v, rfl, q⟩; have HQ : Hid ((E = 0 → v = 0 ∧ ∃ stk', Rn k0 w0 X9 r T gs n pl C h av stk' (ss ++ [z]) l nx an ls ags) ∧ (E ≠ 0 → v = 104 ∧ ∃ stk', Rn k0 w0 X9 r T gs n pl C h av stk' ss l nx an ls ags)) := q; clear q))
  go_ret
  exact ⟨_, rfl, HQ.out⟩
set_option maxRecDepth 100000 in
set_option maxHeartbeats 4000000 in
theorem do_sub (r T gs n : Nat) (pl : Value) (C : List Value) (h av stk : Value) (ss : List Nat) (l nx : Nat) (an : List Value) (ls : List Ins) (ags : List Nat) (I : List Value) (x y z : Nat) (E : Int) (hx : x < 2 ^ 256) (hy : y < 2 ^ 256) (hz : z = subR x y) (hE : E = subE x y) (k0 w0 w : World) (H : Rn k0 w0 w r T gs n pl C h av stk (ss ++ [x] ++ [y]) l nx an ls ags) (hss : ss.length ≤ 900) : Calls Tryz.prog 36 #[.pointer (some ⟨r, 0, none⟩), .agg I.toArray] w fun e w' => ∃ v, e = .returned (.int .i64 v) ∧ ((E = 0 → v = 0 ∧ ∃ stk', Rn k0 w0 w' r T gs n pl C h av stk' (ss ++ [z]) l nx an ls ags) ∧ (E ≠ 0 → v = 104 ∧ ∃ stk', Rn k0 w0 w' r T gs n pl C h av stk' ss l nx an ls ags)) := by
  obtain ⟨LX, hLX⟩ : ∃ L, L = wq x := ⟨_, rfl⟩
  obtain ⟨LY, hLY⟩ : ∃ L, L = wq y := ⟨_, rfl⟩
  obtain ⟨LZ, hLZ⟩ : ∃ L, L = wq z := ⟨_, rfl⟩
  have HTT : Hid (∀ W, Rn k0 w0 W r T gs n pl C h av stk (ss ++ [x] ++ [y]) l nx an ls ags → Calls Tryz.prog 69 #[.pointer (some ⟨r, 0, none⟩)] W fun e w' => e = .returned (.tuple #[.agg LX.toArray, .agg LY.toArray]) ∧ ∃ stk', Rn k0 w0 w' r T gs n pl C h av stk' ss l nx an ls ags) := fun W hW => by
    rw [hLX, hLY]
    refine Calls.mono (takeTwo_any r T gs n pl C h av stk ss l nx an ls ags x y k0 w0 W hW (by omega)) ?_
    rintro e w' ⟨q1, q2⟩
    obtain ⟨_, _, stk2, q⟩ := q2
    exact ⟨q1, stk2, q⟩
  have HOP : Hid (∀ W, Calls Tryz.prog 70 #[.agg LX.toArray, .agg LY.toArray] W fun e w' => e = .returned (.tuple #[.agg LZ.toArray, .int .i64 E]) ∧ Below W.heap.size W w') := fun W => by
    rw [hLX, hLY, hLZ, hz, hE]
    exact sub_any x y hx hy W
  have HLR : Hid (∀ stk' W, Rn k0 w0 W r T gs n pl C h av stk' ss l nx an ls ags → Calls Tryz.prog 67 #[.pointer (some ⟨r, 0, none⟩), .agg LZ.toArray, .int .i64 E] W fun e w' => ∃ v, e = .returned (.int .i64 v) ∧ ((E = 0 → v = 0 ∧ ∃ stk', Rn k0 w0 w' r T gs n pl C h av stk' (ss ++ [z]) l nx an ls ags) ∧ (E ≠ 0 → v = 104 ∧ ∃ stk', Rn k0 w0 w' r T gs n pl C h av stk' ss l nx an ls ags))) := fun stk' W hW => by rw [hLZ]; exact leaveRes r T gs n pl C h av stk' ss l nx an ls ags z E k0 w0 W hW (by omega)
  have HH : Hid (Rn k0 w0 w r T gs n pl C h av stk (ss ++ [x] ++ [y]) l nx an ls ags) := H
  clear H hss hLX hLY hLZ hx hy hz hE
  go_enter Tryz.func36, Tryz.ntmps36
  go_wp2_with (first
    | (refine wpList_boxG 53 rfl (.tmp 1) rfl I rfl ?_; intro X1 q1 q2 q3; have HR : Hid (Rn k0 w0 X1 r T gs n pl C h av stk (ss ++ [x] ++ [y]) l nx an ls ags) := HH.out.keep q2; clear q1 q2 q3; simp only [Act.put, List.setIfInBounds_toArray, List.set_cons_zero, List.set_cons_succ])
    | (go_at_call 69; refine Calls.mono (HTT.out X1 HR.out) ?_; rintro e X2 ⟨rfl, stk2, q⟩; have HR2 : Hid (Rn k0 w0 X2 r T gs n pl C h av stk2 ss l nx an ls ags) := q; clear q)
    | (go_at_call 70; refine Calls.mono (HOP.out X2) ?_; rintro e X3 ⟨rfl, q⟩; have HR3 : Hid (Rn k0 w0 X3 r T gs n pl C h av stk2 ss l nx an ls ags) := HR2.out.keep q; clear q)
    | (go_at_call 67; refine Calls.mono (HLR.out stk2 X3 HR3.out) ?_; rintro e X9 ⟨v, rfl, q⟩; have HQ : Hid ((E = 0 → v = 0 ∧ ∃ stk', Rn k0 w0 X9 r T gs n pl C h av stk' (ss ++ [z]) l nx an ls ags) ∧ (E ≠ 0 → v = 104 ∧ ∃ stk', Rn k0 w0 X9 r T gs n pl C h av stk' ss l nx an ls ags)) := q; clear q))
  go_ret
  exact ⟨_, rfl, HQ.out⟩
set_option maxRecDepth 100000 in
set_option maxHeartbeats 4000000 in
theorem do_mul (r T gs n : Nat) (pl : Value) (C : List Value) (h av stk : Value) (ss : List Nat) (l nx : Nat) (an : List Value) (ls : List Ins) (ags : List Nat) (I : List Value) (x y z : Nat) (E : Int) (hx : x < 2 ^ 256) (hy : y < 2 ^ 256) (hz : z = mulR x y) (hE : E = mulE x y) (k0 w0 w : World) (H : Rn k0 w0 w r T gs n pl C h av stk (ss ++ [x] ++ [y]) l nx an ls ags) (hss : ss.length ≤ 900) : Calls Tryz.prog 37 #[.pointer (some ⟨r, 0, none⟩), .agg I.toArray] w fun e w' => ∃ v, e = .returned (.int .i64 v) ∧ ((E = 0 → v = 0 ∧ ∃ stk', Rn k0 w0 w' r T gs n pl C h av stk' (ss ++ [z]) l nx an ls ags) ∧ (E ≠ 0 → v = 104 ∧ ∃ stk', Rn k0 w0 w' r T gs n pl C h av stk' ss l nx an ls ags)) := by
  obtain ⟨LX, hLX⟩ : ∃ L, L = wq x := ⟨_, rfl⟩
  obtain ⟨LY, hLY⟩ : ∃ L, L = wq y := ⟨_, rfl⟩
  obtain ⟨LZ, hLZ⟩ : ∃ L, L = wq z := ⟨_, rfl⟩
  have HTT : Hid (∀ W, Rn k0 w0 W r T gs n pl C h av stk (ss ++ [x] ++ [y]) l nx an ls ags → Calls Tryz.prog 69 #[.pointer (some ⟨r, 0, none⟩)] W fun e w' => e = .returned (.tuple #[.agg LX.toArray, .agg LY.toArray]) ∧ ∃ stk', Rn k0 w0 w' r T gs n pl C h av stk' ss l nx an ls ags) := fun W hW => by
    rw [hLX, hLY]
    refine Calls.mono (takeTwo_any r T gs n pl C h av stk ss l nx an ls ags x y k0 w0 W hW (by omega)) ?_
    rintro e w' ⟨q1, q2⟩
    obtain ⟨_, _, stk2, q⟩ := q2
    exact ⟨q1, stk2, q⟩
  have HOP : Hid (∀ W, Calls Tryz.prog 71 #[.agg LX.toArray, .agg LY.toArray] W fun e w' => e = .returned (.tuple #[.agg LZ.toArray, .int .i64 E]) ∧ Below W.heap.size W w') := fun W => by
    rw [hLX, hLY, hLZ, hz, hE]
    exact mul_any x y hx hy W
  have HLR : Hid (∀ stk' W, Rn k0 w0 W r T gs n pl C h av stk' ss l nx an ls ags → Calls Tryz.prog 67 #[.pointer (some ⟨r, 0, none⟩), .agg LZ.toArray, .int .i64 E] W fun e w' => ∃ v, e = .returned (.int .i64 v) ∧ ((E = 0 → v = 0 ∧ ∃ stk', Rn k0 w0 w' r T gs n pl C h av stk' (ss ++ [z]) l nx an ls ags) ∧ (E ≠ 0 → v = 104 ∧ ∃ stk', Rn k0 w0 w' r T gs n pl C h av stk' ss l nx an ls ags))) := fun stk' W hW => by rw [hLZ]; exact leaveRes r T gs n pl C h av stk' ss l nx an ls ags z E k0 w0 W hW (by omega)
  have HH : Hid (Rn k0 w0 w r T gs n pl C h av stk (ss ++ [x] ++ [y]) l nx an ls ags) := H
  clear H hss hLX hLY hLZ hx hy hz hE
  go_enter Tryz.func37, Tryz.ntmps37
  go_wp2_with (first
    | (refine wpList_boxG 53 rfl (.tmp 1) rfl I rfl ?_; intro X1 q1 q2 q3; have HR : Hid (Rn k0 w0 X1 r T gs n pl C h av stk (ss ++ [x] ++ [y]) l nx an ls ags) := HH.out.keep q2; clear q1 q2 q3; simp only [Act.put, List.setIfInBounds_toArray, List.set_cons_zero, List.set_cons_succ])
    | (go_at_call 69; refine Calls.mono (HTT.out X1 HR.out) ?_; rintro e X2 ⟨rfl, stk2, q⟩; have HR2 : Hid (Rn k0 w0 X2 r T gs n pl C h av stk2 ss l nx an ls ags) := q; clear q)
    | (go_at_call 71; refine Calls.mono (HOP.out X2) ?_; rintro e X3 ⟨rfl, q⟩; have HR3 : Hid (Rn k0 w0 X3 r T gs n pl C h av stk2 ss l nx an ls ags) := HR2.out.keep q; clear q)
    | (go_at_call 67; refine Calls.mono (HLR.out stk2 X3 HR3.out) ?_; rintro e X9 ⟨v, rfl, q⟩; have HQ : Hid ((E = 0 → v = 0 ∧ ∃ stk', Rn k0 w0 X9 r T gs n pl C h av stk' (ss ++ [z]) l nx an ls ags) ∧ (E ≠ 0 → v = 104 ∧ ∃ stk', Rn k0 w0 X9 r T gs n pl C h av stk' ss l nx an ls ags)) := q; clear q))
  go_ret
  exact ⟨_, rfl, HQ.out⟩

end Go.Proofs.YtclbiophgnkggaaGreatDoor
