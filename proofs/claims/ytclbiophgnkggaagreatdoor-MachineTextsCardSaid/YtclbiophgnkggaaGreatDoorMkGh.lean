/-
  causewayref10's truth, Count, nought, and its digits and number with cells behind a letter.
-/
import Derived.Test.YtclbiophgnkggaaGreatDoorMkDa
import Derived.Test.YtclbiophgnkggaaGreatDoorMkGg
import Derived.Test.YtclbiophgnkggaaGreatDoorWKn

namespace Go.Proofs.YtclbiophgnkggaaGreatDoor
open Go Go.RowKit
open Sha
open Wd
set_option maxRecDepth 100000 in
set_option maxHeartbeats 4000000 in
theorem of_0 (w : World) : Calls Tryz.prog 98 #[.int .u64 0] w fun e w' => e = .returned (.agg (wq 0).toArray) ∧ Below w.heap.size w w' := by
  obtain ⟨L, hL⟩ : ∃ L, L = wq 0 := ⟨_, rfl⟩
  have HLC : Hid (L = [.int .u64 0, .int .u64 0, .int .u64 0, .int .u64 0]) := by rw [hL, wq_cells, show lim 0 0 = 0 by decide +kernel, show lim 0 1 = 0 by decide +kernel, show lim 0 2 = 0 by decide +kernel, show lim 0 3 = 0 by decide +kernel]; exact rfl
  have HI : Hid ((Tryz.prog.info? 37).map (·.size) = some L.length ∧ L.length = zW.length ∧ L.toArray.all (·.oneCell') = true) := by rw [hL]; exact ⟨info_Wq _, wq_len _, wq_one _⟩
  rw [← hL]
  clear hL
  go_enter Tryz.func98, Tryz.ntmps98
  go_wp2_with (first
    | (refine wpList_allocW rfl rfl ?_; intro X1 q1 q2 q3; have R1 : Hid (Row X1 w.heap.size zW 37) := q1; have B1 : Hid (Below w.heap.size w X1) := q2; clear q1 q2 q3; simp only [Act.put, List.setIfInBounds_toArray, List.set_cons_zero, List.set_cons_succ])
    | (refine wpList_storeL rfl 37 (.tmp 2) (.tmp 4) rfl w.heap.size L zW 37 rfl (by rw [HLC.out]; rfl) R1.out HI.out.2.1 HI.out.1 HI.out.2.2 ?_; intro X2 q1 q2; have E2 : Hid (X2 = _) := q1; have R2 : Hid (Row X2 w.heap.size L 37) := q2; clear q1 q2; simp only [Act.put]))
  exact bodyPost_ret (results_row Tryz.results98 _ _ w.heap.size 37 L rfl R2.out Tryz.underlying37 (by kernel_rfl) HI.out.2.1) rfl ⟨rfl, by rw [E2.out]; exact below_setCells B1.out (Nat.le_refl _) _⟩
set_option maxRecDepth 100000 in
set_option maxHeartbeats 4000000 in
theorem count_0 (r T gs n : Nat) (pl : Value) (C : List Value) (h av stk : Value) (ss : List Nat) (l nx : Nat) (an : List Value) (ls : List Ins) (ags : List Nat) (k0 w0 w : World) (H : Rn k0 w0 w r T gs n pl C h av stk ss l nx an ls ags) (hss : ss.length ≤ 1000) : Calls Tryz.prog 77 #[.pointer (some ⟨r, 0, none⟩), .int .i64 0] w fun e w' => e = .returned (.int .i64 0) ∧ ∃ stk', Rn k0 w0 w' r T gs n pl C h av stk' (ss ++ [0]) l nx an ls ags := by
  obtain ⟨L, hL⟩ : ∃ L, L = wq 0 := ⟨_, rfl⟩
  have HOF : Hid (∀ W, Calls Tryz.prog 98 #[.int .u64 0] W fun e w' => e = .returned (.agg L.toArray) ∧ Below W.heap.size W w') := fun W => by rw [hL]; exact of_0 W
  have HLV : Hid (∀ W, Rn k0 w0 W r T gs n pl C h av stk ss l nx an ls ags → Calls Tryz.prog 66 #[.pointer (some ⟨r, 0, none⟩), .agg L.toArray] W fun e w' => e = .returned (.int .i64 0) ∧ ∃ stk', Rn k0 w0 w' r T gs n pl C h av stk' (ss ++ [0]) l nx an ls ags) := fun W hW => by rw [hL]; exact leave_any r T gs n pl C h av stk ss l nx an ls ags 0 k0 w0 W hW hss
  have HH : Hid (Rn k0 w0 w r T gs n pl C h av stk ss l nx an ls ags) := H
  clear H hss hL
  go_enter Tryz.func77, Tryz.ntmps77
  go_wp2_with (first
    | (go_at_call 98; refine Calls.mono (HOF.out w) ?_; rintro e X1 ⟨rfl, q⟩; have HR : Hid (Rn k0 w0 X1 r T gs n pl C h av stk ss l nx an ls ags) := HH.out.keep q; clear q)
    | (go_at_call 66; refine Calls.mono (HLV.out X1 HR.out) ?_; rintro e Y ⟨rfl, stk', q⟩; have HQ : Hid (Rn k0 w0 Y r T gs n pl C h av stk' (ss ++ [0]) l nx an ls ags) := q; clear q))
  go_ret
  exact ⟨rfl, _, HQ.out⟩
set_option maxRecDepth 100000 in
set_option maxHeartbeats 4000000 in
theorem whether_0 (r T gs n : Nat) (pl : Value) (C : List Value) (h av stk : Value) (ss : List Nat) (l nx : Nat) (an : List Value) (ls : List Ins) (ags : List Nat) (k0 w0 w : World) (H : Rn k0 w0 w r T gs n pl C h av stk ss l nx an ls ags) (hss : ss.length ≤ 1000) : Calls Tryz.prog 73 #[.pointer (some ⟨r, 0, none⟩), .bool false] w fun e w' => e = .returned (.int .i64 0) ∧ ∃ stk', Rn k0 w0 w' r T gs n pl C h av stk' (ss ++ [0]) l nx an ls ags := by
  have HLC : Hid _ := count_0 r T gs n pl C h av stk ss l nx an ls ags k0 w0 w H hss
  clear H hss
  go_enter Tryz.func73, Tryz.ntmps73
  go_wp2_with (go_at_call 77; refine Calls.mono HLC.out ?_; rintro e Y ⟨rfl, stk', q⟩; have HQ : Hid (Rn k0 w0 Y r T gs n pl C h av stk' (ss ++ [0]) l nx an ls ags) := q; clear q)
  go_ret
  exact ⟨rfl, _, HQ.out⟩
set_option maxRecDepth 100000 in
set_option maxHeartbeats 4000000 in
theorem of_1 (w : World) : Calls Tryz.prog 98 #[.int .u64 1] w fun e w' => e = .returned (.agg (wq 1).toArray) ∧ Below w.heap.size w w' := by
  obtain ⟨L, hL⟩ : ∃ L, L = wq 1 := ⟨_, rfl⟩
  have HLC : Hid (L = [.int .u64 1, .int .u64 0, .int .u64 0, .int .u64 0]) := by rw [hL, wq_cells, show lim 1 0 = 1 by decide +kernel, show lim 1 1 = 0 by decide +kernel, show lim 1 2 = 0 by decide +kernel, show lim 1 3 = 0 by decide +kernel]; exact rfl
  have HI : Hid ((Tryz.prog.info? 37).map (·.size) = some L.length ∧ L.length = zW.length ∧ L.toArray.all (·.oneCell') = true) := by rw [hL]; exact ⟨info_Wq _, wq_len _, wq_one _⟩
  rw [← hL]
  clear hL
  go_enter Tryz.func98, Tryz.ntmps98
  go_wp2_with (first
    | (refine wpList_allocW rfl rfl ?_; intro X1 q1 q2 q3; have R1 : Hid (Row X1 w.heap.size zW 37) := q1; have B1 : Hid (Below w.heap.size w X1) := q2; clear q1 q2 q3; simp only [Act.put, List.setIfInBounds_toArray, List.set_cons_zero, List.set_cons_succ])
    | (refine wpList_storeL rfl 37 (.tmp 2) (.tmp 4) rfl w.heap.size L zW 37 rfl (by rw [HLC.out]; rfl) R1.out HI.out.2.1 HI.out.1 HI.out.2.2 ?_; intro X2 q1 q2; have E2 : Hid (X2 = _) := q1; have R2 : Hid (Row X2 w.heap.size L 37) := q2; clear q1 q2; simp only [Act.put]))
  exact bodyPost_ret (results_row Tryz.results98 _ _ w.heap.size 37 L rfl R2.out Tryz.underlying37 (by kernel_rfl) HI.out.2.1) rfl ⟨rfl, by rw [E2.out]; exact below_setCells B1.out (Nat.le_refl _) _⟩
set_option maxRecDepth 100000 in
set_option maxHeartbeats 4000000 in
theorem count_1 (r T gs n : Nat) (pl : Value) (C : List Value) (h av stk : Value) (ss : List Nat) (l nx : Nat) (an : List Value) (ls : List Ins) (ags : List Nat) (k0 w0 w : World) (H : Rn k0 w0 w r T gs n pl C h av stk ss l nx an ls ags) (hss : ss.length ≤ 1000) : Calls Tryz.prog 77 #[.pointer (some ⟨r, 0, none⟩), .int .i64 1] w fun e w' => e = .returned (.int .i64 0) ∧ ∃ stk', Rn k0 w0 w' r T gs n pl C h av stk' (ss ++ [1]) l nx an ls ags := by
  obtain ⟨L, hL⟩ : ∃ L, L = wq 1 := ⟨_, rfl⟩
  have HOF : Hid (∀ W, Calls Tryz.prog 98 #[.int .u64 1] W fun e w' => e = .returned (.agg L.toArray) ∧ Below W.heap.size W w') := fun W => by rw [hL]; exact of_1 W
  have HLV : Hid (∀ W, Rn k0 w0 W r T gs n pl C h av stk ss l nx an ls ags → Calls Tryz.prog 66 #[.pointer (some ⟨r, 0, none⟩), .agg L.toArray] W fun e w' => e = .returned (.int .i64 0) ∧ ∃ stk', Rn k0 w0 w' r T gs n pl C h av stk' (ss ++ [1]) l nx an ls ags) := fun W hW => by rw [hL]; exact leave_any r T gs n pl C h av stk ss l nx an ls ags 1 k0 w0 W hW hss
  have HH : Hid (Rn k0 w0 w r T gs n pl C h av stk ss l nx an ls ags) := H
  clear H hss hL
  go_enter Tryz.func77, Tryz.ntmps77
  go_wp2_with (first
    | (go_at_call 98; refine Calls.mono (HOF.out w) ?_; rintro e X1 ⟨rfl, q⟩; have HR : Hid (Rn k0 w0 X1 r T gs n pl C h av stk ss l nx an ls ags) := HH.out.keep q; clear q)
    | (go_at_call 66; refine Calls.mono (HLV.out X1 HR.out) ?_; rintro e Y ⟨rfl, stk', q⟩; have HQ : Hid (Rn k0 w0 Y r T gs n pl C h av stk' (ss ++ [1]) l nx an ls ags) := q; clear q))
  go_ret
  exact ⟨rfl, _, HQ.out⟩
set_option maxRecDepth 100000 in
set_option maxHeartbeats 4000000 in
theorem whether_1 (r T gs n : Nat) (pl : Value) (C : List Value) (h av stk : Value) (ss : List Nat) (l nx : Nat) (an : List Value) (ls : List Ins) (ags : List Nat) (k0 w0 w : World) (H : Rn k0 w0 w r T gs n pl C h av stk ss l nx an ls ags) (hss : ss.length ≤ 1000) : Calls Tryz.prog 73 #[.pointer (some ⟨r, 0, none⟩), .bool true] w fun e w' => e = .returned (.int .i64 0) ∧ ∃ stk', Rn k0 w0 w' r T gs n pl C h av stk' (ss ++ [1]) l nx an ls ags := by
  have HLC : Hid _ := count_1 r T gs n pl C h av stk ss l nx an ls ags k0 w0 w H hss
  clear H hss
  go_enter Tryz.func73, Tryz.ntmps73
  go_wp2_with (go_at_call 77; refine Calls.mono HLC.out ?_; rintro e Y ⟨rfl, stk', q⟩; have HQ : Hid (Rn k0 w0 Y r T gs n pl C h av stk' (ss ++ [1]) l nx an ls ags) := q; clear q)
  go_ret
  exact ⟨rfl, _, HQ.out⟩
set_option maxRecDepth 100000 in
set_option maxHeartbeats 4000000 in
theorem do_less (r T gs n : Nat) (pl : Value) (C : List Value) (h av stk : Value) (ss : List Nat) (l nx : Nat) (an : List Value) (ls : List Ins) (ags : List Nat) (I : List Value) (x y z : Nat) (E : Int) (hx : x < 2 ^ 256) (hy : y < 2 ^ 256) (hz : z = if x < y then 1 else 0) (hE : E = 0) (k0 w0 w : World) (H : Rn k0 w0 w r T gs n pl C h av stk (ss ++ [x] ++ [y]) l nx an ls ags) (hss : ss.length ≤ 900) : Calls Tryz.prog 40 #[.pointer (some ⟨r, 0, none⟩), .agg I.toArray] w fun e w' => ∃ v, e = .returned (.int .i64 v) ∧ ((E = 0 → v = 0 ∧ ∃ stk', Rn k0 w0 w' r T gs n pl C h av stk' (ss ++ [z]) l nx an ls ags) ∧ (E ≠ 0 → v = 104 ∧ ∃ stk', Rn k0 w0 w' r T gs n pl C h av stk' ss l nx an ls ags)) := by
  obtain ⟨LX, hLX⟩ : ∃ L, L = wq x := ⟨_, rfl⟩
  obtain ⟨LY, hLY⟩ : ∃ L, L = wq y := ⟨_, rfl⟩
  subst hE
  have HTT : Hid (∀ W, Rn k0 w0 W r T gs n pl C h av stk (ss ++ [x] ++ [y]) l nx an ls ags → Calls Tryz.prog 69 #[.pointer (some ⟨r, 0, none⟩)] W fun e w' => e = .returned (.tuple #[.agg LX.toArray, .agg LY.toArray]) ∧ ∃ stk', Rn k0 w0 w' r T gs n pl C h av stk' ss l nx an ls ags) := fun W hW => by
    rw [hLX, hLY]
    refine Calls.mono (takeTwo_any r T gs n pl C h av stk ss l nx an ls ags x y k0 w0 W hW (by omega)) ?_
    rintro e w' ⟨q1, q2⟩
    obtain ⟨_, _, stk2, q⟩ := q2
    exact ⟨q1, stk2, q⟩
  obtain ⟨cm, hcm⟩ : ∃ cm, cm = cmpR x y := ⟨_, rfl⟩
  have HOP : Hid (∀ W, Calls Tryz.prog 74 #[.agg LX.toArray, .agg LY.toArray] W fun e w' => e = .returned (.int .i64 cm) ∧ Below W.heap.size W w') := fun W => by
    rw [hLX, hLY, hcm]
    exact cmp_any x y hx hy W
  have HH : Hid (Rn k0 w0 w r T gs n pl C h av stk (ss ++ [x] ++ [y]) l nx an ls ags) := H
  have hs' : ss.length ≤ 1000 := by omega
  by_cases hlt : x < y
  · have hc : cm < 0 := by rw [hcm]; unfold cmpR; rw [if_neg (by omega), if_pos hlt]; decide
    rw [if_pos hlt] at hz
    subst hz
    have HW : Hid (∀ stk' W (B : Bool), B = true → Rn k0 w0 W r T gs n pl C h av stk' ss l nx an ls ags → Calls Tryz.prog 73 #[.pointer (some ⟨r, 0, none⟩), .bool B] W fun e w' => e = .returned (.int .i64 0) ∧ ∃ stk', Rn k0 w0 w' r T gs n pl C h av stk' (ss ++ [1]) l nx an ls ags) := fun stk' W B hB hW => by rw [hB]; exact whether_1 r T gs n pl C h av stk' ss l nx an ls ags k0 w0 W hW hs'
    have HCD : Hid (decide (cm < 0) = true) := decide_eq_true hc
    clear H hss hs' hLX hLY hx hy hcm hlt
    go_enter Tryz.func40, Tryz.ntmps40
    go_wp2_with (first
      | (refine wpList_boxG 53 rfl (.tmp 1) rfl I rfl ?_; intro X1 q1 q2 q3; have HR : Hid (Rn k0 w0 X1 r T gs n pl C h av stk (ss ++ [x] ++ [y]) l nx an ls ags) := HH.out.keep q2; clear q1 q2 q3; simp only [Act.put, List.setIfInBounds_toArray, List.set_cons_zero, List.set_cons_succ])
      | (go_at_call 69; refine Calls.mono (HTT.out X1 HR.out) ?_; rintro e X2 ⟨rfl, stk2, q⟩; have HR2 : Hid (Rn k0 w0 X2 r T gs n pl C h av stk2 ss l nx an ls ags) := q; clear q)
      | (go_at_call 74; refine Calls.mono (HOP.out X2) ?_; rintro e X3 ⟨rfl, q⟩; have HR3 : Hid (Rn k0 w0 X3 r T gs n pl C h av stk2 ss l nx an ls ags) := HR2.out.keep q; clear q)
      | (go_at_call 73; refine Calls.mono (HW.out stk2 X3 _ (by first | rfl | exact HCD.out) HR3.out) ?_; rintro e X9 ⟨rfl, q⟩; have HQ : Hid (∃ stk', Rn k0 w0 X9 r T gs n pl C h av stk' (ss ++ [1]) l nx an ls ags) := q; clear q))
    go_ret
    exact ⟨_, rfl, fun _ => ⟨rfl, HQ.out⟩, fun h => absurd rfl h⟩
  · have hc : ¬ cm < 0 := by
      have h2 : cmpR x y = 0 ∨ cmpR x y = 1 := by
        unfold cmpR
        by_cases he : x = y
        · left; rw [if_pos he]
        · right; rw [if_neg he, if_neg hlt]
      rw [hcm]
      rcases h2 with h2 | h2 <;> rw [h2] <;> decide
    rw [if_neg hlt] at hz
    subst hz
    have HW : Hid (∀ stk' W (B : Bool), B = false → Rn k0 w0 W r T gs n pl C h av stk' ss l nx an ls ags → Calls Tryz.prog 73 #[.pointer (some ⟨r, 0, none⟩), .bool B] W fun e w' => e = .returned (.int .i64 0) ∧ ∃ stk', Rn k0 w0 w' r T gs n pl C h av stk' (ss ++ [0]) l nx an ls ags) := fun stk' W B hB hW => by rw [hB]; exact whether_0 r T gs n pl C h av stk' ss l nx an ls ags k0 w0 W hW hs'
    have HCD : Hid (decide (cm < 0) = false) := decide_eq_false hc
    clear hc
    clear H hss hs' hLX hLY hx hy hcm hlt
    go_enter Tryz.func40, Tryz.ntmps40
    go_wp2_with (first
      | (refine wpList_boxG 53 rfl (.tmp 1) rfl I rfl ?_; intro X1 q1 q2 q3; have HR : Hid (Rn k0 w0 X1 r T gs n pl C h av stk (ss ++ [x] ++ [y]) l nx an ls ags) := HH.out.keep q2; clear q1 q2 q3; simp only [Act.put, List.setIfInBounds_toArray, List.set_cons_zero, List.set_cons_succ])
      | (go_at_call 69; refine Calls.mono (HTT.out X1 HR.out) ?_; rintro e X2 ⟨rfl, stk2, q⟩; have HR2 : Hid (Rn k0 w0 X2 r T gs n pl C h av stk2 ss l nx an ls ags) := q; clear q)
      | (go_at_call 74; refine Calls.mono (HOP.out X2) ?_; rintro e X3 ⟨rfl, q⟩; have HR3 : Hid (Rn k0 w0 X3 r T gs n pl C h av stk2 ss l nx an ls ags) := HR2.out.keep q; clear q)
      | (go_at_call 73; refine Calls.mono (HW.out stk2 X3 _ (by first | rfl | exact HCD.out) HR3.out) ?_; rintro e X9 ⟨rfl, q⟩; have HQ : Hid (∃ stk', Rn k0 w0 X9 r T gs n pl C h av stk' (ss ++ [0]) l nx an ls ags) := q; clear q))
    go_ret
    exact ⟨_, rfl, fun _ => ⟨rfl, HQ.out⟩, fun h => absurd rfl h⟩

end Go.Proofs.YtclbiophgnkggaaGreatDoor

namespace Go.Proofs.YtclbiophgnkggaaGreatDoor
open Go Go.RowKit
open Sha
open Wd
set_option maxRecDepth 100000 in
set_option maxHeartbeats 4000000 in
theorem do_div (r T gs n : Nat) (pl : Value) (C : List Value) (h av stk : Value) (ss : List Nat) (l nx : Nat) (an : List Value) (ls : List Ins) (ags : List Nat) (I : List Value) (x y z : Nat) (E : Int) (hx : x < 2 ^ 256) (hy : y < 2 ^ 256) (hz : z = divQ x y) (hE : E = divE y) (k0 w0 w : World) (H : Rn k0 w0 w r T gs n pl C h av stk (ss ++ [x] ++ [y]) l nx an ls ags) (hss : ss.length ≤ 900) : Calls Tryz.prog 38 #[.pointer (some ⟨r, 0, none⟩), .agg I.toArray] w fun e w' => ∃ v, e = .returned (.int .i64 v) ∧ ((E = 0 → v = 0 ∧ ∃ stk', Rn k0 w0 w' r T gs n pl C h av stk' (ss ++ [z]) l nx an ls ags) ∧ (E ≠ 0 → v = 104 ∧ ∃ stk', Rn k0 w0 w' r T gs n pl C h av stk' ss l nx an ls ags)) := by
  obtain ⟨LX, hLX⟩ : ∃ L, L = wq x := ⟨_, rfl⟩
  obtain ⟨LY, hLY⟩ : ∃ L, L = wq y := ⟨_, rfl⟩
  obtain ⟨LZ, hLZ⟩ : ∃ L, L = wq z := ⟨_, rfl⟩
  obtain ⟨L5, hL5⟩ : ∃ L, L = wq (divQ x y) := ⟨_, rfl⟩
  obtain ⟨L6, hL6⟩ : ∃ L, L = wq (divR x y) := ⟨_, rfl⟩
  have hLL : LZ = L5 := by rw [hLZ, hL5, hz]
  have HTT : Hid (∀ W, Rn k0 w0 W r T gs n pl C h av stk (ss ++ [x] ++ [y]) l nx an ls ags → Calls Tryz.prog 69 #[.pointer (some ⟨r, 0, none⟩)] W fun e w' => e = .returned (.tuple #[.agg LX.toArray, .agg LY.toArray]) ∧ ∃ stk', Rn k0 w0 w' r T gs n pl C h av stk' ss l nx an ls ags) := fun W hW => by
    rw [hLX, hLY]
    refine Calls.mono (takeTwo_any r T gs n pl C h av stk ss l nx an ls ags x y k0 w0 W hW (by omega)) ?_
    rintro e w' ⟨q1, q2⟩
    obtain ⟨_, _, stk2, q⟩ := q2
    exact ⟨q1, stk2, q⟩
  have HOP : Hid (∀ W, Calls Tryz.prog 72 #[.agg LX.toArray, .agg LY.toArray] W fun e w' => e = .returned (.tuple #[.agg L5.toArray, .agg L6.toArray, .int .i64 E]) ∧ Below W.heap.size W w') := fun W => by
    rw [hLX, hLY, hL5, hL6, hE]
    exact div_any x y hx hy W
  have HLR : Hid (∀ stk' W, Rn k0 w0 W r T gs n pl C h av stk' ss l nx an ls ags → Calls Tryz.prog 67 #[.pointer (some ⟨r, 0, none⟩), .agg L5.toArray, .int .i64 E] W fun e w' => ∃ v, e = .returned (.int .i64 v) ∧ ((E = 0 → v = 0 ∧ ∃ stk', Rn k0 w0 w' r T gs n pl C h av stk' (ss ++ [z]) l nx an ls ags) ∧ (E ≠ 0 → v = 104 ∧ ∃ stk', Rn k0 w0 w' r T gs n pl C h av stk' ss l nx an ls ags))) := fun stk' W hW => by rw [hL5, ← hz]; exact leaveRes r T gs n pl C h av stk' ss l nx an ls ags z E k0 w0 W hW (by omega)
  have HI5 : Hid ((Tryz.prog.info? 37).map (·.size) = some L5.length ∧ L5.length = zW.length ∧ L5.toArray.all (·.oneCell') = true) := by rw [hL5]; exact ⟨info_Wq _, wq_len _, wq_one _⟩
  have HI6 : Hid ((Tryz.prog.info? 37).map (·.size) = some L6.length ∧ L6.length = zW.length ∧ L6.toArray.all (·.oneCell') = true) := by rw [hL6]; exact ⟨info_Wq _, wq_len _, wq_one _⟩
  have HH : Hid (Rn k0 w0 w r T gs n pl C h av stk (ss ++ [x] ++ [y]) l nx an ls ags) := H
  clear H hss hLX hLY hLL hLZ hL5 hL6 hx hy hz hE
  go_enter Tryz.func38, Tryz.ntmps38
  go_upto_region 2 with (first
    | (refine wpList_boxG 53 rfl (.tmp 1) rfl I rfl ?_; intro X1 q1 q2 q3; have HR : Hid (Rn k0 w0 X1 r T gs n pl C h av stk (ss ++ [x] ++ [y]) l nx an ls ags) := HH.out.keep q2; clear q1 q2 q3; simp only [Act.put, List.setIfInBounds_toArray, List.set_cons_zero, List.set_cons_succ])
    | (go_at_call 69; refine Calls.mono (HTT.out X1 HR.out) ?_; rintro e X2 ⟨rfl, stk2, q⟩; have HR2 : Hid (Rn k0 w0 X2 r T gs n pl C h av stk2 ss l nx an ls ags) := q; clear q)
    | (go_at_call 72; refine Calls.mono (HOP.out X2) ?_; rintro e X3 ⟨rfl, q⟩; have HR3 : Hid (Rn k0 w0 X3 r T gs n pl C h av stk2 ss l nx an ls ags) := HR2.out.keep q; clear q)
    | (refine wpList_allocW rfl (by rfl : _ = Op.alloc 37) ?_; intro X4 q1 q2 q3; have R4 : Hid (Row X4 X3.heap.size zW 37) := q1; have B4 : Hid (Below X3.heap.size X3 X4) := q2; have S4 : Hid (X4.heap.size = X3.heap.size + 1) := q3; clear q1 q2 q3; refine wpList_allocW rfl (by rfl : _ = Op.alloc 37) ?_; intro X5 q1 q2 q3; have R5 : Hid (Row X5 X4.heap.size zW 37) := q1; have B5 : Hid (Below X4.heap.size X4 X5) := q2; clear q1 q2 q3; simp only [Act.put, List.setIfInBounds_toArray, List.set_cons_zero, List.set_cons_succ])
    | (refine wpList_storeL rfl 37 (.tmp 5) (.tmp 14) rfl X3.heap.size L5 zW 37 rfl rfl (Row.below R4.out B5.out R4.out.lt) HI5.out.2.1 HI5.out.1 HI5.out.2.2 ?_; intro X6 q1 q2; have E6 : Hid (X6 = _) := q1; have R6 : Hid (Row X6 X3.heap.size L5 37) := q2; clear q1 q2; simp only [Act.put])
    | (refine wpList_storeL rfl 37 (.tmp 6) (.tmp 15) rfl X4.heap.size L6 zW 37 rfl rfl (by rw [E6.out]; exact Row.setCells_other R5.out _ _ _ (by have := S4.out; omega)) HI6.out.2.1 HI6.out.1 HI6.out.2.2 ?_; intro X7 q1 q2; have E7 : Hid (X7 = _) := q1; have R7 : Hid (Row X7 X4.heap.size L6 37) := q2; clear q1 q2; simp only [Act.put]))
  have D7 : Below X3.heap.size X3 X7 := by
    rw [E7.out, E6.out]
    exact below_setCells (below_setCells (B4.out.trans (B5.out.mono (by rw [S4.out]; omega))) (Nat.le_refl _) _) (by rw [S4.out]; omega) _
  have R57 : Hid (Row X7 X3.heap.size L5 37) := by rw [E7.out]; exact Row.setCells_other R6.out _ _ _ (by have := S4.out; omega)
  have HR7 : Hid (Rn k0 w0 X7 r T gs n pl C h av stk2 ss l nx an ls ags) := HR3.out.keep D7
  obtain ⟨b5, hb5⟩ : ∃ b, b = X3.heap.size := ⟨_, rfl⟩
  obtain ⟨b6, hb6⟩ : ∃ b, b = X4.heap.size := ⟨_, rfl⟩
  rw [← hb6] at R7 ⊢
  rw [← hb5] at R57 ⊢
  clear hb5 hb6 D7 E7 E6 R6 R5 B5 R4 B4 S4 HR3 HR2 HR
  go_wp2_with (first
    | (refine wpList_load_w rfl 37 (.tmp 5) rfl b5 0 rfl L5 _ R57.out.all Tryz.underlying37 rfl HI5.out.1 ?_; simp only [Act.put, List.setIfInBounds_toArray, List.set_cons_zero, List.set_cons_succ])
    | (go_at_call 67; refine Calls.mono (HLR.out stk2 X7 HR7.out) ?_; rintro e X9 ⟨v, rfl, q⟩; have HQ : Hid ((E = 0 → v = 0 ∧ ∃ stk', Rn k0 w0 X9 r T gs n pl C h av stk' (ss ++ [z]) l nx an ls ags) ∧ (E ≠ 0 → v = 104 ∧ ∃ stk', Rn k0 w0 X9 r T gs n pl C h av stk' ss l nx an ls ags)) := q; clear q))
  go_ret
  exact ⟨_, rfl, HQ.out⟩
set_option maxRecDepth 100000 in
set_option maxHeartbeats 4000000 in
theorem do_mod (r T gs n : Nat) (pl : Value) (C : List Value) (h av stk : Value) (ss : List Nat) (l nx : Nat) (an : List Value) (ls : List Ins) (ags : List Nat) (I : List Value) (x y z : Nat) (E : Int) (hx : x < 2 ^ 256) (hy : y < 2 ^ 256) (hz : z = divR x y) (hE : E = divE y) (k0 w0 w : World) (H : Rn k0 w0 w r T gs n pl C h av stk (ss ++ [x] ++ [y]) l nx an ls ags) (hss : ss.length ≤ 900) : Calls Tryz.prog 39 #[.pointer (some ⟨r, 0, none⟩), .agg I.toArray] w fun e w' => ∃ v, e = .returned (.int .i64 v) ∧ ((E = 0 → v = 0 ∧ ∃ stk', Rn k0 w0 w' r T gs n pl C h av stk' (ss ++ [z]) l nx an ls ags) ∧ (E ≠ 0 → v = 104 ∧ ∃ stk', Rn k0 w0 w' r T gs n pl C h av stk' ss l nx an ls ags)) := by
  obtain ⟨LX, hLX⟩ : ∃ L, L = wq x := ⟨_, rfl⟩
  obtain ⟨LY, hLY⟩ : ∃ L, L = wq y := ⟨_, rfl⟩
  obtain ⟨LZ, hLZ⟩ : ∃ L, L = wq z := ⟨_, rfl⟩
  obtain ⟨L5, hL5⟩ : ∃ L, L = wq (divQ x y) := ⟨_, rfl⟩
  obtain ⟨L6, hL6⟩ : ∃ L, L = wq (divR x y) := ⟨_, rfl⟩
  have hLL : LZ = L6 := by rw [hLZ, hL6, hz]
  have HTT : Hid (∀ W, Rn k0 w0 W r T gs n pl C h av stk (ss ++ [x] ++ [y]) l nx an ls ags → Calls Tryz.prog 69 #[.pointer (some ⟨r, 0, none⟩)] W fun e w' => e = .returned (.tuple #[.agg LX.toArray, .agg LY.toArray]) ∧ ∃ stk', Rn k0 w0 w' r T gs n pl C h av stk' ss l nx an ls ags) := fun W hW => by
    rw [hLX, hLY]
    refine Calls.mono (takeTwo_any r T gs n pl C h av stk ss l nx an ls ags x y k0 w0 W hW (by omega)) ?_
    rintro e w' ⟨q1, q2⟩
    obtain ⟨_, _, stk2, q⟩ := q2
    exact ⟨q1, stk2, q⟩
  have HOP : Hid (∀ W, Calls Tryz.prog 72 #[.agg LX.toArray, .agg LY.toArray] W fun e w' => e = .returned (.tuple #[.agg L5.toArray, .agg L6.toArray, .int .i64 E]) ∧ Below W.heap.size W w') := fun W => by
    rw [hLX, hLY, hL5, hL6, hE]
    exact div_any x y hx hy W
  have HLR : Hid (∀ stk' W, Rn k0 w0 W r T gs n pl C h av stk' ss l nx an ls ags → Calls Tryz.prog 67 #[.pointer (some ⟨r, 0, none⟩), .agg L6.toArray, .int .i64 E] W fun e w' => ∃ v, e = .returned (.int .i64 v) ∧ ((E = 0 → v = 0 ∧ ∃ stk', Rn k0 w0 w' r T gs n pl C h av stk' (ss ++ [z]) l nx an ls ags) ∧ (E ≠ 0 → v = 104 ∧ ∃ stk', Rn k0 w0 w' r T gs n pl C h av stk' ss l nx an ls ags))) := fun stk' W hW => by rw [hL6, ← hz]; exact leaveRes r T gs n pl C h av stk' ss l nx an ls ags z E k0 w0 W hW (by omega)
  have HI5 : Hid ((Tryz.prog.info? 37).map (·.size) = some L5.length ∧ L5.length = zW.length ∧ L5.toArray.all (·.oneCell') = true) := by rw [hL5]; exact ⟨info_Wq _, wq_len _, wq_one _⟩
  have HI6 : Hid ((Tryz.prog.info? 37).map (·.size) = some L6.length ∧ L6.length = zW.length ∧ L6.toArray.all (·.oneCell') = true) := by rw [hL6]; exact ⟨info_Wq _, wq_len _, wq_one _⟩
  have HH : Hid (Rn k0 w0 w r T gs n pl C h av stk (ss ++ [x] ++ [y]) l nx an ls ags) := H
  clear H hss hLX hLY hLL hLZ hL5 hL6 hx hy hz hE
  go_enter Tryz.func39, Tryz.ntmps39
  go_upto_region 2 with (first
    | (refine wpList_boxG 53 rfl (.tmp 1) rfl I rfl ?_; intro X1 q1 q2 q3; have HR : Hid (Rn k0 w0 X1 r T gs n pl C h av stk (ss ++ [x] ++ [y]) l nx an ls ags) := HH.out.keep q2; clear q1 q2 q3; simp only [Act.put, List.setIfInBounds_toArray, List.set_cons_zero, List.set_cons_succ])
    | (go_at_call 69; refine Calls.mono (HTT.out X1 HR.out) ?_; rintro e X2 ⟨rfl, stk2, q⟩; have HR2 : Hid (Rn k0 w0 X2 r T gs n pl C h av stk2 ss l nx an ls ags) := q; clear q)
    | (go_at_call 72; refine Calls.mono (HOP.out X2) ?_; rintro e X3 ⟨rfl, q⟩; have HR3 : Hid (Rn k0 w0 X3 r T gs n pl C h av stk2 ss l nx an ls ags) := HR2.out.keep q; clear q)
    | (refine wpList_allocW rfl (by rfl : _ = Op.alloc 37) ?_; intro X4 q1 q2 q3; have R4 : Hid (Row X4 X3.heap.size zW 37) := q1; have B4 : Hid (Below X3.heap.size X3 X4) := q2; have S4 : Hid (X4.heap.size = X3.heap.size + 1) := q3; clear q1 q2 q3; refine wpList_allocW rfl (by rfl : _ = Op.alloc 37) ?_; intro X5 q1 q2 q3; have R5 : Hid (Row X5 X4.heap.size zW 37) := q1; have B5 : Hid (Below X4.heap.size X4 X5) := q2; clear q1 q2 q3; simp only [Act.put, List.setIfInBounds_toArray, List.set_cons_zero, List.set_cons_succ])
    | (refine wpList_storeL rfl 37 (.tmp 5) (.tmp 14) rfl X3.heap.size L5 zW 37 rfl rfl (Row.below R4.out B5.out R4.out.lt) HI5.out.2.1 HI5.out.1 HI5.out.2.2 ?_; intro X6 q1 q2; have E6 : Hid (X6 = _) := q1; have R6 : Hid (Row X6 X3.heap.size L5 37) := q2; clear q1 q2; simp only [Act.put])
    | (refine wpList_storeL rfl 37 (.tmp 6) (.tmp 15) rfl X4.heap.size L6 zW 37 rfl rfl (by rw [E6.out]; exact Row.setCells_other R5.out _ _ _ (by have := S4.out; omega)) HI6.out.2.1 HI6.out.1 HI6.out.2.2 ?_; intro X7 q1 q2; have E7 : Hid (X7 = _) := q1; have R7 : Hid (Row X7 X4.heap.size L6 37) := q2; clear q1 q2; simp only [Act.put]))
  have D7 : Below X3.heap.size X3 X7 := by
    rw [E7.out, E6.out]
    exact below_setCells (below_setCells (B4.out.trans (B5.out.mono (by rw [S4.out]; omega))) (Nat.le_refl _) _) (by rw [S4.out]; omega) _
  have R57 : Hid (Row X7 X3.heap.size L5 37) := by rw [E7.out]; exact Row.setCells_other R6.out _ _ _ (by have := S4.out; omega)
  have HR7 : Hid (Rn k0 w0 X7 r T gs n pl C h av stk2 ss l nx an ls ags) := HR3.out.keep D7
  obtain ⟨b5, hb5⟩ : ∃ b, b = X3.heap.size := ⟨_, rfl⟩
  obtain ⟨b6, hb6⟩ : ∃ b, b = X4.heap.size := ⟨_, rfl⟩
  rw [← hb6] at R7 ⊢
  rw [← hb5] at R57 ⊢
  clear hb5 hb6 D7 E7 E6 R6 R5 B5 R4 B4 S4 HR3 HR2 HR
  go_wp2_with (first
    | (refine wpList_load_w rfl 37 (.tmp 6) rfl b6 0 rfl L6 _ R7.out.all Tryz.underlying37 rfl HI6.out.1 ?_; simp only [Act.put, List.setIfInBounds_toArray, List.set_cons_zero, List.set_cons_succ])
    | (go_at_call 67; refine Calls.mono (HLR.out stk2 X7 HR7.out) ?_; rintro e X9 ⟨v, rfl, q⟩; have HQ : Hid ((E = 0 → v = 0 ∧ ∃ stk', Rn k0 w0 X9 r T gs n pl C h av stk' (ss ++ [z]) l nx an ls ags) ∧ (E ≠ 0 → v = 104 ∧ ∃ stk', Rn k0 w0 X9 r T gs n pl C h av stk' ss l nx an ls ags)) := q; clear q))
  go_ret
  exact ⟨_, rfl, HQ.out⟩

end Go.Proofs.YtclbiophgnkggaaGreatDoor

namespace Go.Proofs.YtclbiophgnkggaaGreatDoor
open Go Go.RowKit
open Sha
open Wd

/-- What two numbers make: the number, or the error. -/
def bin (c x y : Nat) : Option (Nat × Int) :=
  if c = 6 then some (addR x y, addE x y) else if c = 7 then some (subR x y, subE x y) else if c = 8 then some (mulR x y, mulE x y) else
  if c = 9 then some (divQ x y, divE y) else if c = 10 then some (divR x y, divE y) else if c = 11 then some (if x < y then 1 else 0, 0) else none
def gasB (c : Nat) : Nat := if c = 8 then 5 else if c = 9 ∨ c = 10 then 10 else 2
/-- What a program of arg, those and done does: the error, the answer, the gas that is left. -/
def ev (ags : List Nat) : List Ins → List Nat → Nat → Option (Int × Nat × Nat)
  | [], _, _ => none
  | x :: r, st, l =>
    if x.c = 16 then (match ags[x.n]? with | some a => if 2 ≤ l ∧ x.a = 0 then ev ags r (a :: st) (l - 2) else none | none => none)
    else if x.c = 1 then (match st with | v :: _ => if 1 ≤ l ∧ x.a = 0 then some (0, v, l - 1) else none | [] => none)
    else (match st with
      | y :: x' :: st' => (match bin x.c x' y with
        | some (z, E) => if gasB x.c ≤ l ∧ x.a = 0 then (if E = 0 then ev ags r (z :: st') (l - gasB x.c) else some (104, 0, 0)) else none
        | none => none)
      | _ => none)
theorem bin_lt {c x y z : Nat} {E : Int} (hx : x < 2 ^ 256) (hy : y < 2 ^ 256) (h : bin c x y = some (z, E)) : z < 2 ^ 256 ∧ (c = 6 ∨ c = 7 ∨ c = 8 ∨ c = 9 ∨ c = 10 ∨ c = 11) := by
  have h1 : 1 < 2 ^ 256 := Nat.lt_of_lt_of_le (by decide : 1 < 2 ^ 8) (Nat.pow_le_pow_right (by decide) (by decide))
  have h0 : 0 < 2 ^ 256 := Nat.lt_trans (by decide) h1
  unfold bin at h
  split at h
  · rename_i hc
    simp only [Option.some.injEq, Prod.mk.injEq] at h
    refine ⟨?_, .inl hc⟩
    rw [← h.1]; unfold addR; split
    · assumption
    · exact h0
  split at h
  · rename_i hc
    simp only [Option.some.injEq, Prod.mk.injEq] at h
    refine ⟨?_, .inr (.inl hc)⟩
    rw [← h.1]; unfold subR; split
    · exact h0
    · omega
  split at h
  · rename_i hc
    simp only [Option.some.injEq, Prod.mk.injEq] at h
    refine ⟨?_, .inr (.inr (.inl hc))⟩
    rw [← h.1]; unfold mulR; split
    · assumption
    · exact h0
  split at h
  · rename_i hc
    simp only [Option.some.injEq, Prod.mk.injEq] at h
    refine ⟨?_, .inr (.inr (.inr (.inl hc)))⟩
    rw [← h.1]; unfold divQ; split
    · exact h0
    · exact Nat.lt_of_le_of_lt (Nat.div_le_self _ _) hx
  split at h
  · rename_i hc
    simp only [Option.some.injEq, Prod.mk.injEq] at h
    refine ⟨?_, .inr (.inr (.inr (.inr (.inl hc))))⟩
    rw [← h.1]; unfold divR; split
    · exact h0
    · exact Nat.lt_of_le_of_lt (Nat.mod_le _ _) hx
  split at h
  · rename_i hc
    simp only [Option.some.injEq, Prod.mk.injEq] at h
    refine ⟨?_, .inr (.inr (.inr (.inr (.inr hc))))⟩
    rw [← h.1]; split
    · exact h1
    · exact h0
  · cases h
theorem ev_cases {ags : List Nat} {x : Ins} {rr : List Ins} {st : List Nat} {l v l1 : Nat} {E : Int} (h : ev ags (x :: rr) st l = some (E, v, l1)) :
    (x.c = 16 ∧ x.a = 0 ∧ ∃ a, ags[x.n]? = some a ∧ 2 ≤ l ∧ ev ags rr (a :: st) (l - 2) = some (E, v, l1)) ∨ (x.c = 1 ∧ x.a = 0 ∧ ∃ st', st = v :: st' ∧ 1 ≤ l ∧ E = 0 ∧ l1 = l - 1) ∨
    (x.c ≠ 1 ∧ x.a = 0 ∧ ∃ y x' st' z E', st = y :: x' :: st' ∧ bin x.c x' y = some (z, E') ∧ gasB x.c ≤ l ∧ ((E' = 0 ∧ ev ags rr (z :: st') (l - gasB x.c) = some (E, v, l1)) ∨ (E' ≠ 0 ∧ E = 104))) := by
  unfold ev at h
  split at h
  · rename_i hc
    split at h
    · rename_i a ha
      split at h
      · rename_i hl
        exact .inl ⟨hc, hl.2, a, ha, hl.1, h⟩
      · cases h
    · cases h
  · split at h
    · rename_i hc
      split at h
      · rename_i u st'
        split at h
        · rename_i hl
          simp only [Option.some.injEq, Prod.mk.injEq] at h
          obtain ⟨rfl, rfl, rfl⟩ := h
          exact .inr (.inl ⟨hc, hl.2, st', rfl, hl.1, rfl, rfl⟩)
        · cases h
      · cases h
    · rename_i hc
      split at h
      · rename_i y x' st'
        split at h
        · rename_i z E' hb
          split at h
          · rename_i hl
            split at h
            · rename_i hE
              exact .inr (.inr ⟨hc, hl.2, y, x', st', z, E', rfl, hb, hl.1, .inl ⟨hE, h⟩⟩)
            · rename_i hE
              simp only [Option.some.injEq, Prod.mk.injEq] at h
              exact .inr (.inr ⟨hc, hl.2, y, x', st', z, E', rfl, hb, hl.1, .inr ⟨hE, h.1.symm⟩⟩)
          · cases h
        · cases h
      · cases h
theorem stp_bin (r T gs n : Nat) (pl : Value) (C : List Value) (h av stk : Value) (ss : List Nat) (l nx : Nat) (an : List Value) (ls : List Ins) (ags : List Nat) (c pi ni x y z : Nat) (E : Int) (hx : x < 2 ^ 256) (hy : y < 2 ^ 256) (hb : bin c x y = some (z, E)) (hs : ss.length ≤ 60) (hg : gasB c ≤ l) (hl : l ≤ 10000) (hnx : nx ≤ 1024) (k0 w0 w : World) (H : Rn k0 w0 w r T gs n pl C h av stk (ss ++ [x] ++ [y]) l nx an ls ags) : Calls Tryz.prog 105 #[.pointer (some ⟨r, 0, none⟩), .agg (ic c pi 0 ni).toArray] w fun e w' => ∃ v, e = .returned (.int .i64 v) ∧ ((E = 0 → v = 0 ∧ ∃ stk', Rn k0 w0 w' r T gs n pl C h av stk' (ss ++ [z]) (l - gasB c) (nx + 1) an ls ags) ∧ (E ≠ 0 → v = 104 ∧ ∃ stk', Rn k0 w0 w' r T gs n pl C h av stk' ss (l - gasB c) (nx + 1) an ls ags)) := by
  have hc := (bin_lt hx hy hb).2
  rcases hc with rfl | rfl | rfl | rfl | rfl | rfl
  · obtain ⟨hz, hE⟩ : _ ∧ _ := by simpa [bin] using hb
    refine step_any r T gs n pl C h av stk (ss ++ [x] ++ [y]) l nx an ls ags 6 pi 0 ni _ 0 2 2 1 35 (by decide) rfl rfl rfl hg hl (by simp) (by simp; omega) (by decide) hnx k0 w0 w H _ cf_add ?_
    intro W hW
    exact do_add r T gs n pl C h av stk ss _ _ an ls ags _ x y z E hx hy hz.symm hE.symm k0 w0 W hW (by omega)
  · obtain ⟨hz, hE⟩ : _ ∧ _ := by simpa [bin] using hb
    refine step_any r T gs n pl C h av stk (ss ++ [x] ++ [y]) l nx an ls ags 7 pi 0 ni _ 0 2 2 1 36 (by decide) rfl rfl rfl hg hl (by simp) (by simp; omega) (by decide) hnx k0 w0 w H _ cf_sub ?_
    intro W hW
    exact do_sub r T gs n pl C h av stk ss _ _ an ls ags _ x y z E hx hy hz.symm hE.symm k0 w0 W hW (by omega)
  · obtain ⟨hz, hE⟩ : _ ∧ _ := by simpa [bin] using hb
    refine step_any r T gs n pl C h av stk (ss ++ [x] ++ [y]) l nx an ls ags 8 pi 0 ni _ 0 5 2 1 37 (by decide) rfl rfl rfl hg hl (by simp) (by simp; omega) (by decide) hnx k0 w0 w H _ cf_mul ?_
    intro W hW
    exact do_mul r T gs n pl C h av stk ss _ _ an ls ags _ x y z E hx hy hz.symm hE.symm k0 w0 W hW (by omega)
  · obtain ⟨hz, hE⟩ : _ ∧ _ := by simpa [bin] using hb
    refine step_any r T gs n pl C h av stk (ss ++ [x] ++ [y]) l nx an ls ags 9 pi 0 ni _ 0 10 2 1 38 (by decide) rfl rfl rfl hg hl (by simp) (by simp; omega) (by decide) hnx k0 w0 w H _ cf_div ?_
    intro W hW
    exact do_div r T gs n pl C h av stk ss _ _ an ls ags _ x y z E hx hy hz.symm hE.symm k0 w0 W hW (by omega)
  · obtain ⟨hz, hE⟩ : _ ∧ _ := by simpa [bin] using hb
    refine step_any r T gs n pl C h av stk (ss ++ [x] ++ [y]) l nx an ls ags 10 pi 0 ni _ 0 10 2 1 39 (by decide) rfl rfl rfl hg hl (by simp) (by simp; omega) (by decide) hnx k0 w0 w H _ cf_mod ?_
    intro W hW
    exact do_mod r T gs n pl C h av stk ss _ _ an ls ags _ x y z E hx hy hz.symm hE.symm k0 w0 W hW (by omega)
  · obtain ⟨hz, hE⟩ : _ ∧ _ := by simpa [bin] using hb
    refine step_any r T gs n pl C h av stk (ss ++ [x] ++ [y]) l nx an ls ags 11 pi 0 ni _ 0 2 2 1 40 (by decide) rfl rfl rfl hg hl (by simp) (by simp; omega) (by decide) hnx k0 w0 w H _ cf_less ?_
    intro W hW
    exact do_less r T gs n pl C h av stk ss _ _ an ls ags _ x y z E hx hy hz.symm hE.symm k0 w0 W hW (by omega)

end Go.Proofs.YtclbiophgnkggaaGreatDoor

namespace Go.Proofs.YtclbiophgnkggaaGreatDoor
open Go Go.RowKit
open Wd

theorem digits_c {ca : List Value} {a : Nat} (Ha : Wc ca a) (w : World) : Calls Tryz.prog 27 #[.agg ca.toArray] w fun e w' => ∃ N, e = .returned (.slice (some ⟨N, 0, none⟩) 32 32) ∧ w.heap.size ≤ N ∧ Ch w' N 0 32 a ∧ Below w.heap.size w w' := by
  rw [Ha]
  exact digits_g a w
theorem number_c {cr : List Value} {a : Nat} (Hr : Wc cr a) (N o n c : Nat) (hn : n ≤ 32) (ha : a < 256 ^ n) (w : World) (h : Ch w N o n a ∨ n = 0) :
    Calls Tryz.prog 13 #[.slice (some ⟨N, o, none⟩) n c] w fun e w' => e = .returned (.agg cr.toArray) ∧ Below w.heap.size w w' := by
  rw [Hr]
  exact number_g a N o n c hn ha w h
theorem small_dgs (n : Nat) (h : n < 18446744073709551616) : vQ (dgs n 4) = [.int .u64 (n : Int), .int .u64 0, .int .u64 0, .int .u64 0] := by
  have e : n = n + 18446744073709551616 * 0 := by omega
  have e2 : dgs n 4 = n :: dgs 0 3 := by
    conv => lhs; rw [e]
    exact dgs_cons n 0 3 h
  rw [e2, dgs_zero]
  rfl

set_option maxRecDepth 100000 in
set_option maxHeartbeats 1000000 in
theorem count_c {cr : List Value} (n : Nat) (hn : n < 9223372036854775808) (Hr : Wc cr n) (w : World) : Calls Tryz.prog 25 #[.int .i64 (n : Int)] w fun e w' => e = .returned (.agg cr.toArray) ∧ Below w.heap.size w w' := by
  have n2 : Row (w.alloc (.cells #[.int .u64 0, .int .u64 0, .int .u64 0, .int .u64 0] 37)) w.heap.size [.int .u64 0, .int .u64 0, .int .u64 0, .int .u64 0] 37 := Row.new _ _ _
  have T := Hr.there n2 rfl
  have HT : Hid (World.there _ _ _ _) := T
  have e : cr = [.int .u64 (n : Int), .int .u64 0, .int .u64 0, .int .u64 0] := by
    have h := show cr = vQ (dgs n 4) from Hr
    rw [h, small_dgs n (by omega)]
  have he : (#[.int .u64 (n : Int), .int .u64 0, .int .u64 0, .int .u64 0] : Array Value) = cr.toArray := by rw [e]
  have eC : IntKind.u64.wrap (n : Int) = (n : Int) := by rw [IntKind.wrap_u64]; omega
  go_enter Tryz.func25, Tryz.ntmps25
  go_wp2_with (refine wpList_store_mid rfl 37 (.tmp 2) (.tmp 5) rfl w.heap.size 0 cr.toArray rfl (by show Value.agg _ = Value.agg _; rw [← he]; rfl) HT.out Hr.info' Hr.one ?_; simp only [Act.put])
  exact bodyPost_ret (results_rowA Tryz.results25 _ _ w.heap.size 37 cr rfl (Row.new _ _ _) Tryz.underlying37 (by rw [Hr.len]; exact info_w4)) rfl ⟨rfl, (Below.refl _ _).alloc (Nat.le_refl _) _⟩

set_option maxRecDepth 100000 in
set_option maxHeartbeats 1000000 in
theorem nought_c {ca : List Value} {a : Nat} (Ha : Wc ca a) (ha : a < 2 ^ 256) {B : Bool} (hB : decide (a = 0) = B) (w : World) : Calls Tryz.prog 26 #[.agg ca.toArray] w fun e w' => e = .returned (.bool B) ∧ Below w.heap.size w w' := by
  have n1 : Row (w.alloc (.cells ca.toArray 37)) w.heap.size ca 37 := Row.new _ _ _
  have z : Wc [.int .u64 0, .int .u64 0, .int .u64 0, .int .u64 0] 0 := by
    show _ = _
    rw [small_dgs 0 (by decide)]
    rfl
  have HA : Hid (a < 2 ^ 256) := ha
  have HZ : Hid (0 < 2 ^ 256) := Nat.two_pow_pos _
  clear ha
  go_enter Tryz.func26, Tryz.ntmps26
  go_wp2_with (first
    | (refine wpList_load_mid rfl 37 (.tmp 1) rfl w.heap.size 0 rfl ca _ n1.all Tryz.underlying37 rfl Ha.info ?_; simp only [Act.put, List.setIfInBounds_toArray, List.set_cons_zero, List.set_cons_succ])
    | (refine wpList_eql_c rfl (.tmp 3) (.tmp 4) _ rfl Ha z HA.out HZ.out rfl rfl hB ?_; simp only [Act.put, List.setIfInBounds_toArray, List.set_cons_zero, List.set_cons_succ]))
  go_ret
  exact ⟨rfl, (Below.refl _ _).alloc (Nat.le_refl _) _⟩

end Go.Proofs.YtclbiophgnkggaaGreatDoor
