/-
  push, amount, self, caller.
-/
import Derived.Test.YtabcglakdlkdcaaMkEa
namespace Go.Proofs.Ytabcglakdlkdcaa
open Go Go.RowKit
open Sha
open Wd

theorem ic_rng {W : World} {b : Nat} {t : TypeId} {c p a n : Nat} (R : Row W b (ic c p a n) t) : W.rangeAt b 2 (wq a) := fun j v hj => R.cell (2 + j) v (by
  have hlt : j < 4 := by have := (List.getElem?_eq_some_iff.1 hj).1; rwa [wq_len] at this
  rw [show 2 + j = j + 1 + 1 by omega]
  unfold ic
  rw [List.getElem?_cons_succ, List.getElem?_cons_succ, List.getElem?_append_left (by rw [wq_len]; omega)]
  exact hj)
/-- A part of the call, in the run's row. -/
theorem rc_rng {W : World} {r T : Nat} {pl ps : Value} {C : List Value} {h stk : Value} {l nx : Nat} {an : List Value} {t : TypeId} (R : Row W r (rc T pl ps C h stk l nx an) t) (hC : C.length = 48) (o : Nat) (xs : List Value) (hx : ∀ j v, xs[j]? = some v → C[o + j]? = some v) : W.rangeAt r (o + 3) xs := fun j v hj => by
  have h1 := hx j v hj
  have hlt : o + j < 48 := by have := (List.getElem?_eq_some_iff.1 h1).1; omega
  have := R.cell (o + j + 3) v ((rc_low hC (o + j) hlt).trans h1)
  rwa [show o + 3 + j = o + j + 3 by omega]
set_option maxRecDepth 100000 in
set_option maxHeartbeats 4000000 in
theorem do_push (r T gs n : Nat) (pl : Value) (C : List Value) (h av stk : Value) (ss : List Nat) (l nx : Nat) (an : List Value) (ls : List Ins) (ags : List Nat) (I : List Value) (ci pi ai ni : Nat) (hI : I = ic ci pi ai ni) (k0 w0 w : World) (H : Rn k0 w0 w r T gs n pl C h av stk (ss) l nx an ls ags) (hss : ss.length ≤ 900) : Calls Try.prog 19 #[.pointer (some ⟨r, 0, none⟩), .agg I.toArray] w fun e w' => e = .returned (.int .i64 0) ∧ ∃ stk', Rn k0 w0 w' r T gs n pl C h av stk' (ss ++ [ai]) l nx an ls ags := by
  obtain ⟨L, hL⟩ : ∃ L, L = wq ai := ⟨_, rfl⟩
  have HI : Hid ((Try.prog.info? 27).map (·.size) = some L.length) := by show _ = _; rw [hL]; exact info_Wq _
  have HLV : Hid (∀ W, Rn k0 w0 W r T gs n pl C h av stk (ss) l nx an ls ags → Calls Try.prog 49 #[.pointer (some ⟨r, 0, none⟩), .agg L.toArray] W fun e w' => e = .returned (.int .i64 0) ∧ ∃ stk', Rn k0 w0 w' r T gs n pl C h av stk' (ss ++ [ai]) l nx an ls ags) := fun W hW => by rw [hL]; exact leave_any r T gs n pl C h av stk ss l nx an ls ags (ai) k0 w0 W hW (by omega)
  have HIC : Hid (I = ic ci pi ai ni) := hI
  have HL : Hid (L = wq ai) := hL
  have HH : Hid (Rn k0 w0 w r T gs n pl C h av stk (ss) l nx an ls ags) := H
  clear H hss hL hI
  go_enter Try.func19, Try.ntmps19
  go_upto_region 1 with (refine wpList_boxG 77 rfl (.tmp 1) rfl I rfl ?_; intro X1 q1 q2 q3; have R1 : Hid (Row X1 w.heap.size I 77) := q1; have HR : Hid (Rn k0 w0 X1 r T gs n pl C h av stk (ss) l nx an ls ags) := HH.out.keep q2; clear q1 q2 q3; simp only [Act.put, List.setIfInBounds_toArray, List.set_cons_zero, List.set_cons_succ])
  have RG : Hid (X1.rangeAt w.heap.size 2 L) := by rw [HL.out]; exact ic_rng (by rw [← HIC.out]; exact R1.out)
  go_wp2_with (first
    | (refine wpList_load_w rfl 27 (.tmp 6) rfl w.heap.size 2 rfl L _ RG.out Try.underlying27 rfl HI.out ?_; simp only [Act.put, List.setIfInBounds_toArray, List.set_cons_zero, List.set_cons_succ])
    | (go_at_call 49; refine Calls.mono (HLV.out X1 HR.out) ?_; rintro e X9 ⟨rfl, stk', q⟩; have HQ : Hid (Rn k0 w0 X9 r T gs n pl C h av stk' (ss ++ [ai]) l nx an ls ags) := q; clear q))
  go_ret
  exact ⟨rfl, _, HQ.out⟩
set_option maxRecDepth 100000 in
set_option maxHeartbeats 4000000 in
theorem do_amount (r T gs n : Nat) (pl : Value) (C : List Value) (h av stk : Value) (ss : List Nat) (l nx : Nat) (an : List Value) (ls : List Ins) (ags : List Nat) (I : List Value) (x : Nat) (hC : ∀ j v, (wq x)[j]? = some v → C[41 + j]? = some v) (k0 w0 w : World) (H : Rn k0 w0 w r T gs n pl C h av stk (ss) l nx an ls ags) (hss : ss.length ≤ 900) : Calls Try.prog 38 #[.pointer (some ⟨r, 0, none⟩), .agg I.toArray] w fun e w' => e = .returned (.int .i64 0) ∧ ∃ stk', Rn k0 w0 w' r T gs n pl C h av stk' (ss ++ [x]) l nx an ls ags := by
  obtain ⟨L, hL⟩ : ∃ L, L = wq x := ⟨_, rfl⟩
  have HI : Hid ((Try.prog.info? 27).map (·.size) = some L.length) := by show _ = _; rw [hL]; exact info_Wq _
  have HLV : Hid (∀ W, Rn k0 w0 W r T gs n pl C h av stk (ss) l nx an ls ags → Calls Try.prog 49 #[.pointer (some ⟨r, 0, none⟩), .agg L.toArray] W fun e w' => e = .returned (.int .i64 0) ∧ ∃ stk', Rn k0 w0 w' r T gs n pl C h av stk' (ss ++ [x]) l nx an ls ags) := fun W hW => by rw [hL]; exact leave_any r T gs n pl C h av stk ss l nx an ls ags (x) k0 w0 W hW (by omega)
  have HC : Hid (∀ j v, L[j]? = some v → C[41 + j]? = some v) := by rw [hL]; exact hC
  have HH : Hid (Rn k0 w0 w r T gs n pl C h av stk (ss) l nx an ls ags) := H
  clear H hss hL hC
  go_enter Try.func38, Try.ntmps38
  go_upto_region 1 with (refine wpList_boxG 77 rfl (.tmp 1) rfl I rfl ?_; intro X1 q1 q2 q3; have R1 : Hid (Row X1 w.heap.size I 77) := q1; have HR : Hid (Rn k0 w0 X1 r T gs n pl C h av stk (ss) l nx an ls ags) := HH.out.keep q2; clear q1 q2 q3; simp only [Act.put, List.setIfInBounds_toArray, List.set_cons_zero, List.set_cons_succ])
  have RG : Hid (X1.rangeAt r 44 L) := rc_rng HR.out.row HR.out.clen 41 L HC.out
  go_wp2_with (first
    | (refine wpList_load_w rfl 27 (.tmp 9) rfl r 44 rfl L _ RG.out Try.underlying27 rfl HI.out ?_; simp only [Act.put, List.setIfInBounds_toArray, List.set_cons_zero, List.set_cons_succ])
    | (go_at_call 49; refine Calls.mono (HLV.out X1 HR.out) ?_; rintro e X9 ⟨rfl, stk', q⟩; have HQ : Hid (Rn k0 w0 X9 r T gs n pl C h av stk' (ss ++ [x]) l nx an ls ags) := q; clear q))
  go_ret
  exact ⟨rfl, _, HQ.out⟩
set_option maxRecDepth 100000 in
set_option maxHeartbeats 4000000 in
theorem do_self (r T gs n : Nat) (pl : Value) (C : List Value) (h av stk : Value) (ss : List Nat) (l nx : Nat) (an : List Value) (ls : List Ins) (ags : List Nat) (I : List Value) (d : List (BitVec 8)) (hd : d.length = 20) (hC : ∀ j v, (vB d)[j]? = some v → C[0 + j]? = some v) (k0 w0 w : World) (H : Rn k0 w0 w r T gs n pl C h av stk (ss) l nx an ls ags) (hss : ss.length ≤ 900) : Calls Try.prog 36 #[.pointer (some ⟨r, 0, none⟩), .agg I.toArray] w fun e w' => e = .returned (.int .i64 0) ∧ ∃ stk', Rn k0 w0 w' r T gs n pl C h av stk' (ss ++ [nb d]) l nx an ls ags := by
  obtain ⟨L, hL⟩ : ∃ L, L = wq (nb d) := ⟨_, rfl⟩
  have HLV : Hid (∀ W, Rn k0 w0 W r T gs n pl C h av stk (ss) l nx an ls ags → Calls Try.prog 49 #[.pointer (some ⟨r, 0, none⟩), .agg L.toArray] W fun e w' => e = .returned (.int .i64 0) ∧ ∃ stk', Rn k0 w0 w' r T gs n pl C h av stk' (ss ++ [nb d]) l nx an ls ags) := fun W hW => by rw [hL]; exact leave_any r T gs n pl C h av stk ss l nx an ls ags (nb d) k0 w0 W hW (by omega)
  have HNO : Hid (∀ W, W.rangeAt r 3 (vB d) → Calls Try.prog 61 #[.slice (some ⟨r, 3, none⟩) 20 20] W fun e w' => e = .returned (.agg L.toArray) ∧ Below W.heap.size W w') := fun W hW => by rw [hL]; exact numberOf_any r 3 20 20 d hd (by decide) (by decide) W hW
  have HC : Hid (∀ j v, (vB d)[j]? = some v → C[0 + j]? = some v) := hC
  have HH : Hid (Rn k0 w0 w r T gs n pl C h av stk (ss) l nx an ls ags) := H
  clear H hss hL hC hd
  go_enter Try.func36, Try.ntmps36
  go_upto_region 1 with (refine wpList_boxG 77 rfl (.tmp 1) rfl I rfl ?_; intro X1 q1 q2 q3; have R1 : Hid (Row X1 w.heap.size I 77) := q1; have HR : Hid (Rn k0 w0 X1 r T gs n pl C h av stk (ss) l nx an ls ags) := HH.out.keep q2; clear q1 q2 q3; simp only [Act.put, List.setIfInBounds_toArray, List.set_cons_zero, List.set_cons_succ])
  have RG : Hid (X1.rangeAt r 3 (vB d)) := rc_rng HR.out.row HR.out.clen 0 (vB d) HC.out
  go_wp2_with (first
    | (refine wpList_slice_arr0 rfl 24 (.tmp 9) rfl _ 20 r 3 rfl Try.underlying24 (by kernel_rfl) ?_; simp only [Act.put, List.setIfInBounds_toArray, List.set_cons_zero, List.set_cons_succ])
    | (go_at_call 61; refine Calls.mono (HNO.out X1 RG.out) ?_; rintro e X2 ⟨rfl, q⟩; have HR2 : Hid (Rn k0 w0 X2 r T gs n pl C h av stk (ss) l nx an ls ags) := HR.out.keep q; clear q)
    | (go_at_call 49; refine Calls.mono (HLV.out X2 HR2.out) ?_; rintro e X9 ⟨rfl, stk', q⟩; have HQ : Hid (Rn k0 w0 X9 r T gs n pl C h av stk' (ss ++ [nb d]) l nx an ls ags) := q; clear q))
  go_ret
  exact ⟨rfl, _, HQ.out⟩
set_option maxRecDepth 100000 in
set_option maxHeartbeats 4000000 in
theorem do_caller (r T gs n : Nat) (pl : Value) (C : List Value) (h av stk : Value) (ss : List Nat) (l nx : Nat) (an : List Value) (ls : List Ins) (ags : List Nat) (I : List Value) (d : List (BitVec 8)) (hd : d.length = 20) (hC : ∀ j v, (vB d)[j]? = some v → C[20 + j]? = some v) (k0 w0 w : World) (H : Rn k0 w0 w r T gs n pl C h av stk (ss) l nx an ls ags) (hss : ss.length ≤ 900) : Calls Try.prog 35 #[.pointer (some ⟨r, 0, none⟩), .agg I.toArray] w fun e w' => e = .returned (.int .i64 0) ∧ ∃ stk', Rn k0 w0 w' r T gs n pl C h av stk' (ss ++ [nb d]) l nx an ls ags := by
  obtain ⟨L, hL⟩ : ∃ L, L = wq (nb d) := ⟨_, rfl⟩
  have HLV : Hid (∀ W, Rn k0 w0 W r T gs n pl C h av stk (ss) l nx an ls ags → Calls Try.prog 49 #[.pointer (some ⟨r, 0, none⟩), .agg L.toArray] W fun e w' => e = .returned (.int .i64 0) ∧ ∃ stk', Rn k0 w0 w' r T gs n pl C h av stk' (ss ++ [nb d]) l nx an ls ags) := fun W hW => by rw [hL]; exact leave_any r T gs n pl C h av stk ss l nx an ls ags (nb d) k0 w0 W hW (by omega)
  have HNO : Hid (∀ W, W.rangeAt r 23 (vB d) → Calls Try.prog 61 #[.slice (some ⟨r, 23, none⟩) 20 20] W fun e w' => e = .returned (.agg L.toArray) ∧ Below W.heap.size W w') := fun W hW => by rw [hL]; exact numberOf_any r 23 20 20 d hd (by decide) (by decide) W hW
  have HC : Hid (∀ j v, (vB d)[j]? = some v → C[20 + j]? = some v) := hC
  have HH : Hid (Rn k0 w0 w r T gs n pl C h av stk (ss) l nx an ls ags) := H
  clear H hss hL hC hd
  go_enter Try.func35, Try.ntmps35
  go_upto_region 1 with (refine wpList_boxG 77 rfl (.tmp 1) rfl I rfl ?_; intro X1 q1 q2 q3; have R1 : Hid (Row X1 w.heap.size I 77) := q1; have HR : Hid (Rn k0 w0 X1 r T gs n pl C h av stk (ss) l nx an ls ags) := HH.out.keep q2; clear q1 q2 q3; simp only [Act.put, List.setIfInBounds_toArray, List.set_cons_zero, List.set_cons_succ])
  have RG : Hid (X1.rangeAt r 23 (vB d)) := rc_rng HR.out.row HR.out.clen 20 (vB d) HC.out
  go_wp2_with (first
    | (refine wpList_slice_arr0 rfl 24 (.tmp 9) rfl _ 20 r 23 rfl Try.underlying24 (by kernel_rfl) ?_; simp only [Act.put, List.setIfInBounds_toArray, List.set_cons_zero, List.set_cons_succ])
    | (go_at_call 61; refine Calls.mono (HNO.out X1 RG.out) ?_; rintro e X2 ⟨rfl, q⟩; have HR2 : Hid (Rn k0 w0 X2 r T gs n pl C h av stk (ss) l nx an ls ags) := HR.out.keep q; clear q)
    | (go_at_call 49; refine Calls.mono (HLV.out X2 HR2.out) ?_; rintro e X9 ⟨rfl, stk', q⟩; have HQ : Hid (Rn k0 w0 X9 r T gs n pl C h av stk' (ss ++ [nb d]) l nx an ls ags) := q; clear q))
  go_ret
  exact ⟨rfl, _, HQ.out⟩

end Go.Proofs.Ytabcglakdlkdcaa
