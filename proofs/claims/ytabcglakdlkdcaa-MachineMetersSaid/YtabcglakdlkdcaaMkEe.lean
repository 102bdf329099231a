/-
  goTo, jump, when.
-/
import Derived.Test.YtabcglakdlkdcaaMkEa
namespace Go.Proofs.Ytabcglakdlkdcaa
open Go Go.RowKit
open Sha
open Wd
set_option maxRecDepth 100000 in
set_option maxHeartbeats 4000000 in
theorem goTo_any (r T gs n : Nat) (pl : Value) (C : List Value) (h av stk : Value) (ss : List Nat) (l nx : Nat) (an : List Value) (ls : List Ins) (ags : List Nat) (pc m : Nat) (hp : pc < n) (hm : stf ls pc = m + 1) (hml : m ≤ 100000) (k0 w0 w : World) (H : Rn k0 w0 w r T gs n pl C h av stk (ss) l nx an ls ags) : Calls Try.prog 59 #[.pointer (some ⟨r, 0, none⟩), .int .i64 (pc : Int)] w fun e w' => e = .returned (.int .i64 0) ∧ Rn k0 w0 w' r T gs n pl C h av stk (ss) l m an ls ags := by
  have HH : Hid (Rn k0 w0 w r T gs n pl C h av stk ss l nx an ls ags) := H
  have c2 : w.cell? ⟨r, 2, none⟩ = some (.slice (some ⟨gs, 0, none⟩) n n) := H.row.cell 2 _ rfl
  have c3 : w.cell? ⟨gs, pc, none⟩ = some (.int .i64 ((m + 1 : Nat) : Int)) := H.sta.cell pc _ (by
    unfold vI sts
    rw [List.map_map, List.getElem?_map, List.getElem?_range hp]
    simp [hm])
  obtain ⟨m1, hm1⟩ : ∃ m1, m1 = m + 1 := ⟨_, rfl⟩
  rw [← hm1] at c3
  have e1 : (m1 : Int) - 1 = (m : Int) := by omega
  have HL54 : Hid (54 < (rc T pl (.slice (some ⟨gs, 0, none⟩) n n) C h stk l nx an).length) := by show _ < _; rw [rc_len H.clen H.alen]; decide
  have hm1l : m1 ≤ 100001 := by omega
  clear H hm hm1
  go_enter Try.func59, Try.ntmps59
  go_upto_region 2 with (refine wpList_set1 rfl 3 (.tmp 16) (.tmp 14) rfl r 54 (.int .i64 (m : Int)) (rc T pl (.slice (some ⟨gs, 0, none⟩) n n) C h stk l nx an) 70 rfl rfl rfl HH.out.row HL54.out info_int1 rfl ?_; intro Z2 q1 q2 q3; have RZ2 : Hid (Row Z2 r ((rc T pl (.slice (some ⟨gs, 0, none⟩) n n) C h stk l nx an).set 54 (.int .i64 (m : Int))) 70) := q1; have GZ : Hid (Gro (· = r) w Z2) := q2; clear q1 q2 q3; simp only [Act.put])
  clear c2 c3
  go_wp2_with fail
  go_ret
  refine ⟨rfl, HH.out.over GZ.out HH.out.alen ?_⟩
  have q := RZ2.out
  rw [rc_set54 HH.out.clen] at q
  exact q
set_option maxRecDepth 100000 in
set_option maxHeartbeats 4000000 in
theorem do_jump (r T gs n : Nat) (pl : Value) (C : List Value) (h av stk : Value) (ss : List Nat) (l nx : Nat) (an : List Value) (ls : List Ins) (ags : List Nat) (I : List Value) (ci pi ai ni m : Nat) (hI : I = ic ci pi ai ni) (hp : ni < n) (hm : stf ls ni = m + 1) (hml : m ≤ 100000) (k0 w0 w : World) (H : Rn k0 w0 w r T gs n pl C h av stk (ss) l nx an ls ags) : Calls Try.prog 31 #[.pointer (some ⟨r, 0, none⟩), .agg I.toArray] w fun e w' => e = .returned (.int .i64 0) ∧ ∃ stk', Rn k0 w0 w' r T gs n pl C h av stk' (ss) l m an ls ags := by
  have HGT : Hid (∀ stk' W, Rn k0 w0 W r T gs n pl C h av stk' (ss) l nx an ls ags → Calls Try.prog 59 #[.pointer (some ⟨r, 0, none⟩), .int .i64 (ni : Int)] W fun e w' => e = .returned (.int .i64 0) ∧ Rn k0 w0 w' r T gs n pl C h av stk' (ss) l m an ls ags) := fun stk' W hW => goTo_any r T gs n pl C h av stk' ss l nx an ls ags ni m hp hm hml k0 w0 W hW
  have HIC : Hid (I = ic ci pi ai ni) := hI
  have HH : Hid (Rn k0 w0 w r T gs n pl C h av stk (ss) l nx an ls ags) := H
  clear H hI hp hm hml
  go_enter Try.func31, Try.ntmps31
  go_upto_region 1 with (refine wpList_boxG 77 rfl (.tmp 1) rfl I rfl ?_; intro X1 q1 q2 q3; have R1 : Hid (Row X1 w.heap.size I 77) := q1; have HR : Hid (Rn k0 w0 X1 r T gs n pl C h av stk (ss) l nx an ls ags) := HH.out.keep q2; clear q1 q2 q3; simp only [Act.put, List.setIfInBounds_toArray, List.set_cons_zero, List.set_cons_succ])
  have c6 : X1.cell? ⟨w.heap.size, 6, none⟩ = some (.int .i64 (ni : Int)) := R1.out.cell 6 _ (by rw [HIC.out]; exact ic_6 _ _ _ _)
  go_wp2_with (go_at_call 59; refine Calls.mono (HGT.out stk X1 HR.out) ?_; rintro e X9 ⟨rfl, q⟩; have HQ : Hid (Rn k0 w0 X9 r T gs n pl C h av stk (ss) l m an ls ags) := q; clear q)
  go_ret
  exact ⟨rfl, _, HQ.out⟩
set_option maxRecDepth 100000 in
set_option maxHeartbeats 4000000 in
theorem do_when0 (r T gs n : Nat) (pl : Value) (C : List Value) (h av stk : Value) (ss : List Nat) (l nx : Nat) (an : List Value) (ls : List Ins) (ags : List Nat) (I : List Value) (x : Nat) (hx : x < 2 ^ 256) (hx0 : x = 0) (k0 w0 w : World) (H : Rn k0 w0 w r T gs n pl C h av stk (ss ++ [x]) l nx an ls ags) (hss : ss.length ≤ 900) : Calls Try.prog 32 #[.pointer (some ⟨r, 0, none⟩), .agg I.toArray] w fun e w' => e = .returned (.int .i64 0) ∧ ∃ stk', Rn k0 w0 w' r T gs n pl C h av stk' (ss) l nx an ls ags := by
  obtain ⟨L, hL⟩ : ∃ L, L = wq x := ⟨_, rfl⟩
  have HTK : Hid (∀ W, Rn k0 w0 W r T gs n pl C h av stk (ss ++ [x]) l nx an ls ags → Calls Try.prog 48 #[.pointer (some ⟨r, 0, none⟩)] W fun e w' => e = .returned (.agg L.toArray) ∧ (∀ {b : Nat} {cs : List Value} {t : TypeId}, Row W b cs t → b ≠ r → Row w' b cs t) ∧ ∃ stk', Rn k0 w0 w' r T gs n pl C h av stk' ss l nx an ls ags) := fun W hW => by
    rw [hL]
    refine Calls.mono (take_any r T gs n pl C h av stk ss l nx an ls ags x k0 w0 W hW (by omega)) ?_
    rintro e w' ⟨q1, _, q2, stk2, _, q⟩
    exact ⟨q1, q2, stk2, q⟩
  have HOP : Hid (∀ W, Calls Try.prog 58 #[.agg L.toArray] W fun e w' => e = .returned (.bool true) ∧ Below W.heap.size W w') := fun W => by rw [hL, show true = decide (x = 0) by simp [hx0]]; exact isZero_any x hx W
  have HH : Hid (Rn k0 w0 w r T gs n pl C h av stk (ss ++ [x]) l nx an ls ags) := H
  clear H hss hL hx hx0
  go_enter Try.func32, Try.ntmps32
  go_wp2_with (first
    | (refine wpList_boxG 77 rfl (.tmp 1) rfl I rfl ?_; intro X1 q1 q2 q3; have R1 : Hid (Row X1 w.heap.size I 77) := q1; have HR : Hid (Rn k0 w0 X1 r T gs n pl C h av stk (ss ++ [x]) l nx an ls ags) := HH.out.keep q2; clear q1 q2 q3; simp only [Act.put, List.setIfInBounds_toArray, List.set_cons_zero, List.set_cons_succ])
    | (go_at_call 48; refine Calls.mono (HTK.out X1 HR.out) ?_; rintro e X2 ⟨rfl, qr, stk2, q⟩; have HR2 : Hid (Rn k0 w0 X2 r T gs n pl C h av stk2 ss l nx an ls ags) := q; have R2 : Hid (Row X2 w.heap.size I 77) := qr R1.out (row_ne2 R1.out HR.out.row (by decide)); clear q qr)
    | (go_at_call 58; refine Calls.mono (HOP.out X2) ?_; rintro e X3 ⟨rfl, q⟩; have HR3 : Hid (Rn k0 w0 X3 r T gs n pl C h av stk2 ss l nx an ls ags) := HR2.out.keep q; have R3 : Hid (Row X3 w.heap.size I 77) := Row.below R2.out q R2.out.lt; clear q))
  go_ret
  exact ⟨rfl, _, HR3.out⟩
set_option maxRecDepth 100000 in
set_option maxHeartbeats 4000000 in
theorem do_when1 (r T gs n : Nat) (pl : Value) (C : List Value) (h av stk : Value) (ss : List Nat) (l nx : Nat) (an : List Value) (ls : List Ins) (ags : List Nat) (I : List Value) (x : Nat) (hx : x < 2 ^ 256) (hx0 : ¬ x = 0) (ci pi ai ni m : Nat) (hI : I = ic ci pi ai ni) (hp : ni < n) (hm : stf ls ni = m + 1) (hml : m ≤ 100000) (k0 w0 w : World) (H : Rn k0 w0 w r T gs n pl C h av stk (ss ++ [x]) l nx an ls ags) (hss : ss.length ≤ 900) : Calls Try.prog 32 #[.pointer (some ⟨r, 0, none⟩), .agg I.toArray] w fun e w' => e = .returned (.int .i64 0) ∧ ∃ stk', Rn k0 w0 w' r T gs n pl C h av stk' (ss) l m an ls ags := by
  obtain ⟨L, hL⟩ : ∃ L, L = wq x := ⟨_, rfl⟩
  have HTK : Hid (∀ W, Rn k0 w0 W r T gs n pl C h av stk (ss ++ [x]) l nx an ls ags → Calls Try.prog 48 #[.pointer (some ⟨r, 0, none⟩)] W fun e w' => e = .returned (.agg L.toArray) ∧ (∀ {b : Nat} {cs : List Value} {t : TypeId}, Row W b cs t → b ≠ r → Row w' b cs t) ∧ ∃ stk', Rn k0 w0 w' r T gs n pl C h av stk' ss l nx an ls ags) := fun W hW => by
    rw [hL]
    refine Calls.mono (take_any r T gs n pl C h av stk ss l nx an ls ags x k0 w0 W hW (by omega)) ?_
    rintro e w' ⟨q1, _, q2, stk2, _, q⟩
    exact ⟨q1, q2, stk2, q⟩
  have HOP : Hid (∀ W, Calls Try.prog 58 #[.agg L.toArray] W fun e w' => e = .returned (.bool false) ∧ Below W.heap.size W w') := fun W => by rw [hL, show false = decide (x = 0) by simp [hx0]]; exact isZero_any x hx W
  have HGT : Hid (∀ stk' W, Rn k0 w0 W r T gs n pl C h av stk' (ss) l nx an ls ags → Calls Try.prog 59 #[.pointer (some ⟨r, 0, none⟩), .int .i64 (ni : Int)] W fun e w' => e = .returned (.int .i64 0) ∧ Rn k0 w0 w' r T gs n pl C h av stk' (ss) l m an ls ags) := fun stk' W hW => goTo_any r T gs n pl C h av stk' ss l nx an ls ags ni m hp hm hml k0 w0 W hW
  have HIC : Hid (I = ic ci pi ai ni) := hI
  have HH : Hid (Rn k0 w0 w r T gs n pl C h av stk (ss ++ [x]) l nx an ls ags) := H
  clear H hss hL hx hx0 hI hp hm hml
  go_enter Try.func32, Try.ntmps32
  go_upto_region 3 with (first
    | (refine wpList_boxG 77 rfl (.tmp 1) rfl I rfl ?_; intro X1 q1 q2 q3; have R1 : Hid (Row X1 w.heap.size I 77) := q1; have HR : Hid (Rn k0 w0 X1 r T gs n pl C h av stk (ss ++ [x]) l nx an ls ags) := HH.out.keep q2; clear q1 q2 q3; simp only [Act.put, List.setIfInBounds_toArray, List.set_cons_zero, List.set_cons_succ])
    | (go_at_call 48; refine Calls.mono (HTK.out X1 HR.out) ?_; rintro e X2 ⟨rfl, qr, stk2, q⟩; have HR2 : Hid (Rn k0 w0 X2 r T gs n pl C h av stk2 ss l nx an ls ags) := q; have R2 : Hid (Row X2 w.heap.size I 77) := qr R1.out (row_ne2 R1.out HR.out.row (by decide)); clear q qr)
    | (go_at_call 58; refine Calls.mono (HOP.out X2) ?_; rintro e X3 ⟨rfl, q⟩; have HR3 : Hid (Rn k0 w0 X3 r T gs n pl C h av stk2 ss l nx an ls ags) := HR2.out.keep q; have R3 : Hid (Row X3 w.heap.size I 77) := Row.below R2.out q R2.out.lt; clear q))
  have c6 : X3.cell? ⟨w.heap.size, 6, none⟩ = some (.int .i64 (ni : Int)) := R3.out.cell 6 _ (by rw [HIC.out]; exact ic_6 _ _ _ _)
  go_wp2_with (go_at_call 59; refine Calls.mono (HGT.out stk2 X3 HR3.out) ?_; rintro e X9 ⟨rfl, q⟩; have HQ : Hid (Rn k0 w0 X9 r T gs n pl C h av stk2 (ss) l m an ls ags) := q; clear q)
  go_ret
  exact ⟨rfl, _, HQ.out⟩

end Go.Proofs.Ytabcglakdlkdcaa
