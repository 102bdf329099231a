/-
  load.
-/
import Derived.Test.YtabcglakdlkdcaaMkEa

namespace Go.Proofs.Ytabcglakdlkdcaa
open Go Go.RowKit
open Sha
open Wd
set_option maxRecDepth 100000 in
set_option maxHeartbeats 4000000 in
theorem told_ok (r T gs n : Nat) (pl : Value) (C : List Value) (h av stk : Value) (ss : List Nat) (l nx : Nat) (an : List Value) (ls : List Ins) (ags : List Nat) (x : Nat) (k0 w0 w : World) (H : Rn k0 w0 w r T gs n pl C h av stk ss l nx an ls ags) (hss : ss.length ≤ 1000) : Calls Try.prog 62 #[.pointer (some ⟨r, 0, none⟩), .agg (wq x).toArray, .int .i64 0] w fun e w' => e = .returned (.int .i64 0) ∧ ∃ stk', Rn k0 w0 w' r T gs n pl C h av stk' (ss ++ [x]) l nx an ls ags := by
  obtain ⟨L, hL⟩ : ∃ L, L = wq x := ⟨_, rfl⟩
  have HI : Hid ((Try.prog.info? 27).map (·.size) = some L.length) := by show _ = _; rw [hL]; exact info_Wq _
  have HLV : Hid (∀ W, Rn k0 w0 W r T gs n pl C h av stk ss l nx an ls ags → Calls Try.prog 49 #[.pointer (some ⟨r, 0, none⟩), .agg L.toArray] W fun e w' => e = .returned (.int .i64 0) ∧ ∃ stk', Rn k0 w0 w' r T gs n pl C h av stk' (ss ++ [x]) l nx an ls ags) := fun W hW => by rw [hL]; exact leave_any r T gs n pl C h av stk ss l nx an ls ags x k0 w0 W hW hss
  have HH : Hid (Rn k0 w0 w r T gs n pl C h av stk ss l nx an ls ags) := H
  rw [← hL]
  clear H hss hL
  go_enter Try.func62, Try.ntmps62
  go_wp2_with (first
    | (refine wpList_boxG 27 rfl (.tmp 1) rfl L rfl ?_; intro X q1 q2 q3; have R1 : Hid (Row X w.heap.size L 27) := q1; have HR : Hid (Rn k0 w0 X r T gs n pl C h av stk ss l nx an ls ags) := HH.out.keep q2; clear q1 q2 q3; simp only [Act.put, List.setIfInBounds_toArray, List.set_cons_zero, List.set_cons_succ])
    | (refine wpList_load_w rfl 27 (.tmp 4) rfl w.heap.size 0 rfl L _ R1.out.all Try.underlying27 rfl HI.out ?_; simp only [Act.put, List.setIfInBounds_toArray, List.set_cons_zero, List.set_cons_succ])
    | (go_at_call 49; refine Calls.mono (HLV.out X HR.out) ?_; rintro e Y ⟨rfl, stk', q⟩; have HQ : Hid (Rn k0 w0 Y r T gs n pl C h av stk' (ss ++ [x]) l nx an ls ags) := q; clear q))
  go_ret
  exact ⟨rfl, _, HQ.out⟩
set_option maxRecDepth 100000 in
set_option maxHeartbeats 4000000 in
theorem told_no (r T gs n : Nat) (pl : Value) (C : List Value) (h av stk : Value) (ss : List Nat) (l nx : Nat) (an : List Value) (ls : List Ins) (ags : List Nat) (x : Nat) (E : Int) (hE : (E != 0) = true) (k0 w0 w : World) (H : Rn k0 w0 w r T gs n pl C h av stk ss l nx an ls ags) : Calls Try.prog 62 #[.pointer (some ⟨r, 0, none⟩), .agg (wq x).toArray, .int .i64 E] w fun e w' => e = .returned (.int .i64 E) ∧ Rn k0 w0 w' r T gs n pl C h av stk ss l nx an ls ags := by
  obtain ⟨L, hL⟩ : ∃ L, L = wq x := ⟨_, rfl⟩
  have HH : Hid (Rn k0 w0 w r T gs n pl C h av stk ss l nx an ls ags) := H
  rw [← hL]
  clear H hL
  go_enter Try.func62, Try.ntmps62
  go_wp2_with (refine wpList_boxG 27 rfl (.tmp 1) rfl L rfl ?_; intro X q1 q2 q3; have HR : Hid (Rn k0 w0 X r T gs n pl C h av stk ss l nx an ls ags) := HH.out.keep q2; clear q1 q2 q3; simp only [Act.put, List.setIfInBounds_toArray, List.set_cons_zero, List.set_cons_succ])
  go_ret
  exact ⟨rfl, HR.out⟩
theorem cmp_ge (x : Nat) : (0 : Int) ≤ cmpR x 64 ↔ ¬ x < 64 := by
  unfold cmpR
  by_cases h : x = 64
  · rw [if_pos h]; omega
  · rw [if_neg h]
    by_cases h2 : x < 64
    · rw [if_pos h2]; simp [h2]
    · rw [if_neg h2]; simp [h2]
set_option maxRecDepth 100000 in
set_option maxHeartbeats 4000000 in
theorem token_in (x : Nat) (hx : x < 2 ^ 256) (h6 : x < 64) (w : World) : Calls Try.prog 63 #[.agg (wq x).toArray] w fun e w' => e = .returned (.tuple #[.int .i64 (x : Int), .bool true]) ∧ Below w.heap.size w w' := by
  obtain ⟨x0, hx0⟩ : ∃ a, a = ((lim x 0 : Nat) : Int) := ⟨_, rfl⟩
  obtain ⟨x1, hx1⟩ : ∃ a, a = ((lim x 1 : Nat) : Int) := ⟨_, rfl⟩
  obtain ⟨x2, hx2⟩ : ∃ a, a = ((lim x 2 : Nat) : Int) := ⟨_, rfl⟩
  obtain ⟨x3, hx3⟩ : ∃ a, a = ((lim x 3 : Nat) : Int) := ⟨_, rfl⟩
  have hX : wq x = [.int .u64 x0, .int .u64 x1, .int .u64 x2, .int .u64 x3] := by rw [wq_cells, hx0, hx1, hx2, hx3]
  obtain ⟨L6, hL6⟩ : ∃ L, L = wq 64 := ⟨_, rfl⟩
  obtain ⟨cm, hcmd⟩ : ∃ cm, cm = cmpR x 64 := ⟨_, rfl⟩
  have hcm : ¬ (0 : Int) ≤ cm := by rw [hcmd, cmp_ge]; omega
  have hl0 : x0 = (x : Int) := by rw [hx0]; unfold lim; omega
  have hl1 : (x : Int) < 64 := by omega
  have HOF : Hid (∀ W, Calls Try.prog 75 #[.int .u64 64] W fun e w' => e = .returned (.agg L6.toArray) ∧ Below W.heap.size W w') := fun W => by rw [hL6]; exact of_w 64 (by decide) W
  have HCM : Hid (∀ W, Calls Try.prog 57 #[.agg #[.int .u64 x0, .int .u64 x1, .int .u64 x2, .int .u64 x3], .agg L6.toArray] W fun e w' => e = .returned (.int .i64 cm) ∧ Below W.heap.size W w') := fun W => by
    have q := cmp_any x 64 hx (by decide) W
    rw [hL6, hcmd]
    rw [show vQ (dgs x 4) = [.int .u64 x0, .int .u64 x1, .int .u64 x2, .int .u64 x3] from hX] at q
    exact q
  rw [hX]
  clear hx hX hcmd hL6 hx0 hx1 hx2 hx3 h6
  go_enter Try.func63, Try.ntmps63
  go_upto_region 1 with (refine wpList_boxG 27 rfl (.tmp 0) rfl [.int .u64 x0, .int .u64 x1, .int .u64 x2, .int .u64 x3] rfl ?_; intro X1 q1 q2 q3; have R1 : Hid (Row X1 w.heap.size [.int .u64 x0, .int .u64 x1, .int .u64 x2, .int .u64 x3] 27) := q1; have B1 : Hid (Below w.heap.size w X1) := q2; clear q1 q2 q3; simp only [Act.put, List.setIfInBounds_toArray, List.set_cons_zero, List.set_cons_succ])
  obtain ⟨b1, hb1⟩ : ∃ b, b = w.heap.size := ⟨_, rfl⟩
  rw [← hb1] at R1
  rw [← hb1]
  have HB1 : Hid (b1 = w.heap.size) := hb1
  clear hb1
  have a0 := R1.out.cell 0 _ rfl
  have a1 := R1.out.cell 1 _ rfl
  have a2 := R1.out.cell 2 _ rfl
  have a3 := R1.out.cell 3 _ rfl
  go_region_law (first
    | (refine stp_fn rfl 75 rfl #[.int .u64 64] (by go_simp) (Calls.mono (HOF.out _) ?_); rintro e X2 ⟨rfl, q⟩; refine ⟨_, rfl, ?_⟩; have B2 : Hid (Below X1.heap.size X1 X2) := (below_drewN (Below.refl _ _) 1).trans q; have r2 : Row X2 b1 [.int .u64 x0, .int .u64 x1, .int .u64 x2, .int .u64 x3] 27 := Row.below R1.out B2.out R1.out.lt; have c0 := r2.cell 0 _ rfl; have c1 := r2.cell 1 _ rfl; have c2 := r2.cell 2 _ rfl; have c3 := r2.cell 3 _ rfl; have R2 : Hid (Row X2 b1 [.int .u64 x0, .int .u64 x1, .int .u64 x2, .int .u64 x3] 27) := r2; clear q r2)
    | (refine stp_fn rfl 57 rfl #[.agg #[.int .u64 x0, .int .u64 x1, .int .u64 x2, .int .u64 x3], .agg L6.toArray] (by go_simp) (Calls.mono (HCM.out X2) ?_); rintro e X3 ⟨rfl, q⟩; refine ⟨_, rfl, ?_⟩; have B3 : Hid (Below X2.heap.size X2 X3) := q; clear q))
  all_goals
    have R3 : Row X3 b1 [.int .u64 x0, .int .u64 x1, .int .u64 x2, .int .u64 x3] 27 := Row.below R2.out B3.out R2.out.lt
    have d0 := R3.cell 0 _ rfl
    have BB : Hid (Below w.heap.size w X3) := (B1.out.trans (B2.out.mono B1.out.size)).trans (B3.out.mono (Nat.le_trans B1.out.size B2.out.size))
    clear a0 a1 a2 a3 c0 c1 c2 c3 R3
    go_wp2
    go_ret2
    exact ⟨rfl, BB.out⟩
set_option maxRecDepth 100000 in
set_option maxHeartbeats 4000000 in
theorem token_no (x : Nat) (hx : x < 2 ^ 256) (h6 : ¬ x < 64) (w : World) : Calls Try.prog 63 #[.agg (wq x).toArray] w fun e w' => e = .returned (.tuple #[.int .i64 0, .bool false]) ∧ Below w.heap.size w w' := by
  obtain ⟨x0, hx0⟩ : ∃ a, a = ((lim x 0 : Nat) : Int) := ⟨_, rfl⟩
  obtain ⟨x1, hx1⟩ : ∃ a, a = ((lim x 1 : Nat) : Int) := ⟨_, rfl⟩
  obtain ⟨x2, hx2⟩ : ∃ a, a = ((lim x 2 : Nat) : Int) := ⟨_, rfl⟩
  obtain ⟨x3, hx3⟩ : ∃ a, a = ((lim x 3 : Nat) : Int) := ⟨_, rfl⟩
  have hX : wq x = [.int .u64 x0, .int .u64 x1, .int .u64 x2, .int .u64 x3] := by rw [wq_cells, hx0, hx1, hx2, hx3]
  obtain ⟨L6, hL6⟩ : ∃ L, L = wq 64 := ⟨_, rfl⟩
  obtain ⟨cm, hcmd⟩ : ∃ cm, cm = cmpR x 64 := ⟨_, rfl⟩
  have hcm : (0 : Int) ≤ cm := by rw [hcmd, cmp_ge]; exact h6
  have HOF : Hid (∀ W, Calls Try.prog 75 #[.int .u64 64] W fun e w' => e = .returned (.agg L6.toArray) ∧ Below W.heap.size W w') := fun W => by rw [hL6]; exact of_w 64 (by decide) W
  have HCM : Hid (∀ W, Calls Try.prog 57 #[.agg #[.int .u64 x0, .int .u64 x1, .int .u64 x2, .int .u64 x3], .agg L6.toArray] W fun e w' => e = .returned (.int .i64 cm) ∧ Below W.heap.size W w') := fun W => by
    have q := cmp_any x 64 hx (by decide) W
    rw [hL6, hcmd]
    rw [show vQ (dgs x 4) = [.int .u64 x0, .int .u64 x1, .int .u64 x2, .int .u64 x3] from hX] at q
    exact q
  rw [hX]
  clear hx hX hcmd hL6 hx0 hx1 hx2 hx3 h6
  go_enter Try.func63, Try.ntmps63
  go_upto_region 1 with (refine wpList_boxG 27 rfl (.tmp 0) rfl [.int .u64 x0, .int .u64 x1, .int .u64 x2, .int .u64 x3] rfl ?_; intro X1 q1 q2 q3; have R1 : Hid (Row X1 w.heap.size [.int .u64 x0, .int .u64 x1, .int .u64 x2, .int .u64 x3] 27) := q1; have B1 : Hid (Below w.heap.size w X1) := q2; clear q1 q2 q3; simp only [Act.put, List.setIfInBounds_toArray, List.set_cons_zero, List.set_cons_succ])
  obtain ⟨b1, hb1⟩ : ∃ b, b = w.heap.size := ⟨_, rfl⟩
  rw [← hb1] at R1
  rw [← hb1]
  have HB1 : Hid (b1 = w.heap.size) := hb1
  clear hb1
  have a0 := R1.out.cell 0 _ rfl
  have a1 := R1.out.cell 1 _ rfl
  have a2 := R1.out.cell 2 _ rfl
  have a3 := R1.out.cell 3 _ rfl
  go_region_law (first
    | (refine stp_fn rfl 75 rfl #[.int .u64 64] (by go_simp) (Calls.mono (HOF.out _) ?_); rintro e X2 ⟨rfl, q⟩; refine ⟨_, rfl, ?_⟩; have B2 : Hid (Below X1.heap.size X1 X2) := (below_drewN (Below.refl _ _) 1).trans q; have r2 : Row X2 b1 [.int .u64 x0, .int .u64 x1, .int .u64 x2, .int .u64 x3] 27 := Row.below R1.out B2.out R1.out.lt; have c0 := r2.cell 0 _ rfl; have c1 := r2.cell 1 _ rfl; have c2 := r2.cell 2 _ rfl; have c3 := r2.cell 3 _ rfl; have R2 : Hid (Row X2 b1 [.int .u64 x0, .int .u64 x1, .int .u64 x2, .int .u64 x3] 27) := r2; clear q r2)
    | (refine stp_fn rfl 57 rfl #[.agg #[.int .u64 x0, .int .u64 x1, .int .u64 x2, .int .u64 x3], .agg L6.toArray] (by go_simp) (Calls.mono (HCM.out X2) ?_); rintro e X3 ⟨rfl, q⟩; refine ⟨_, rfl, ?_⟩; have B3 : Hid (Below X2.heap.size X2 X3) := q; clear q))
  all_goals
    have R3 : Row X3 b1 [.int .u64 x0, .int .u64 x1, .int .u64 x2, .int .u64 x3] 27 := Row.below R2.out B3.out R2.out.lt
    have d0 := R3.cell 0 _ rfl
    have BB : Hid (Below w.heap.size w X3) := (B1.out.trans (B2.out.mono B1.out.size)).trans (B3.out.mono (Nat.le_trans B1.out.size B2.out.size))
    clear a0 a1 a2 a3 c0 c1 c2 c3 R3
    go_wp2
    go_ret2
    exact ⟨rfl, BB.out⟩

end Go.Proofs.Ytabcglakdlkdcaa

namespace Go.Proofs.Ytabcglakdlkdcaa
open Go Go.RowKit
open Sha
open Wd

theorem stp_iv {P : Program} {ops : Array Oper} {o : Oper} {a : Act} {w : World} {K : Act → World → Prop} {Q : Exit → Act → World → Prop} {E : Prop} (hg : o.guard = none) (f : FuncId) {x : Operand} {nm : String} {xs : Array Operand} {ts : Array TypeId} (_ho : o.op = .call { callee := .invoke x nm, args := xs, argTypes := ts }) (args : Array Value) (h : (execOp a.eval o).run P w = .ok (.enter f args) w)
    (hc : Calls P f args w fun e w' => ∃ v, e = .returned v ∧ K (a.put o.dst v) w') : if Region.wanted o (yielded ops a.tmps) = true then Oper.wp P o a w K Q else E := stp_fcall hg f args h hc
set_option maxRecDepth 100000 in
set_option maxHeartbeats 4000000 in
theorem do_load (r T gs n : Nat) (pl : Value) (C : List Value) (hb : Nat) (av stk : Value) (ss : List Nat) (l nx : Nat) (an : List Value) (ls : List Ins) (ags : List Nat) (I : List Value) (x : Nat) (P : Nat → Int → World → World → Prop) (k0 w0 w : World) (H : Rn k0 w0 w r T gs n pl C (.iface 48 (.pointer (some ⟨hb, 0, none⟩))) av stk (ss ++ [x]) l nx an ls ags) (hss : ss.length ≤ 900)
    (hh : ∀ stk' W, Rn k0 w0 W r T gs n pl C (.iface 48 (.pointer (some ⟨hb, 0, none⟩))) av stk' (ss) l nx an ls ags → Calls Try.prog 106 #[.pointer (some ⟨hb, 0, none⟩), .agg (wq x).toArray] W fun e w' => ∃ v E, e = .returned (.tuple #[.agg (wq v).toArray, .int .i64 E]) ∧ ∃ w1, P v E w' w1 ∧ Rn w' w1 w' r T gs n pl C (.iface 48 (.pointer (some ⟨hb, 0, none⟩))) av stk' (ss) l nx an ls ags) : Calls Try.prog 41 #[.pointer (some ⟨r, 0, none⟩), .agg I.toArray] w fun e w' => ∃ v E X w1, P v E X w1 ∧ ((E = 0 ∧ e = .returned (.int .i64 0) ∧ ∃ stk', Rn X w1 w' r T gs n pl C (.iface 48 (.pointer (some ⟨hb, 0, none⟩))) av stk' (ss ++ [v]) l nx an ls ags) ∨ (E ≠ 0 ∧ e = .returned (.int .i64 E) ∧ ∃ stk', Rn X w1 w' r T gs n pl C (.iface 48 (.pointer (some ⟨hb, 0, none⟩))) av stk' (ss) l nx an ls ags)) := by
  obtain ⟨L, hL⟩ : ∃ L, L = wq x := ⟨_, rfl⟩
  have HTK : Hid (∀ W, Rn k0 w0 W r T gs n pl C (.iface 48 (.pointer (some ⟨hb, 0, none⟩))) av stk (ss ++ [x]) l nx an ls ags → Calls Try.prog 48 #[.pointer (some ⟨r, 0, none⟩)] W fun e w' => e = .returned (.agg L.toArray) ∧ ∃ stk', Rn k0 w0 w' r T gs n pl C (.iface 48 (.pointer (some ⟨hb, 0, none⟩))) av stk' (ss) l nx an ls ags) := fun W hW => by
    rw [hL]
    refine Calls.mono (take_any r T gs n pl C _ av stk ss l nx an ls ags x k0 w0 W hW (by omega)) ?_
    rintro e w' ⟨q1, _, _, stk2, _, q⟩
    exact ⟨q1, stk2, q⟩
  have HHO : Hid (∀ stk' W, Rn k0 w0 W r T gs n pl C (.iface 48 (.pointer (some ⟨hb, 0, none⟩))) av stk' (ss) l nx an ls ags → Calls Try.prog 106 #[.pointer (some ⟨hb, 0, none⟩), .agg L.toArray] W fun e w' => ∃ v E LV, LV = wq v ∧ e = .returned (.tuple #[.agg LV.toArray, .int .i64 E]) ∧ ∃ w1, P v E w' w1 ∧ Rn w' w1 w' r T gs n pl C (.iface 48 (.pointer (some ⟨hb, 0, none⟩))) av stk' (ss) l nx an ls ags) := fun stk' W hW => by
    rw [hL]
    refine Calls.mono (hh stk' W hW) ?_
    rintro e w' ⟨v, E, rfl, q⟩
    exact ⟨v, E, _, rfl, rfl, q⟩
  have HLT : Hid (∀ v E LV X w1 stk' W, LV = wq v → Rn X w1 W r T gs n pl C (.iface 48 (.pointer (some ⟨hb, 0, none⟩))) av stk' (ss) l nx an ls ags → Calls Try.prog 62 #[.pointer (some ⟨r, 0, none⟩), .agg LV.toArray, .int .i64 E] W fun e w' => ∃ u, e = .returned (.int .i64 u) ∧ ((E = 0 ∧ u = 0 ∧ ∃ stk', Rn X w1 w' r T gs n pl C (.iface 48 (.pointer (some ⟨hb, 0, none⟩))) av stk' (ss ++ [v]) l nx an ls ags) ∨ (E ≠ 0 ∧ u = E ∧ ∃ stk', Rn X w1 w' r T gs n pl C (.iface 48 (.pointer (some ⟨hb, 0, none⟩))) av stk' (ss) l nx an ls ags))) := fun v E LV X w1 stk' W hLV hW => by
    rw [hLV]
    by_cases hE : E = 0
    · subst hE
      refine Calls.mono (told_ok r T gs n pl C _ av stk' ss l nx an ls ags v X w1 W hW (by omega)) ?_
      rintro e w' ⟨rfl, q⟩
      exact ⟨0, rfl, .inl ⟨rfl, rfl, q⟩⟩
    · refine Calls.mono (told_no r T gs n pl C _ av stk' ss l nx an ls ags v E (by simpa using hE) X w1 W hW) ?_
      rintro e w' ⟨rfl, q⟩
      exact ⟨E, rfl, .inr ⟨hE, rfl, _, q⟩⟩
  have HH : Hid (Rn k0 w0 w r T gs n pl C (.iface 48 (.pointer (some ⟨hb, 0, none⟩))) av stk (ss ++ [x]) l nx an ls ags) := H
  clear H hss hL hh
  go_enter Try.func41, Try.ntmps41
  go_upto_region 1 with (refine wpList_boxG 77 rfl (.tmp 1) rfl I rfl ?_; intro X1 q1 q2 q3; have HR : Hid (Rn k0 w0 X1 r T gs n pl C (.iface 48 (.pointer (some ⟨hb, 0, none⟩))) av stk (ss ++ [x]) l nx an ls ags) := HH.out.keep q2; clear q1 q2 q3; simp only [Act.put, List.setIfInBounds_toArray, List.set_cons_zero, List.set_cons_succ])
  have c51 : X1.cell? ⟨r, 51, none⟩ = some (.iface 48 (.pointer (some ⟨hb, 0, none⟩))) := HR.out.row.cell 51 _ (rc_hi HR.out.clen 0)
  go_region_law (first
    | (refine stp_fn rfl 48 rfl #[.pointer (some ⟨r, 0, none⟩)] (by go_simp) (Calls.mono (HTK.out _ (HR.out.drewN 1)) ?_); rintro e X2 ⟨rfl, stk2, q⟩; refine ⟨_, rfl, ?_⟩; have HR2 : Hid (Rn k0 w0 X2 r T gs n pl C (.iface 48 (.pointer (some ⟨hb, 0, none⟩))) av stk2 (ss) l nx an ls ags) := q; have d51 : X2.cell? ⟨r, 51, none⟩ = some (.iface 48 (.pointer (some ⟨hb, 0, none⟩))) := q.row.cell 51 _ (rc_hi q.clen 0); clear q)
    | (refine stp_iv rfl 106 rfl #[.pointer (some ⟨hb, 0, none⟩), .agg L.toArray] (by go_simp; kernel_rfl) (Calls.mono (HHO.out stk2 X2 HR2.out) ?_); rintro e X3 ⟨v, E, LV, qL, rfl, w1, qP, q⟩; refine ⟨_, rfl, ?_⟩; have HLV : Hid (LV = wq v) := qL; have HP : Hid (P v E X3 w1) := qP; have HR3 : Hid (Rn X3 w1 X3 r T gs n pl C (.iface 48 (.pointer (some ⟨hb, 0, none⟩))) av stk2 (ss) l nx an ls ags) := q; clear q qP qL)
    | (refine stp_fn rfl 62 rfl #[.pointer (some ⟨r, 0, none⟩), .agg LV.toArray, .int .i64 E] (by go_simp) (Calls.mono (HLT.out v E LV X3 w1 stk2 X3 HLV.out HR3.out) ?_); rintro e X4 ⟨u, rfl, q⟩; refine ⟨_, rfl, ?_⟩; have HQ : Hid (((E = 0 ∧ u = 0 ∧ ∃ stk', Rn X3 w1 X4 r T gs n pl C (.iface 48 (.pointer (some ⟨hb, 0, none⟩))) av stk' (ss ++ [v]) l nx an ls ags) ∨ (E ≠ 0 ∧ u = E ∧ ∃ stk', Rn X3 w1 X4 r T gs n pl C (.iface 48 (.pointer (some ⟨hb, 0, none⟩))) av stk' (ss) l nx an ls ags))) := q; clear q))
  all_goals
    clear c51 d51
    go_wp2
    go_ret
    refine ⟨v, E, X3, w1, HP.out, ?_⟩
    rcases HQ.out with ⟨h1, rfl, q⟩ | ⟨h1, rfl, q⟩
    · exact .inl ⟨h1, rfl, q⟩
    · exact .inr ⟨h1, rfl, q⟩

end Go.Proofs.Ytabcglakdlkdcaa
