/-
  EntryBytes of any entry that may be.
-/
import Derived.Test.YtaaehdlenigomaaGreatLeD
import Derived.Test.YtaaehdlenigomaaGreatLtG

namespace Go.Proofs.YtaaehdlenigomaaGreat
open Go Go.RowKit
open Sha

theorem ent_len {k tm tk gs : Int} {sd rc : List (BitVec 8)} {am : List Nat} {v : Value} (h1 : sd.length = 20) (h2 : rc.length = 20) (h3 : am.length = 4) : (ent k sd tm tk rc am gs v).length = 49 := by
  simp only [ent, List.length_cons, List.length_append, List.length_nil, vB_length, vQ_len, h1, h2, h3]

set_option maxRecDepth 100000 in
set_option maxHeartbeats 1000000 in
theorem checkE_1 (tm tk gs : Int) (sd rc : List (BitVec 8)) (am : List Nat) (A : Option Addr) (n cap : Nat) (c4 : (decide (0 ≤ tm) && decide (tm ≤ 4611686018427387904)) = true) (c8 : (decide (0 ≤ tk) && decide (tk ≤ 63)) = true) (c15 : (!decide (am = (List.replicate 4 0))) = true) (c19 : (decide (0 ≤ gs) && decide (gs ≤ 1099511627776)) = true) (c24 : ((n : Int) == 0) = true) (h1 : sd.length = 20) (h2 : rc.length = 20) (h3 : am.length = 4) (L : List Value) (hL : L = ent 1 sd tm tk rc am gs (.slice A n cap)) (w : World) : Calls Tryz.prog 11 #[.agg L.toArray] w fun e w' => e = .returned (.int .i64 0) ∧ Below w.heap.size w w' := by
  obtain ⟨W1, hW1, rL, bL⟩ := boxed L tEnt w
  rw [hL] at rL
  have hen : En W1 w.heap.size 1 sd tm tk rc am gs (.slice A n cap) := ⟨rL, h1, h2, h3⟩
  have HL : Hid (En W1 w.heap.size 1 sd tm tk rc am gs (.slice A n cap)) := hen
  have HB : Hid (Below w.heap.size w W1) := bL
  have g0 := hen.c_kind
  have HW : Hid (W1 = _) := hW1
  have C4 : Hid ((decide (0 ≤ tm) && decide (tm ≤ 4611686018427387904)) = true) := c4
  have C8 : Hid ((decide (0 ≤ tk) && decide (tk ≤ 63)) = true) := c8
  have C15 : Hid ((!decide (am = (List.replicate 4 0))) = true) := c15
  have C19 : Hid ((decide (0 ≤ gs) && decide (gs ≤ 1099511627776)) = true) := c19
  have C24 : Hid (((n : Int) == 0) = true) := c24
  clear hL rL bL hW1 hen h1 h2 h3 c4 c8 c15 c19 c24
  go_enter Tryz.func11, Tryz.ntmps11
  go_upto_region 1 with fail
  rw [← HW.out]
  go_wp2_with fail
  refine Calls.mono (usedE_1 W1) ?_
  rintro e W2 ⟨U, rfl, hU, hB2⟩
  replace HL : Hid (En W2 w.heap.size 1 sd tm tk rc am gs (.slice A n cap)) := HL.out.be hB2
  replace HB : Hid (Below w.heap.size w W2) := HB.out.trans (hB2.mono HB.out.size)
  have HU : Hid (Row W2 U [.int .i64 0, .int .i64 1, .int .i64 2, .int .i64 3, .int .i64 4, .int .i64 5] 3) := hU
  clear hB2 hU g0 HW
  go_wp2_with fail
  refine Calls.mono (efields_any W2) ?_
  rintro e W3 ⟨T, rfl, hT, hTN, hB2⟩
  replace HL : Hid (En W3 w.heap.size 1 sd tm tk rc am gs (.slice A n cap)) := HL.out.be hB2
  replace HB : Hid (Below w.heap.size w W3) := HB.out.trans (hB2.mono HB.out.size)
  replace HU : Hid (Row W3 U [.int .i64 0, .int .i64 1, .int .i64 2, .int .i64 3, .int .i64 4, .int .i64 5] 3) := Row.below HU.out hB2 HU.out.lt
  have HT : Hid (Row W3 T etab 80) := hT
  clear hB2 hT hTN
  go_wp2_with fail
  refine Calls.mono (fitsE_1 1 tm tk gs sd rc am A n cap C4.out C8.out C15.out C19.out C24.out T U w.heap.size W3 HT.out HU.out HL.out) ?_
  rintro e W4 ⟨rfl, hB2⟩
  replace HB : Hid (Below w.heap.size w W4) := HB.out.trans (hB2.mono HB.out.size)
  clear hB2
  go_wp2_with fail
  go_ret
  exact ⟨rfl, HB.out⟩

set_option maxRecDepth 100000 in
set_option maxHeartbeats 1000000 in
theorem checkE_2 (tm tk gs : Int) (sd rc : List (BitVec 8)) (am : List Nat) (A : Option Addr) (n cap : Nat) (c4 : (decide (0 ≤ tm) && decide (tm ≤ 4611686018427387904)) = true) (c9 : (tk == 0) = true) (c12 : (decide (rc = (List.replicate 20 0#8))) = true) (c16 : (decide (am = (List.replicate 4 0))) = true) (c20 : (gs == 0) = true) (c23 : (decide ((n : Int) ≤ 4096)) = true) (h1 : sd.length = 20) (h2 : rc.length = 20) (h3 : am.length = 4) (L : List Value) (hL : L = ent 2 sd tm tk rc am gs (.slice A n cap)) (w : World) : Calls Tryz.prog 11 #[.agg L.toArray] w fun e w' => e = .returned (.int .i64 0) ∧ Below w.heap.size w w' := by
  obtain ⟨W1, hW1, rL, bL⟩ := boxed L tEnt w
  rw [hL] at rL
  have hen : En W1 w.heap.size 2 sd tm tk rc am gs (.slice A n cap) := ⟨rL, h1, h2, h3⟩
  have HL : Hid (En W1 w.heap.size 2 sd tm tk rc am gs (.slice A n cap)) := hen
  have HB : Hid (Below w.heap.size w W1) := bL
  have g0 := hen.c_kind
  have HW : Hid (W1 = _) := hW1
  have C4 : Hid ((decide (0 ≤ tm) && decide (tm ≤ 4611686018427387904)) = true) := c4
  have C9 : Hid ((tk == 0) = true) := c9
  have C12 : Hid ((decide (rc = (List.replicate 20 0#8))) = true) := c12
  have C16 : Hid ((decide (am = (List.replicate 4 0))) = true) := c16
  have C20 : Hid ((gs == 0) = true) := c20
  have C23 : Hid ((decide ((n : Int) ≤ 4096)) = true) := c23
  clear hL rL bL hW1 hen h1 h2 h3 c4 c9 c12 c16 c20 c23
  go_enter Tryz.func11, Tryz.ntmps11
  go_upto_region 1 with fail
  rw [← HW.out]
  go_wp2_with fail
  refine Calls.mono (used_E2 W1) ?_
  rintro e W2 ⟨U, rfl, hU, hB2⟩
  replace HL : Hid (En W2 w.heap.size 2 sd tm tk rc am gs (.slice A n cap)) := HL.out.be hB2
  replace HB : Hid (Below w.heap.size w W2) := HB.out.trans (hB2.mono HB.out.size)
  have HU : Hid (Row W2 U [.int .i64 0, .int .i64 1, .int .i64 6] 3) := hU
  clear hB2 hU g0 HW
  go_wp2_with fail
  refine Calls.mono (efields_any W2) ?_
  rintro e W3 ⟨T, rfl, hT, hTN, hB2⟩
  replace HL : Hid (En W3 w.heap.size 2 sd tm tk rc am gs (.slice A n cap)) := HL.out.be hB2
  replace HB : Hid (Below w.heap.size w W3) := HB.out.trans (hB2.mono HB.out.size)
  replace HU : Hid (Row W3 U [.int .i64 0, .int .i64 1, .int .i64 6] 3) := Row.below HU.out hB2 HU.out.lt
  have HT : Hid (Row W3 T etab 80) := hT
  clear hB2 hT hTN
  go_wp2_with fail
  refine Calls.mono (fitsE_2 2 tm tk gs sd rc am A n cap C4.out C9.out C12.out C16.out C20.out C23.out T U w.heap.size W3 HT.out HU.out HL.out) ?_
  rintro e W4 ⟨rfl, hB2⟩
  replace HB : Hid (Below w.heap.size w W4) := HB.out.trans (hB2.mono HB.out.size)
  clear hB2
  go_wp2_with fail
  go_ret
  exact ⟨rfl, HB.out⟩

end Go.Proofs.YtaaehdlenigomaaGreat

namespace Go.Proofs.YtaaehdlenigomaaGreat
open Go Go.RowKit
open Sha


set_option maxRecDepth 100000 in
set_option maxHeartbeats 2000000 in
theorem ebytesE_1 (tm tk gs : Int) (sd rc : List (BitVec 8)) (am : List Nat) (A : Option Addr) (n cap : Nat) (c4 : (decide (0 ≤ tm) && decide (tm ≤ 4611686018427387904)) = true) (c8 : (decide (0 ≤ tk) && decide (tk ≤ 63)) = true) (c15 : (!decide (am = (List.replicate 4 0))) = true) (c19 : (decide (0 ≤ gs) && decide (gs ≤ 1099511627776)) = true) (c24 : ((n : Int) == 0) = true) (q0 : 0 ≤ tm) (q1 : tm < 9223372036854775808) (q2 : 0 ≤ tk) (q3 : tk < 9223372036854775808) (q4 : 0 ≤ gs) (q5 : gs < 9223372036854775808) (q6 : ∀ x ∈ am, x < 18446744073709551616) (h1 : sd.length = 20) (h2 : rc.length = 20) (h3 : am.length = 4) (N : Nat) (hN : (eb1 sd tm tk rc am gs).length = N) (L : List Value) (hL : L = ent 1 sd tm tk rc am gs (.slice A n cap)) (w : World) : Calls Tryz.prog 6 #[.agg L.toArray] w fun e w' => ∃ A' c', e = .returned (.tuple #[.slice A' N c', .int .i64 0]) ∧ Bw w' (.slice A' N c') (eb1 sd tm tk rc am gs) ∧ Fresh w.heap.size (.slice A' N c') ∧ Below w.heap.size w w' := by
  obtain ⟨W1, hW1, rL, bL⟩ := boxed L tEnt w
  have HLN : Hid (L.length = 49) := by rw [hL]; exact ent_len h1 h2 h3
  have HR : Hid (Row W1 w.heap.size L tEnt) := rL
  have HB0 : Hid (Below w.heap.size w W1) := bL
  have HW : Hid (W1 = _) := hW1
  have HC : Hid _ := checkE_1 tm tk gs sd rc am A n cap c4 c8 c15 c19 c24 h1 h2 h3 L hL W1
  rw [hL] at rL
  have HL0 : Hid (En W1 w.heap.size 1 sd tm tk rc am gs (.slice A n cap)) := ⟨rL, h1, h2, h3⟩
  have HNN : Hid ((eb1 sd tm tk rc am gs).length = N) := hN
  have Kq0 : Hid (0 ≤ tm) := q0
  have Kq1 : Hid (tm < 9223372036854775808) := q1
  have Kq2 : Hid (0 ≤ tk) := q2
  have Kq3 : Hid (tk < 9223372036854775808) := q3
  have Kq4 : Hid (0 ≤ gs) := q4
  have Kq5 : Hid (gs < 9223372036854775808) := q5
  have Kq6 : Hid (∀ x ∈ am, x < 18446744073709551616) := q6
  clear hL rL bL hW1 h1 h2 h3 hN c4 c8 c15 c19 c24 q0 q1 q2 q3 q4 q5 q6
  go_enter Tryz.func6, Tryz.ntmps6
  go_upto_region 1 with fail
  rw [← HW.out]
  clear HW
  go_wp2_with (refine wpList_load_w rfl 36 (.tmp 1) rfl w.heap.size 0 rfl L _ (range_sub HR.out 0 L.length (by simp)) Tryz.underlying36 rfl (by rw [HLN.out]; exact info_ent) ?_; simp only [Act.put, List.setIfInBounds_toArray, List.set_cons_zero, List.set_cons_succ])
  refine Calls.mono HC.out ?_
  rintro e W2 ⟨rfl, hB⟩
  have hq := HL0.out.be hB
  have hbb := HB0.out.trans (hB.mono HB0.out.size)
  have g0 := hq.c_kind
  have HL : Hid (En (World.drew W2) w.heap.size 1 sd tm tk rc am gs (.slice A n cap)) := ⟨hq.row, hq.ls, hq.lt, hq.la⟩
  have HB : Hid (Below w.heap.size w (World.drew W2)) := hbb.drew
  have g1 := HL.out.c_kind
  clear hB hq hbb HL0 HB0 HR HC
  go_upto_region 4 with fail
  go_region_law (first
    | (refine stp_fn rfl 15 rfl #[] (by go_simp) (Calls.mono (efields_any _) ?_); rintro e V ⟨T, rfl, hT, hTN, hB⟩; refine ⟨_, rfl, ?_⟩; have HT : Hid (Row V T etab 80) := hT; (first | (replace HU : Hid (Row V U [.int .i64 0, .int .i64 1, .int .i64 2, .int .i64 3, .int .i64 4, .int .i64 5] 3) := Row.below HU.out hB HU.out.lt) | skip); replace HL : Hid (En V w.heap.size 1 sd tm tk rc am gs (.slice A n cap)) := HL.out.be hB; replace HB : Hid (Below w.heap.size w V) := HB.out.trans (hB.mono HB.out.size); have g0 := HL.out.c_kind; clear hB; clear hT hTN)
    | (refine stp_fn rfl 17 rfl #[.int .i64 1] (by go_simp) (Calls.mono (usedE_1 _) ?_); rintro e V ⟨U, rfl, hU, hB⟩; refine ⟨_, rfl, ?_⟩; have HU : Hid (Row V U [.int .i64 0, .int .i64 1, .int .i64 2, .int .i64 3, .int .i64 4, .int .i64 5] 3) := hU; (first | (replace HT : Hid (Row V T etab 80) := Row.below HT.out hB HT.out.lt) | skip); replace HL : Hid (En V w.heap.size 1 sd tm tk rc am gs (.slice A n cap)) := HL.out.be hB; replace HB : Hid (Below w.heap.size w V) := HB.out.trans (hB.mono HB.out.size); have g0 := HL.out.c_kind; clear hB; clear hU)
    | (refine stp_fn rfl 16 rfl #[.slice (some ⟨T, 0, none⟩) 7 7, .int .i64 1, .pointer (some ⟨w.heap.size, 0, none⟩), .slice (some ⟨U, 0, none⟩) 6 6] (by go_simp) (Calls.mono (writeE_1 tm tk gs sd rc am A n cap Kq0.out Kq1.out Kq2.out Kq3.out Kq4.out Kq5.out Kq6.out N HNN.out T U w.heap.size _ HT.out HU.out HL.out) ?_); rintro e V ⟨A', c', rfl, hbw, hfr, hB⟩; refine ⟨_, rfl, ?_⟩; have HQ : Hid (Bw V (.slice A' N c') (eb1 sd tm tk rc am gs) ∧ Fresh w.heap.size (.slice A' N c') ∧ Below w.heap.size w V) := ⟨hbw, fun g e => Nat.le_trans HB.out.size (hfr g e), HB.out.trans (hB.mono HB.out.size)⟩; clear hbw hfr hB HT HU HL HB))
  all_goals
    go_wp2_with fail
    go_ret2
    exact ⟨A', c', rfl, HQ.out⟩

set_option maxRecDepth 100000 in
set_option maxHeartbeats 2000000 in
theorem ebytesE_2 (tm tk gs : Int) (sd rc : List (BitVec 8)) (am : List Nat) (A : Option Addr) (n cap : Nat) (d : List (BitVec 8)) (c4 : (decide (0 ≤ tm) && decide (tm ≤ 4611686018427387904)) = true) (c9 : (tk == 0) = true) (c12 : (decide (rc = (List.replicate 20 0#8))) = true) (c16 : (decide (am = (List.replicate 4 0))) = true) (c20 : (gs == 0) = true) (c23 : (decide ((n : Int) ≤ 4096)) = true) (q0 : 0 ≤ tm) (q1 : tm < 9223372036854775808) (q7 : d.length = n) (q8 : n ≤ 1000000) (q9 : A = none → cap = 0) (h1 : sd.length = 20) (h2 : rc.length = 20) (h3 : am.length = 4) (N : Nat) (hN : (eb2 sd tm n d).length = N) (L : List Value) (hL : L = ent 2 sd tm tk rc am gs (.slice A n cap)) (w : World) (hS : ∀ W, Below w.heap.size w W → SlAt W (.slice A n cap) d) : Calls Tryz.prog 6 #[.agg L.toArray] w fun e w' => ∃ A' c', e = .returned (.tuple #[.slice A' N c', .int .i64 0]) ∧ Bw w' (.slice A' N c') (eb2 sd tm n d) ∧ Fresh w.heap.size (.slice A' N c') ∧ Below w.heap.size w w' := by
  obtain ⟨W1, hW1, rL, bL⟩ := boxed L tEnt w
  have HLN : Hid (L.length = 49) := by rw [hL]; exact ent_len h1 h2 h3
  have HR : Hid (Row W1 w.heap.size L tEnt) := rL
  have HB0 : Hid (Below w.heap.size w W1) := bL
  have HW : Hid (W1 = _) := hW1
  have HC : Hid _ := checkE_2 tm tk gs sd rc am A n cap c4 c9 c12 c16 c20 c23 h1 h2 h3 L hL W1
  rw [hL] at rL
  have HL0 : Hid (En W1 w.heap.size 2 sd tm tk rc am gs (.slice A n cap)) := ⟨rL, h1, h2, h3⟩
  have HNN : Hid ((eb2 sd tm n d).length = N) := hN
  have Kq0 : Hid (0 ≤ tm) := q0
  have Kq1 : Hid (tm < 9223372036854775808) := q1
  have Kq7 : Hid (d.length = n) := q7
  have Kq8 : Hid (n ≤ 1000000) := q8
  have Kq9 : Hid (A = none → cap = 0) := q9
  have KhS : Hid (∀ W, Below w.heap.size w W → SlAt W (.slice A n cap) d) := hS
  clear hL rL bL hW1 h1 h2 h3 hN c4 c9 c12 c16 c20 c23 q0 q1 q7 q8 q9 hS
  go_enter Tryz.func6, Tryz.ntmps6
  go_upto_region 1 with fail
  rw [← HW.out]
  clear HW
  go_wp2_with (refine wpList_load_w rfl 36 (.tmp 1) rfl w.heap.size 0 rfl L _ (range_sub HR.out 0 L.length (by simp)) Tryz.underlying36 rfl (by rw [HLN.out]; exact info_ent) ?_; simp only [Act.put, List.setIfInBounds_toArray, List.set_cons_zero, List.set_cons_succ])
  refine Calls.mono HC.out ?_
  rintro e W2 ⟨rfl, hB⟩
  have hq := HL0.out.be hB
  have hbb := HB0.out.trans (hB.mono HB0.out.size)
  have g0 := hq.c_kind
  have HL : Hid (En (World.drew W2) w.heap.size 2 sd tm tk rc am gs (.slice A n cap)) := ⟨hq.row, hq.ls, hq.lt, hq.la⟩
  have HB : Hid (Below w.heap.size w (World.drew W2)) := hbb.drew
  have g1 := HL.out.c_kind
  clear hB hq hbb HL0 HB0 HR HC
  go_upto_region 4 with fail
  go_region_law (first
    | (refine stp_fn rfl 15 rfl #[] (by go_simp) (Calls.mono (efields_any _) ?_); rintro e V ⟨T, rfl, hT, hTN, hB⟩; refine ⟨_, rfl, ?_⟩; have HT : Hid (Row V T etab 80) := hT; (first | (replace HU : Hid (Row V U [.int .i64 0, .int .i64 1, .int .i64 6] 3) := Row.below HU.out hB HU.out.lt) | skip); replace HL : Hid (En V w.heap.size 2 sd tm tk rc am gs (.slice A n cap)) := HL.out.be hB; replace HB : Hid (Below w.heap.size w V) := HB.out.trans (hB.mono HB.out.size); have g0 := HL.out.c_kind; clear hB; clear hT hTN)
    | (refine stp_fn rfl 17 rfl #[.int .i64 2] (by go_simp) (Calls.mono (used_E2 _) ?_); rintro e V ⟨U, rfl, hU, hB⟩; refine ⟨_, rfl, ?_⟩; have HU : Hid (Row V U [.int .i64 0, .int .i64 1, .int .i64 6] 3) := hU; (first | (replace HT : Hid (Row V T etab 80) := Row.below HT.out hB HT.out.lt) | skip); replace HL : Hid (En V w.heap.size 2 sd tm tk rc am gs (.slice A n cap)) := HL.out.be hB; replace HB : Hid (Below w.heap.size w V) := HB.out.trans (hB.mono HB.out.size); have g0 := HL.out.c_kind; clear hB; clear hU)
    | (refine stp_fn rfl 16 rfl #[.slice (some ⟨T, 0, none⟩) 7 7, .int .i64 2, .pointer (some ⟨w.heap.size, 0, none⟩), .slice (some ⟨U, 0, none⟩) 3 3] (by go_simp) (Calls.mono (writeE_2 tm tk gs sd rc am A n cap d Kq0.out Kq1.out Kq7.out Kq8.out Kq9.out N HNN.out T U w.heap.size _ (fun W hb => KhS.out W (HB.out.trans (hb.mono HB.out.size))) HT.out HU.out HL.out) ?_); rintro e V ⟨A', c', rfl, hbw, hfr, hB⟩; refine ⟨_, rfl, ?_⟩; have HQ : Hid (Bw V (.slice A' N c') (eb2 sd tm n d) ∧ Fresh w.heap.size (.slice A' N c') ∧ Below w.heap.size w V) := ⟨hbw, fun g e => Nat.le_trans HB.out.size (hfr g e), HB.out.trans (hB.mono HB.out.size)⟩; clear hbw hfr hB HT HU HL HB))
  all_goals
    go_wp2_with fail
    go_ret2
    exact ⟨A', c', rfl, HQ.out⟩

end Go.Proofs.YtaaehdlenigomaaGreat
