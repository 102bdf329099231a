/-
  the inbox: entries of any fields; what the program's EntryBytes tells of one that may be; laws of the walk.
-/
import Derived.Test.YtknabkoddickaaaGreatDoorLeD
import Derived.Test.YtknabkoddickaaaGreatDoorLtF
import Derived.Test.YtknabkoddickaaaGreatDoorDwD
import Derived.Test.YtknabkoddickaaaGreatDoorLtH
import Derived.Test.YtknabkoddickaaaGreatDoorQRSum
import Derived.Great.FillDense

namespace Go.Proofs.YtknabkoddickaaaGreatDoor
open Go Go.RowKit
open Sha

theorem ent_len {k tm tk gs : Int} {sd rc : List (BitVec 8)} {am : List Nat} {v : Value} (h1 : sd.length = 20) (h2 : rc.length = 20) (h3 : am.length = 4) : (ent k sd tm tk rc am gs v).length = 49 := by
  simp only [ent, List.length_cons, List.length_append, List.length_nil, vB_length, vQ_len, h1, h2, h3]

set_option maxRecDepth 100000 in
set_option maxHeartbeats 1000000 in
theorem checkE_1 (tm tk gs : Int) (sd rc : List (BitVec 8)) (am : List Nat) (A : Option Addr) (n cap : Nat) (c4 : (decide (0 ≤ tm) && decide (tm ≤ 4611686018427387904)) = true) (c8 : (decide (0 ≤ tk) && decide (tk ≤ 63)) = true) (c15 : (!decide (am = (List.replicate 4 0))) = true) (c19 : (decide (0 ≤ gs) && decide (gs ≤ 1099511627776)) = true) (c24 : ((n : Int) == 0) = true) (h1 : sd.length = 20) (h2 : rc.length = 20) (h3 : am.length = 4) (L : List Value) (hL : L = ent 1 sd tm tk rc am gs (.slice A n cap)) (w : World) : Calls Tryz.prog 49 #[.agg L.toArray] w fun e w' => e = .returned (.int .i64 0) ∧ Below w.heap.size w w' := by
  obtain ⟨W1, hW1, rL, bL⟩ := boxed L tEnt w
  rw [hL] at rL
  have hen : En W1 w.heap.size 1 sd tm tk rc am gs (.slice A n cap) := ⟨rL, h1, h2, h3⟩
  have HL : Hid (En W1 w.heap.size 1 sd tm tk rc am gs (.slice A n cap)) := hen
  have HB : Hid (Below w.heap.size w W1) := bL
  have g0 := hen.c_kind
  have HW : Hid (W1 = _) := hW1
  have C4 : Hid ((decide (0 ≤ tm) && decide (tm ≤ 4611686018427387904)) = true) := c4
  have C8 : Hid ((decide (0 ≤ tk) && decide (tk ≤ 63)) = true) := c8
  have C15 : Hid ((!decide (am = (List.replicate 4 0))) = true) := c15
  have C19 : Hid ((decide (0 ≤ gs) && decide (gs ≤ 1099511627776)) = true) := c19
  have C24 : Hid (((n : Int) == 0) = true) := c24
  clear hL rL bL hW1 hen h1 h2 h3 c4 c8 c15 c19 c24
  go_enter Tryz.func49, Tryz.ntmps49
  go_upto_region 1 with fail
  rw [← HW.out]
  go_wp2_with fail
  refine Calls.mono (usedE_1 W1) ?_
  rintro e W2 ⟨U, rfl, hU, hB2⟩
  replace HL : Hid (En W2 w.heap.size 1 sd tm tk rc am gs (.slice A n cap)) := HL.out.be hB2
  replace HB : Hid (Below w.heap.size w W2) := HB.out.trans (hB2.mono HB.out.size)
  have HU : Hid (Row W2 U [.int .i64 0, .int .i64 1, .int .i64 2, .int .i64 3, .int .i64 4, .int .i64 5] 3) := hU
  clear hB2 hU g0 HW
  go_wp2_with fail
  refine Calls.mono (efields_any W2) ?_
  rintro e W3 ⟨T, rfl, hT, hTN, hB2⟩
  replace HL : Hid (En W3 w.heap.size 1 sd tm tk rc am gs (.slice A n cap)) := HL.out.be hB2
  replace HB : Hid (Below w.heap.size w W3) := HB.out.trans (hB2.mono HB.out.size)
  replace HU : Hid (Row W3 U [.int .i64 0, .int .i64 1, .int .i64 2, .int .i64 3, .int .i64 4, .int .i64 5] 3) := Row.below HU.out hB2 HU.out.lt
  have HT : Hid (Row W3 T etab 123) := hT
  clear hB2 hT hTN
  go_wp2_with fail
  refine Calls.mono (fitsE_1 1 tm tk gs sd rc am A n cap C4.out C8.out C15.out C19.out C24.out T U w.heap.size W3 HT.out HU.out HL.out) ?_
  rintro e W4 ⟨rfl, hB2⟩
  replace HB : Hid (Below w.heap.size w W4) := HB.out.trans (hB2.mono HB.out.size)
  clear hB2
  go_wp2_with fail
  go_ret
  exact ⟨rfl, HB.out⟩

set_option maxRecDepth 100000 in
set_option maxHeartbeats 1000000 in
theorem checkE_2 (tm tk gs : Int) (sd rc : List (BitVec 8)) (am : List Nat) (A : Option Addr) (n cap : Nat) (c4 : (decide (0 ≤ tm) && decide (tm ≤ 4611686018427387904)) = true) (c9 : (tk == 0) = true) (c12 : (decide (rc = (List.replicate 20 0#8))) = true) (c16 : (decide (am = (List.replicate 4 0))) = true) (c20 : (gs == 0) = true) (c23 : (decide ((n : Int) ≤ 4096)) = true) (h1 : sd.length = 20) (h2 : rc.length = 20) (h3 : am.length = 4) (L : List Value) (hL : L = ent 2 sd tm tk rc am gs (.slice A n cap)) (w : World) : Calls Tryz.prog 49 #[.agg L.toArray] w fun e w' => e = .returned (.int .i64 0) ∧ Below w.heap.size w w' := by
  obtain ⟨W1, hW1, rL, bL⟩ := boxed L tEnt w
  rw [hL] at rL
  have hen : En W1 w.heap.size 2 sd tm tk rc am gs (.slice A n cap) := ⟨rL, h1, h2, h3⟩
  have HL : Hid (En W1 w.heap.size 2 sd tm tk rc am gs (.slice A n cap)) := hen
  have HB : Hid (Below w.heap.size w W1) := bL
  have g0 := hen.c_kind
  have HW : Hid (W1 = _) := hW1
  have C4 : Hid ((decide (0 ≤ tm) && decide (tm ≤ 4611686018427387904)) = true) := c4
  have C9 : Hid ((tk == 0) = true) := c9
  have C12 : Hid ((decide (rc = (List.replicate 20 0#8))) = true) := c12
  have C16 : Hid ((decide (am = (List.replicate 4 0))) = true) := c16
  have C20 : Hid ((gs == 0) = true) := c20
  have C23 : Hid ((decide ((n : Int) ≤ 4096)) = true) := c23
  clear hL rL bL hW1 hen h1 h2 h3 c4 c9 c12 c16 c20 c23
  go_enter Tryz.func49, Tryz.ntmps49
  go_upto_region 1 with fail
  rw [← HW.out]
  go_wp2_with fail
  refine Calls.mono (used_E2 W1) ?_
  rintro e W2 ⟨U, rfl, hU, hB2⟩
  replace HL : Hid (En W2 w.heap.size 2 sd tm tk rc am gs (.slice A n cap)) := HL.out.be hB2
  replace HB : Hid (Below w.heap.size w W2) := HB.out.trans (hB2.mono HB.out.size)
  have HU : Hid (Row W2 U [.int .i64 0, .int .i64 1, .int .i64 6] 3) := hU
  clear hB2 hU g0 HW
  go_wp2_with fail
  refine Calls.mono (efields_any W2) ?_
  rintro e W3 ⟨T, rfl, hT, hTN, hB2⟩
  replace HL : Hid (En W3 w.heap.size 2 sd tm tk rc am gs (.slice A n cap)) := HL.out.be hB2
  replace HB : Hid (Below w.heap.size w W3) := HB.out.trans (hB2.mono HB.out.size)
  replace HU : Hid (Row W3 U [.int .i64 0, .int .i64 1, .int .i64 6] 3) := Row.below HU.out hB2 HU.out.lt
  have HT : Hid (Row W3 T etab 123) := hT
  clear hB2 hT hTN
  go_wp2_with fail
  refine Calls.mono (fitsE_2 2 tm tk gs sd rc am A n cap C4.out C9.out C12.out C16.out C20.out C23.out T U w.heap.size W3 HT.out HU.out HL.out) ?_
  rintro e W4 ⟨rfl, hB2⟩
  replace HB : Hid (Below w.heap.size w W4) := HB.out.trans (hB2.mono HB.out.size)
  clear hB2
  go_wp2_with fail
  go_ret
  exact ⟨rfl, HB.out⟩

end Go.Proofs.YtknabkoddickaaaGreatDoor

namespace Go.Proofs.YtknabkoddickaaaGreatDoor
open Go Go.RowKit
open Sha


set_option maxRecDepth 100000 in
set_option maxHeartbeats 2000000 in
theorem ebytesE_1 (tm tk gs : Int) (sd rc : List (BitVec 8)) (am : List Nat) (A : Option Addr) (n cap : Nat) (c4 : (decide (0 ≤ tm) && decide (tm ≤ 4611686018427387904)) = true) (c8 : (decide (0 ≤ tk) && decide (tk ≤ 63)) = true) (c15 : (!decide (am = (List.replicate 4 0))) = true) (c19 : (decide (0 ≤ gs) && decide (gs ≤ 1099511627776)) = true) (c24 : ((n : Int) == 0) = true) (q0 : 0 ≤ tm) (q1 : tm < 9223372036854775808) (q2 : 0 ≤ tk) (q3 : tk < 9223372036854775808) (q4 : 0 ≤ gs) (q5 : gs < 9223372036854775808) (q6 : ∀ x ∈ am, x < 18446744073709551616) (h1 : sd.length = 20) (h2 : rc.length = 20) (h3 : am.length = 4) (N : Nat) (hN : (eb1 sd tm tk rc am gs).length = N) (L : List Value) (hL : L = ent 1 sd tm tk rc am gs (.slice A n cap)) (w : World) : Calls Tryz.prog 36 #[.agg L.toArray] w fun e w' => ∃ A' c', e = .returned (.tuple #[.slice A' N c', .int .i64 0]) ∧ Bw w' (.slice A' N c') (eb1 sd tm tk rc am gs) ∧ Fresh w.heap.size (.slice A' N c') ∧ Below w.heap.size w w' := by
  obtain ⟨W1, hW1, rL, bL⟩ := boxed L tEnt w
  have HLN : Hid (L.length = 49) := by rw [hL]; exact ent_len h1 h2 h3
  have HR : Hid (Row W1 w.heap.size L tEnt) := rL
  have HB0 : Hid (Below w.heap.size w W1) := bL
  have HW : Hid (W1 = _) := hW1
  have HC : Hid _ := checkE_1 tm tk gs sd rc am A n cap c4 c8 c15 c19 c24 h1 h2 h3 L hL W1
  rw [hL] at rL
  have HL0 : Hid (En W1 w.heap.size 1 sd tm tk rc am gs (.slice A n cap)) := ⟨rL, h1, h2, h3⟩
  have HNN : Hid ((eb1 sd tm tk rc am gs).length = N) := hN
  have Kq0 : Hid (0 ≤ tm) := q0
  have Kq1 : Hid (tm < 9223372036854775808) := q1
  have Kq2 : Hid (0 ≤ tk) := q2
  have Kq3 : Hid (tk < 9223372036854775808) := q3
  have Kq4 : Hid (0 ≤ gs) := q4
  have Kq5 : Hid (gs < 9223372036854775808) := q5
  have Kq6 : Hid (∀ x ∈ am, x < 18446744073709551616) := q6
  clear hL rL bL hW1 h1 h2 h3 hN c4 c8 c15 c19 c24 q0 q1 q2 q3 q4 q5 q6
  go_enter Tryz.func36, Tryz.ntmps36
  go_upto_region 1 with fail
  rw [← HW.out]
  clear HW
  go_wp2_with (refine wpList_load_w rfl 46 (.tmp 1) rfl w.heap.size 0 rfl L _ (range_sub HR.out 0 L.length (by simp)) Tryz.underlying46 rfl (by rw [HLN.out]; exact info_ent) ?_; simp only [Act.put, List.setIfInBounds_toArray, List.set_cons_zero, List.set_cons_succ])
  refine Calls.mono HC.out ?_
  rintro e W2 ⟨rfl, hB⟩
  have hq := HL0.out.be hB
  have hbb := HB0.out.trans (hB.mono HB0.out.size)
  have g0 := hq.c_kind
  have HL : Hid (En (World.drew W2) w.heap.size 1 sd tm tk rc am gs (.slice A n cap)) := ⟨hq.row, hq.ls, hq.lt, hq.la⟩
  have HB : Hid (Below w.heap.size w (World.drew W2)) := hbb.drew
  have g1 := HL.out.c_kind
  clear hB hq hbb HL0 HB0 HR HC
  go_upto_region 4 with fail
  go_region_law (first
    | (refine stp_fn rfl 50 rfl #[] (by go_simp) (Calls.mono (efields_any _) ?_); rintro e V ⟨T, rfl, hT, hTN, hB⟩; refine ⟨_, rfl, ?_⟩; have HT : Hid (Row V T etab 123) := hT; (first | (replace HU : Hid (Row V U [.int .i64 0, .int .i64 1, .int .i64 2, .int .i64 3, .int .i64 4, .int .i64 5] 3) := Row.below HU.out hB HU.out.lt) | skip); replace HL : Hid (En V w.heap.size 1 sd tm tk rc am gs (.slice A n cap)) := HL.out.be hB; replace HB : Hid (Below w.heap.size w V) := HB.out.trans (hB.mono HB.out.size); have g0 := HL.out.c_kind; clear hB; clear hT hTN)
    | (refine stp_fn rfl 52 rfl #[.int .i64 1] (by go_simp) (Calls.mono (usedE_1 _) ?_); rintro e V ⟨U, rfl, hU, hB⟩; refine ⟨_, rfl, ?_⟩; have HU : Hid (Row V U [.int .i64 0, .int .i64 1, .int .i64 2, .int .i64 3, .int .i64 4, .int .i64 5] 3) := hU; (first | (replace HT : Hid (Row V T etab 123) := Row.below HT.out hB HT.out.lt) | skip); replace HL : Hid (En V w.heap.size 1 sd tm tk rc am gs (.slice A n cap)) := HL.out.be hB; replace HB : Hid (Below w.heap.size w V) := HB.out.trans (hB.mono HB.out.size); have g0 := HL.out.c_kind; clear hB; clear hU)
    | (refine stp_fn rfl 51 rfl #[.slice (some ⟨T, 0, none⟩) 7 7, .int .i64 1, .pointer (some ⟨w.heap.size, 0, none⟩), .slice (some ⟨U, 0, none⟩) 6 6] (by go_simp) (Calls.mono (writeE_1 tm tk gs sd rc am A n cap Kq0.out Kq1.out Kq2.out Kq3.out Kq4.out Kq5.out Kq6.out N HNN.out T U w.heap.size _ HT.out HU.out HL.out) ?_); rintro e V ⟨A', c', rfl, hbw, hfr, hB⟩; refine ⟨_, rfl, ?_⟩; have HQ : Hid (Bw V (.slice A' N c') (eb1 sd tm tk rc am gs) ∧ Fresh w.heap.size (.slice A' N c') ∧ Below w.heap.size w V) := ⟨hbw, fun g e => Nat.le_trans HB.out.size (hfr g e), HB.out.trans (hB.mono HB.out.size)⟩; clear hbw hfr hB HT HU HL HB))
  all_goals
    go_wp2_with fail
    go_ret2
    exact ⟨A', c', rfl, HQ.out⟩

set_option maxRecDepth 100000 in
set_option maxHeartbeats 2000000 in
theorem ebytesE_2 (tm tk gs : Int) (sd rc : List (BitVec 8)) (am : List Nat) (A : Option Addr) (n cap : Nat) (d : List (BitVec 8)) (c4 : (decide (0 ≤ tm) && decide (tm ≤ 4611686018427387904)) = true) (c9 : (tk == 0) = true) (c12 : (decide (rc = (List.replicate 20 0#8))) = true) (c16 : (decide (am = (List.replicate 4 0))) = true) (c20 : (gs == 0) = true) (c23 : (decide ((n : Int) ≤ 4096)) = true) (q0 : 0 ≤ tm) (q1 : tm < 9223372036854775808) (q7 : d.length = n) (q8 : n ≤ 1000000) (q9 : A = none → cap = 0) (h1 : sd.length = 20) (h2 : rc.length = 20) (h3 : am.length = 4) (N : Nat) (hN : (eb2 sd tm n d).length = N) (L : List Value) (hL : L = ent 2 sd tm tk rc am gs (.slice A n cap)) (w : World) (hS : ∀ W, Below w.heap.size w W → SlAt W (.slice A n cap) d) : Calls Tryz.prog 36 #[.agg L.toArray] w fun e w' => ∃ A' c', e = .returned (.tuple #[.slice A' N c', .int .i64 0]) ∧ Bw w' (.slice A' N c') (eb2 sd tm n d) ∧ Fresh w.heap.size (.slice A' N c') ∧ Below w.heap.size w w' := by
  obtain ⟨W1, hW1, rL, bL⟩ := boxed L tEnt w
  have HLN : Hid (L.length = 49) := by rw [hL]; exact ent_len h1 h2 h3
  have HR : Hid (Row W1 w.heap.size L tEnt) := rL
  have HB0 : Hid (Below w.heap.size w W1) := bL
  have HW : Hid (W1 = _) := hW1
  have HC : Hid _ := checkE_2 tm tk gs sd rc am A n cap c4 c9 c12 c16 c20 c23 h1 h2 h3 L hL W1
  rw [hL] at rL
  have HL0 : Hid (En W1 w.heap.size 2 sd tm tk rc am gs (.slice A n cap)) := ⟨rL, h1, h2, h3⟩
  have HNN : Hid ((eb2 sd tm n d).length = N) := hN
  have Kq0 : Hid (0 ≤ tm) := q0
  have Kq1 : Hid (tm < 9223372036854775808) := q1
  have Kq7 : Hid (d.length = n) := q7
  have Kq8 : Hid (n ≤ 1000000) := q8
  have Kq9 : Hid (A = none → cap = 0) := q9
  have KhS : Hid (∀ W, Below w.heap.size w W → SlAt W (.slice A n cap) d) := hS
  clear hL rL bL hW1 h1 h2 h3 hN c4 c9 c12 c16 c20 c23 q0 q1 q7 q8 q9 hS
  go_enter Tryz.func36, Tryz.ntmps36
  go_upto_region 1 with fail
  rw [← HW.out]
  clear HW
  go_wp2_with (refine wpList_load_w rfl 46 (.tmp 1) rfl w.heap.size 0 rfl L _ (range_sub HR.out 0 L.length (by simp)) Tryz.underlying46 rfl (by rw [HLN.out]; exact info_ent) ?_; simp only [Act.put, List.setIfInBounds_toArray, List.set_cons_zero, List.set_cons_succ])
  refine Calls.mono HC.out ?_
  rintro e W2 ⟨rfl, hB⟩
  have hq := HL0.out.be hB
  have hbb := HB0.out.trans (hB.mono HB0.out.size)
  have g0 := hq.c_kind
  have HL : Hid (En (World.drew W2) w.heap.size 2 sd tm tk rc am gs (.slice A n cap)) := ⟨hq.row, hq.ls, hq.lt, hq.la⟩
  have HB : Hid (Below w.heap.size w (World.drew W2)) := hbb.drew
  have g1 := HL.out.c_kind
  clear hB hq hbb HL0 HB0 HR HC
  go_upto_region 4 with fail
  go_region_law (first
    | (refine stp_fn rfl 50 rfl #[] (by go_simp) (Calls.mono (efields_any _) ?_); rintro e V ⟨T, rfl, hT, hTN, hB⟩; refine ⟨_, rfl, ?_⟩; have HT : Hid (Row V T etab 123) := hT; (first | (replace HU : Hid (Row V U [.int .i64 0, .int .i64 1, .int .i64 6] 3) := Row.below HU.out hB HU.out.lt) | skip); replace HL : Hid (En V w.heap.size 2 sd tm tk rc am gs (.slice A n cap)) := HL.out.be hB; replace HB : Hid (Below w.heap.size w V) := HB.out.trans (hB.mono HB.out.size); have g0 := HL.out.c_kind; clear hB; clear hT hTN)
    | (refine stp_fn rfl 52 rfl #[.int .i64 2] (by go_simp) (Calls.mono (used_E2 _) ?_); rintro e V ⟨U, rfl, hU, hB⟩; refine ⟨_, rfl, ?_⟩; have HU : Hid (Row V U [.int .i64 0, .int .i64 1, .int .i64 6] 3) := hU; (first | (replace HT : Hid (Row V T etab 123) := Row.below HT.out hB HT.out.lt) | skip); replace HL : Hid (En V w.heap.size 2 sd tm tk rc am gs (.slice A n cap)) := HL.out.be hB; replace HB : Hid (Below w.heap.size w V) := HB.out.trans (hB.mono HB.out.size); have g0 := HL.out.c_kind; clear hB; clear hU)
    | (refine stp_fn rfl 51 rfl #[.slice (some ⟨T, 0, none⟩) 7 7, .int .i64 2, .pointer (some ⟨w.heap.size, 0, none⟩), .slice (some ⟨U, 0, none⟩) 3 3] (by go_simp) (Calls.mono (writeE_2 tm tk gs sd rc am A n cap d Kq0.out Kq1.out Kq7.out Kq8.out Kq9.out N HNN.out T U w.heap.size _ (fun W hb => KhS.out W (HB.out.trans (hb.mono HB.out.size))) HT.out HU.out HL.out) ?_); rintro e V ⟨A', c', rfl, hbw, hfr, hB⟩; refine ⟨_, rfl, ?_⟩; have HQ : Hid (Bw V (.slice A' N c') (eb2 sd tm n d) ∧ Fresh w.heap.size (.slice A' N c') ∧ Below w.heap.size w V) := ⟨hbw, fun g e => Nat.le_trans HB.out.size (hfr g e), HB.out.trans (hB.mono HB.out.size)⟩; clear hbw hfr hB HT HU HL HB))
  all_goals
    go_wp2_with fail
    go_ret2
    exact ⟨A', c', rfl, HQ.out⟩

end Go.Proofs.YtknabkoddickaaaGreatDoor

namespace Go.Proofs.YtknabkoddickaaaGreatDoor
open Go Go.RowKit
open Sha

def dB (bs : List (BitVec 8)) (E : Int) (d : List (BitVec 8)) : List (BitVec 8) := if E = 0 then bs ++ d else bs
def dnE (E n : Int) : Int := if E = 0 then (if n < 0 then 32 else 0) else E
def dnB (bs : List (BitVec 8)) (E n : Int) : List (BitVec 8) := if E = 0 ∧ 0 ≤ n then bs ++ nf n else bs
set_option maxRecDepth 100000 in
set_option maxHeartbeats 4000000 in
theorem dw_byte (w0 : World) (Dp : Nat) (v : Value) (bs : List (BitVec 8)) (E : Int) (hs : bs.length ≤ 1000000) (x : BitVec 8) (y : Int) (hy : y = c x) (w : World) (h : Dw w0 w Dp v bs E) : Calls Tryz.prog 107 #[.pointer (some ⟨Dp, 0, none⟩), .int .u8 y] w fun e w' => e = .returned (.tuple #[]) ∧ ∃ v', Dw w0 w' Dp v' (dB bs E [x]) E := by
  have HH : Hid (Dw w0 w Dp v bs E) := h
  have HY : Hid (y = c x) := hy
  have HS : Hid (bs.length + 1 ≤ 4194304) := by show _ ≤ _; omega
  clear h hy hs
  go_enter Tryz.func107, Tryz.ntmps107
  go_wp2_with (first
    | (refine wpList_buildOne 44 5 Tryz.underlying44 u8_open4 rfl (.tmp 5) rfl (.int .u8 y) rfl rfl ?_; intro X1 q1 q2 q3; have C1 : Hid _ := lay_doc w0 Dp v bs E [x] (some ⟨w.heap.size, 0, none⟩) 1 1 rfl (fun hh => by cases hh) HS.out X1 (HH.out.keep q2) (fun W hW => sl_row (d := [x]) (by have r := Row.below q1 hW q1.lt; rw [HY.out] at r; exact r)); clear q1 q2 q3; simp only [Act.put, List.setIfInBounds_toArray, List.set_cons_zero, List.set_cons_succ])
    | (go_at_call 131; refine Calls.mono C1.out ?_; rintro e X2 ⟨rfl, v2, q, _⟩; have D2 : Hid (Dw w0 X2 Dp v2 (dB bs E [x]) E) := q; clear q))
  go_end0
  exact ⟨rfl, _, D2.out⟩
set_option maxRecDepth 100000 in
set_option maxHeartbeats 4000000 in
theorem dw_address (w0 : World) (Dp : Nat) (v : Value) (bs : List (BitVec 8)) (E : Int) (hs : bs.length ≤ 1000000) (d : List (BitVec 8)) (hd : d.length = 20) (w : World) (h : Dw w0 w Dp v bs E) : Calls Tryz.prog 108 #[.pointer (some ⟨Dp, 0, none⟩), .agg (vB d).toArray] w fun e w' => e = .returned (.tuple #[]) ∧ ∃ v', Dw w0 w' Dp v' (dB bs E d) E := by
  have HH : Hid (Dw w0 w Dp v bs E) := h
  have HD : Hid (d.length = 20) := hd
  have HS : Hid (bs.length + 20 ≤ 4194304) := by show _ ≤ _; omega
  obtain ⟨L, hL⟩ : ∃ L, L = vB d := ⟨_, rfl⟩
  have HL : Hid (L = vB d) := hL
  rw [← hL]
  clear h hd hs hL
  go_enter Tryz.func108, Tryz.ntmps108
  go_wp2_with (first
    | (refine wpList_boxG 40 rfl (.tmp 1) rfl L rfl ?_; intro X1 q1 q2 q3; rw [HL.out] at q1; have C1 : Hid _ := lay_doc w0 Dp v bs E d (some ⟨w.heap.size, 0, none⟩) 20 20 HD.out (fun hh => by cases hh) HS.out X1 (HH.out.keep q2) (fun W hW => by have r := sl_row (Row.below q1 hW q1.lt); rw [HD.out] at r; exact r); clear q1 q2 q3; simp only [Act.put, List.setIfInBounds_toArray, List.set_cons_zero, List.set_cons_succ])
    | (refine wpList_slice_all rfl 40 5 20 (.tmp 3) w.heap.size 0 rfl rfl Tryz.underlying40 info_u1 ?_; simp only [Act.put, List.setIfInBounds_toArray, List.set_cons_zero, List.set_cons_succ])
    | (go_at_call 131; refine Calls.mono C1.out ?_; rintro e X2 ⟨rfl, v2, q, _⟩; have D2 : Hid (Dw w0 X2 Dp v2 (dB bs E d) E) := q; clear q))
  go_end0
  exact ⟨rfl, _, D2.out⟩
set_option maxRecDepth 100000 in
set_option maxHeartbeats 4000000 in
theorem dw_wide (w0 : World) (Dp : Nat) (v : Value) (bs : List (BitVec 8)) (E : Int) (hs : bs.length ≤ 1000000) (am : List Nat) (ham : am.length = 4) (hq4 : ∀ x ∈ am, x < 18446744073709551616) (w : World) (h : Dw w0 w Dp v bs E) : Calls Tryz.prog 110 #[.pointer (some ⟨Dp, 0, none⟩), .agg (vQ am).toArray] w fun e w' => e = .returned (.tuple #[]) ∧ ∃ v', Dw w0 w' Dp v' (dB bs E (wf am)) E := by
  obtain ⟨m0, m1, m2, m3, rfl⟩ : ∃ m0 m1 m2 m3, am = [m0, m1, m2, m3] := by
    rcases am with _ | ⟨m0, _ | ⟨m1, _ | ⟨m2, _ | ⟨m3, _ | ⟨m4, r⟩⟩⟩⟩⟩
    all_goals first | exact ⟨_, _, _, _, rfl⟩ | (simp at ham)
  have HH : Hid (Dw w0 w Dp v bs E) := h
  obtain ⟨L, hL⟩ : ∃ L, L = vQ [m0, m1, m2, m3] := ⟨_, rfl⟩
  obtain ⟨k, hk⟩ : ∃ k, k = nb m0 m1 m2 m3 := ⟨_, rfl⟩
  have HK : Hid (k = nb m0 m1 m2 m3) := hk
  have HS : Hid (bs.length + (k + 1) ≤ 4194304) := by show _ ≤ _; have := nb_le m0 m1 m2 m3; omega
  have HWD : Hid (∀ X, Calls Tryz.prog 133 #[.agg L.toArray] X fun e w' => ∃ A c, e = .returned (.slice A (k + 1) c) ∧ Bw w' (.slice A (k + 1) c) (wf [m0, m1, m2, m3]) ∧ Fresh X.heap.size (.slice A (k + 1) c) ∧ Below X.heap.size X w') := fun X => by rw [hk]; exact wide_doc m0 m1 m2 m3 (hq4 _ (by simp)) (hq4 _ (by simp)) (hq4 _ (by simp)) (hq4 _ (by simp)) L hL X
  have HI : Hid ((Tryz.prog.info? 43).map (·.size) = some L.length) := by rw [hL]; exact info_Wd _ rfl
  have HWL : Hid ((wf [m0, m1, m2, m3]).length = k + 1) := by show _ = _; rw [hk]; exact fm_len _ _
  rw [← hL]
  clear h hs hL hk ham hq4
  go_enter Tryz.func110, Tryz.ntmps110
  go_wp2_with (first
    | (refine wpList_boxG 43 rfl (.tmp 1) rfl L rfl ?_; intro X1 q1 q2 q3; have R1 : Hid (Row X1 w.heap.size L 43) := q1; have D1 : Hid (Dw w0 X1 Dp v bs E) := HH.out.keep q2; clear q1 q2 q3; simp only [Act.put, List.setIfInBounds_toArray, List.set_cons_zero, List.set_cons_succ])
    | (refine wpList_load_w rfl 43 (.tmp 3) rfl w.heap.size 0 rfl L _ R1.out.all Tryz.underlying43 rfl HI.out ?_; simp only [Act.put, List.setIfInBounds_toArray, List.set_cons_zero, List.set_cons_succ])
    | (go_at_call 133; refine Calls.mono (HWD.out X1) ?_; rintro e X2 ⟨A2, c2, rfl, q1, q2, q3⟩; obtain ⟨_, _, e2, _, n2⟩ := Bw.form q1; rw [HWL.out] at e2; simp only [Value.slice.injEq] at e2; obtain ⟨rfl, _, rfl⟩ := e2; have C2 : Hid _ := lay_doc w0 Dp v bs E (wf [m0, m1, m2, m3]) A2 (k + 1) c2 HWL.out n2 HS.out X2 (D1.out.keep q3) (fun W hW => Bw.sl (Bw.be q1 hW)); clear q1 q2 q3 n2)
    | (go_at_call 131; refine Calls.mono C2.out ?_; rintro e X3 ⟨rfl, v3, q, _⟩; have D3 : Hid (Dw w0 X3 Dp v3 (dB bs E (wf [m0, m1, m2, m3])) E) := q; clear q))
  go_end0
  exact ⟨rfl, _, D3.out⟩
set_option maxRecDepth 100000 in
set_option maxHeartbeats 4000000 in
theorem dw_number (w0 : World) (Dp : Nat) (v : Value) (bs : List (BitVec 8)) (E : Int) (hs : bs.length ≤ 1000000) (n : Int) (hn : n < 9223372036854775808) (w : World) (h : Dw w0 w Dp v bs E) : Calls Tryz.prog 109 #[.pointer (some ⟨Dp, 0, none⟩), .int .i64 n] w fun e w' => e = .returned (.tuple #[]) ∧ ∃ v', Dw w0 w' Dp v' (dnB bs E n) (dnE E n) := by
  have HH : Hid (Dw w0 w Dp v bs E) := h
  have c1 := h.row.cell 1 _ rfl
  by_cases hE : E = 0
  · subst hE
    by_cases hn0 : n < 0
    · have HR : Hid (Row w Dp [v, .int .i64 0] 147) := h.row
      have e1 : Hid (dnB bs 0 n = bs ∧ dnE 0 n = 32) := ⟨by unfold dnB; rw [if_neg (by omega)], by unfold dnE; rw [if_pos rfl, if_pos hn0]⟩
      clear h hs hn
      go_enter Tryz.func109, Tryz.ntmps109
      go_wp2_with (refine wpList_set1 rfl 56 (.tmp 13) _ rfl Dp 1 (.int .i64 32) [v, .int .i64 0] 147 rfl rfl rfl HR.out (by decide : 1 < 2) (by kernel_rfl) rfl ?_; intro X6 q1 q2 q3; have R6 : Hid (Row X6 Dp [v, .int .i64 32] 147) := q1; have G6 : Hid (Gro (· = Dp) w X6) := q2; clear q1 q2 q3; simp only [Act.put])
      refine bodyPost_ret (results_none rfl _ _ _) rfl ?_
      refine ⟨rfl, v, ?_⟩
      rw [e1.out.1, e1.out.2]
      exact ⟨R6.out, Bw.gro HH.out.bw G6.out (Bw.ne HH.out.bw HR.out (by decide)), HH.out.fr, HH.out.d0, HH.out.be.trans (G6.out.to_below HH.out.be.size (fun g e => by rw [e]; exact HH.out.d0))⟩
    · obtain ⟨m, rfl⟩ : ∃ m : Nat, n = (m : Int) := ⟨n.toNat, by omega⟩
      obtain ⟨k, hk⟩ : ∃ k, k = nb m 0 0 0 := ⟨_, rfl⟩
      have HND : Hid (∀ X, Calls Tryz.prog 132 #[.int .i64 (m : Int)] X fun e w' => ∃ A c, e = .returned (.slice A (k + 1) c) ∧ Bw w' (.slice A (k + 1) c) (nf (m : Int)) ∧ Fresh X.heap.size (.slice A (k + 1) c) ∧ Below X.heap.size X w') := fun X => by rw [hk]; exact number_doc m (by omega) X
      have HWL : Hid ((nf (m : Int)).length = k + 1) := by show _ = _; rw [hk]; exact fm_len _ _
      have HS : Hid (bs.length + (k + 1) ≤ 4194304) := by show _ ≤ _; have := nb_le m 0 0 0; omega
      have e1 : Hid (dnB bs 0 (m : Int) = dB bs 0 (nf (m : Int)) ∧ dnE 0 (m : Int) = 0) := ⟨by unfold dnB dB; rw [if_pos ⟨rfl, by omega⟩, if_pos rfl], by unfold dnE; rw [if_pos rfl, if_neg hn0]⟩
      clear h hs hn hk
      go_enter Tryz.func109, Tryz.ntmps109
      go_wp2_with (first
        | (go_at_call 132; refine Calls.mono (HND.out w) ?_; rintro e X2 ⟨A2, c2, rfl, q1, q2, q3⟩; obtain ⟨_, _, e2, _, n2⟩ := Bw.form q1; rw [HWL.out] at e2; simp only [Value.slice.injEq] at e2; obtain ⟨rfl, _, rfl⟩ := e2; have C2 : Hid _ := lay_doc w0 Dp v bs 0 (nf (m : Int)) A2 (k + 1) c2 HWL.out n2 HS.out X2 (HH.out.keep q3) (fun W hW => Bw.sl (Bw.be q1 hW)); clear q1 q2 q3 n2)
        | (go_at_call 131; refine Calls.mono C2.out ?_; rintro e X3 ⟨rfl, v3, q, _⟩; have D3 : Hid (Dw w0 X3 Dp v3 (dB bs 0 (nf (m : Int))) 0) := q; clear q))
      first | go_end0 | refine bodyPost_ret (results_none rfl _ _ _) rfl ?_
      exact ⟨rfl, v3, by rw [e1.out.1, e1.out.2]; exact D3.out⟩
  · have ex : (E != 0) = true := by simpa using hE
    have e1 : Hid (dnB bs E n = bs ∧ dnE E n = E) := ⟨by unfold dnB; rw [if_neg (fun q => hE q.1)], by unfold dnE; rw [if_neg hE]⟩
    clear h hs hn hE
    go_enter Tryz.func109, Tryz.ntmps109
    go_wp2
    refine bodyPost_ret (results_none rfl _ _ _) rfl ?_
    exact ⟨rfl, v, by rw [e1.out.1, e1.out.2]; exact HH.out⟩

end Go.Proofs.YtknabkoddickaaaGreatDoor

namespace Go.Proofs.YtknabkoddickaaaGreatDoor
open Go Go.RowKit
open Sha

theorem slTo {w : World} {v : Value} {d : List (BitVec 8)} (h : SlAt w v d) : SlAtT w v d := h
/-- An entry's fields. -/
structure Ev where
  k : Int
  sd : List (BitVec 8)
  tm : Int
  tk : Int
  rc : List (BitVec 8)
  am : List Nat
  gs : Int
  d : List (BitVec 8)
def Ev.cells (e : Ev) (v : Value) : List Value := ent e.k e.sd e.tm e.tk e.rc e.am e.gs v
structure Ev.Wf (e : Ev) : Prop where
  ls : e.sd.length = 20
  lt : e.rc.length = 20
  la : e.am.length = 4
  q : ∀ x ∈ e.am, x < 18446744073709551616
/-- An entry that may be. -/
def Ev.May (e : Ev) : Prop := 0 ≤ e.tm ∧ e.tm ≤ 4611686018427387904 ∧ (e.k = 1 ∧ 0 ≤ e.tk ∧ e.tk ≤ 63 ∧ e.am ≠ List.replicate 4 0 ∧ 0 ≤ e.gs ∧ e.gs ≤ 1099511627776 ∧ e.d.length = 0 ∨ e.k = 2 ∧ e.tk = 0 ∧ e.rc = List.replicate 20 0#8 ∧ e.am = List.replicate 4 0 ∧ e.gs = 0 ∧ e.d.length ≤ 4096)
def Ev.bytes (e : Ev) : List (BitVec 8) := if e.k = 1 then eb1 e.sd e.tm e.tk e.rc e.am e.gs else eb2 e.sd e.tm e.d.length e.d
theorem Ev.len {e : Ev} (h : e.Wf) (v : Value) : (e.cells v).length = 49 := ent_len h.ls h.lt h.la
theorem ent_one1 (k tm tk gs : Int) (sd rc : List (BitVec 8)) (am : List Nat) (A : Option Addr) (n c : Nat) : ∀ v ∈ ent k sd tm tk rc am gs (.slice A n c), v.oneCell' = true := by
  intro v hv
  simp only [ent, List.mem_cons, List.mem_append, List.not_mem_nil, or_false] at hv
  rcases hv with rfl | h | rfl | rfl | h | h | rfl | rfl
  · rfl
  · exact vB_one _ v h
  · rfl
  · rfl
  · exact vB_one _ v h
  · simp only [vQ, List.mem_map] at h; obtain ⟨x, _, rfl⟩ := h; rfl
  · rfl
  · rfl
theorem Ev.one (e : Ev) (A : Option Addr) (n c : Nat) : ∀ v ∈ e.cells (.slice A n c), v.oneCell' = true := ent_one1 _ _ _ _ _ _ _ _ _ _
theorem Ev.info {e : Ev} (h : e.Wf) (v : Value) : (Tryz.prog.info? 46).map (·.size) = some (e.cells v).length := by rw [Ev.len h]; exact info_ent
theorem Ev.set {e : Ev} (h : e.Wf) (v u : Value) : (e.cells v).set 48 u = e.cells u := by
  unfold Ev.cells ent
  have h1 : (vB e.sd).length = 20 := by rw [vB_length, h.ls]
  have h2 : (vB e.rc).length = 20 := by rw [vB_length, h.lt]
  have h3 : (vQ e.am).length = 4 := by rw [vQ_len, h.la]
  rw [List.set_cons_succ, List.set_append_right _ _ (by rw [h1]; decide), h1]
  show _ :: (_ ++ (_ :: _ :: ((vB e.rc ++ (vQ e.am ++ [.int .i64 e.gs, v])).set 25 u))) = _
  rw [List.set_append_right _ _ (by rw [h2]; decide), h2, List.set_append_right _ _ (by rw [h3]; decide), h3]
  rfl
theorem Ev.body {e : Ev} (h : e.Wf) (v : Value) : (e.cells v)[48]? = some v := ent_gs h.ls h.lt h.la 1
theorem Ev.time {e : Ev} (h : e.Wf) (v : Value) : (e.cells v)[21]? = some (.int .i64 e.tm) := ent_mid h.ls 0
theorem Ev.bytes_len {e : Ev} (h : e.Wf) (hm : e.May) : e.bytes.length ≤ 10000 := by
  unfold Ev.bytes
  split
  · unfold eb1
    have a1 := nf_len e.tm
    have a2 := nf_len e.tk
    have a3 := nf_len e.gs
    have a4 := wf_len e.am
    simp only [List.length_append, List.length_cons, h.ls, h.lt, List.length_nil]
    omega
  · rename_i hk
    have hd : e.d.length ≤ 4096 := by
      rcases hm.2.2 with q | q
      · exact absurd q.1 hk
      · exact q.2.2.2.2.2
    unfold eb2
    have a1 := nf_len e.tm
    have a2 : (fm [e.d.length, 0, 0, 0] (nb e.d.length 0 0 0)).length ≤ 33 := nf_len (e.d.length : Int)
    simp only [List.length_append, List.length_cons, h.ls, List.length_nil]
    omega
/-- The program's EntryBytes of an entry that may be. -/
theorem ebytes_ok (e : Ev) (hw : e.Wf) (hm : e.May) (A : Option Addr) (n cap : Nat) (hn : e.d.length = n) (hnil : A = none → cap = 0) (L : List Value) (hL : L = e.cells (.slice A n cap)) (w : World) (hS : SlAt w (.slice A n cap) e.d) :
    Calls Tryz.prog 36 #[.agg L.toArray] w fun r w' => ∃ A' N c', r = .returned (.tuple #[.slice A' N c', .int .i64 0]) ∧ e.bytes.length = N ∧ Bw w' (.slice A' N c') e.bytes ∧ Fresh w.heap.size (.slice A' N c') ∧ Below w.heap.size w w' := by
  obtain ⟨t0, t1, hc⟩ := hm
  have hb4 : (decide (0 ≤ e.tm) && decide (e.tm ≤ 4611686018427387904)) = true := by simp [t0, t1]
  rcases hc with ⟨hk, k0, k1, ha, g0, g1, hd⟩ | ⟨hk, hk0, hrc, ham, hgs, hd⟩
  · have hB : e.bytes = eb1 e.sd e.tm e.tk e.rc e.am e.gs := by unfold Ev.bytes; rw [if_pos hk]
    rw [hB]
    refine (ebytesE_1 e.tm e.tk e.gs e.sd e.rc e.am A n cap hb4 (by simp [k0, k1]) (by rw [decide_eq_false ha]; rfl) (by simp [g0, g1]) (by simp; omega) t0 (by omega) k0 (by omega) g0 (by omega) hw.q hw.ls hw.lt hw.la _ rfl L (by rw [hL]; unfold Ev.cells; rw [hk]) w).mono ?_
    rintro r w' ⟨A', c', q1, q2, q3, q4⟩
    exact ⟨A', _, c', q1, rfl, q2, q3, q4⟩
  · have hB : e.bytes = eb2 e.sd e.tm n e.d := by unfold Ev.bytes; rw [if_neg (by rw [hk]; decide), hn]
    rw [hB]
    refine (ebytesE_2 e.tm e.tk e.gs e.sd e.rc e.am A n cap e.d hb4 (by simp [hk0]) (by simp [hrc]) (by simp [ham]) (by simp [hgs]) (by simp; omega) t0 (by omega) hn (by omega) hnil hw.ls hw.lt hw.la _ rfl L (by rw [hL]; unfold Ev.cells; rw [hk]) w (fun W k => hS.be k)).mono ?_
    rintro r w' ⟨A', c', q1, q2, q3, q4⟩
    exact ⟨A', _, c', q1, rfl, q2, q3, q4⟩
/-! ### a row: an entry and the link behind it -/
def zE : List Value := ent 0 (List.replicate 20 0#8) 0 0 (List.replicate 20 0#8) (List.replicate 4 0) 0 (.slice none 0 0)
def zK : List (BitVec 8) := List.replicate 32 0#8
def zR : List Value := zE ++ vB zK
theorem info_row : (Tryz.prog.info? 84).map (·.size) = some 81 := by kernel_rfl
theorem info_dg : (Tryz.prog.info? 51).map (·.size) = some 32 := by kernel_rfl
theorem fill_part (place : Nat → Option (Nat × Nat)) (a b : Nat) (h0 : place 0 = some (0, a)) (h1 : place 1 = some (a, b)) (x y z : List Value) (hx : x.length = a) (hy : y.length = b) (hz : z.length = a + b) : Instr.fill place z.toArray [(0, .agg x.toArray), (1, .agg y.toArray)] = some (x ++ y).toArray := by
  obtain ⟨s1, g1⟩ := Great.foldl_set 0 x 0 z.toArray
  obtain ⟨s2, g2⟩ := Great.foldl_set a y 0 ((x.zipIdx 0).foldl (fun cs (x : Value × Nat) => cs.setIfInBounds (0 + x.2) x.1) z.toArray)
  have c1 : (Value.agg x.toArray).cells = x.toArray := rfl
  have c2 : (Value.agg y.toArray).cells = y.toArray := rfl
  have e1 : x.toArray.zipIdx.foldl (fun (cs : Array Value) (p : Value × Nat) => match p with | (c, j) => cs.setIfInBounds (0 + j) c) z.toArray = (x.zipIdx 0).foldl (fun cs (x : Value × Nat) => cs.setIfInBounds (0 + x.2) x.1) z.toArray := by
    rw [← Array.foldl_toList, Array.toList_zipIdx]
  simp only [Instr.fill, h0, h1, c1, c2, List.size_toArray]
  rw [if_neg (by simp; omega), e1, if_neg (by rw [s1, List.size_toArray]; simp; omega)]
  congr 1
  have e2 : y.toArray.zipIdx.foldl (fun (cs : Array Value) (p : Value × Nat) => match p with | (c, j) => cs.setIfInBounds (a + j) c) ((x.zipIdx 0).foldl (fun cs (x : Value × Nat) => cs.setIfInBounds (0 + x.2) x.1) z.toArray) = (y.zipIdx 0).foldl (fun cs (x : Value × Nat) => cs.setIfInBounds (a + x.2) x.1) ((x.zipIdx 0).foldl (fun cs (x : Value × Nat) => cs.setIfInBounds (0 + x.2) x.1) z.toArray) := by
    rw [← Array.foldl_toList, Array.toList_zipIdx]
  rw [e2]
  apply Array.ext_getElem?
  intro k
  rw [g2 k, g1 k, s1]
  simp only [Nat.add_zero, Nat.zero_add, List.size_toArray, Nat.sub_zero, Nat.zero_le, true_and, List.getElem?_toArray]
  by_cases hk : k < a
  · rw [if_neg (by omega), if_pos (by omega), List.getElem?_append_left (by omega)]
  · by_cases hk2 : k < a + b
    · rw [if_pos (by omega), List.getElem?_append_right (by omega), hx]
    · rw [if_neg (by omega), if_neg (by omega), List.getElem?_eq_none (by omega), List.getElem?_eq_none (by rw [List.length_append]; omega)]
theorem built_row : ∃ places : List (Nat × Nat), (∀ parts, Tryz.prog.built 84 parts = Instr.fill (places.toArray[·]?) zR.toArray parts) ∧ places.toArray[0]? = some (0, 49) ∧ places.toArray[1]? = some (49, 32) :=
  ⟨[(0, 49), (49, 32)], fun _ => by kernel_rfl, rfl, rfl⟩
theorem built_rw (L : List Value) (kk : List (BitVec 8)) (hL : L.length = 49) (hk : kk.length = 32) : Tryz.prog.built 84 [(0, .agg L.toArray), (1, .agg (vB kk).toArray)] = some (L ++ vB kk).toArray := by
  obtain ⟨places, h1, h2, h3⟩ := built_row
  rw [h1]
  exact fill_part _ 49 32 h2 h3 L (vB kk) zR hL (by rw [vB_length, hk]) (by decide)
theorem built_r0 : Tryz.prog.built 84 [] = some zR.toArray := by kernel_rfl
theorem built_d0 : Tryz.prog.built 51 [] = some (vB zK).toArray := by kernel_rfl
section
variable {ops : Array Oper} {rest : List Oper} {op : Oper} {a : Act} {w : World} {Q : Exit → Act → World → Prop}
theorem wpList_allocD (hgd : op.guard = none) (ho : op.op = .alloc 51) (h : ∀ X, Row X w.heap.size (vB zK) 51 → Below w.heap.size w X → wpList Tryz.prog ops Q rest (a.put op.dst (.pointer (some ⟨w.heap.size, 0, none⟩))) X) : wpList Tryz.prog ops Q (op :: rest) a w :=
  wpList_plain hgd fun _ hK => by
    unfold Oper.wp execOp
    simp only [ho]
    go_simp
    exact hK _ _ (h _ (Row.new' (cs := vB zK) rfl rfl) ((Below.refl _ _).alloc (Nat.le_refl _) _))
theorem wpList_allocE (hgd : op.guard = none) (ho : op.op = .alloc 46) (h : ∀ X, Row X w.heap.size zE 46 → Below w.heap.size w X → wpList Tryz.prog ops Q rest (a.put op.dst (.pointer (some ⟨w.heap.size, 0, none⟩))) X) : wpList Tryz.prog ops Q (op :: rest) a w :=
  wpList_plain hgd fun _ hK => by
    unfold Oper.wp execOp
    simp only [ho]
    go_simp
    exact hK _ _ (h _ (Row.new' (cs := zE) rfl rfl) ((Below.refl _ _).alloc (Nat.le_refl _) _))
theorem wpList_allocR (hgd : op.guard = none) (ho : op.op = .alloc 84) (h : ∀ X, Row X w.heap.size zR 84 → Below w.heap.size w X → wpList Tryz.prog ops Q rest (a.put op.dst (.pointer (some ⟨w.heap.size, 0, none⟩))) X) : wpList Tryz.prog ops Q (op :: rest) a w :=
  wpList_plain hgd fun _ hK => by
    unfold Oper.wp execOp
    simp only [ho]
    go_simp
    exact hK _ _ (h _ (Row.new' (cs := zR) rfl rfl) ((Below.refl _ _).alloc (Nat.le_refl _) _))
theorem wpList_buildD0 (hw : Region.wanted op (yielded ops a.tmps) = true) (ho : op.op = .build 51 #[]) (kk : List (BitVec 8)) (hk : kk = zK) (h : wpList Tryz.prog ops Q rest (a.put op.dst (.agg (vB kk).toArray)) w) : wpList Tryz.prog ops Q (op :: rest) a w :=
  BigFrame.wpList_want hw fun _ hK => by
    subst hk
    have hr := run_build (P := Tryz.prog) w 51 #[] _ built_d0
    unfold Oper.wp execOp
    simp only [ho, List.map_toArray, List.map_nil, Sem.run_bind, hr, Result.andThen_ok, Sem.run_pure, Oper.upon_value]
    exact hK _ _ h
theorem wpList_buildR0 (hw : Region.wanted op (yielded ops a.tmps) = true) (ho : op.op = .build 84 #[]) (R : List Value) (hR : R = zR) (h : wpList Tryz.prog ops Q rest (a.put op.dst (.agg R.toArray)) w) : wpList Tryz.prog ops Q (op :: rest) a w :=
  BigFrame.wpList_want hw fun _ hK => by
    subst hR
    have hr := run_build (P := Tryz.prog) w 84 #[] _ built_r0
    unfold Oper.wp execOp
    simp only [ho, List.map_toArray, List.map_nil, Sem.run_bind, hr, Result.andThen_ok, Sem.run_pure, Oper.upon_value]
    exact hK _ _ h
theorem wpList_buildRw (hgd : op.guard = none) (x y : Operand) (ho : op.op = .build 84 #[(0, x), (1, y)]) (L : List Value) (kk : List (BitVec 8)) (hL : L.length = 49) (hk : kk.length = 32) (hx : a.eval x = .agg L.toArray) (hy : a.eval y = .agg (vB kk).toArray) (R : List Value) (hR : R = L ++ vB kk) (h : wpList Tryz.prog ops Q rest (a.put op.dst (.agg R.toArray)) w) : wpList Tryz.prog ops Q (op :: rest) a w :=
  wpList_plain hgd fun _ hK => by
    subst hR
    have hr := run_build (P := Tryz.prog) w 84 #[(0, .agg L.toArray), (1, .agg (vB kk).toArray)] _ (built_rw L kk hL hk)
    unfold Oper.wp execOp
    simp only [ho, List.map_toArray, List.map_cons, List.map_nil, hx, hy, Sem.run_bind, hr, Result.andThen_ok, Sem.run_pure, Oper.upon_value]
    exact hK _ _ h
end
end Go.Proofs.YtknabkoddickaaaGreatDoor
