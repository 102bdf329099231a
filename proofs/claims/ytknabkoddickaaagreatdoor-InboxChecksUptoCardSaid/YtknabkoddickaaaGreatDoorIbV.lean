/-
  the inbox: an entry that is refused: CheckEntry, EntryBytes, Next, a row's next, numbered, Add.
-/
import Derived.Test.YtknabkoddickaaaGreatDoorIbT
import Derived.Test.YtknabkoddickaaaGreatDoorIbU
namespace Go.Proofs.YtknabkoddickaaaGreatDoor
open Go Go.RowKit
open Sha

set_option maxRecDepth 100000 in
set_option maxHeartbeats 4000000 in
theorem checkN_1 (tm tk gs : Int) (sd rc : List (BitVec 8)) (am : List Nat) (A : Option Addr) (n cap : Nat) (hn : ¬ ((decide (0 ≤ tm) && decide (tm ≤ 4611686018427387904)) = true ∧ (decide (0 ≤ tk) && decide (tk ≤ 63)) = true ∧ (!decide (am = (List.replicate 4 0))) = true ∧ (decide (0 ≤ gs) && decide (gs ≤ 1099511627776)) = true ∧ ((n : Int) == 0) = true)) (h1 : sd.length = 20) (h2 : rc.length = 20) (h3 : am.length = 4) (L : List Value) (hL : L = ent 1 sd tm tk rc am gs (.slice A n cap)) (w : World) : Calls Tryz.prog 49 #[.agg L.toArray] w fun e w' => e = .returned (.int .i64 63) ∧ Below w.heap.size w w' := by
  have HNF : Hid (¬ ((decide (0 ≤ tm) && decide (tm ≤ 4611686018427387904)) = true ∧ (decide (0 ≤ tk) && decide (tk ≤ 63)) = true ∧ (!decide (am = (List.replicate 4 0))) = true ∧ (decide (0 ≤ gs) && decide (gs ≤ 1099511627776)) = true ∧ ((n : Int) == 0) = true)) := hn
  obtain ⟨W1, hW1, rL, bL⟩ := boxed L tEnt w
  rw [hL] at rL
  have hen : En W1 w.heap.size 1 sd tm tk rc am gs (.slice A n cap) := ⟨rL, h1, h2, h3⟩
  have HL : Hid (En W1 w.heap.size 1 sd tm tk rc am gs (.slice A n cap)) := hen
  have HB : Hid (Below w.heap.size w W1) := bL
  have g0 := hen.c_kind
  have HW : Hid (W1 = _) := hW1
  clear hL rL bL hW1 hen h1 h2 h3 hn
  go_enter Tryz.func49, Tryz.ntmps49
  go_upto_region 1 with fail
  rw [← HW.out]
  go_wp2_with fail
  refine Calls.mono (usedE_1 W1) ?_
  rintro e W2 ⟨U, rfl, hU, hB2⟩
  replace HL : Hid (En W2 w.heap.size 1 sd tm tk rc am gs (.slice A n cap)) := HL.out.be hB2
  replace HB : Hid (Below w.heap.size w W2) := HB.out.trans (hB2.mono HB.out.size)
  have HU : Hid (Row W2 U [.int .i64 0, .int .i64 1, .int .i64 2, .int .i64 3, .int .i64 4, .int .i64 5] 3) := hU
  clear hB2 hU g0 HW
  go_wp2_with fail
  refine Calls.mono (efields_any W2) ?_
  rintro e W3 ⟨T, rfl, hT, hTN, hB2⟩
  replace HL : Hid (En W3 w.heap.size 1 sd tm tk rc am gs (.slice A n cap)) := HL.out.be hB2
  replace HB : Hid (Below w.heap.size w W3) := HB.out.trans (hB2.mono HB.out.size)
  replace HU : Hid (Row W3 U [.int .i64 0, .int .i64 1, .int .i64 2, .int .i64 3, .int .i64 4, .int .i64 5] 3) := Row.below HU.out hB2 HU.out.lt
  have HT : Hid (Row W3 T etab 123) := hT
  clear hB2 hT hTN
  go_wp2_with fail
  refine Calls.mono (fitsN_1 1 tm tk gs sd rc am A n cap HNF.out T U w.heap.size W3 HT.out HU.out HL.out) ?_
  rintro e W4 ⟨rfl, hB2⟩
  replace HB : Hid (Below w.heap.size w W4) := HB.out.trans (hB2.mono HB.out.size)
  clear hB2
  go_wp2_with fail
  go_ret
  exact ⟨rfl, HB.out⟩

set_option maxRecDepth 100000 in
set_option maxHeartbeats 4000000 in
theorem checkN_2 (tm tk gs : Int) (sd rc : List (BitVec 8)) (am : List Nat) (A : Option Addr) (n cap : Nat) (hn : ¬ ((decide (0 ≤ tm) && decide (tm ≤ 4611686018427387904)) = true ∧ (tk == 0) = true ∧ (decide (rc = (List.replicate 20 0#8))) = true ∧ (decide (am = (List.replicate 4 0))) = true ∧ (gs == 0) = true ∧ (decide ((n : Int) ≤ 4096)) = true)) (h1 : sd.length = 20) (h2 : rc.length = 20) (h3 : am.length = 4) (L : List Value) (hL : L = ent 2 sd tm tk rc am gs (.slice A n cap)) (w : World) : Calls Tryz.prog 49 #[.agg L.toArray] w fun e w' => e = .returned (.int .i64 63) ∧ Below w.heap.size w w' := by
  have HNF : Hid (¬ ((decide (0 ≤ tm) && decide (tm ≤ 4611686018427387904)) = true ∧ (tk == 0) = true ∧ (decide (rc = (List.replicate 20 0#8))) = true ∧ (decide (am = (List.replicate 4 0))) = true ∧ (gs == 0) = true ∧ (decide ((n : Int) ≤ 4096)) = true)) := hn
  obtain ⟨W1, hW1, rL, bL⟩ := boxed L tEnt w
  rw [hL] at rL
  have hen : En W1 w.heap.size 2 sd tm tk rc am gs (.slice A n cap) := ⟨rL, h1, h2, h3⟩
  have HL : Hid (En W1 w.heap.size 2 sd tm tk rc am gs (.slice A n cap)) := hen
  have HB : Hid (Below w.heap.size w W1) := bL
  have g0 := hen.c_kind
  have HW : Hid (W1 = _) := hW1
  clear hL rL bL hW1 hen h1 h2 h3 hn
  go_enter Tryz.func49, Tryz.ntmps49
  go_upto_region 1 with fail
  rw [← HW.out]
  go_wp2_with fail
  refine Calls.mono (used_E2 W1) ?_
  rintro e W2 ⟨U, rfl, hU, hB2⟩
  replace HL : Hid (En W2 w.heap.size 2 sd tm tk rc am gs (.slice A n cap)) := HL.out.be hB2
  replace HB : Hid (Below w.heap.size w W2) := HB.out.trans (hB2.mono HB.out.size)
  have HU : Hid (Row W2 U [.int .i64 0, .int .i64 1, .int .i64 6] 3) := hU
  clear hB2 hU g0 HW
  go_wp2_with fail
  refine Calls.mono (efields_any W2) ?_
  rintro e W3 ⟨T, rfl, hT, hTN, hB2⟩
  replace HL : Hid (En W3 w.heap.size 2 sd tm tk rc am gs (.slice A n cap)) := HL.out.be hB2
  replace HB : Hid (Below w.heap.size w W3) := HB.out.trans (hB2.mono HB.out.size)
  replace HU : Hid (Row W3 U [.int .i64 0, .int .i64 1, .int .i64 6] 3) := Row.below HU.out hB2 HU.out.lt
  have HT : Hid (Row W3 T etab 123) := hT
  clear hB2 hT hTN
  go_wp2_with fail
  refine Calls.mono (fitsN_2 2 tm tk gs sd rc am A n cap HNF.out T U w.heap.size W3 HT.out HU.out HL.out) ?_
  rintro e W4 ⟨rfl, hB2⟩
  replace HB : Hid (Below w.heap.size w W4) := HB.out.trans (hB2.mono HB.out.size)
  clear hB2
  go_wp2_with fail
  go_ret
  exact ⟨rfl, HB.out⟩

set_option maxRecDepth 100000 in
set_option maxHeartbeats 4000000 in
theorem used_no (k : Int) (h1 : ¬ k = 1) (h2 : ¬ k = 2) (w : World) : Calls Tryz.prog 52 #[.int .i64 k] w fun e w' => e = .returned (.slice none 0 0) ∧ w' = w := by
  go_enter Tryz.func52, Tryz.ntmps52
  go_wp2
  go_ret
  exact ⟨rfl, rfl⟩
set_option maxRecDepth 100000 in
set_option maxHeartbeats 4000000 in
theorem lcheck_k (e : Ev) (h1 : ¬ e.k = 1) (h2 : ¬ e.k = 2) (A : Option Addr) (n cap : Nat) (L : List Value) (hL : L = e.cells (.slice A n cap)) (w : World) : Calls Tryz.prog 49 #[.agg L.toArray] w fun r w' => r = .returned (.int .i64 63) ∧ Below w.heap.size w w' := by
  obtain ⟨k, hk⟩ : ∃ k, k = e.k := ⟨_, rfl⟩
  have HC : Hid (L[0]? = some (.int .i64 k)) := by rw [hL, hk]; exact rfl
  have HU : Hid (∀ X, Calls Tryz.prog 52 #[.int .i64 k] X fun e w' => e = .returned (.slice none 0 0) ∧ w' = X) := fun X => used_no k (by rw [hk]; exact h1) (by rw [hk]; exact h2) X
  clear hk h1 h2 hL
  go_enter Tryz.func49, Tryz.ntmps49
  go_upto_region 1 with (refine wpList_boxG 46 rfl (.tmp 0) rfl L rfl ?_; intro X1 q1 q2 q3; have R1 : Hid (Row X1 w.heap.size L 46) := q1; have B1 : Hid (Below w.heap.size w X1) := q2; clear q1 q2 q3; simp only [Act.put, List.setIfInBounds_toArray, List.set_cons_zero, List.set_cons_succ])
  obtain ⟨b, hb⟩ : ∃ b, b = w.heap.size := ⟨_, rfl⟩
  rw [← hb] at R1 ⊢
  clear hb
  have c0 := R1.out.cell 0 _ HC.out
  go_wp2_with (go_at_call 52; refine Calls.mono (HU.out X1) ?_; rintro e1 X ⟨rfl, hq⟩; obtain rfl := hq.symm)
  go_ret
  exact ⟨rfl, B1.out⟩
/-- CheckEntry of an entry that may not be. -/
theorem lcheck_no (e : Ev) (hw : e.Wf) (hm : ¬ e.May) (A : Option Addr) (n cap : Nat) (hn : e.d.length = n) (L : List Value) (hL : L = e.cells (.slice A n cap)) (w : World) : Calls Tryz.prog 49 #[.agg L.toArray] w fun r w' => r = .returned (.int .i64 63) ∧ Below w.heap.size w w' := by
  by_cases h1 : e.k = 1
  · refine checkN_1 e.tm e.tk e.gs e.sd e.rc e.am A n cap (fun h => hm (may_of1 e h1 ⟨h.1, h.2.1, h.2.2.1, h.2.2.2.1, ?_⟩)) hw.ls hw.lt hw.la L (by rw [hL]; unfold Ev.cells; rw [h1]) w
    have := h.2.2.2.2
    simp at this
    omega
  · by_cases h2 : e.k = 2
    · refine checkN_2 e.tm e.tk e.gs e.sd e.rc e.am A n cap (fun h => hm (may_of2 e h2 ⟨h.1, by simpa using h.2.1, of_decide_eq_true h.2.2.1, of_decide_eq_true h.2.2.2.1, by simpa using h.2.2.2.2.1, ?_⟩)) hw.ls hw.lt hw.la L (by rw [hL]; unfold Ev.cells; rw [h2]) w
      have := of_decide_eq_true h.2.2.2.2.2
      omega
    · exact lcheck_k e h1 h2 A n cap L hL w
set_option maxRecDepth 100000 in
set_option maxHeartbeats 4000000 in
theorem ebytes_no (e : Ev) (hw : e.Wf) (hm : ¬ e.May) (A : Option Addr) (n cap : Nat) (hn : e.d.length = n) (L : List Value) (hL : L = e.cells (.slice A n cap)) (w : World) : Calls Tryz.prog 36 #[.agg L.toArray] w fun r w' => r = .returned (.tuple #[.slice none 0 0, .int .i64 63]) ∧ Below w.heap.size w w' := by
  have HCE : Hid (∀ X, Calls Tryz.prog 49 #[.agg L.toArray] X fun r w' => r = .returned (.int .i64 63) ∧ Below X.heap.size X w') := fun X => lcheck_no e hw hm A n cap hn L hL X
  have HI : Hid ((Tryz.prog.info? 46).map (·.size) = some L.length) := by rw [hL]; exact Ev.info hw _
  clear hw hm hn hL
  go_enter Tryz.func36, Tryz.ntmps36
  go_wp2_with (first
    | (refine wpList_boxG 46 rfl (.tmp 0) rfl L rfl ?_; intro X1 q1 q2 q3; have R1 : Hid (Row X1 w.heap.size L 46) := q1; have B1 : Hid (Below w.heap.size w X1) := q2; clear q1 q2 q3; simp only [Act.put, List.setIfInBounds_toArray, List.set_cons_zero, List.set_cons_succ])
    | (refine wpList_load_w rfl 46 (.tmp 1) rfl w.heap.size (0) rfl (L) _ R1.out.all Tryz.underlying46 rfl HI.out ?_; simp only [Act.put, List.setIfInBounds_toArray, List.set_cons_zero, List.set_cons_succ])
    | (go_at_call 49; refine Calls.mono (HCE.out X1) ?_; rintro e1 X2 ⟨rfl, q⟩; have B2 : Hid (Below w.heap.size w X2) := B1.out.trans (q.mono B1.out.size); clear q))
  go_ret2
  exact ⟨rfl, B2.out⟩
set_option maxRecDepth 100000 in
set_option maxHeartbeats 4000000 in
theorem inext_no (e : Ev) (hw : e.Wf) (hm : ¬ e.May) (kk : List (BitVec 8)) (A : Option Addr) (n cap : Nat) (hn : e.d.length = n) (L : List Value) (hL : L = e.cells (.slice A n cap)) (w : World) : Calls Tryz.prog 15 #[.agg (vB kk).toArray, .agg L.toArray] w fun r w' => r = .returned (.tuple #[.agg (vB zK).toArray, .int .i64 150]) ∧ Below w.heap.size w w' := by
  have HEB : Hid (∀ X, Calls Tryz.prog 36 #[.agg L.toArray] X fun r w' => r = .returned (.tuple #[.slice none 0 0, .int .i64 63]) ∧ Below X.heap.size X w') := fun X => ebytes_no e hw hm A n cap hn L hL X
  have HI : Hid ((Tryz.prog.info? 46).map (·.size) = some L.length) := by rw [hL]; exact Ev.info hw _
  obtain ⟨M, hM⟩ : ∃ M, M = vB kk := ⟨_, rfl⟩
  obtain ⟨z, hz⟩ : ∃ z, z = zK := ⟨_, rfl⟩
  have HZ : Hid (z = zK) := hz
  have HID : Hid ((Tryz.prog.info? 51).map (·.size) = some (vB z).length) := by rw [hz]; exact info_dg
  rw [← hM, ← hz]
  clear hw hm hn hL hM hz
  go_enter Tryz.func15, Tryz.ntmps15
  go_upto_region 1 with (first
    | (refine wpList_boxG 51 rfl (.tmp 0) rfl M rfl ?_; intro X1 q1 q2 q3; have B1 : Hid (Below w.heap.size w X1) := q2; clear q1 q2 q3; simp only [Act.put, List.setIfInBounds_toArray, List.set_cons_zero, List.set_cons_succ])
    | (refine wpList_boxG 46 rfl (.tmp 1) rfl L rfl ?_; intro X2 q1 q2 q3; have R2 : Hid (Row X2 X1.heap.size L 46) := q1; have B2 : Hid (Below w.heap.size w X2) := B1.out.trans (q2.mono B1.out.size); clear q1 q2 q3; simp only [Act.put, List.setIfInBounds_toArray, List.set_cons_zero, List.set_cons_succ])
    | (refine wpList_allocD rfl rfl ?_; intro X3 q1 q2; have R3 : Hid (Row X3 X2.heap.size (vB z) 51) := (by rw [HZ.out]; exact q1); have B3 : Hid (Below w.heap.size w X3) := B2.out.trans (q2.mono B2.out.size); have E3 : Hid (Row X3 X1.heap.size L 46) := Row.below R2.out q2 R2.out.lt; have N3 : Hid (w.heap.size ≤ X2.heap.size) := B2.out.size; clear q1 q2 R2; simp only [Act.put, List.setIfInBounds_toArray, List.set_cons_zero, List.set_cons_succ]))
  obtain ⟨b, hb⟩ : ∃ b, b = X2.heap.size := ⟨_, rfl⟩
  obtain ⟨be, hbe⟩ : ∃ b, b = X1.heap.size := ⟨_, rfl⟩
  rw [← hb] at R3 N3 ⊢
  rw [← hbe] at E3 ⊢
  clear hb hbe B1 B2
  go_wp2_with (first
    | (refine wpList_load_w rfl 46 (.tmp 3) rfl be (0) rfl (L) _ E3.out.all Tryz.underlying46 rfl HI.out ?_; simp only [Act.put, List.setIfInBounds_toArray, List.set_cons_zero, List.set_cons_succ])
    | (go_at_call 36; refine Calls.mono (HEB.out X3) ?_; rintro e4 X4 ⟨rfl, q3⟩; have B4 : Hid (Below w.heap.size w X4) := B3.out.trans (q3.mono B3.out.size); have R4 : Hid (Row X4 b (vB z) 51) := Row.below R3.out q3 R3.out.lt; clear q3)
    | (refine wpList_buildD0 rfl rfl z HZ.out ?_; simp only [Act.put, List.setIfInBounds_toArray, List.set_cons_zero, List.set_cons_succ])
    | (refine wpList_storeL rfl 51 (.tmp 4) (.tmp 15) rfl b (vB z) (vB z) 51 rfl rfl R4.out rfl HID.out (all_oneCell_toArray (vB_one z)) ?_; intro X6 q1 q2; have B6 : Hid (Below w.heap.size w X6) := (by rw [q1]; exact below_setCells B4.out N3.out _); have R6 : Hid (Row X6 b (vB z) 51) := q2; clear q1 q2; simp only [Act.put]))
  exact bodyPost_ret (results_row_tmp Tryz.results15 _ _ b 51 (vB z) (.int .i64 150) rfl rfl R6.out Tryz.underlying51 info_dg (by rw [vB_length, HZ.out]; rfl)) rfl ⟨rfl, B6.out⟩
/-- What a row's next answers where it refuses. -/
def rfE (e : Ev) (t0 : Int) (E : Int) : Prop := ¬ e.May ∧ E = 150 ∨ e.May ∧ e.tm < t0 ∧ E = 153
set_option maxRecDepth 100000 in
set_option maxHeartbeats 4000000 in
theorem rnext_no (e : Ev) (hw : e.Wf) (kk : List (BitVec 8)) (A : Option Addr) (n cap : Nat) (hn : e.d.length = n) (hnil : A = none → cap = 0) (L : List Value) (hL : L = e.cells (.slice A n cap)) (R : List Value) (t0 E : Int) (hR : Irw R t0 kk) (hE : rfE e t0 E) (w : World) (hK : Tab w 1) (hS : SlAt w (.slice A n cap) e.d) :
    Calls Tryz.prog 34 #[.agg R.toArray, .agg L.toArray] w fun r w' => r = .returned (.tuple #[.agg zR.toArray, .int .i64 E]) ∧ Below w.heap.size w w' := by
  obtain ⟨tm, htm⟩ : ∃ t, t = e.tm := ⟨_, rfl⟩
  have HKI : Hid ((Tryz.prog.info? 51).map (·.size) = some (vB kk).length) := by show _ = _; rw [vB_length, hR.kl]; exact info_dg
  have HI : Hid ((Tryz.prog.info? 46).map (·.size) = some L.length) := by rw [hL]; exact Ev.info hw _
  have HLT : Hid (L[21]? = some (.int .i64 tm)) := by rw [hL, htm]; exact Ev.time hw _
  obtain ⟨z, hz⟩ : ∃ z, z = zR := ⟨_, rfl⟩
  have HZ : Hid (z = zR) := hz
  have HZI : Hid ((Tryz.prog.info? 84).map (·.size) = some z.length) := by rw [hz]; exact info_row
  have HZO : Hid (z.toArray.all (·.oneCell') = true) := by rw [hz]; exact zR_one
  have HR : Hid (Irw R t0 kk) := hR
  obtain ⟨dd, F, hdl, hF, hNX⟩ : ∃ (dd : List (BitVec 8)) (F : Int), dd.length = 32 ∧ (F = 150 ∧ E = 150 ∨ F = 0 ∧ tm < t0 ∧ E = 153) ∧ ∀ X, Below w.heap.size w X → Calls Tryz.prog 15 #[.agg (vB kk).toArray, .agg L.toArray] X fun r w' => r = .returned (.tuple #[.agg (vB dd).toArray, .int .i64 F]) ∧ Below X.heap.size X w' := by
    rcases hE with ⟨hm, he⟩ | ⟨hm, ht, he⟩
    · exact ⟨zK, 150, rfl, .inl ⟨rfl, he⟩, fun X k => inext_no e hw hm kk A n cap hn L hL X⟩
    · exact ⟨_, 0, dig_length _, .inr ⟨rfl, by rw [htm]; exact ht, he⟩, fun X k => inext_ok e hw hm kk _ hR.kl rfl A n cap hn hnil L hL X (hK.below k hK.lt) (hS.be k)⟩
  have HNX : Hid _ := hNX
  have HID : Hid ((Tryz.prog.info? 51).map (·.size) = some (vB dd).length) := by show _ = _; rw [vB_length, hdl]; exact info_dg
  have HLL : Hid ((vB dd).length = (vB zK).length) := by show _ = _; rw [vB_length, vB_length, hdl]; rfl
  rw [← hz]
  clear hw hn hnil hL hK hS hR hE htm hz hNX hdl
  go_enter Tryz.func34, Tryz.ntmps34
  go_upto_region 1 with (first
    | (refine wpList_boxG 84 rfl (.tmp 0) rfl R rfl ?_; intro X1 q1 q2 q3; have R1 : Hid (Row X1 w.heap.size R 84) := q1; have B1 : Hid (Below w.heap.size w X1) := q2; clear q1 q2 q3; simp only [Act.put, List.setIfInBounds_toArray, List.set_cons_zero, List.set_cons_succ])
    | (refine wpList_boxG 46 rfl (.tmp 1) rfl L rfl ?_; intro X2 q1 q2 q3; have E2 : Hid (Row X2 X1.heap.size L 46) := q1; have B2 : Hid (Below w.heap.size w X2) := B1.out.trans (q2.mono B1.out.size); have R2 : Hid (Row X2 w.heap.size R 84) := Row.below R1.out q2 R1.out.lt; clear q1 q2 q3 R1; simp only [Act.put, List.setIfInBounds_toArray, List.set_cons_zero, List.set_cons_succ])
    | (refine wpList_allocR rfl rfl ?_; intro X3 q1 q2; have Z3 : Hid (Row X3 X2.heap.size z 84) := (by rw [HZ.out]; exact q1); have B3 : Hid (Below w.heap.size w X3) := B2.out.trans (q2.mono B2.out.size); have R3 : Hid (Row X3 w.heap.size R 84) := Row.below R2.out q2 R2.out.lt; have E3 : Hid (Row X3 X1.heap.size L 46) := Row.below E2.out q2 E2.out.lt; have N3 : Hid (w.heap.size ≤ X2.heap.size) := B2.out.size; clear q1 q2 R2 E2; simp only [Act.put, List.setIfInBounds_toArray, List.set_cons_zero, List.set_cons_succ]))
  obtain ⟨b, hb⟩ : ∃ b, b = X2.heap.size := ⟨_, rfl⟩
  obtain ⟨be, hbe⟩ : ∃ b, b = X1.heap.size := ⟨_, rfl⟩
  obtain ⟨br, hbr⟩ : ∃ b, b = w.heap.size := ⟨_, rfl⟩
  have N4 : Hid (w.heap.size ≤ b) := by show _ ≤ _; rw [hb]; exact N3.out
  rw [← hb] at Z3 ⊢
  rw [← hbe] at E3 ⊢
  rw [← hbr] at R3 ⊢
  clear hb hbe hbr B1 B2 N3
  have RK : Hid (∀ X, Row X br R 84 → X.rangeAt br 49 (vB kk)) := fun X h => h.range 49 _ (fun j u hj => HR.out.lk j u hj)
  go_upto_region 2 with (first
    | (refine wpList_load_w rfl 51 (.tmp 9) rfl br (49) rfl (vB kk) _ (RK.out _ R3.out) Tryz.underlying51 rfl HKI.out ?_; simp only [Act.put, List.setIfInBounds_toArray, List.set_cons_zero, List.set_cons_succ])
    | (refine wpList_load_w rfl 46 (.tmp 3) rfl be (0) rfl (L) _ E3.out.all Tryz.underlying46 rfl HI.out ?_; simp only [Act.put, List.setIfInBounds_toArray, List.set_cons_zero, List.set_cons_succ])
    | (go_at_call 15; refine Calls.mono (HNX.out X3 B3.out) ?_; rintro e4 X4 ⟨rfl, q3⟩; have B4 : Hid (Below w.heap.size w X4) := B3.out.trans (q3.mono B3.out.size); have Z4 : Hid (Row X4 b z 84) := Row.below Z3.out q3 Z3.out.lt; have R4 : Hid (Row X4 br R 84) := Row.below R3.out q3 R3.out.lt; have E4 : Hid (Row X4 be L 46) := Row.below E3.out q3 E3.out.lt; clear q3)
    | (refine wpList_allocD rfl rfl ?_; intro X5 q1 q2; have D5 : Hid (Row X5 X4.heap.size (vB zK) 51) := q1; have B5 : Hid (Below w.heap.size w X5) := B4.out.trans (q2.mono B4.out.size); have Z5 : Hid (Row X5 b z 84) := Row.below Z4.out q2 Z4.out.lt; have R5 : Hid (Row X5 br R 84) := Row.below R4.out q2 R4.out.lt; have E5 : Hid (Row X5 be L 46) := Row.below E4.out q2 E4.out.lt; clear q1 q2; simp only [Act.put, List.setIfInBounds_toArray, List.set_cons_zero, List.set_cons_succ])
    | (refine wpList_storeL rfl 51 (.tmp 6) (.tmp 13) rfl X4.heap.size (vB dd) (vB zK) 51 rfl rfl D5.out HLL.out HID.out (all_oneCell_toArray (vB_one dd)) ?_; intro X6 q1 q2; have G6 : Hid (Gro (· = X4.heap.size) X5 X6) := (by rw [q1]; exact gro_over (Gro.refl _ _) _ 0 (vB dd) rfl); clear q1 q2; simp only [Act.put]))
  have B6 : Hid (Below w.heap.size w X6) := B5.out.trans (G6.out.to_below B5.out.size (fun k ek => by rw [ek]; exact B4.out.size))
  have Z6 : Hid (Row X6 b z 84) := G6.out.row Z5.out (row_apart2 Z5.out D5.out (by decide))
  have R6 : Hid (Row X6 br R 84) := G6.out.row R5.out (row_apart2 R5.out D5.out (by decide))
  have E6 : Hid (Row X6 be L 46) := G6.out.row E5.out (row_apart2 E5.out D5.out (by decide))
  generalize X4.heap.size = bd
  clear D5 B5 Z5 R5 E5 B4 Z4 R4 E4 B3 Z3 R3 E3 G6 HNX HLL
  have c1 := E6.out.cell 21 _ HLT.out
  have c2 := R6.out.cell 21 _ HR.out.tm
  rcases hF with ⟨rfl, rfl⟩ | ⟨rfl, hlt, rfl⟩
  · go_wp2_with (first
      | (refine wpList_buildR0 rfl rfl z HZ.out ?_; simp only [Act.put, List.setIfInBounds_toArray, List.set_cons_zero, List.set_cons_succ])
      | (refine wpList_storeL rfl 84 (.tmp 4) (.tmp 18) rfl b z z 84 rfl rfl Z6.out rfl HZI.out HZO.out ?_; intro X7 q1 q2; have B7 : Hid (Below w.heap.size w X7) := (by rw [q1]; exact below_setCells B6.out N4.out _); have R7 : Hid (Row X7 b z 84) := q2; clear q1 q2; simp only [Act.put]))
    exact bodyPost_ret (results_rowS_tmp Tryz.results34 _ _ b 84 z (.int .i64 150) rfl rfl R7.out Tryz.underlying84 HZI.out) rfl ⟨rfl, B7.out⟩
  · go_wp2_with (first
      | (refine wpList_buildR0 rfl rfl z HZ.out ?_; simp only [Act.put, List.setIfInBounds_toArray, List.set_cons_zero, List.set_cons_succ])
      | (refine wpList_storeL rfl 84 (.tmp 4) (.tmp 27) rfl b z z 84 rfl rfl Z6.out rfl HZI.out HZO.out ?_; intro X7 q1 q2; have B7 : Hid (Below w.heap.size w X7) := (by rw [q1]; exact below_setCells B6.out N4.out _); have R7 : Hid (Row X7 b z 84) := q2; clear q1 q2; simp only [Act.put]))
    exact bodyPost_ret (results_rowS_tmp Tryz.results34 _ _ b 84 z (.int .i64 153) rfl rfl R7.out Tryz.underlying84 HZI.out) rfl ⟨rfl, B7.out⟩

end Go.Proofs.YtknabkoddickaaaGreatDoor
