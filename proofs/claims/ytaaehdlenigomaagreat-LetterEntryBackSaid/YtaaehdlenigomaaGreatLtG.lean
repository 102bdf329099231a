/-
  write and Bytes of a letter; EntryBytes.
-/
import Derived.Test.YtaaehdlenigomaaGreatLtF
namespace Go.Proofs.YtaaehdlenigomaaGreat
open Go Go.RowKit
open Sha


set_option maxRecDepth 100000 in
set_option maxHeartbeats 2000000 in
theorem lwrite_5 (L : List Value) (hL : L = lt 5 0 1) (w : World) : Calls Tryz.prog 22 #[.agg L.toArray] w fun e w' => ∃ A' c', e = .returned (.slice A' 3 c') ∧ Bw w' (.slice A' 3 c') [5#8, 1#8, 1#8] ∧ Fresh w.heap.size (.slice A' 3 c') ∧ Below w.heap.size w w' := by
  obtain ⟨W1, hW1, rL, bL⟩ := boxed L tLet w
  rw [hL] at rL
  have HL : Hid (Row (World.drew W1) w.heap.size (lt 5 0 1) tLet) := rL
  have HB : Hid (Below w.heap.size w (World.drew W1)) := bL.drew
  have g0 := rL.cell 0 _ rfl
  have g1 := HL.out.cell 0 _ rfl
  have HW : Hid (W1 = _) := hW1
  clear hL rL bL hW1
  go_enter Tryz.func22, Tryz.ntmps22
  go_upto_region 1 with fail
  rw [← HW.out]
  clear HW
  go_region_law (first
    | (refine stp_fn rfl 23 rfl #[] (by go_simp) (Calls.mono (fields_any _) ?_); rintro e V ⟨T, rfl, hT, hTN, hB⟩; refine ⟨_, rfl, ?_⟩; have HT : Hid (Row V T ltab 103) := hT; (first | (replace HU : Hid (Row V U [.int .i64 4] 3) := Row.below HU.out hB HU.out.lt) | skip); replace HL : Hid (Row V w.heap.size (lt 5 0 1) tLet) := Row.below HL.out hB HL.out.lt; replace HB : Hid (Below w.heap.size w V) := HB.out.trans (hB.mono HB.out.size); have g0 := HL.out.cell 0 _ rfl; clear hB; clear hT hTN)
    | (refine stp_fn rfl 25 rfl #[.int .i64 5] (by go_simp) (Calls.mono (used_5 _) ?_); rintro e V ⟨U, rfl, hU, hB⟩; refine ⟨_, rfl, ?_⟩; have HU : Hid (Row V U [.int .i64 4] 3) := hU; (first | (replace HT : Hid (Row V T ltab 103) := Row.below HT.out hB HT.out.lt) | skip); replace HL : Hid (Row V w.heap.size (lt 5 0 1) tLet) := Row.below HL.out hB HL.out.lt; replace HB : Hid (Below w.heap.size w V) := HB.out.trans (hB.mono HB.out.size); have g0 := HL.out.cell 0 _ rfl; clear hB; clear hU)
    | (refine stp_fn rfl 71 rfl #[.slice (some ⟨T, 0, none⟩) 9 9, .int .i64 5, .pointer (some ⟨w.heap.size, 0, none⟩), .slice (some ⟨U, 0, none⟩) 1 1] (by go_simp) (Calls.mono (write_5 T U w.heap.size _ HT.out HU.out HL.out) ?_); rintro e V ⟨A', c', rfl, hbw, hfr, hB⟩; refine ⟨_, rfl, ?_⟩; have HQ : Hid (Bw V (.slice A' 3 c') [5#8, 1#8, 1#8] ∧ Fresh w.heap.size (.slice A' 3 c') ∧ Below w.heap.size w V) := ⟨hbw, fun g e => Nat.le_trans HB.out.size (hfr g e), HB.out.trans (hB.mono HB.out.size)⟩; clear hbw hfr hB HT HU HL HB))
  all_goals
    go_wp2_with fail
    go_ret
    exact ⟨A', c', rfl, HQ.out⟩
set_option maxRecDepth 100000 in
set_option maxHeartbeats 2000000 in
theorem bytes_5 (L : List Value) (hL : L = lt 5 0 1) (w : World) : Calls Tryz.prog 12 #[.agg L.toArray] w fun e w' => ∃ A' c', e = .returned (.tuple #[.slice A' 3 c', .int .i64 0]) ∧ Bw w' (.slice A' 3 c') [5#8, 1#8, 1#8] ∧ Below w.heap.size w w' := by
  obtain ⟨W1, hW1, rL, bL⟩ := boxed L tLet w
  have HLN : Hid (L.length = 51) := by rw [hL]; rfl
  have HLE : Hid (L = lt 5 0 1) := hL
  have HL : Hid (Row W1 w.heap.size L tLet) := rL
  have HB : Hid (Below w.heap.size w W1) := bL
  have HW : Hid (W1 = _) := hW1
  clear hL rL bL hW1
  go_enter Tryz.func12, Tryz.ntmps12
  go_upto_region 1 with fail
  rw [← HW.out]
  clear HW
  go_wp2_with (refine wpList_load_w rfl 50 (.tmp 1) rfl w.heap.size 0 rfl L _ (range_sub HL.out 0 L.length (by simp)) Tryz.underlying50 rfl (by rw [HLN.out]; exact info_let) ?_; simp only [Act.put, List.setIfInBounds_toArray, List.set_cons_zero, List.set_cons_succ])
  refine Calls.mono (check_5 L HLE.out W1) ?_
  rintro e W2 ⟨rfl, hB⟩
  replace HL : Hid (Row W2 w.heap.size L tLet) := Row.below HL.out hB HL.out.lt
  replace HB : Hid (Below w.heap.size w W2) := HB.out.trans (hB.mono HB.out.size)
  clear hB
  go_wp2_with (refine wpList_load_w rfl 50 (.tmp 1) rfl w.heap.size 0 rfl L _ (range_sub HL.out 0 L.length (by simp)) Tryz.underlying50 rfl (by rw [HLN.out]; exact info_let) ?_; simp only [Act.put, List.setIfInBounds_toArray, List.set_cons_zero, List.set_cons_succ])
  refine Calls.mono (lwrite_5 L HLE.out W2) ?_
  rintro e W3 ⟨A', c', rfl, hbw, hfr, hB⟩
  have HQ : Hid (Bw W3 (.slice A' 3 c') [5#8, 1#8, 1#8] ∧ Below w.heap.size w W3) := ⟨hbw, HB.out.trans (hB.mono HB.out.size)⟩
  clear hbw hfr hB
  go_wp2_with fail
  go_ret2
  exact ⟨A', c', rfl, HQ.out⟩
set_option maxRecDepth 100000 in
set_option maxHeartbeats 2000000 in
theorem ebytes (h : Nat) (L : List Value) (hL : L = en 2 258 (.slice (some ⟨h, 0, none⟩) 1 1)) (w : World) (h9 : Row w h (vB [9#8]) 5) : Calls Tryz.prog 6 #[.agg L.toArray] w fun e w' => ∃ A' c', e = .returned (.tuple #[.slice A' 27 c', .int .i64 0]) ∧ Bw w' (.slice A' 27 c') [2#8, 0#8, 0#8, 0#8, 0#8, 0#8, 0#8, 0#8, 0#8, 0#8, 0#8, 0#8, 0#8, 0#8, 0#8, 0#8, 0#8, 0#8, 0#8, 0#8, 0#8, 2#8, 1#8, 2#8, 1#8, 1#8, 9#8] ∧ Below w.heap.size w w' := by
  obtain ⟨W1, hW1, rL, bL⟩ := boxed L tEnt w
  have HLN : Hid (L.length = 49) := by rw [hL]; rfl
  have HLE : Hid (L = en 2 258 (.slice (some ⟨h, 0, none⟩) 1 1)) := hL
  have HL0 : Hid (Row W1 w.heap.size L tEnt) := rL
  have HB0 : Hid (Below w.heap.size w W1) := bL
  have H90 : Hid (Row w h (vB [9#8]) 5) := h9
  have HW : Hid (W1 = _) := hW1
  clear hL rL bL hW1 h9
  go_enter Tryz.func6, Tryz.ntmps6
  go_upto_region 1 with fail
  rw [← HW.out]
  clear HW
  go_wp2_with (refine wpList_load_w rfl 36 (.tmp 1) rfl w.heap.size 0 rfl L _ (range_sub HL0.out 0 L.length (by simp)) Tryz.underlying36 rfl (by rw [HLN.out]; exact info_ent) ?_; simp only [Act.put, List.setIfInBounds_toArray, List.set_cons_zero, List.set_cons_succ])
  refine Calls.mono (check_E h L HLE.out W1) ?_
  rintro e W2 ⟨rfl, hB⟩
  have hq := Row.below HL0.out hB HL0.out.lt
  rw [HLE.out] at hq
  have hbb := HB0.out.trans (hB.mono HB0.out.size)
  have g0 := hq.cell 0 _ rfl
  have HL : Hid (Row (World.drew W2) w.heap.size (en 2 258 (.slice (some ⟨h, 0, none⟩) 1 1)) tEnt) := hq
  have HB : Hid (Below w.heap.size w (World.drew W2)) := hbb.drew
  have H9 : Hid (Row (World.drew W2) h (vB [9#8]) 5) := Row.below H90.out hbb.drew H90.out.lt
  have g1 := HL.out.cell 0 _ rfl
  clear hB hq hbb HL0 HB0 H90
  go_upto_region 4 with fail
  go_region_law (first
    | (refine stp_fn rfl 15 rfl #[] (by go_simp) (Calls.mono (efields_any _) ?_); rintro e V ⟨T, rfl, hT, hTN, hB⟩; refine ⟨_, rfl, ?_⟩; have HT : Hid (Row V T etab 80) := hT; (first | (replace HU : Hid (Row V U [.int .i64 0, .int .i64 1, .int .i64 6] 3) := Row.below HU.out hB HU.out.lt) | skip); replace HL : Hid (Row V w.heap.size (en 2 258 (.slice (some ⟨h, 0, none⟩) 1 1)) tEnt) := Row.below HL.out hB HL.out.lt; replace H9 : Hid (Row V h (vB [9#8]) 5) := Row.below H9.out hB H9.out.lt; replace HB : Hid (Below w.heap.size w V) := HB.out.trans (hB.mono HB.out.size); have g0 := HL.out.cell 0 _ rfl; clear hB; clear hT hTN)
    | (refine stp_fn rfl 17 rfl #[.int .i64 2] (by go_simp) (Calls.mono (used_E2 _) ?_); rintro e V ⟨U, rfl, hU, hB⟩; refine ⟨_, rfl, ?_⟩; have HU : Hid (Row V U [.int .i64 0, .int .i64 1, .int .i64 6] 3) := hU; (first | (replace HT : Hid (Row V T etab 80) := Row.below HT.out hB HT.out.lt) | skip); replace HL : Hid (Row V w.heap.size (en 2 258 (.slice (some ⟨h, 0, none⟩) 1 1)) tEnt) := Row.below HL.out hB HL.out.lt; replace H9 : Hid (Row V h (vB [9#8]) 5) := Row.below H9.out hB H9.out.lt; replace HB : Hid (Below w.heap.size w V) := HB.out.trans (hB.mono HB.out.size); have g0 := HL.out.cell 0 _ rfl; clear hB; clear hU)
    | (refine stp_fn rfl 16 rfl #[.slice (some ⟨T, 0, none⟩) 7 7, .int .i64 2, .pointer (some ⟨w.heap.size, 0, none⟩), .slice (some ⟨U, 0, none⟩) 3 3] (by go_simp) (Calls.mono (write_E h T U w.heap.size _ HT.out HU.out HL.out H9.out) ?_); rintro e V ⟨A', c', rfl, hbw, hfr, hB⟩; refine ⟨_, rfl, ?_⟩; have HQ : Hid (Bw V (.slice A' 27 c') [2#8, 0#8, 0#8, 0#8, 0#8, 0#8, 0#8, 0#8, 0#8, 0#8, 0#8, 0#8, 0#8, 0#8, 0#8, 0#8, 0#8, 0#8, 0#8, 0#8, 0#8, 2#8, 1#8, 2#8, 1#8, 1#8, 9#8] ∧ Fresh w.heap.size (.slice A' 27 c') ∧ Below w.heap.size w V) := ⟨hbw, fun g e => Nat.le_trans HB.out.size (hfr g e), HB.out.trans (hB.mono HB.out.size)⟩; clear hbw hfr hB HT HU HL HB))
  all_goals
    go_wp2_with fail
    go_ret2
    exact ⟨A', c', rfl, HQ.out.1, HQ.out.2.2⟩

end Go.Proofs.YtaaehdlenigomaaGreat
