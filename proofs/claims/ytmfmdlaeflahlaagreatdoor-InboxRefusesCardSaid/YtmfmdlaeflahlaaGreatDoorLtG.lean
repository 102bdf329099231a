/-
  write and Bytes of a letter; EntryBytes.
-/
import Derived.Test.YtmfmdlaeflahlaaGreatDoorLtF
namespace Go.Proofs.YtmfmdlaeflahlaaGreatDoor
open Go Go.RowKit
open Sha


set_option maxRecDepth 100000 in
set_option maxHeartbeats 2000000 in
theorem ebytes (h : Nat) (L : List Value) (hL : L = en 2 258 (.slice (some ⟨h, 0, none⟩) 1 1)) (w : World) (h9 : Row w h (vB [9#8]) 5) : Calls Tryz.prog 45 #[.agg L.toArray] w fun e w' => ∃ A' c', e = .returned (.tuple #[.slice A' 27 c', .int .i64 0]) ∧ Bw w' (.slice A' 27 c') [2#8, 0#8, 0#8, 0#8, 0#8, 0#8, 0#8, 0#8, 0#8, 0#8, 0#8, 0#8, 0#8, 0#8, 0#8, 0#8, 0#8, 0#8, 0#8, 0#8, 0#8, 2#8, 1#8, 2#8, 1#8, 1#8, 9#8] ∧ Below w.heap.size w w' := by
  obtain ⟨W1, hW1, rL, bL⟩ := boxed L tEnt w
  have HLN : Hid (L.length = 49) := by rw [hL]; rfl
  have HLE : Hid (L = en 2 258 (.slice (some ⟨h, 0, none⟩) 1 1)) := hL
  have HL0 : Hid (Row W1 w.heap.size L tEnt) := rL
  have HB0 : Hid (Below w.heap.size w W1) := bL
  have H90 : Hid (Row w h (vB [9#8]) 5) := h9
  have HW : Hid (W1 = _) := hW1
  clear hL rL bL hW1 h9
  go_enter Tryz.func45, Tryz.ntmps45
  go_upto_region 1 with fail
  rw [← HW.out]
  clear HW
  go_wp2_with (refine wpList_load_w rfl 46 (.tmp 1) rfl w.heap.size 0 rfl L _ (range_sub HL0.out 0 L.length (by simp)) Tryz.underlying46 rfl (by rw [HLN.out]; exact info_ent) ?_; simp only [Act.put, List.setIfInBounds_toArray, List.set_cons_zero, List.set_cons_succ])
  refine Calls.mono (check_E h L HLE.out W1) ?_
  rintro e W2 ⟨rfl, hB⟩
  have hq := Row.below HL0.out hB HL0.out.lt
  rw [HLE.out] at hq
  have hbb := HB0.out.trans (hB.mono HB0.out.size)
  have g0 := hq.cell 0 _ rfl
  have HL : Hid (Row (World.drew W2) w.heap.size (en 2 258 (.slice (some ⟨h, 0, none⟩) 1 1)) tEnt) := hq
  have HB : Hid (Below w.heap.size w (World.drew W2)) := hbb.drew
  have H9 : Hid (Row (World.drew W2) h (vB [9#8]) 5) := Row.below H90.out hbb.drew H90.out.lt
  have g1 := HL.out.cell 0 _ rfl
  clear hB hq hbb HL0 HB0 H90
  go_upto_region 4 with fail
  go_region_law (first
    | (refine stp_fn rfl 57 rfl #[] (by go_simp) (Calls.mono (efields_any _) ?_); rintro e V ⟨T, rfl, hT, hTN, hB⟩; refine ⟨_, rfl, ?_⟩; have HT : Hid (Row V T etab 134) := hT; (first | (replace HU : Hid (Row V U [.int .i64 0, .int .i64 1, .int .i64 6] 3) := Row.below HU.out hB HU.out.lt) | skip); replace HL : Hid (Row V w.heap.size (en 2 258 (.slice (some ⟨h, 0, none⟩) 1 1)) tEnt) := Row.below HL.out hB HL.out.lt; replace H9 : Hid (Row V h (vB [9#8]) 5) := Row.below H9.out hB H9.out.lt; replace HB : Hid (Below w.heap.size w V) := HB.out.trans (hB.mono HB.out.size); have g0 := HL.out.cell 0 _ rfl; clear hB; clear hT hTN)
    | (refine stp_fn rfl 59 rfl #[.int .i64 2] (by go_simp) (Calls.mono (used_E2 _) ?_); rintro e V ⟨U, rfl, hU, hB⟩; refine ⟨_, rfl, ?_⟩; have HU : Hid (Row V U [.int .i64 0, .int .i64 1, .int .i64 6] 3) := hU; (first | (replace HT : Hid (Row V T etab 134) := Row.below HT.out hB HT.out.lt) | skip); replace HL : Hid (Row V w.heap.size (en 2 258 (.slice (some ⟨h, 0, none⟩) 1 1)) tEnt) := Row.below HL.out hB HL.out.lt; replace H9 : Hid (Row V h (vB [9#8]) 5) := Row.below H9.out hB H9.out.lt; replace HB : Hid (Below w.heap.size w V) := HB.out.trans (hB.mono HB.out.size); have g0 := HL.out.cell 0 _ rfl; clear hB; clear hU)
    | (refine stp_fn rfl 58 rfl #[.slice (some ⟨T, 0, none⟩) 7 7, .int .i64 2, .pointer (some ⟨w.heap.size, 0, none⟩), .slice (some ⟨U, 0, none⟩) 3 3] (by go_simp) (Calls.mono (write_E h T U w.heap.size _ HT.out HU.out HL.out H9.out) ?_); rintro e V ⟨A', c', rfl, hbw, hfr, hB⟩; refine ⟨_, rfl, ?_⟩; have HQ : Hid (Bw V (.slice A' 27 c') [2#8, 0#8, 0#8, 0#8, 0#8, 0#8, 0#8, 0#8, 0#8, 0#8, 0#8, 0#8, 0#8, 0#8, 0#8, 0#8, 0#8, 0#8, 0#8, 0#8, 0#8, 2#8, 1#8, 2#8, 1#8, 1#8, 9#8] ∧ Fresh w.heap.size (.slice A' 27 c') ∧ Below w.heap.size w V) := ⟨hbw, fun g e => Nat.le_trans HB.out.size (hfr g e), HB.out.trans (hB.mono HB.out.size)⟩; clear hbw hfr hB HT HU HL HB))
  all_goals
    go_wp2_with fail
    go_ret2
    exact ⟨A', c', rfl, HQ.out.1, HQ.out.2.2⟩

end Go.Proofs.YtmfmdlaeflahlaaGreatDoor
