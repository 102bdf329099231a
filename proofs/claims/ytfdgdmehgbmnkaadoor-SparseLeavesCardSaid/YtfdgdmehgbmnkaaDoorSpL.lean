/-
  sparse: Leaf, the program's and the document's.
-/
import Derived.Test.YtfdgdmehgbmnkaaDoorSpK
import Derived.Test.YtfdgdmehgbmnkaaDoorTSd
import Derived.Test.YtfdgdmehgbmnkaaDoorTRSum
namespace Go.Proofs.YtfdgdmehgbmnkaaDoor
open Go Go.RowKit
open Sha

set_option maxRecDepth 100000 in
set_option maxHeartbeats 4000000 in
theorem leaf_s (u v : List (BitVec 8)) (hu : u.length = 32) (hv : v.length = 32) (w : World) (hK : Tab w 3) : Calls Tryd.prog 25 #[.agg (vB u).toArray, .agg (vB v).toArray] w fun e w' => e = .returned (.tuple #[.agg (vB (sgl u v).dg).toArray, .int .i64 (if v = zd then 50 else 0)]) ∧ Below w.heap.size w w' := by
  have hB : Below w.heap.size w (((w.alloc (Obj.cells (vB u).toArray 29)).alloc (Obj.cells (vB v).toArray 29)).alloc (Obj.cells (vB (List.replicate 32 0#8)).toArray 29)) := (((Below.refl _ _).alloc (Nat.le_refl _) _).alloc (by simp) _).alloc (by simp; omega) _
  have r1 : Row (((w.alloc (Obj.cells (vB u).toArray 29)).alloc (Obj.cells (vB v).toArray 29)).alloc (Obj.cells (vB (List.replicate 32 0#8)).toArray 29)) w.heap.size (vB u) 29 := ((Row.new w (vB u) _).alloc _).alloc _
  have r2 : Row (((w.alloc (Obj.cells (vB u).toArray 29)).alloc (Obj.cells (vB v).toArray 29)).alloc (Obj.cells (vB (List.replicate 32 0#8)).toArray 29)) (w.heap.size + 1) (vB v) 29 := (Row.new' (by simp) rfl).alloc _
  have r3 : Row (((w.alloc (Obj.cells (vB u).toArray 29)).alloc (Obj.cells (vB v).toArray 29)).alloc (Obj.cells (vB (List.replicate 32 0#8)).toArray 29)) (w.heap.size + 2) (vB (List.replicate 32 0#8)) 29 := Row.new' (by simp) rfl
  have HB : Hid (Below w.heap.size w (((w.alloc (Obj.cells (vB u).toArray 29)).alloc (Obj.cells (vB v).toArray 29)).alloc (Obj.cells (vB (List.replicate 32 0#8)).toArray 29))) := hB
  have H1 : Hid (∀ X, Below (((w.alloc (Obj.cells (vB u).toArray 29)).alloc (Obj.cells (vB v).toArray 29)).alloc (Obj.cells (vB (List.replicate 32 0#8)).toArray 29)).heap.size (((w.alloc (Obj.cells (vB u).toArray 29)).alloc (Obj.cells (vB v).toArray 29)).alloc (Obj.cells (vB (List.replicate 32 0#8)).toArray 29)) X → X.rangeAt w.heap.size 0 (vB u)) := fun X h => (Row.below r1 h r1.lt).all
  have H2 : Hid (∀ X, Below (((w.alloc (Obj.cells (vB u).toArray 29)).alloc (Obj.cells (vB v).toArray 29)).alloc (Obj.cells (vB (List.replicate 32 0#8)).toArray 29)).heap.size (((w.alloc (Obj.cells (vB u).toArray 29)).alloc (Obj.cells (vB v).toArray 29)).alloc (Obj.cells (vB (List.replicate 32 0#8)).toArray 29)) X → X.rangeAt (w.heap.size + 1) 0 (vB v)) := fun X h => (Row.below r2 h r2.lt).all
  have H3 : Hid (∀ X, Below (((w.alloc (Obj.cells (vB u).toArray 29)).alloc (Obj.cells (vB v).toArray 29)).alloc (Obj.cells (vB (List.replicate 32 0#8)).toArray 29)).heap.size (((w.alloc (Obj.cells (vB u).toArray 29)).alloc (Obj.cells (vB v).toArray 29)).alloc (Obj.cells (vB (List.replicate 32 0#8)).toArray 29)) X → Row X (w.heap.size + 2) (vB (List.replicate 32 0#8)) 29) := fun X h => Row.below r3 h r3.lt
  have HU : Hid (∀ X, Below (((w.alloc (Obj.cells (vB u).toArray 29)).alloc (Obj.cells (vB v).toArray 29)).alloc (Obj.cells (vB (List.replicate 32 0#8)).toArray 29)).heap.size (((w.alloc (Obj.cells (vB u).toArray 29)).alloc (Obj.cells (vB v).toArray 29)).alloc (Obj.cells (vB (List.replicate 32 0#8)).toArray 29)) X → Below w.heap.size w X) := fun X h => hB.trans (h.mono hB.size)
  have HI1 : Hid ((Tryd.prog.info? 29).map (·.size) = some (vB u).length) := by show _ = _; rw [vB_length, hu]; exact info_dig
  have HI2 : Hid ((Tryd.prog.info? 29).map (·.size) = some (vB v).length) := by show _ = _; rw [vB_length, hv]; exact info_dig
  have HUL : Hid (u.length = 32) := hu
  have HVL : Hid (v.length = 32) := hv
  have HKL : Hid (∀ W, Below w.heap.size w W → Tab W 3) := fun W hB => hK.below hB hK.lt
  by_cases hz : v = zd
  · have HN : Hid (∀ X, _) := fun X => noughts_any v hv true (decide_eq_true hz) X
    have HS : Hid ((sgl u v).dg = zd) := by show _ = _; unfold sgl; rw [if_pos hz]; rfl
    have HE : Hid ((if v = zd then (50 : Int) else 0) = 50) := if_pos hz
    have HI5 : Hid ((Tryd.prog.info? 29).map (·.size) = some (vB zd).toArray.size) := by show _ = _; kernel_rfl
    rw [HS.out, HE.out]
    clear hz hu hv r1 r2 r3 hB HS HE hK
    go_enter Tryd.func25, Tryd.ntmps25
    go_wp2_with (first
      | (refine wpList_load_w rfl 29 (.tmp 3) rfl (w.heap.size + 1) 0 rfl (vB v) _ (H2.out _ (Below.refl _ _)) Tryd.underlying29 rfl HI2.out ?_; simp only [Act.put, List.setIfInBounds_toArray, List.set_cons_zero, List.set_cons_succ])
      | (go_at_call 42; refine Calls.mono (HN.out _) ?_; rintro e X ⟨rfl, q⟩; have BX : Hid (Below (((w.alloc (Obj.cells (vB u).toArray 29)).alloc (Obj.cells (vB v).toArray 29)).alloc (Obj.cells (vB (List.replicate 32 0#8)).toArray 29)).heap.size (((w.alloc (Obj.cells (vB u).toArray 29)).alloc (Obj.cells (vB v).toArray 29)).alloc (Obj.cells (vB (List.replicate 32 0#8)).toArray 29)) X) := q; clear q)
      | (refine wpList_store_mid rfl 29 (.tmp 4) (.tmp 8) rfl (w.heap.size + 2) 0 (vB zd).toArray rfl (by kernel_rfl) ((H3.out _ BX.out).there 0 _ (by decide)) HI5.out (all_oneCell_toArray (vB_one zd)) ?_; simp only [Act.put]))
    exact bodyPost_ret (results_row_tmpS Tryd.results25 _ _ (w.heap.size + 2) 29 (vB zd) (.int .i64 50) rfl rfl ((H3.out _ BX.out).over rfl) Tryd.underlying29 info_dig rfl) rfl ⟨rfl, below_setCells (HU.out _ BX.out) (by omega) _⟩
  · have HN : Hid (∀ X, _) := fun X => noughts_any v hv false (decide_eq_false hz) X
    obtain ⟨dd, hdd⟩ : ∃ dd, dd = dig ([2#8] ++ (u ++ v)) := ⟨_, rfl⟩
    have HD : Hid (dd = dig ([2#8] ++ (u ++ v))) := hdd
    have HS : Hid ((sgl u v).dg = dd) := by show _ = _; unfold sgl; rw [if_neg hz, hdd]; rfl
    have HE : Hid ((if v = zd then (50 : Int) else 0) = 0) := if_neg hz
    have HDL : Hid (dd.length = 32) := by rw [hdd]; exact dig_length _
    have HI5 : Hid ((Tryd.prog.info? 29).map (·.size) = some (vB dd).toArray.size) := by show _ = _; rw [info_dig]; simp [vB_length, HDL.out]
    rw [HS.out, HE.out]
    clear hz hu hv r1 r2 r3 hB HS HE hdd hK
    go_enter Tryd.func25, Tryd.ntmps25
    go_wp2_with (first
      | (refine wpList_load_w rfl 29 (.tmp 3) (by rfl) (w.heap.size + 1) 0 rfl (vB v) _ (H2.out _ (by first | exact Below.refl _ _ | exact BX.out)) Tryd.underlying29 rfl HI2.out ?_; simp only [Act.put, List.setIfInBounds_toArray, List.set_cons_zero, List.set_cons_succ])
      | (go_at_call 42; refine Calls.mono (HN.out _) ?_; rintro e X ⟨rfl, q⟩; have BX : Hid (Below (((w.alloc (Obj.cells (vB u).toArray 29)).alloc (Obj.cells (vB v).toArray 29)).alloc (Obj.cells (vB (List.replicate 32 0#8)).toArray 29)).heap.size (((w.alloc (Obj.cells (vB u).toArray 29)).alloc (Obj.cells (vB v).toArray 29)).alloc (Obj.cells (vB (List.replicate 32 0#8)).toArray 29)) X) := q; clear q)
      | (refine wpList_load_w rfl 29 (.tmp 2) (by rfl) w.heap.size 0 rfl (vB u) _ (H1.out _ BX.out) Tryd.underlying29 rfl HI1.out ?_; simp only [Act.put, List.setIfInBounds_toArray, List.set_cons_zero, List.set_cons_succ])
      | (refine wpList_plain rfl fun _ hK => wp_buildB rfl HUL.out HVL.out rfl rfl (hK _ _ ?_); simp only [Act.put, List.setIfInBounds_toArray, List.set_cons_zero, List.set_cons_succ])
      | (go_at_call 50; refine Calls.mono (one_any u v dd HUL.out HVL.out HD.out _ (HKL.out _ (HU.out _ BX.out))) ?_; rintro e Y ⟨rfl, q⟩; have BY : Hid (Below (((w.alloc (Obj.cells (vB u).toArray 29)).alloc (Obj.cells (vB v).toArray 29)).alloc (Obj.cells (vB (List.replicate 32 0#8)).toArray 29)).heap.size (((w.alloc (Obj.cells (vB u).toArray 29)).alloc (Obj.cells (vB v).toArray 29)).alloc (Obj.cells (vB (List.replicate 32 0#8)).toArray 29)) Y) := BX.out.trans (q.mono BX.out.size); clear q)
      | (refine wpList_store_mid rfl 29 (.tmp 4) (.tmp 12) rfl (w.heap.size + 2) 0 (vB dd).toArray rfl rfl ((H3.out _ BY.out).there 0 _ (by simp [vB_length, HDL.out])) HI5.out (all_oneCell_toArray (vB_one dd)) ?_; simp only [Act.put]))
    exact bodyPost_ret (results_row_tmpS Tryd.results25 _ _ (w.heap.size + 2) 29 (vB dd) (.int .i64 0) rfl rfl ((H3.out _ BY.out).over (by rw [vB_length, HDL.out]; rfl)) Tryd.underlying29 info_dig (by rw [vB_length, HDL.out])) rfl ⟨rfl, below_setCells (HU.out _ BY.out) (by omega) _⟩
set_option maxRecDepth 100000 in
set_option maxHeartbeats 4000000 in
theorem leafText5_any (l r : List (BitVec 8)) (hl : Dl l) (hr : Dl r) (w : World) :
    Calls Tryd.prog 52 #[.agg (vB l).toArray, .agg (vB r).toArray] w fun e w' => ∃ v, e = .returned v ∧ w'.ownsRow w.heap.size 5 1 v 65 (vB ([2#8] ++ (l ++ r))) ∧ Below w.heap.size w w' := by
  obtain ⟨W1, hW1⟩ : ∃ W1, W1 = ((w.alloc (.cells (vB l).toArray 29)).alloc (.cells (vB r).toArray 29)).alloc (.cells #[.int .u8 2] 5) := ⟨_, rfl⟩
  have hB : Below w.heap.size w W1 := by rw [hW1]; exact (((Below.refl _ _).alloc (Nat.le_refl _) _).alloc (by simp) _).alloc (by simp; omega) _
  have r1 : Row W1 w.heap.size (vB l) 29 := by rw [hW1]; exact ((Row.new w (vB l) _).alloc _).alloc _
  have r2 : Row W1 (w.heap.size + 1) (vB r) 29 := by rw [hW1]; exact (Row.new' (by simp) rfl).alloc _
  have r3 : Row W1 (w.heap.size + 2) (vB [2#8]) 5 := by rw [hW1]; exact Row.new' (by simp) rfl
  have HO : Hid (W1.ownsRow (w.heap.size + 2) 5 1 (.slice (some ⟨w.heap.size + 2, 0, none⟩) 1 1) 1 (vB [2#8])) := row_owns (Nat.le_refl _) rfl (by decide) r3
  have HS1 : Hid (SlAt W1 (.slice (some ⟨w.heap.size, 0, none⟩) 32 32) l) := slat_row r1 hl
  have HS2 : Hid (SlAt W1 (.slice (some ⟨w.heap.size + 1, 0, none⟩) 32 32) r) := slat_row r2 hr
  have HZ : Hid (w.heap.size + 2 ≤ W1.heap.size) := Nat.le_of_lt r3.lt
  have hl' := hl
  have hr' := hr
  clear r1 r2 r3
  go_enter Tryd.func52, Tryd.ntmps52
  go_wp2_with (first
    | (rw [← hW1]; refine wpList_append_bytes rfl (.tmp 7) (.tmp 8) rfl W1 w w.heap.size (w.heap.size + 2) _ 1 32 [2#8] l HO.out rfl _ 32 hl rfl HS1.out (fun h => by cases h) (by decide) HZ.out (by omega) hB ?_; intro v3 w3 hO3 hB3 hG3; simp only [Act.put, List.setIfInBounds_toArray, List.set_cons_zero, List.set_cons_succ])
    | (refine wpList_append_bytes rfl (.tmp 10) (.tmp 11) rfl w3 w w.heap.size (w.heap.size + 2) _ 33 32 ([2#8] ++ l) r hO3 rfl _ 32 hr rfl (slat_grown HS2.out hG3 (by simp [Value.ownBlock])) (fun h => by cases h) (by decide) (Nat.le_trans HZ.out hG3.size) (by omega) hB3 ?_; intro v4 w4 hO4 hB4 hG4; clear hG4; simp only [Act.put, List.setIfInBounds_toArray, List.set_cons_zero, List.set_cons_succ]))
  go_ret
  rw [List.append_assoc] at hO4
  exact ⟨v4, rfl, own_less hO4 (by omega), hB4⟩

set_option maxRecDepth 100000 in
set_option maxHeartbeats 4000000 in
theorem none5_any (d : List (BitVec 8)) (hd : d.length = 32) (B : Bool) (hB : decide (d = zd) = B) (w : World) : Calls Tryd.prog 15 #[.agg (vB d).toArray] w fun e w' => e = .returned (.bool B) ∧ Below w.heap.size w w' := by
  have r0 : Row (w.alloc (Obj.cells (vB d).toArray 29)) w.heap.size (vB d) 29 := Row.new _ _ _
  have HI : Hid ((Tryd.prog.info? 29).map (·.size) = some (vB d).length) := by show _ = _; rw [vB_length, hd]; exact info_dig
  have HD : Hid (d.length = 32) := hd
  have HB : Hid (decide (d = zd) = B) := hB
  clear hd hB
  go_enter Tryd.func15, Tryd.ntmps15
  go_wp2_with (first
    | (refine wpList_load_w rfl 29 (.tmp 1) rfl w.heap.size 0 rfl (vB d) _ r0.all Tryd.underlying29 rfl HI.out ?_; simp only [Act.put, List.setIfInBounds_toArray, List.set_cons_zero, List.set_cons_succ])
    | (refine wpList_eql_w rfl 29 (.tmp 3) (.tmp 4) _ rfl 5 32 d zd rfl (by kernel_rfl) Tryd.underlying29 Tryd.underlying5 info_u8 HD.out rfl guard_dig ?_; rw [HB.out]; simp only [Act.put, List.setIfInBounds_toArray, List.set_cons_zero, List.set_cons_succ]))
  go_ret
  exact ⟨rfl, (Below.refl _ _).alloc (Nat.le_refl _) _⟩
set_option maxRecDepth 100000 in
set_option maxHeartbeats 4000000 in
theorem rleaf_s (u v : List (BitVec 8)) (hu : u.length = 32) (hv : v.length = 32) (w : World) (hG : Given w) : Calls Tryd.prog 26 #[.agg (vB u).toArray, .agg (vB v).toArray] w fun e w' => e = .returned (.tuple #[.agg (vB (sgl u v).dg).toArray, .int .i64 (if v = zd then 50 else 0)]) ∧ Below w.heap.size w w' := by
  have hB : Below w.heap.size w (((w.alloc (Obj.cells (vB u).toArray 29)).alloc (Obj.cells (vB v).toArray 29)).alloc (Obj.cells (vB (List.replicate 32 0#8)).toArray 29)) := (((Below.refl _ _).alloc (Nat.le_refl _) _).alloc (by simp) _).alloc (by simp; omega) _
  have r1 : Row (((w.alloc (Obj.cells (vB u).toArray 29)).alloc (Obj.cells (vB v).toArray 29)).alloc (Obj.cells (vB (List.replicate 32 0#8)).toArray 29)) w.heap.size (vB u) 29 := ((Row.new w (vB u) _).alloc _).alloc _
  have r2 : Row (((w.alloc (Obj.cells (vB u).toArray 29)).alloc (Obj.cells (vB v).toArray 29)).alloc (Obj.cells (vB (List.replicate 32 0#8)).toArray 29)) (w.heap.size + 1) (vB v) 29 := (Row.new' (by simp) rfl).alloc _
  have r3 : Row (((w.alloc (Obj.cells (vB u).toArray 29)).alloc (Obj.cells (vB v).toArray 29)).alloc (Obj.cells (vB (List.replicate 32 0#8)).toArray 29)) (w.heap.size + 2) (vB (List.replicate 32 0#8)) 29 := Row.new' (by simp) rfl
  have HB : Hid (Below w.heap.size w (((w.alloc (Obj.cells (vB u).toArray 29)).alloc (Obj.cells (vB v).toArray 29)).alloc (Obj.cells (vB (List.replicate 32 0#8)).toArray 29))) := hB
  have H1 : Hid (∀ X, Below (((w.alloc (Obj.cells (vB u).toArray 29)).alloc (Obj.cells (vB v).toArray 29)).alloc (Obj.cells (vB (List.replicate 32 0#8)).toArray 29)).heap.size (((w.alloc (Obj.cells (vB u).toArray 29)).alloc (Obj.cells (vB v).toArray 29)).alloc (Obj.cells (vB (List.replicate 32 0#8)).toArray 29)) X → X.rangeAt w.heap.size 0 (vB u)) := fun X h => (Row.below r1 h r1.lt).all
  have H2 : Hid (∀ X, Below (((w.alloc (Obj.cells (vB u).toArray 29)).alloc (Obj.cells (vB v).toArray 29)).alloc (Obj.cells (vB (List.replicate 32 0#8)).toArray 29)).heap.size (((w.alloc (Obj.cells (vB u).toArray 29)).alloc (Obj.cells (vB v).toArray 29)).alloc (Obj.cells (vB (List.replicate 32 0#8)).toArray 29)) X → X.rangeAt (w.heap.size + 1) 0 (vB v)) := fun X h => (Row.below r2 h r2.lt).all
  have H3 : Hid (∀ X, Below (((w.alloc (Obj.cells (vB u).toArray 29)).alloc (Obj.cells (vB v).toArray 29)).alloc (Obj.cells (vB (List.replicate 32 0#8)).toArray 29)).heap.size (((w.alloc (Obj.cells (vB u).toArray 29)).alloc (Obj.cells (vB v).toArray 29)).alloc (Obj.cells (vB (List.replicate 32 0#8)).toArray 29)) X → Row X (w.heap.size + 2) (vB (List.replicate 32 0#8)) 29) := fun X h => Row.below r3 h r3.lt
  have HU : Hid (∀ X, Below (((w.alloc (Obj.cells (vB u).toArray 29)).alloc (Obj.cells (vB v).toArray 29)).alloc (Obj.cells (vB (List.replicate 32 0#8)).toArray 29)).heap.size (((w.alloc (Obj.cells (vB u).toArray 29)).alloc (Obj.cells (vB v).toArray 29)).alloc (Obj.cells (vB (List.replicate 32 0#8)).toArray 29)) X → Below w.heap.size w X) := fun X h => hB.trans (h.mono hB.size)
  have HI1 : Hid ((Tryd.prog.info? 29).map (·.size) = some (vB u).length) := by show _ = _; rw [vB_length, hu]; exact info_dig
  have HI2 : Hid ((Tryd.prog.info? 29).map (·.size) = some (vB v).length) := by show _ = _; rw [vB_length, hv]; exact info_dig
  have HUL : Hid (u.length = 32) := hu
  have HVL : Hid (v.length = 32) := hv
  have HGL : Hid (∀ W, Below w.heap.size w W → Given W) := fun W hB => hG.low hB
  by_cases hz : v = zd
  · have HN : Hid (∀ X, _) := fun X => none5_any v hv true (decide_eq_true hz) X
    have HS : Hid ((sgl u v).dg = zd) := by show _ = _; unfold sgl; rw [if_pos hz]; rfl
    have HE : Hid ((if v = zd then (50 : Int) else 0) = 50) := if_pos hz
    have HI5 : Hid ((Tryd.prog.info? 29).map (·.size) = some (vB zd).toArray.size) := by show _ = _; kernel_rfl
    rw [HS.out, HE.out]
    clear hz hu hv r1 r2 r3 hB HS HE hG
    go_enter Tryd.func26, Tryd.ntmps26
    go_wp2_with (first
      | (refine wpList_load_w rfl 29 (.tmp 3) rfl (w.heap.size + 1) 0 rfl (vB v) _ (H2.out _ (Below.refl _ _)) Tryd.underlying29 rfl HI2.out ?_; simp only [Act.put, List.setIfInBounds_toArray, List.set_cons_zero, List.set_cons_succ])
      | (go_at_call 15; refine Calls.mono (HN.out _) ?_; rintro e X ⟨rfl, q⟩; have BX : Hid (Below (((w.alloc (Obj.cells (vB u).toArray 29)).alloc (Obj.cells (vB v).toArray 29)).alloc (Obj.cells (vB (List.replicate 32 0#8)).toArray 29)).heap.size (((w.alloc (Obj.cells (vB u).toArray 29)).alloc (Obj.cells (vB v).toArray 29)).alloc (Obj.cells (vB (List.replicate 32 0#8)).toArray 29)) X) := q; clear q)
      | (refine wpList_store_mid rfl 29 (.tmp 4) (.tmp 8) rfl (w.heap.size + 2) 0 (vB zd).toArray rfl (by kernel_rfl) ((H3.out _ BX.out).there 0 _ (by decide)) HI5.out (all_oneCell_toArray (vB_one zd)) ?_; simp only [Act.put]))
    exact bodyPost_ret (results_row_tmpS Tryd.results26 _ _ (w.heap.size + 2) 29 (vB zd) (.int .i64 50) rfl rfl ((H3.out _ BX.out).over rfl) Tryd.underlying29 info_dig rfl) rfl ⟨rfl, below_setCells (HU.out _ BX.out) (by omega) _⟩
  · have HN : Hid (∀ X, _) := fun X => none5_any v hv false (decide_eq_false hz) X
    obtain ⟨dd, hdd⟩ : ∃ dd, dd = dig ([2#8] ++ (u ++ v)) := ⟨_, rfl⟩
    have HD : Hid (dd = dig ([2#8] ++ (u ++ v))) := hdd
    have HS : Hid ((sgl u v).dg = dd) := by show _ = _; unfold sgl; rw [if_neg hz, hdd]; rfl
    have HE : Hid ((if v = zd then (50 : Int) else 0) = 0) := if_neg hz
    have HLN : Hid (([2#8] ++ (u ++ v)).length ≤ 140737488355000) := by show _ ≤ _; rw [List.length_append, List.length_append, hu, hv]; decide
    have HDL : Hid (dd.length = 32) := by rw [hdd]; exact dig_length _
    have HI5 : Hid ((Tryd.prog.info? 29).map (·.size) = some (vB dd).toArray.size) := by show _ = _; rw [info_dig]; simp [vB_length, HDL.out]
    rw [HS.out, HE.out]
    clear hz hu hv r1 r2 r3 hB HS HE hdd hG
    go_enter Tryd.func26, Tryd.ntmps26
    go_wp2_with (first
      | (refine wpList_load_w rfl 29 (.tmp 3) (by rfl) (w.heap.size + 1) 0 rfl (vB v) _ (H2.out _ (by first | exact Below.refl _ _ | exact BX.out)) Tryd.underlying29 rfl HI2.out ?_; simp only [Act.put, List.setIfInBounds_toArray, List.set_cons_zero, List.set_cons_succ])
      | (go_at_call 15; refine Calls.mono (HN.out _) ?_; rintro e X ⟨rfl, q⟩; have BX : Hid (Below (((w.alloc (Obj.cells (vB u).toArray 29)).alloc (Obj.cells (vB v).toArray 29)).alloc (Obj.cells (vB (List.replicate 32 0#8)).toArray 29)).heap.size (((w.alloc (Obj.cells (vB u).toArray 29)).alloc (Obj.cells (vB v).toArray 29)).alloc (Obj.cells (vB (List.replicate 32 0#8)).toArray 29)) X) := q; clear q)
      | (refine wpList_load_w rfl 29 (.tmp 2) (by rfl) w.heap.size 0 rfl (vB u) _ (H1.out _ BX.out) Tryd.underlying29 rfl HI1.out ?_; simp only [Act.put, List.setIfInBounds_toArray, List.set_cons_zero, List.set_cons_succ])
      | (go_at_call 52; refine Calls.mono (leafText5_any u v HUL.out HVL.out _) ?_; rintro e Y1 ⟨tx, rfl, ho, q⟩; have OY : Hid _ := ho; have BY1 : Hid (Below (((w.alloc (Obj.cells (vB u).toArray 29)).alloc (Obj.cells (vB v).toArray 29)).alloc (Obj.cells (vB (List.replicate 32 0#8)).toArray 29)).heap.size (((w.alloc (Obj.cells (vB u).toArray 29)).alloc (Obj.cells (vB v).toArray 29)).alloc (Obj.cells (vB (List.replicate 32 0#8)).toArray 29)) Y1) := BX.out.trans (q.mono BX.out.size); clear q ho)
      | (go_at_call 51; refine Calls.mono (rsum_any ([2#8] ++ (u ++ v)) dd HD.out HLN.out tx _ (owns_slAt OY.out).1 (HGL.out _ (HU.out _ BY1.out))) ?_; rintro e Y ⟨rfl, q⟩; have BY : Hid (Below (((w.alloc (Obj.cells (vB u).toArray 29)).alloc (Obj.cells (vB v).toArray 29)).alloc (Obj.cells (vB (List.replicate 32 0#8)).toArray 29)).heap.size (((w.alloc (Obj.cells (vB u).toArray 29)).alloc (Obj.cells (vB v).toArray 29)).alloc (Obj.cells (vB (List.replicate 32 0#8)).toArray 29)) Y) := BY1.out.trans (q.mono BY1.out.size); clear q)
      | (refine wpList_store_mid rfl 29 (.tmp 4) (.tmp 12) rfl (w.heap.size + 2) 0 (vB dd).toArray rfl rfl ((H3.out _ BY.out).there 0 _ (by simp [vB_length, HDL.out])) HI5.out (all_oneCell_toArray (vB_one dd)) ?_; simp only [Act.put]))
    exact bodyPost_ret (results_row_tmpS Tryd.results26 _ _ (w.heap.size + 2) 29 (vB dd) (.int .i64 0) rfl rfl ((H3.out _ BY.out).over (by rw [vB_length, HDL.out]; rfl)) Tryd.underlying29 info_dig (by rw [vB_length, HDL.out])) rfl ⟨rfl, below_setCells (HU.out _ BY.out) (by omega) _⟩

end Go.Proofs.YtfdgdmehgbmnkaaDoor
