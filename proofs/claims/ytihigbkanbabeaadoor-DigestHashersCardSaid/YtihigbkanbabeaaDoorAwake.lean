/-
  awake: the digest of abc, by its digits.
-/
import Derived.Test.YtihigbkanbabeaaDoorHex
import Derived.Lib.SlBytesConst
namespace Go.Proofs.YtihigbkanbabeaaDoor
open Go Go.RowKit
open Sha

theorem abc_dig : hexs (dig [97#8, 98#8, 99#8]) = [98#8, 97#8, 55#8, 56#8, 49#8, 54#8, 98#8, 102#8, 56#8, 102#8, 48#8, 49#8, 99#8, 102#8, 101#8, 97#8, 52#8, 49#8, 52#8, 49#8, 52#8, 48#8, 100#8, 101#8, 53#8, 100#8, 97#8, 101#8, 50#8, 50#8, 50#8, 51#8, 98#8, 48#8, 48#8, 51#8, 54#8, 49#8, 97#8, 51#8, 57#8, 54#8, 49#8, 55#8, 55#8, 97#8, 57#8, 99#8, 98#8, 52#8, 49#8, 48#8, 102#8, 102#8, 54#8, 49#8, 102#8, 50#8, 48#8, 48#8, 49#8, 53#8, 97#8, 100#8] := by decide +kernel

theorem abc_str : str (hexs (dig [97#8, 98#8, 99#8])) = ⟨#[98, 97, 55, 56, 49, 54, 98, 102, 56, 102, 48, 49, 99, 102, 101, 97, 52, 49, 52, 49, 52, 48, 100, 101, 53, 100, 97, 101, 50, 50, 50, 51, 98, 48, 48, 51, 54, 49, 97, 51, 57, 54, 49, 55, 55, 97, 57, 99, 98, 52, 49, 48, 102, 102, 54, 49, 102, 50, 48, 48, 49, 53, 97, 100]⟩ := by
  rw [abc_dig]; kernel_rfl

theorem hex_s (d : List (BitVec 8)) (s : ByteArray) (hd : d.length = 32) (hs : str (hexs d) = s) (w : World) :
    Calls Tryd.prog 24 #[.agg (vB d).toArray] w fun e w' => e = .returned (.string s) ∧ Below w.heap.size w w' := by
  rw [← hs]; exact hex_any d hd w

theorem range_const (w : World) (fr : Nat × Nat) : (w.alloc (.cells #[Value.int IntKind.u8 97, Value.int IntKind.u8 98, Value.int IntKind.u8 99] 5 fr)).rangeAt w.heap.size 0 (vB [97#8, 98#8, 99#8]) := fun j v hv => by
  rw [cell_of_row _ _ _ _ _ fr (heap_alloc_last w _)]
  rw [Nat.zero_add]
  match j, hv with
  | 0, hv => exact hv
  | 1, hv => exact hv
  | 2, hv => exact hv

set_option maxRecDepth 100000 in
set_option maxHeartbeats 1000000 in
theorem awake_any (w : World) (hK : Tab w 1) :
    Calls Tryd.prog 9 #[] w fun e w' => e = .returned (.bool true) ∧ Below w.heap.size w w' := by
  obtain ⟨dd, hdd⟩ : ∃ dd, dd = dig [97#8, 98#8, 99#8] := ⟨_, rfl⟩
  have HD : Hid (dd = dig [97#8, 98#8, 99#8]) := hdd
  have HDL : Hid (dd.length = 32) := by rw [hdd]; exact dig_length _
  have HS : Hid (str (hexs dd) = ⟨#[98, 97, 55, 56, 49, 54, 98, 102, 56, 102, 48, 49, 99, 102, 101, 97, 52, 49, 52, 49, 52, 48, 100, 101, 53, 100, 97, 101, 50, 50, 50, 51, 98, 48, 48, 51, 54, 49, 97, 51, 57, 54, 49, 55, 55, 97, 57, 99, 98, 52, 49, 48, 102, 102, 54, 49, 102, 50, 48, 48, 49, 53, 97, 100]⟩) := by rw [hdd]; exact abc_str
  clear hdd
  have hi5 : (Tryd.prog.info? 26).map (·.size) = some (vB dd).toArray.size := by rw [info_dig]; simp [vB_length, HDL.out]
  have hi6 : (Tryd.prog.info? 26).map (·.size) = some (vB dd).length := by rw [info_dig, vB_length, HDL.out]
  have kc := Lib.run_convert_bytes_const (P := Tryd.prog) w 22 5 #[Value.int IntKind.u8 97, Value.int IntKind.u8 98, Value.int IntKind.u8 99] 3 3 Tryd.underlying22 Tryd.underlying5
  go_enter Tryd.func9, Tryd.ntmps9
  go_wp2_with (first
    | (go_at_call 11; refine (sum_any [97#8, 98#8, 99#8] dd HD.out (by decide) _ _ (hK.below ((Below.refl _ _).alloc (Nat.le_refl _) _) hK.lt) (.inr ⟨w.heap.size, 0, 3, rfl, by decide, range_const w _⟩)).mono ?_; rintro e w1 ⟨rfl, hB1⟩)
    | (refine wpList_store_mid rfl 26 (.tmp 1) (.tmp 5) rfl w1.heap.size 0 (vB dd).toArray rfl rfl (Row.there (Row.new' (cs := vB (List.replicate 32 0#8)) rfl rfl) 0 _ (by simp [vB_length, HDL.out])) hi5 (all_oneCell_toArray (vB_one dd)) ?_; simp only [Act.put]; (have r1 := Row.over (Row.new w1 (vB (List.replicate 32 0#8)) 26) (vs := vB dd) (by rw [vB_length, HDL.out]; rfl)); (have hB2 := below_setCells ((((Below.refl _ _).alloc (Nat.le_refl _) _).trans (hB1.mono (by simp))).alloc (by have := hB1.size; simp at this; omega) (Obj.cells (vB (List.replicate 32 0#8)).toArray 26)) (b := w1.heap.size) (o := 0) (by have := hB1.size; simp at this; omega) (vB dd)); (change wpList _ _ _ _ _ (World.setCells (w1.alloc (Obj.cells (vB (List.replicate 32 0#8)).toArray 26)) w1.heap.size 0 (vB dd))); (generalize World.setCells (w1.alloc (Obj.cells (vB (List.replicate 32 0#8)).toArray 26)) w1.heap.size 0 (vB dd) = w2 at *))
    | (refine wpList_load_mid rfl 26 (.tmp 1) rfl w1.heap.size 0 rfl (vB dd) _ r1.all Tryd.underlying26 rfl hi6 ?_; simp only [Act.put, List.setIfInBounds_toArray, List.set_cons_zero, List.set_cons_succ])
    | (go_at_call 24; refine (hex_s dd _ HDL.out HS.out w2).mono ?_; rintro e w3 ⟨rfl, hB3⟩))
  go_ret
  exact ⟨rfl, hB2.trans (hB3.mono hB2.size)⟩

end Go.Proofs.YtihigbkanbabeaaDoor
