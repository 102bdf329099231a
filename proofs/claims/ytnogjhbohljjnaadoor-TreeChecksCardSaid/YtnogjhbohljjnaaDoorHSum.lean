/-
  (*Hasher).Sum, Len.
-/
import Derived.Test.YtnogjhbohljjnaaDoorWrite
namespace Go.Proofs.YtnogjhbohljjnaaDoor
open Go Go.RowKit
open Sha

theorem finish_d (s : St) (t : List (BitVec 8)) (d : List (BitVec 8)) (ht : t.length = 64) (n : Nat) (hn : n < 9223372036854775808) (hd : (fin s t n).bytes = d) (w : World) (hK : Tab w 3) :
    Calls Tryd.prog 88 #[.agg (vW s.list).toArray, .agg (vB t).toArray, .int .i64 n] w fun e w' => e = .returned (.agg (vB d).toArray) ∧ Below w.heap.size w w' := by
  rw [← hd]; exact finish_any s t ht n hn w hK

theorem mul8 (n : Nat) (hn : n < 1152921504606846976) : IntKind.i64.wrap (8 * (n : Int)) = 8 * (n : Int) := by
  rw [IntKind.wrap_i64]; omega

set_option maxRecDepth 100000 in
set_option maxHeartbeats 1000000 in
theorem hsum_any (bs : List (BitVec 8)) (hlen : bs.length < 1152921504606846976) (b : Nat) (w : World) (hK : Tab w 3) (hH : HAt w b bs) :
    Calls Tryd.prog 75 #[.pointer (some ⟨b, 0, none⟩)] w fun e w' => e = .returned (.agg (vB (dig bs)).toArray) ∧ Below w.heap.size w w' := by
  obtain ⟨dd, hdd⟩ : ∃ dd, dd = dig bs := ⟨_, rfl⟩
  rw [← hdd]
  have HD : Hid (dd = dig bs) := hdd
  have HDL : Hid (dd.length = 32) := by rw [hdd]; exact dig_length bs
  obtain ⟨s, hs⟩ : ∃ s, s = hst bs := ⟨_, rfl⟩
  obtain ⟨t, ht⟩ : ∃ t, t = hwait bs := ⟨_, rfl⟩
  have htl : t.length = 64 := by rw [ht]; exact hwait_length bs
  obtain ⟨n, hn⟩ : ∃ n, n = bs.length := ⟨_, rfl⟩
  unfold HAt at hH
  rw [← hs, ← ht, ← hn] at hH
  rw [← hn] at hlen
  have HF : Hid ((fin s t (8 * n)).bytes = dd) := by rw [hdd, hs, ht, hn]; rfl
  clear hdd hs ht hn
  go_enter Tryd.func75, Tryd.ntmps75
  go_wp2
  obtain ⟨W, hW⟩ : ∃ W, W = w.alloc (Obj.cells (vB (List.replicate 32 0#8)).toArray 24) := ⟨_, rfl⟩
  have hB : Below w.heap.size w W := by rw [hW]; exact (Below.refl _ _).alloc (Nat.le_refl _) _
  have hz : W.heap.size = w.heap.size + 1 := by rw [hW]; simp
  have r0 : Row W w.heap.size (vB (List.replicate 32 0#8)) 24 := by rw [hW]; exact Row.new _ _ _
  have r1 : Row W b (hcells s t n) 118 := by rw [hW]; exact hH.alloc _
  have hT : Tab W 3 := hK.below hB hK.lt
  change Code.wp _ _ _ _ (w.alloc (Obj.cells (vB (List.replicate 32 0#8)).toArray 24))
  rw [← hW]
  clear hW
  have hbl := r1.lt
  have hi64 : (Tryd.prog.info? 116).map (·.size) = some (vB t).length := by rw [info_b64, vB_length, htl]
  refine wp_region_quiet_tail (C := fun w' => Below W.heap.size W w') 14 (by kernel_rfl) (by kernel_rfl) ((Below.refl _ _).drew) ?_
  simp only [List.take_succ_cons, List.take_zero, List.drop_succ_cons, List.drop_zero]
  refine quiet_copy rfl (.tmp 0) (.inl rfl) ?_
  simp only [Act.put, List.setIfInBounds_toArray, List.set_cons_zero, List.set_cons_succ]
  refine quiet_val rfl (.pointer (some ⟨b, 0, none⟩)) (fun w' _ => by go_simp) ?_
  simp only [Act.put, List.setIfInBounds_toArray, List.set_cons_zero, List.set_cons_succ]
  refine quiet_val rfl (.pointer (some ⟨b, 0, none⟩)) (fun w' _ => by go_simp) ?_
  simp only [Act.put, List.setIfInBounds_toArray, List.set_cons_zero, List.set_cons_succ]
  refine quiet_load rfl 114 (.tmp 5) rfl b 0 rfl (vW s.list) _ (fun w' hw' => (r1.below hw' hbl).range 0 _ (hcells_state _ _ _)) Tryd.underlying114 rfl info_arr8 ?_
  simp only [Act.put, List.setIfInBounds_toArray, List.set_cons_zero, List.set_cons_succ]
  refine quiet_copy rfl (.tmp 0) (.inl rfl) ?_
  simp only [Act.put, List.setIfInBounds_toArray, List.set_cons_zero, List.set_cons_succ]
  refine quiet_val rfl (.pointer (some ⟨b, 0, none⟩)) (fun w' _ => by go_simp) ?_
  simp only [Act.put, List.setIfInBounds_toArray, List.set_cons_zero, List.set_cons_succ]
  refine quiet_val rfl (.pointer (some ⟨b, 8, none⟩)) (fun w' _ => by go_simp) ?_
  simp only [Act.put, List.setIfInBounds_toArray, List.set_cons_zero, List.set_cons_succ]
  refine quiet_load rfl 116 (.tmp 9) rfl b 8 rfl (vB t) _ (fun w' hw' => (r1.below hw' hbl).range 8 _ (hcells_wait _ _ _)) Tryd.underlying116 rfl hi64 ?_
  simp only [Act.put, List.setIfInBounds_toArray, List.set_cons_zero, List.set_cons_succ]
  refine quiet_copy rfl (.tmp 0) (.inl rfl) ?_
  simp only [Act.put, List.setIfInBounds_toArray, List.set_cons_zero, List.set_cons_succ]
  refine quiet_val rfl (.pointer (some ⟨b, 0, none⟩)) (fun w' _ => by go_simp) ?_
  simp only [Act.put, List.setIfInBounds_toArray, List.set_cons_zero, List.set_cons_succ]
  refine quiet_val rfl (.pointer (some ⟨b, 72, none⟩)) (fun w' _ => by go_simp) ?_
  simp only [Act.put, List.setIfInBounds_toArray, List.set_cons_zero, List.set_cons_succ]
  refine quiet_val rfl (.int .i64 (n : Int)) (fun w' hw' => by have g := (r1.below hw' hbl).cell 72 _ (hcells_taken _ _ _ htl); clear hw'; go_simp) ?_
  simp only [Act.put, List.setIfInBounds_toArray, List.set_cons_zero, List.set_cons_succ]
  refine quiet_val rfl (.int .i64 ((8 * n : Nat) : Int)) (fun w' hw' => by have g := mul8 n hlen; clear hw'; go_simp) ?_
  simp only [Act.put, List.setIfInBounds_toArray, List.set_cons_zero, List.set_cons_succ]
  refine quiet_call rfl 88 #[.agg (vW s.list).toArray, .agg (vB t).toArray, .int .i64 ((8 * n : Nat) : Int)] (.agg (vB dd).toArray) (fun w' _ => by go_simp) (fun w' hw' => (finish_d s t dd htl (8 * n) (by omega) HF.out w' (hT.below hw' hT.lt)).mono (fun e w'' h => ⟨h.1, hw'.trans (h.2.mono hw'.size)⟩)) ?_
  simp only [Act.put, List.setIfInBounds_toArray, List.set_cons_zero, List.set_cons_succ]
  refine wpQuiet_nil ?_
  intro w' hw'
  have q0 := r0.below hw' (by omega)
  have qB := hB.trans (hw'.mono (by omega))
  clear hw' r0 r1 hB hT hbl hz
  have hi5 : (Tryd.prog.info? 24).map (·.size) = some (vB dd).toArray.size := by rw [info_dig]; simp [vB_length, HDL.out]
  refine wpList_store_mid rfl 24 (.tmp 2) (.tmp 16) rfl w.heap.size 0 (vB dd).toArray rfl rfl (q0.there 0 _ (by simp [vB_length, HDL.out])) hi5 (all_oneCell_toArray (vB_one dd)) ?_
  simp only [Act.put]
  have nf := q0.over (vs := vB dd) (by rw [vB_length, HDL.out]; rfl)
  have nB := below_setCells qB (b := w.heap.size) (o := 0) (Nat.le_refl _) (vB dd)
  go_wp2
  exact bodyPost_ret (results_row Tryd.results75 _ _ w.heap.size 24 (vB dd) rfl nf Tryd.underlying24 info_dig (by rw [vB_length, HDL.out])) rfl ⟨rfl, nB⟩

end Go.Proofs.YtnogjhbohljjnaaDoor
