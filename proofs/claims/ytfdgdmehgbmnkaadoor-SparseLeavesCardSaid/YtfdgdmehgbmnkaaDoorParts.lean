/-
  Parts and Sum.
-/
import Derived.Test.YtfdgdmehgbmnkaaDoorWrite

namespace Go.Proofs.YtfdgdmehgbmnkaaDoor
open Go Go.RowKit
open Sha

theorem finish_d (s : St) (t : List (BitVec 8)) (d : List (BitVec 8)) (ht : t.length = 64) (n : Nat) (hn : n < 9223372036854775808) (hd : (fin s t n).bytes = d) (w : World) (hK : Tab w 3) :
    Calls Tryd.prog 97 #[.agg (vW s.list).toArray, .agg (vB t).toArray, .int .i64 n] w fun e w' => e = .returned (.agg (vB d).toArray) ∧ Below w.heap.size w w' := by
  rw [← hd]; exact finish_any s t ht n hn w hK

theorem mul8 (n : Nat) (hn : n < 1152921504606846976) : IntKind.i64.wrap (8 * (n : Int)) = 8 * (n : Int) := by
  rw [IntKind.wrap_i64]; omega

set_option maxRecDepth 100000 in
set_option maxHeartbeats 1000000 in
theorem hsum_any (bs : List (BitVec 8)) (hlen : bs.length < 1152921504606846976) (b : Nat) (w : World) (hK : Tab w 3) (hH : HAt w b bs) :
    Calls Tryd.prog 86 #[.pointer (some ⟨b, 0, none⟩)] w fun e w' => e = .returned (.agg (vB (dig bs)).toArray) ∧ Below w.heap.size w w' := by
  obtain ⟨dd, hdd⟩ : ∃ dd, dd = dig bs := ⟨_, rfl⟩
  rw [← hdd]
  have HD : Hid (dd = dig bs) := hdd
  have HDL : Hid (dd.length = 32) := by rw [hdd]; exact dig_length bs
  obtain ⟨s, hs⟩ : ∃ s, s = hst bs := ⟨_, rfl⟩
  obtain ⟨t, ht⟩ : ∃ t, t = hwait bs := ⟨_, rfl⟩
  have htl : t.length = 64 := by rw [ht]; exact hwait_length bs
  obtain ⟨n, hn⟩ : ∃ n, n = bs.length := ⟨_, rfl⟩
  unfold HAt at hH
  rw [← hs, ← ht, ← hn] at hH
  rw [← hn] at hlen
  have HF : Hid ((fin s t (8 * n)).bytes = dd) := by rw [hdd, hs, ht, hn]; rfl
  clear hdd hs ht hn
  go_enter Tryd.func86, Tryd.ntmps86
  go_wp2
  obtain ⟨W, hW⟩ : ∃ W, W = w.alloc (Obj.cells (vB (List.replicate 32 0#8)).toArray 29) := ⟨_, rfl⟩
  have hB : Below w.heap.size w W := by rw [hW]; exact (Below.refl _ _).alloc (Nat.le_refl _) _
  have hz : W.heap.size = w.heap.size + 1 := by rw [hW]; simp
  have r0 : Row W w.heap.size (vB (List.replicate 32 0#8)) 29 := by rw [hW]; exact Row.new _ _ _
  have r1 : Row W b (hcells s t n) 153 := by rw [hW]; exact hH.alloc _
  have hT : Tab W 3 := hK.below hB hK.lt
  change Code.wp _ _ _ _ (w.alloc (Obj.cells (vB (List.replicate 32 0#8)).toArray 29))
  rw [← hW]
  clear hW
  have hbl := r1.lt
  have hi64 : (Tryd.prog.info? 151).map (·.size) = some (vB t).length := by rw [info_b64, vB_length, htl]
  refine wp_region_quiet_tail (C := fun w' => Below W.heap.size W w') 14 (by kernel_rfl) (by kernel_rfl) ((Below.refl _ _).drew) ?_
  simp only [List.take_succ_cons, List.take_zero, List.drop_succ_cons, List.drop_zero]
  refine quiet_copy rfl (.tmp 0) (.inl rfl) ?_
  simp only [Act.put, List.setIfInBounds_toArray, List.set_cons_zero, List.set_cons_succ]
  refine quiet_val rfl (.pointer (some ⟨b, 0, none⟩)) (fun w' _ => by go_simp) ?_
  simp only [Act.put, List.setIfInBounds_toArray, List.set_cons_zero, List.set_cons_succ]
  refine quiet_val rfl (.pointer (some ⟨b, 0, none⟩)) (fun w' _ => by go_simp) ?_
  simp only [Act.put, List.setIfInBounds_toArray, List.set_cons_zero, List.set_cons_succ]
  refine quiet_load rfl 142 (.tmp 5) rfl b 0 rfl (vW s.list) _ (fun w' hw' => (r1.below hw' hbl).range 0 _ (hcells_state _ _ _)) Tryd.underlying142 rfl info_arr8 ?_
  simp only [Act.put, List.setIfInBounds_toArray, List.set_cons_zero, List.set_cons_succ]
  refine quiet_copy rfl (.tmp 0) (.inl rfl) ?_
  simp only [Act.put, List.setIfInBounds_toArray, List.set_cons_zero, List.set_cons_succ]
  refine quiet_val rfl (.pointer (some ⟨b, 0, none⟩)) (fun w' _ => by go_simp) ?_
  simp only [Act.put, List.setIfInBounds_toArray, List.set_cons_zero, List.set_cons_succ]
  refine quiet_val rfl (.pointer (some ⟨b, 8, none⟩)) (fun w' _ => by go_simp) ?_
  simp only [Act.put, List.setIfInBounds_toArray, List.set_cons_zero, List.set_cons_succ]
  refine quiet_load rfl 151 (.tmp 9) rfl b 8 rfl (vB t) _ (fun w' hw' => (r1.below hw' hbl).range 8 _ (hcells_wait _ _ _)) Tryd.underlying151 rfl hi64 ?_
  simp only [Act.put, List.setIfInBounds_toArray, List.set_cons_zero, List.set_cons_succ]
  refine quiet_copy rfl (.tmp 0) (.inl rfl) ?_
  simp only [Act.put, List.setIfInBounds_toArray, List.set_cons_zero, List.set_cons_succ]
  refine quiet_val rfl (.pointer (some ⟨b, 0, none⟩)) (fun w' _ => by go_simp) ?_
  simp only [Act.put, List.setIfInBounds_toArray, List.set_cons_zero, List.set_cons_succ]
  refine quiet_val rfl (.pointer (some ⟨b, 72, none⟩)) (fun w' _ => by go_simp) ?_
  simp only [Act.put, List.setIfInBounds_toArray, List.set_cons_zero, List.set_cons_succ]
  refine quiet_val rfl (.int .i64 (n : Int)) (fun w' hw' => by have g := (r1.below hw' hbl).cell 72 _ (hcells_taken _ _ _ htl); clear hw'; go_simp) ?_
  simp only [Act.put, List.setIfInBounds_toArray, List.set_cons_zero, List.set_cons_succ]
  refine quiet_val rfl (.int .i64 ((8 * n : Nat) : Int)) (fun w' hw' => by have g := mul8 n hlen; clear hw'; go_simp) ?_
  simp only [Act.put, List.setIfInBounds_toArray, List.set_cons_zero, List.set_cons_succ]
  refine quiet_call rfl 97 #[.agg (vW s.list).toArray, .agg (vB t).toArray, .int .i64 ((8 * n : Nat) : Int)] (.agg (vB dd).toArray) (fun w' _ => by go_simp) (fun w' hw' => (finish_d s t dd htl (8 * n) (by omega) HF.out w' (hT.below hw' hT.lt)).mono (fun e w'' h => ⟨h.1, hw'.trans (h.2.mono hw'.size)⟩)) ?_
  simp only [Act.put, List.setIfInBounds_toArray, List.set_cons_zero, List.set_cons_succ]
  refine wpQuiet_nil ?_
  intro w' hw'
  have q0 := r0.below hw' (by omega)
  have qB := hB.trans (hw'.mono (by omega))
  clear hw' r0 r1 hB hT hbl hz
  have hi5 : (Tryd.prog.info? 29).map (·.size) = some (vB dd).toArray.size := by rw [info_dig]; simp [vB_length, HDL.out]
  refine wpList_store_mid rfl 29 (.tmp 2) (.tmp 16) rfl w.heap.size 0 (vB dd).toArray rfl rfl (q0.there 0 _ (by simp [vB_length, HDL.out])) hi5 (all_oneCell_toArray (vB_one dd)) ?_
  simp only [Act.put]
  have nf := q0.over (vs := vB dd) (by rw [vB_length, HDL.out]; rfl)
  have nB := below_setCells qB (b := w.heap.size) (o := 0) (Nat.le_refl _) (vB dd)
  go_wp2
  exact bodyPost_ret (results_row Tryd.results86 _ _ w.heap.size 29 (vB dd) rfl nf Tryd.underlying29 info_dig (by rw [vB_length, HDL.out])) rfl ⟨rfl, nB⟩

end Go.Proofs.YtfdgdmehgbmnkaaDoor

namespace Go.Proofs.YtfdgdmehgbmnkaaDoor
open Go Go.RowKit
open Sha

/-- v is a slice of the bytes d. -/
def SlAt (w : World) (v : Value) (d : List (BitVec 8)) : Prop :=
  (d = [] ∧ ∃ A cap, v = .slice A 0 cap) ∨ ∃ ab ao cap, v = .slice (some ⟨ab, ao, none⟩) d.length cap ∧ d.length ≤ cap ∧ w.rangeAt ab ao (vB d)

theorem range_below {B : Nat} {w w' : World} {c o : Nat} {cs : List Value} (h : w.rangeAt c o cs) (k : Below B w w') (hB : w.heap.size ≤ B) : w'.rangeAt c o cs := fun j v hv =>
  (k.cell (p := ⟨c, o + j, none⟩) (Nat.lt_of_lt_of_le (World.block_lt_of_cell? w _ (h j v hv)) hB)).trans (h j v hv)
theorem SlAt.below {B : Nat} {w w' : World} {v : Value} {d : List (BitVec 8)} (h : SlAt w v d) (k : Below B w w') (hB : w.heap.size ≤ B) : SlAt w' v d := by
  rcases h with h | ⟨ab, ao, cap, h1, h2, h3⟩
  · exact .inl h
  · exact .inr ⟨ab, ao, cap, h1, h2, range_below h3 k hB⟩

/-- Write of bytes that lay there ahead of the Hasher. -/
theorem write_old (bs d : List (BitVec 8)) (hlen : bs.length + d.length < 1152921504606846976) (b : Nat) (v : Value) (w0 w : World) (hK : Tab w 3) (hg : 3 ≠ b)
    (hH : HAt w b bs) (hv : SlAt w0 v d) (hB : Below w0.heap.size w0 w) (hb : w0.heap.size ≤ b) :
    Calls Tryd.prog 85 #[.pointer (some ⟨b, 0, none⟩), v] w fun e w' => e = .returned (.tuple #[]) ∧ HAt w' b (bs ++ d) ∧ But b w w' := by
  rcases hv with ⟨rfl, A, cap, rfl⟩ | ⟨ab, ao, cap, rfl, hcap, hr⟩
  · exact (write_nil b w cap A).mono (fun e w' h => ⟨h.1, by rw [h.2, List.append_nil]; exact hH, by rw [h.2]; exact But.refl _ _⟩)
  · cases d with
    | nil => exact (write_nil b w cap (some ⟨ab, ao, none⟩)).mono (fun e w' h => ⟨h.1, by rw [h.2, List.append_nil]; exact hH, by rw [h.2]; exact But.refl _ _⟩)
    | cons x d =>
      have hab : ab < w0.heap.size := World.block_lt_of_cell? w0 _ (hr 0 _ rfl)
      exact write_some bs (x :: d) hlen b ab ao cap hcap (by omega) w hK hg hH (range_below hr hB (Nat.le_refl _))

theorem take_flat (ps : List (List (BitVec 8))) (k : Nat) (h : k < ps.length) : (ps.take (k + 1)).flatten = (ps.take k).flatten ++ ps.getD k [] := by
  rw [List.take_succ_eq_append_getElem h, List.flatten_append]; simp [h]
theorem take_flat_length (ps : List (List (BitVec 8))) (k : Nat) (h : k < ps.length) : (ps.take k).flatten.length + (ps.getD k []).length ≤ ps.flatten.length := by
  have h1 : ps.flatten = (ps.take (k + 1)).flatten ++ (ps.drop (k + 1)).flatten := by rw [← List.flatten_append, List.take_append_drop]
  rw [h1, take_flat ps k h, List.length_append, List.length_append]; omega

theorem info_slb : (Tryd.prog.info? 46).map (·.size) = some 1 := by kernel_rfl

theorem hsum_d (bs dd : List (BitVec 8)) (hd : dd = dig bs) (hlen : bs.length < 1152921504606846976) (b : Nat) (w : World) (hK : Tab w 3) (hH : HAt w b bs) :
    Calls Tryd.prog 86 #[.pointer (some ⟨b, 0, none⟩)] w fun e w' => e = .returned (.agg (vB dd).toArray) ∧ Below w.heap.size w w' := by
  rw [hd]; exact hsum_any bs hlen b w hK hH

set_option maxRecDepth 100000 in
set_option maxHeartbeats 1000000 in
theorem parts_any (ps : List (List (BitVec 8))) (vs : List Value) (hl : vs.length = ps.length) (pb po cap : Nat) (hlen : ps.flatten.length < 1152921504606846976) (hpl : ps.length < 1152921504606846976) (w : World) (hK : Tab w 3)
    (hv : ∀ i, i < ps.length → SlAt w (vs.getD i undef) (ps.getD i [])) (hr : w.rangeAt pb po vs) :
    Calls Tryd.prog 70 #[.slice (some ⟨pb, po, none⟩) ps.length cap] w fun e w' => e = .returned (.agg (vB (dig ps.flatten)).toArray) ∧ Below w.heap.size w w' := by
  obtain ⟨dd, hdd⟩ : ∃ dd, dd = dig ps.flatten := ⟨_, rfl⟩
  rw [← hdd]
  have HD : Hid (dd = dig ps.flatten) := hdd
  have HDL : Hid (dd.length = 32) := by rw [hdd]; exact dig_length _
  clear hdd
  go_enter Tryd.func70, Tryd.ntmps70
  go_wp2_with (go_at_call 84; refine (new_any _).mono ?_; rintro e w1 ⟨b, rfl, hb1, hH1, hB1⟩)
  have hN : w.heap.size + 1 ≤ b := by simpa using hb1
  have hB0 : Below w.heap.size w w1 := ((Below.refl _ _).alloc (Nat.le_refl _) _).trans (hB1.mono (by simp))
  have r0 : Row w1 w.heap.size (vB (List.replicate 32 0#8)) 29 := Row.below (Row.new' rfl rfl) hB1 (by simp)
  clear hB1 hb1
  have hg : 3 ≠ b := by have := hK.lt; omega
  go_loopw [9] (fun i wr => ∃ k : Nat, k ≤ ps.length ∧ i = .int .i64 k ∧ HAt wr b (ps.take k).flatten ∧ Row wr w.heap.size (vB (List.replicate 32 0#8)) 29 ∧ Below w.heap.size w wr)
    (fun i _ => ps.length - (intOf i).toNat)
  case atStart => exact ⟨0, by omega, rfl, hH1, r0, hB0⟩
  case round =>
    obtain ⟨k, hk, rfl, hA, q0, qB⟩ := hrel
    clear hH1 r0 hB0
    by_cases hlt : k < ps.length
    · have gk : wr.cell? ⟨pb, po + k, none⟩ = some (vs.getD k undef) := range_below hr qB (Nat.le_refl _) k _ (by rw [List.getD_eq_getElem?_getD, List.getElem?_eq_getElem (by omega)]; rfl)
      have hsl := hv k hlt
      have HV : Hid _ := hsl
      have e1 := take_flat ps k hlt
      have e2 := take_flat_length ps k hlt
      have E1 : Hid _ := e1
      have E2 : Hid (_ < 1152921504606846976) := Nat.lt_of_le_of_lt e2 hlen
      generalize vs.getD k undef = v at gk HV
      clear e1 e2 hsl hv
      go_wp2_with (go_at_call 85; refine (write_old _ _ E2.out b v w wr (hK.below qB hK.lt) hg hA HV.out qB (by omega)).mono ?_; rintro e w2 ⟨rfl, hH2, hBut⟩)
      refine ⟨⟨k + 1, by omega, by go_num, by rw [E1.out]; exact hH2, q0.but hBut (by omega), But.below qB hBut (by omega) qB.size⟩, by simp [intOf]; omega⟩
    · obtain rfl : k = ps.length := by omega
      have hA' : HAt wr b ps.flatten := by rw [List.take_length] at hA; exact hA
      clear hA
      have hi5 : (Tryd.prog.info? 29).map (·.size) = some (vB dd).toArray.size := by rw [info_dig]; simp [vB_length, HDL.out]
      have hqz : w.heap.size < wr.heap.size := q0.lt
      go_wp2_with (first
        | (go_at_call 86; refine (hsum_d _ dd HD.out hlen b wr (hK.below qB hK.lt) hA').mono ?_; rintro e w2 ⟨rfl, hB2⟩)
        | (refine wpList_store_mid rfl 29 (.tmp 2) (.tmp 18) rfl w.heap.size 0 (vB dd).toArray rfl rfl ((q0.below hB2 (by omega)).there 0 _ (by simp [vB_length, HDL.out])) hi5 (all_oneCell_toArray (vB_one dd)) ?_))
      have nf := (q0.below hB2 (by omega)).over (vs := vB dd) (by rw [vB_length, HDL.out]; rfl)
      have nB := below_setCells (qB.trans (hB2.mono (by omega))) (b := w.heap.size) (o := 0) (Nat.le_refl _) (vB dd)
      exact bodyPost_ret (results_row Tryd.results70 _ _ w.heap.size 29 (vB dd) rfl nf Tryd.underlying29 info_dig (by rw [vB_length, HDL.out])) rfl ⟨rfl, nB⟩

end Go.Proofs.YtfdgdmehgbmnkaaDoor
