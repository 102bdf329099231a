/-
  Leaf.
-/
import Derived.Test.YtkgfaioinajkjaaDoorParts

namespace Go.Proofs.YtkgfaioinajkjaaDoor
open Go Go.RowKit
open Sha

/-- Parts of one list that lies in a new row. -/
theorem parts_one (d dd : List (BitVec 8)) (hd : dd = dig d) (v : Value) (hlen : d.length < 1152921504606846976) (g cap : Nat) (w0 w : World) (hK : Tab w0 4) (hv : SlAt w0 v d) (hB : Below w0.heap.size w0 w) (hr : Row w g [v] 31) :
    Calls Tryd.prog 40 #[.slice (some ⟨g, 0, none⟩) 1 cap] w fun e w' => e = .returned (.agg (vB dd).toArray) ∧ Below w.heap.size w w' := by
  have h := parts_any [d] [v] rfl g 0 cap (by simpa using hlen) (by show 1 < _; decide) w (hK.below hB hK.lt) (fun i hi => by
    obtain rfl : i = 0 := by simp at hi; omega
    exact hv.below hB (Nat.le_refl _)) hr.all
  rw [show [d].flatten = d by simp, ← hd] at h
  exact h

set_option maxRecDepth 100000 in
set_option maxHeartbeats 1000000 in
theorem sum_v (d dd : List (BitVec 8)) (hd : dd = dig d) (hlen : d.length < 1152921504606846976) (a : Option Addr) (n cap : Nat) (w : World) (hK : Tab w 4) (hv : SlAt w (.slice a n cap) d) :
    Calls Tryd.prog 36 #[.slice a n cap] w fun e w' => e = .returned (.agg (vB dd).toArray) ∧ Below w.heap.size w w' := by
  have HD : Hid (dd = dig d) := hd
  have HDL : Hid (dd.length = 32) := by rw [hd]; exact dig_length _
  have hi5 : (Tryd.prog.info? 42).map (·.size) = some (vB dd).toArray.size := by rw [info_dig]; simp [vB_length, HDL.out]
  clear hd
  go_enter Tryd.func36, Tryd.ntmps36
  go_wp2_with (first
    | (go_at_call 40; refine (parts_one d dd HD.out (.slice a n cap) hlen (w.heap.size + 1) 1 w _ hK hv (((Below.refl _ _).alloc (Nat.le_refl _) _).alloc (by simp) _) (Row.new' (by simp) rfl)).mono ?_; rintro e w2 ⟨rfl, hB2⟩)
    | (refine wpList_store_mid rfl 42 (.tmp 2) (.tmp 5) rfl w.heap.size 0 (vB dd).toArray rfl rfl (Row.there (Row.below (Row.alloc (Row.new' (cs := vB (List.replicate 32 0#8)) rfl rfl) _) hB2 (by simp; omega)) 0 _ (by simp [vB_length, HDL.out])) hi5 (all_oneCell_toArray (vB_one dd)) ?_))
  have q0 : Row w2 w.heap.size (vB (List.replicate 32 0#8)) 42 := Row.below (Row.alloc (Row.new' rfl rfl) _) hB2 (by simp; omega)
  have nf := q0.over (vs := vB dd) (by rw [vB_length, HDL.out]; rfl)
  have nB := below_setCells ((((Below.refl _ _).alloc (Nat.le_refl _) _).alloc (by simp) _).trans (hB2.mono (by simp; omega))) (b := w.heap.size) (o := 0) (Nat.le_refl _) (vB dd)
  exact bodyPost_ret (results_row Tryd.results36 _ _ w.heap.size 42 (vB dd) rfl nf Tryd.underlying42 info_dig (by rw [vB_length, HDL.out])) rfl ⟨rfl, nB⟩

/-- Sum of a slice of bytes. -/
theorem sum_any (d dd : List (BitVec 8)) (hd : dd = dig d) (hlen : d.length < 1152921504606846976) (v : Value) (w : World) (hK : Tab w 4) (hv : SlAt w v d) :
    Calls Tryd.prog 36 #[v] w fun e w' => e = .returned (.agg (vB dd).toArray) ∧ Below w.heap.size w w' := by
  rcases hv with ⟨h1, A, cap, rfl⟩ | ⟨ab, ao, cap, rfl, h2, h3⟩
  · exact sum_v d dd hd hlen A 0 cap w hK (.inl ⟨h1, A, cap, rfl⟩)
  · exact sum_v d dd hd hlen _ _ _ w hK (.inr ⟨ab, ao, cap, rfl, h2, h3⟩)

end Go.Proofs.YtkgfaioinajkjaaDoor

namespace Go.Proofs.YtkgfaioinajkjaaDoor
open Go Go.RowKit
open Sha

/-- Parts of two lists whose list lies in a row. -/
theorem parts_two (d0 d dd : List (BitVec 8)) (hd : dd = dig (d0 ++ d)) (v0 v : Value) (hlen : d0.length + d.length < 1152921504606846976) (g cap : Nat) (w : World) (hK : Tab w 4) (h0 : SlAt w v0 d0) (hv : SlAt w v d) (hr : Row w g [v0, v] 31) :
    Calls Tryd.prog 40 #[.slice (some ⟨g, 0, none⟩) 2 cap] w fun e w' => e = .returned (.agg (vB dd).toArray) ∧ Below w.heap.size w w' := by
  have h := parts_any [d0, d] [v0, v] rfl g 0 cap (by simpa using hlen) (by show 2 < _; decide) w hK (fun i hi => by
    rcases (show i = 0 ∨ i = 1 by simp at hi; omega) with rfl | rfl
    · exact h0
    · exact hv) hr.all
  rw [show [d0, d].flatten = d0 ++ d by simp, ← hd] at h
  exact h
/-- Parts of three lists whose list lies in a row. -/
theorem parts_three (d0 d e0 dd : List (BitVec 8)) (hd : dd = dig (d0 ++ (d ++ e0))) (v0 v u : Value) (hlen : d0.length + (d.length + e0.length) < 1152921504606846976) (g cap : Nat) (w : World) (hK : Tab w 4) (h0 : SlAt w v0 d0) (hv : SlAt w v d) (hu : SlAt w u e0) (hr : Row w g [v0, v, u] 31) :
    Calls Tryd.prog 40 #[.slice (some ⟨g, 0, none⟩) 3 cap] w fun e w' => e = .returned (.agg (vB dd).toArray) ∧ Below w.heap.size w w' := by
  have h := parts_any [d0, d, e0] [v0, v, u] rfl g 0 cap (by simpa using hlen) (by show 3 < _; decide) w hK (fun i hi => by
    rcases (show i = 0 ∨ i = 1 ∨ i = 2 by simp at hi; omega) with rfl | rfl | rfl
    · exact h0
    · exact hv
    · exact hu) hr.all
  rw [show [d0, d, e0].flatten = d0 ++ (d ++ e0) by simp, ← hd] at h
  exact h

set_option maxRecDepth 100000 in
set_option maxHeartbeats 1000000 in
theorem leaf_v (d dd : List (BitVec 8)) (hd : dd = dig ([0#8] ++ d)) (hlen : d.length < 1152921504606846975) (a : Option Addr) (n cap : Nat) (w : World) (hK : Tab w 4) (hv : SlAt w (.slice a n cap) d) :
    Calls Tryd.prog 25 #[.slice a n cap] w fun e w' => e = .returned (.agg (vB dd).toArray) ∧ Below w.heap.size w w' := by
  have HD : Hid (dd = dig ([0#8] ++ d)) := hd
  have HDL : Hid (dd.length = 32) := by rw [hd]; exact dig_length _
  have hi5 : (Tryd.prog.info? 42).map (·.size) = some (vB dd).toArray.size := by rw [info_dig]; simp [vB_length, HDL.out]
  clear hd
  go_enter Tryd.func25, Tryd.ntmps25
  go_wp2_with (first
    | (go_at_call 40
       refine (parts_two [0#8] d dd HD.out (.slice (some ⟨w.heap.size + 1, 0, none⟩) 1 1) (.slice a n cap) (by simp; omega) (w.heap.size + 2) 2 _ (hK.below ((((Below.refl _ _).alloc (Nat.le_refl _) _).alloc (by simp) _).alloc (by simp; omega) _) hK.lt) (.inr ⟨w.heap.size + 1, 0, 1, rfl, Nat.le_refl _, Row.all (Row.alloc (Row.new' (cs := vB [0#8]) (by simp) rfl) _)⟩) (hv.below ((((Below.refl _ _).alloc (Nat.le_refl _) _).alloc (by simp) _).alloc (by simp; omega) _) (Nat.le_refl _)) (Row.new' (by simp) rfl)).mono ?_; rintro e w2 ⟨rfl, hB2⟩)
    | (refine wpList_store_mid rfl 42 (.tmp 2) (.tmp 6) rfl w.heap.size 0 (vB dd).toArray rfl rfl (Row.there (Row.below (Row.alloc (Row.alloc (Row.new' (cs := vB (List.replicate 32 0#8)) rfl rfl) _) _) hB2 (by simp; omega)) 0 _ (by simp [vB_length, HDL.out])) hi5 (all_oneCell_toArray (vB_one dd)) ?_))
  have q0 : Row w2 w.heap.size (vB (List.replicate 32 0#8)) 42 := Row.below (Row.alloc (Row.alloc (Row.new' rfl rfl) _) _) hB2 (by simp; omega)
  have nf := q0.over (vs := vB dd) (by rw [vB_length, HDL.out]; rfl)
  have nB := below_setCells (((((Below.refl _ _).alloc (Nat.le_refl _) _).alloc (by simp) _).alloc (by simp; omega) _).trans (hB2.mono (by simp; omega))) (b := w.heap.size) (o := 0) (Nat.le_refl _) (vB dd)
  exact bodyPost_ret (results_row Tryd.results25 _ _ w.heap.size 42 (vB dd) rfl nf Tryd.underlying42 info_dig (by rw [vB_length, HDL.out])) rfl ⟨rfl, nB⟩

/-- Leaf of a slice of bytes. -/
theorem leaf_any (d dd : List (BitVec 8)) (hd : dd = dig ([0#8] ++ d)) (hlen : d.length < 1152921504606846975) (v : Value) (w : World) (hK : Tab w 4) (hv : SlAt w v d) :
    Calls Tryd.prog 25 #[v] w fun e w' => e = .returned (.agg (vB dd).toArray) ∧ Below w.heap.size w w' := by
  rcases hv with ⟨h1, A, cap, rfl⟩ | ⟨ab, ao, cap, rfl, h2, h3⟩
  · exact leaf_v d dd hd hlen A 0 cap w hK (.inl ⟨h1, A, cap, rfl⟩)
  · exact leaf_v d dd hd hlen _ _ _ w hK (.inr ⟨ab, ao, cap, rfl, h2, h3⟩)

end Go.Proofs.YtkgfaioinajkjaaDoor
