/-
  Root.
-/
import Derived.Test.YtdicgenhfmhklaaGreatDoorParts
import Derived.Test.YtdicgenhfmhklaaGreatDoorTFp
import Derived.WalkKit
import Derived.Lib.Slices
import Derived.Lib.Small
import Derived.Lib.Walk
import Derived.Lib.BitFns
import Derived.Lib.ItoaNum

namespace Go.Proofs.YtdicgenhfmhklaaGreatDoor
open Go Go.RowKit
open Sha

/-- Parts of one list that lies in a new row. -/
theorem parts_one (d dd : List (BitVec 8)) (hd : dd = dig d) (v : Value) (hlen : d.length < 1152921504606846976) (g cap : Nat) (w0 w : World) (hK : Tab w0 2) (hv : SlAtT w0 v d) (hB : Below w0.heap.size w0 w) (hr : Row w g [v] 54) :
    Calls Tryz.prog 63 #[.slice (some ⟨g, 0, none⟩) 1 cap] w fun e w' => e = .returned (.agg (vB dd).toArray) ∧ Below w.heap.size w w' := by
  have h := parts_any [d] [v] rfl g 0 cap (by simpa using hlen) (by show 1 < _; decide) w (hK.below hB hK.lt) (fun i hi => by
    obtain rfl : i = 0 := by simp at hi; omega
    exact hv.below hB (Nat.le_refl _)) hr.all
  rw [show [d].flatten = d by simp, ← hd] at h
  exact h

set_option maxRecDepth 100000 in
set_option maxHeartbeats 1000000 in
theorem sum_v (d dd : List (BitVec 8)) (hd : dd = dig d) (hlen : d.length < 1152921504606846976) (a : Option Addr) (n cap : Nat) (w : World) (hK : Tab w 2) (hv : SlAtT w (.slice a n cap) d) :
    Calls Tryz.prog 41 #[.slice a n cap] w fun e w' => e = .returned (.agg (vB dd).toArray) ∧ Below w.heap.size w w' := by
  have HD : Hid (dd = dig d) := hd
  have HDL : Hid (dd.length = 32) := by rw [hd]; exact dig_length _
  have hi5 : (Tryz.prog.info? 44).map (·.size) = some (vB dd).toArray.size := by rw [info_dig]; simp [vB_length, HDL.out]
  clear hd
  go_enter Tryz.func41, Tryz.ntmps41
  go_wp2_with (first
    | (go_at_call 63; refine (parts_one d dd HD.out (.slice a n cap) hlen (w.heap.size + 1) 1 w _ hK hv (((Below.refl _ _).alloc (Nat.le_refl _) _).alloc (by simp) _) (Row.new' (by simp) rfl)).mono ?_; rintro e w2 ⟨rfl, hB2⟩)
    | (refine wpList_store_mid rfl 44 (.tmp 2) (.tmp 5) rfl w.heap.size 0 (vB dd).toArray rfl rfl (Row.there (Row.below (Row.alloc (Row.new' (cs := vB (List.replicate 32 0#8)) rfl rfl) _) hB2 (by simp; omega)) 0 _ (by simp [vB_length, HDL.out])) hi5 (all_oneCell_toArray (vB_one dd)) ?_))
  have q0 : Row w2 w.heap.size (vB (List.replicate 32 0#8)) 44 := Row.below (Row.alloc (Row.new' rfl rfl) _) hB2 (by simp; omega)
  have nf := q0.over (vs := vB dd) (by rw [vB_length, HDL.out]; rfl)
  have nB := below_setCells ((((Below.refl _ _).alloc (Nat.le_refl _) _).alloc (by simp) _).trans (hB2.mono (by simp; omega))) (b := w.heap.size) (o := 0) (Nat.le_refl _) (vB dd)
  exact bodyPost_ret (results_row Tryz.results41 _ _ w.heap.size 44 (vB dd) rfl nf Tryz.underlying44 info_dig (by rw [vB_length, HDL.out])) rfl ⟨rfl, nB⟩

/-- Sum of a slice of bytes. -/
theorem sum_any (d dd : List (BitVec 8)) (hd : dd = dig d) (hlen : d.length < 1152921504606846976) (v : Value) (w : World) (hK : Tab w 2) (hv : SlAtT w v d) :
    Calls Tryz.prog 41 #[v] w fun e w' => e = .returned (.agg (vB dd).toArray) ∧ Below w.heap.size w w' := by
  rcases hv with ⟨h1, A, cap, rfl⟩ | ⟨ab, ao, cap, rfl, h2, h3⟩
  · exact sum_v d dd hd hlen A 0 cap w hK (.inl ⟨h1, A, cap, rfl⟩)
  · exact sum_v d dd hd hlen _ _ _ w hK (.inr ⟨ab, ao, cap, rfl, h2, h3⟩)

end Go.Proofs.YtdicgenhfmhklaaGreatDoor

namespace Go.Proofs.YtdicgenhfmhklaaGreatDoor
open Go Go.RowKit
open Sha

/-- Parts of two lists whose list lies in a row. -/
theorem parts_two (d0 d dd : List (BitVec 8)) (hd : dd = dig (d0 ++ d)) (v0 v : Value) (hlen : d0.length + d.length < 1152921504606846976) (g cap : Nat) (w : World) (hK : Tab w 2) (h0 : SlAtT w v0 d0) (hv : SlAtT w v d) (hr : Row w g [v0, v] 54) :
    Calls Tryz.prog 63 #[.slice (some ⟨g, 0, none⟩) 2 cap] w fun e w' => e = .returned (.agg (vB dd).toArray) ∧ Below w.heap.size w w' := by
  have h := parts_any [d0, d] [v0, v] rfl g 0 cap (by simpa using hlen) (by show 2 < _; decide) w hK (fun i hi => by
    rcases (show i = 0 ∨ i = 1 by simp at hi; omega) with rfl | rfl
    · exact h0
    · exact hv) hr.all
  rw [show [d0, d].flatten = d0 ++ d by simp, ← hd] at h
  exact h
/-- Parts of three lists whose list lies in a row. -/
theorem parts_three (d0 d e0 dd : List (BitVec 8)) (hd : dd = dig (d0 ++ (d ++ e0))) (v0 v u : Value) (hlen : d0.length + (d.length + e0.length) < 1152921504606846976) (g cap : Nat) (w : World) (hK : Tab w 2) (h0 : SlAtT w v0 d0) (hv : SlAtT w v d) (hu : SlAtT w u e0) (hr : Row w g [v0, v, u] 54) :
    Calls Tryz.prog 63 #[.slice (some ⟨g, 0, none⟩) 3 cap] w fun e w' => e = .returned (.agg (vB dd).toArray) ∧ Below w.heap.size w w' := by
  have h := parts_any [d0, d, e0] [v0, v, u] rfl g 0 cap (by simpa using hlen) (by show 3 < _; decide) w hK (fun i hi => by
    rcases (show i = 0 ∨ i = 1 ∨ i = 2 by simp at hi; omega) with rfl | rfl | rfl
    · exact h0
    · exact hv
    · exact hu) hr.all
  rw [show [d0, d, e0].flatten = d0 ++ (d ++ e0) by simp, ← hd] at h
  exact h

set_option maxRecDepth 100000 in
set_option maxHeartbeats 1000000 in
theorem leaf_v (d dd : List (BitVec 8)) (hd : dd = dig ([0#8] ++ d)) (hlen : d.length < 1152921504606846975) (a : Option Addr) (n cap : Nat) (w : World) (hK : Tab w 2) (hv : SlAtT w (.slice a n cap) d) :
    Calls Tryz.prog 42 #[.slice a n cap] w fun e w' => e = .returned (.agg (vB dd).toArray) ∧ Below w.heap.size w w' := by
  have HD : Hid (dd = dig ([0#8] ++ d)) := hd
  have HDL : Hid (dd.length = 32) := by rw [hd]; exact dig_length _
  have hi5 : (Tryz.prog.info? 44).map (·.size) = some (vB dd).toArray.size := by rw [info_dig]; simp [vB_length, HDL.out]
  clear hd
  go_enter Tryz.func42, Tryz.ntmps42
  go_wp2_with (first
    | (go_at_call 63
       refine (parts_two [0#8] d dd HD.out (.slice (some ⟨w.heap.size + 1, 0, none⟩) 1 1) (.slice a n cap) (by simp; omega) (w.heap.size + 2) 2 _ (hK.below ((((Below.refl _ _).alloc (Nat.le_refl _) _).alloc (by simp) _).alloc (by simp; omega) _) hK.lt) (.inr ⟨w.heap.size + 1, 0, 1, rfl, Nat.le_refl _, Row.all (Row.alloc (Row.new' (cs := vB [0#8]) (by simp) rfl) _)⟩) (hv.below ((((Below.refl _ _).alloc (Nat.le_refl _) _).alloc (by simp) _).alloc (by simp; omega) _) (Nat.le_refl _)) (Row.new' (by simp) rfl)).mono ?_; rintro e w2 ⟨rfl, hB2⟩)
    | (refine wpList_store_mid rfl 44 (.tmp 2) (.tmp 6) rfl w.heap.size 0 (vB dd).toArray rfl rfl (Row.there (Row.below (Row.alloc (Row.alloc (Row.new' (cs := vB (List.replicate 32 0#8)) rfl rfl) _) _) hB2 (by simp; omega)) 0 _ (by simp [vB_length, HDL.out])) hi5 (all_oneCell_toArray (vB_one dd)) ?_))
  have q0 : Row w2 w.heap.size (vB (List.replicate 32 0#8)) 44 := Row.below (Row.alloc (Row.alloc (Row.new' rfl rfl) _) _) hB2 (by simp; omega)
  have nf := q0.over (vs := vB dd) (by rw [vB_length, HDL.out]; rfl)
  have nB := below_setCells (((((Below.refl _ _).alloc (Nat.le_refl _) _).alloc (by simp) _).alloc (by simp; omega) _).trans (hB2.mono (by simp; omega))) (b := w.heap.size) (o := 0) (Nat.le_refl _) (vB dd)
  exact bodyPost_ret (results_row Tryz.results42 _ _ w.heap.size 44 (vB dd) rfl nf Tryz.underlying44 info_dig (by rw [vB_length, HDL.out])) rfl ⟨rfl, nB⟩

/-- Leaf of a slice of bytes. -/
theorem leaf_any (d dd : List (BitVec 8)) (hd : dd = dig ([0#8] ++ d)) (hlen : d.length < 1152921504606846975) (v : Value) (w : World) (hK : Tab w 2) (hv : SlAtT w v d) :
    Calls Tryz.prog 42 #[v] w fun e w' => e = .returned (.agg (vB dd).toArray) ∧ Below w.heap.size w w' := by
  rcases hv with ⟨h1, A, cap, rfl⟩ | ⟨ab, ao, cap, rfl, h2, h3⟩
  · exact leaf_v d dd hd hlen A 0 cap w hK (.inl ⟨h1, A, cap, rfl⟩)
  · exact leaf_v d dd hd hlen _ _ _ w hK (.inr ⟨ab, ao, cap, rfl, h2, h3⟩)

end Go.Proofs.YtdicgenhfmhklaaGreatDoor

namespace Go.Proofs.YtdicgenhfmhklaaGreatDoor
open Go Go.RowKit
open Sha

/-- A new slice of the bytes d, away from block B. -/
def SP.bt (B : Nat) (d : List (BitVec 8)) : SP := ⟨fun W v => ∃ N, N ≠ B ∧ v = .slice (some ⟨N, 0, none⟩) d.length d.length ∧ Row W N (vB d) 5, fun _ _ _ hB ⟨N, hN, e, r⟩ => ⟨N, hN, e, Row.below r hB (Row.lt r)⟩⟩
/-- A new list of three: new bytes, and two others. -/
def SP.l3 (B : Nat) (d : List (BitVec 8)) (v u : Value) : SP := ⟨fun W x => ∃ N v0, N ≠ B ∧ x = .slice (some ⟨N, 0, none⟩) 3 3 ∧ Row W N [v0, v, u] 54 ∧ (SP.bt B d).P W v0, fun _ _ _ hB ⟨N, v0, hN, e, r, h⟩ => ⟨N, v0, hN, e, Row.below r hB (Row.lt r), (SP.bt B d).st _ _ _ hB h⟩⟩
theorem SP.bt_turn {B : Nat} {d : List (BitVec 8)} {W : World} {v : Value} (h : (SP.bt B d).P W v) (o : Nat) (cs : List Value) : (SP.bt B d).P (W.setCells B o cs) v := by
  obtain ⟨N, hN, e, r⟩ := h
  exact ⟨N, hN, e, Row.setCells_other r _ _ _ hN⟩
theorem SP.l3_turn {B : Nat} {d : List (BitVec 8)} {v u : Value} {W : World} {x : Value} (h : (SP.l3 B d v u).P W x) (o : Nat) (cs : List Value) : (SP.l3 B d v u).P (W.setCells B o cs) x := by
  obtain ⟨N, v0, hN, e, r, h⟩ := h
  exact ⟨N, v0, hN, e, Row.setCells_other r _ _ _ hN, SP.bt_turn h _ _⟩
theorem SP.bt_at {B : Nat} {d : List (BitVec 8)} {W : World} {v : Value} (h : (SP.bt B d).P W v) : SlAtT W v d := by
  obtain ⟨N, hN, e, r⟩ := h
  exact .inr ⟨N, 0, d.length, e, Nat.le_refl _, r.all⟩
theorem SP.bt_one {B : Nat} {d : List (BitVec 8)} {W : World} {v : Value} (h : (SP.bt B d).P W v) : v.cells = #[v] := by
  obtain ⟨N, hN, e, r⟩ := h
  rw [e]; rfl
theorem slat_row {W : World} {N n : Nat} {d : List (BitVec 8)} {t : TypeId} (h : Row W N (vB d) t) (hn : d.length = n) : SlAtT W (.slice (some ⟨N, 0, none⟩) n n) d := by
  subst hn
  exact .inr ⟨N, 0, d.length, rfl, Nat.le_refl _, h.all⟩
theorem zero_slb : ((Tryz.prog.info? 54).bind (·.zero)).isSome = true := by kernel_rfl
theorem zero_u8 : ((Tryz.prog.info? 5).bind (·.zero)).isSome = true := by kernel_rfl

set_option maxRecDepth 100000 in
set_option maxHeartbeats 4000000 in
theorem node_any (l r dd : List (BitVec 8)) (hl0 : l.length = 32) (hr0 : r.length = 32) (hd : dd = dig ([1#8] ++ (l ++ r))) (w : World) (hK : Tab w 2) :
    Calls Tryz.prog 44 #[.agg (vB l).toArray, .agg (vB r).toArray] w fun e w' => e = .returned (.agg (vB dd).toArray) ∧ Below w.heap.size w w' := by
  have HD : Hid (dd = dig ([1#8] ++ (l ++ r))) := hd
  have HDL : Hid (dd.length = 32) := by rw [hd]; exact dig_length _
  have HI5 : Hid ((Tryz.prog.info? 44).map (·.size) = some (vB dd).toArray.size) := by show _ = _; rw [info_dig]; simp [vB_length, HDL.out]
  have HL : Hid (l.length = 32) := hl0
  have HR : Hid (r.length = 32) := hr0
  have HN : Hid (([1#8] : List (BitVec 8)).length + (l.length + r.length) < 1152921504606846976) := by show _ < _; rw [hl0, hr0]; decide
  have HK : Hid (Tab w 2) := hK
  have HKL : Hid (∀ W, Below w.heap.size w W → Tab W 2) := fun W hB => hK.below hB hK.lt
  clear hd hl0 hr0 hK
  have hb1 : Below w.heap.size w (((w.alloc (Obj.cells (vB l).toArray 44)).alloc (Obj.cells (vB r).toArray 44)).alloc (Obj.cells (vB (List.replicate 32 0#8)).toArray 44)) := (((Below.refl _ _).alloc (Nat.le_refl _) _).alloc (by simp) _).alloc (by simp; omega) _
  have r0 : Row (((w.alloc (Obj.cells (vB l).toArray 44)).alloc (Obj.cells (vB r).toArray 44)).alloc (Obj.cells (vB (List.replicate 32 0#8)).toArray 44)) (w.heap.size) (vB l) 44 := ((Row.new w (vB l) _).alloc _).alloc _
  have r1 : Row (((w.alloc (Obj.cells (vB l).toArray 44)).alloc (Obj.cells (vB r).toArray 44)).alloc (Obj.cells (vB (List.replicate 32 0#8)).toArray 44)) (w.heap.size + 1) (vB r) 44 := (Row.new' (by simp) rfl).alloc _
  have r2 : Row (((w.alloc (Obj.cells (vB l).toArray 44)).alloc (Obj.cells (vB r).toArray 44)).alloc (Obj.cells (vB (List.replicate 32 0#8)).toArray 44)) (w.heap.size + 2) (vB (List.replicate 32 0#8)) 44 := Row.new' (by simp) rfl
  go_enter Tryz.func44, Tryz.ntmps44
  go_wp2_with fail
  refine wp_named fun a0 ha0 => ?_
  have hsz : a0.tmps.size = 10 := by rw [ha0]; rfl
  have s2 : a0.eval (.tmp 2) = .pointer (some ⟨w.heap.size, 0, none⟩) := by rw [ha0]; rfl
  have s3 : a0.eval (.tmp 3) = .pointer (some ⟨w.heap.size + 1, 0, none⟩) := by rw [ha0]; rfl
  have s4 : a0.eval (.tmp 4) = .pointer (some ⟨w.heap.size + 2, 0, none⟩) := by rw [ha0]; rfl
  obtain ⟨D, hD⟩ : ∃ D : List (Tmp × SP), D = [(5, SP.bt (w.heap.size + 2) [1#8]), (6, SP.is (.slice (some ⟨w.heap.size, 0, none⟩) 32 32)), (7, SP.is (.slice (some ⟨w.heap.size + 1, 0, none⟩) 32 32)), (8, SP.l3 (w.heap.size + 2) [1#8] (.slice (some ⟨w.heap.size, 0, none⟩) 32 32) (.slice (some ⟨w.heap.size + 1, 0, none⟩) 32 32)), (9, SP.is (.agg (vB dd).toArray)), (1000, SP.any)] := ⟨_, rfl⟩
  refine wp_region_down (by kernel_rfl) (fun listed ac W => listed.size = 6 ∧ Fp D a0 listed ac W ∧ Below w.heap.size w W ∧ Row W w.heap.size (vB l) 44 ∧ Row W (w.heap.size + 1) (vB r) 44 ∧ Row W (w.heap.size + 2) (if listed.getD 5 false = true then (vB dd) else vB (List.replicate 32 0#8)) 44) ?_ ?_ ?_
  · exact ⟨by simp, Fp.start D a0 _ _, Below.drew hb1, Row.drew r0, Row.drew r1, (by rw [if_neg (fun h => start_no h)]; exact Row.drew r2)⟩
  · clear ha0 hb1 r0 r1 r2 
    intro listed ac W k hI hdn hk
    obtain ⟨hl, hF, hb1, r0, r1, r2⟩ := hI
    have hk1 : k < 6 := List.mem_range.1 (List.mem_filter.1 hk).1
    have hl2 : ∀ j, (listed.setIfInBounds j true).size = 6 := fun j => by rw [Array.size_setIfInBounds]; exact hl
    rcases (show k = 0 ∨ k = 1 ∨ k = 2 ∨ k = 3 ∨ k = 4 ∨ k = 5 by omega) with rfl | rfl | rfl | rfl | rfl | rfl
    · have hk3 := hk
      have hB : Below W.heap.size W (W.alloc (Obj.cells ((vB [1#8]) : List Value).toArray 5)) := (Below.refl _ _).alloc (Nat.le_refl _) _
      exact wpOp_plain rfl rfl (wp_build1 54 5 1 _ (vB [1#8]) rfl Tryz.underlying54 info_u8T zero_u8 rfl (by decide) (by decide) (fun v hv => by obtain rfl := List.mem_singleton.1 hv; rfl) rfl ⟨hl2 0, ((hF.world hB).put 0 5 (SP.bt (w.heap.size + 2) [1#8]) (.slice (some ⟨W.heap.size, 0, none⟩) 1 1) (by rw [hD]; rfl) (⟨W.heap.size, Nat.ne_of_gt (Row.lt r2), rfl, Row.new' rfl rfl⟩) (by rw [hD]; rfl) (by rw [hsz]; decide) (by rw [hl]; decide)), hb1.alloc hb1.size _, Row.alloc r0 _, Row.alloc r1 _, (by rw [getD_set _ _ _ (by decide)]; exact Row.alloc r2 _)⟩)
    · have hk3 := hk
      have e := ((hF.keep 2 (by rw [hD]; rfl)).trans s2)
      exact wpOp_plain rfl rfl (wp_slice_all 44 5 32 (.tmp 2) (w.heap.size) 0 rfl e Tryz.underlying44 info_u8T ⟨hl2 1, (hF.put 1 6 (SP.is (.slice (some ⟨w.heap.size, 0, none⟩) 32 32)) (.slice (some ⟨w.heap.size, 0, none⟩) 32 32) (by rw [hD]; rfl) rfl (by rw [hD]; rfl) (by rw [hsz]; decide) (by rw [hl]; decide)), hb1, r0, r1, (by rw [getD_set _ _ _ (by decide)]; exact r2)⟩)
    · have hk3 := hk
      have e := ((hF.keep 3 (by rw [hD]; rfl)).trans s3)
      exact wpOp_plain rfl rfl (wp_slice_all 44 5 32 (.tmp 3) (w.heap.size + 1) 0 rfl e Tryz.underlying44 info_u8T ⟨hl2 2, (hF.put 2 7 (SP.is (.slice (some ⟨w.heap.size + 1, 0, none⟩) 32 32)) (.slice (some ⟨w.heap.size + 1, 0, none⟩) 32 32) (by rw [hD]; rfl) rfl (by rw [hD]; rfl) (by rw [hsz]; decide) (by rw [hl]; decide)), hb1, r0, r1, (by rw [getD_set _ _ _ (by decide)]; exact r2)⟩)
    · have hk3 := hk
      have b5 := (hF.done 0 (5, SP.bt (w.heap.size + 2) [1#8]) (by rw [hD]; rfl) (ready_dep hk 0 (by kernel_rfl)))
      have e6 := (hF.done 1 (6, SP.is (.slice (some ⟨w.heap.size, 0, none⟩) 32 32)) (by rw [hD]; rfl) (ready_dep hk 1 (by kernel_rfl)))
      have e7 := (hF.done 2 (7, SP.is (.slice (some ⟨w.heap.size + 1, 0, none⟩) 32 32)) (by rw [hD]; rfl) (ready_dep hk 2 (by kernel_rfl)))
      have hB : Below W.heap.size W (W.alloc (Obj.cells ([ac.eval (.tmp 5), .slice (some ⟨w.heap.size, 0, none⟩) 32 32, .slice (some ⟨w.heap.size + 1, 0, none⟩) 32 32] : List Value).toArray 54)) := (Below.refl _ _).alloc (Nat.le_refl _) _
      exact wpOp_plain rfl rfl (wp_build1 27 54 3 _ [ac.eval (.tmp 5), .slice (some ⟨w.heap.size, 0, none⟩) 32 32, .slice (some ⟨w.heap.size + 1, 0, none⟩) 32 32] rfl Tryz.underlying27 info_slbT zero_slb rfl (by decide) (by decide) (fun v hv => by rcases List.mem_cons.1 hv with rfl | hv; exact SP.bt_one b5; rcases List.mem_cons.1 hv with rfl | hv; rfl; obtain rfl := List.mem_singleton.1 hv; rfl) (by rw [← show ac.eval (.tmp 6) = _ from e6, ← show ac.eval (.tmp 7) = _ from e7]; rfl) ⟨hl2 3, ((hF.world hB).put 3 8 (SP.l3 (w.heap.size + 2) [1#8] (.slice (some ⟨w.heap.size, 0, none⟩) 32 32) (.slice (some ⟨w.heap.size + 1, 0, none⟩) 32 32)) (.slice (some ⟨W.heap.size, 0, none⟩) 3 3) (by rw [hD]; rfl) (⟨W.heap.size, _, Nat.ne_of_gt (Row.lt r2), rfl, Row.new' rfl rfl, (SP.bt (w.heap.size + 2) [1#8]).st _ _ _ hB b5⟩) (by rw [hD]; rfl) (by rw [hsz]; decide) (by rw [hl]; decide)), hb1.alloc hb1.size _, Row.alloc r0 _, Row.alloc r1 _, (by rw [getD_set _ _ _ (by decide)]; exact Row.alloc r2 _)⟩)
    · have hk3 := hk
      obtain ⟨N8, v0, hn8, e8, r8, b8⟩ := (hF.done 3 (8, SP.l3 (w.heap.size + 2) [1#8] (.slice (some ⟨w.heap.size, 0, none⟩) 32 32) (.slice (some ⟨w.heap.size + 1, 0, none⟩) 32 32)) (by rw [hD]; rfl) (ready_dep hk 3 (by kernel_rfl)))
      refine wpOp_plain rfl rfl (wp_fcall_v 63 #[.slice (some ⟨N8, 0, none⟩) 3 3] rfl rfl (by show [ac.eval (.tmp 8)] = _; simp only [e8]) (by go_simp) ((parts_three [1#8] l r dd HD.out v0 _ _ HN.out N8 3 W (HKL.out W hb1) (SP.bt_at b8) (slat_row r0 HL.out) (slat_row r1 HR.out) r8).mono ?_))
      rintro e W2 ⟨rfl, hB⟩
      exact ⟨_, rfl, hl2 4, ((hF.world hB).put 4 9 (SP.is (.agg (vB dd).toArray)) (.agg (vB dd).toArray) (by rw [hD]; rfl) rfl (by rw [hD]; rfl) (by rw [hsz]; decide) (by rw [hl]; decide)), hb1.trans (hB.mono hb1.size), Row.below r0 hB (Row.lt r0), Row.below r1 hB (Row.lt r1), (by rw [getD_set _ _ _ (by decide)]; exact Row.below r2 hB (Row.lt r2))⟩
    · have hk3 := hk
      have hno : ¬ listed.getD 5 false = true := not_yet hk
      rw [if_neg hno] at r2
      have T := r2.there 0 (vB dd).toArray.size (by simp [vB_length, HDL.out])
      have fin := r2.over (vs := (vB dd)) (by rw [vB_length, HDL.out]; rfl)
      have hT : Fp D a0 listed ac (W.setCells (w.heap.size + 2) 0 (vB dd)) := hF.turn (by rw [hD]; simp only [List.forall_mem_cons, List.not_mem_nil, false_implies, implies_true, and_true]; exact ⟨fun _ h => SP.bt_turn h _ _, fun _ h => h, fun _ h => h, fun _ h => SP.l3_turn h _ _, fun _ h => h, fun _ h => h⟩)
      exact wpOp_plain rfl rfl (wp_store_mid 44 (.tmp 4) (.tmp 9) rfl (w.heap.size + 2) 0 (vB dd).toArray ((hF.keep 4 (by rw [hD]; rfl)).trans s4) (hF.done 4 (9, SP.is (.agg (vB dd).toArray)) (by rw [hD]; rfl) (ready_dep hk 4 (by kernel_rfl))) T HI5.out (all_oneCell_toArray (vB_one dd)) ⟨hl2 5, (hT.skip 5 1000 (by rw [hD]; rfl) (by rw [hl]; decide)), below_setCells hb1 (by omega) _, Row.setCells_other r0 _ _ _ (by omega), Row.setCells_other r1 _ _ _ (by omega), (by rw [if_pos (getD_same (by rw [hl]; decide))]; exact fin)⟩)
  · clear hb1 r0 r1 r2 
    intro listed ac W hI hr
    obtain ⟨hl, hF, hb1, r0, r1, r2⟩ := hI
    have hall := all_listed (by kernel_rfl) hl hr
    rw [if_pos (hall 5 (by decide))] at r2
    obtain ⟨x5, h5⟩ : ∃ x, ac.eval (.tmp 5) = x := ⟨_, rfl⟩
    have h6 : ac.eval (.tmp 6) = .slice (some ⟨w.heap.size, 0, none⟩) 32 32 := hF.done 1 (6, SP.is (.slice (some ⟨w.heap.size, 0, none⟩) 32 32)) (by rw [hD]; rfl) (hall 1 (by decide))
    have h7 : ac.eval (.tmp 7) = .slice (some ⟨w.heap.size + 1, 0, none⟩) 32 32 := hF.done 2 (7, SP.is (.slice (some ⟨w.heap.size + 1, 0, none⟩) 32 32)) (by rw [hD]; rfl) (hall 2 (by decide))
    obtain ⟨x8, h8⟩ : ∃ x, ac.eval (.tmp 8) = x := ⟨_, rfl⟩
    have h9 : ac.eval (.tmp 9) = .agg (vB dd).toArray := hF.done 4 (9, SP.is (.agg (vB dd).toArray)) (by rw [hD]; rfl) (hall 4 (by decide))
    have ea := hF.lay [(5, x5), (6, .slice (some ⟨w.heap.size, 0, none⟩) 32 32), (7, .slice (some ⟨w.heap.size + 1, 0, none⟩) 32 32), (8, x8), (9, .agg (vB dd).toArray)] (by rw [hD, hsz]; rfl) (by simp only [List.forall_mem_cons, List.not_mem_nil, false_implies, implies_true, and_true]; exact ⟨h5, h6, h7, h8, h9⟩)
    rw [ha0] at ea
    simp only [List.foldl_cons, List.foldl_nil, List.setIfInBounds_toArray, List.set_cons_zero, List.set_cons_succ] at ea
    clear hF hall hr hl hD  s2 s3 s4 ha0 hsz h5 h6 h7 h8 h9
    subst ea
    go_wp2_with fail
    exact bodyPost_ret (results_row Tryz.results44 _ _ (w.heap.size + 2) 44 (vB dd) rfl r2 Tryz.underlying44 info_dig (by rw [vB_length, HDL.out])) rfl ⟨rfl, hb1⟩

end Go.Proofs.YtdicgenhfmhklaaGreatDoor

namespace Go.Proofs.YtdicgenhfmhklaaGreatDoor
open Go Go.RowKit

section
variable {ops : Array Oper} {rest : List Oper} {op : Oper} {a : Act} {w : World} {Q : Exit → Act → World → Prop}
/-- The table of lengths, at a byte. -/
theorem wpList_index_tabT (hgd : op.guard = none) (x y : Operand) (ho : op.op = .index 9 x y) (hx : a.eval x = .string Lib.len8tab) (z : Int) (hy : a.eval y = .int .u8 z) (h0 : 0 ≤ z) (h1 : z ≤ 255)
    (h : ∀ k : Nat, k = Lib.bitLen z.toNat → k ≤ 8 → wpList Tryz.prog ops Q rest (a.put op.dst (.int .u8 (k : Int))) w) : wpList Tryz.prog ops Q (op :: rest) a w :=
  wpList_plain hgd fun _ hK => by
    have hr := run_index_string (P := Tryz.prog) w 9 Lib.len8tab .u8 z Tryz.underlying9
    have hs : Lib.len8tab.size = 256 := by decide +kernel
    rw [dif_pos (by omega)] at hr
    have h8 := Lib.len8_of z h0 h1
    have hb := Lib.bitLen_le8' z h0 h1
    have hz : z.toNat < Lib.len8tab.size := by omega
    have e : ((Lib.len8tab[z.toNat]'hz).toNat : Int) = ((Lib.bitLen z.toNat : Nat) : Int) := by
      rw [← h8]; unfold Lib.len8; rw [getElem?_pos Lib.len8tab z.toNat hz]; rfl
    unfold Oper.wp execOp
    simp only [ho, hx, hy, Sem.run_bind, hr, Result.andThen_ok, Sem.run_pure, Oper.upon_value, e]
    exact hK _ _ (h _ rfl hb)
end

set_option maxHeartbeats 4000000 in
set_option maxRecDepth 100000 in
theorem len64_intT (x : Int) (h0 : 0 ≤ x) (h1 : x ≤ 18446744073709551615) (w : World) :
    Calls Tryz.prog 88 #[.int .u64 x] w fun e w' => e = .returned (.int .i64 ((Lib.bitLen x.toNat : Nat) : Int)) ∧ w' = w := by
  go_enter Tryz.func88, Tryz.ntmps88
  go_wp2_with (refine wpList_index_tabT rfl _ (.tmp 21) rfl rfl _ rfl (by omega) (by omega) ?_; intro k hk hk8; have HK : Hid _ := hk; clear hk; simp only [Act.put, List.setIfInBounds_toArray, List.set_cons_zero, List.set_cons_succ])
  all_goals (go_ret; have hk := HK.out; clear HK)
  all_goals refine ⟨congrArg Ending.returned (congrArg (Value.int IntKind.i64) ?_), rfl⟩
  · rw [Lib.bitLen_shift56 x.toNat (by omega) (by omega), hk, show (x / 4294967296 / 65536 / 256).toNat = x.toNat / 72057594037927936 by omega]; omega
  · rw [Lib.bitLen_shift48 x.toNat (by omega) (by omega), hk, show (x / 4294967296 / 65536).toNat = x.toNat / 281474976710656 by omega]; omega
  · rw [Lib.bitLen_shift40 x.toNat (by omega) (by omega), hk, show (x / 4294967296 / 256).toNat = x.toNat / 1099511627776 by omega]; omega
  · rw [Lib.bitLen_shift32 x.toNat (by omega) (by omega), hk, show (x / 4294967296).toNat = x.toNat / 4294967296 by omega]; omega
  · rw [Lib.bitLen_shift24 x.toNat (by omega) (by omega), hk, show (x / 65536 / 256).toNat = x.toNat / 16777216 by omega]; omega
  · rw [Lib.bitLen_shift16 x.toNat (by omega) (by omega), hk, show (x / 65536).toNat = x.toNat / 65536 by omega]; omega
  · rw [Lib.bitLen_shift8 x.toNat (by omega) (by omega), hk, show (x / 256).toNat = x.toNat / 256 by omega]; omega
  · rw [hk]

theorem len64_anyT (x : Nat) (hx : x < 18446744073709551616) (w : World) :
    Calls Tryz.prog 88 #[.int .u64 (x : Int)] w fun e w' => e = .returned (.int .i64 ((Lib.bitLen x : Nat) : Int)) ∧ w' = w := len64_intT (x : Int) (by omega) (by omega) w

set_option maxHeartbeats 1000000 in
theorem len_anyT (x : Nat) (hx : x < 18446744073709551616) (w : World) :
    Calls Tryz.prog 64 #[.int .u64 (x : Int)] w fun e w' => e = .returned (.int .i64 ((Lib.bitLen x : Nat) : Int)) ∧ w' = w := by
  have HL : Hid (∀ w, _) := len64_anyT x hx
  generalize Lib.bitLen x = k at *
  go_enter Tryz.func64, Tryz.ntmps64
  go_wp2_with (go_at_call 88; refine (HL.out w).mono ?_; rintro e w ⟨rfl, rfl⟩)
  go_ret
  exact ⟨rfl, rfl⟩

/-- The greatest power of two below n. -/
def fpart (n : Nat) : Nat := 2 ^ (Lib.bitLen (n - 1) - 1)
theorem fpart_pos (n : Nat) : 1 ≤ fpart n := Nat.pow_pos (by decide)
theorem fpart_bounds (n : Nat) (h2 : 2 ≤ n) (hn : n < 4611686018427387904) : fpart n < n ∧ n ≤ 2 * fpart n ∧ 1 ≤ Lib.bitLen (n - 1) ∧ Lib.bitLen (n - 1) ≤ 62 := by
  have h := Lib.bitLenAux_bounds 64 (n - 1) (by omega) (by omega)
  have hl : Lib.bitLen (n - 1) ≤ 62 := Lib.bitLen_le (n - 1) 62 (by decide) (by omega)
  unfold fpart
  unfold Lib.bitLen at hl ⊢
  generalize Lib.bitLenAux 64 (n - 1) = k at *
  obtain ⟨j, rfl⟩ : ∃ j, k = j + 1 := ⟨k - 1, by omega⟩
  have e : 2 ^ (j + 1) = 2 * 2 ^ j := by rw [Nat.pow_succ]; omega
  have := h.2.1
  have := h.2.2
  simp only [Nat.add_sub_cancel] at *
  omega

set_option maxHeartbeats 1000000 in
theorem first_any (n : Nat) (h2 : 2 ≤ n) (hn : n < 4611686018427387904) (w : World) :
    Calls Tryz.prog 43 #[.int .i64 (n : Int)] w fun e w' => e = .returned (.int .i64 (fpart n : Int)) ∧ w' = w := by
  have HL : Hid (∀ w, _) := len_anyT (n - 1) (by omega)
  have hb := fpart_bounds n h2 hn
  have h3 := hb.2.2
  have hf : fpart n < 4611686018427387904 := by omega
  unfold fpart at hf ⊢
  clear hb
  have e1 : (n : Int) - 1 = ((n - 1 : Nat) : Int) := by omega
  have e2 : (0 : Int) ≤ (n : Int) - 1 := by omega
  generalize Lib.bitLen (n - 1) = k at *
  obtain ⟨j, rfl⟩ : ∃ j, k = j + 1 := ⟨k - 1, by omega⟩
  simp only [Nat.add_sub_cancel] at hf ⊢
  have e3 : (((j + 1 : Nat) : Nat) : Int) - 1 = (j : Int) := by omega
  go_enter Tryz.func43, Tryz.ntmps43
  go_wp2_with (go_at_call 64; refine (HL.out w).mono ?_; rintro e w ⟨rfl, rfl⟩)
  go_ret
  have e5 : ((2 ^ j : Nat) : Int) = (2 : Int) ^ j := by simp
  have e4 : wrap64 ((2 : Int) ^ j) = ((2 ^ j : Nat) : Int) := by
    rw [← e5]
    unfold wrap64
    generalize 2 ^ j = m at hf
    omega
  exact ⟨by rw [e4]; rfl, rfl⟩

end Go.Proofs.YtdicgenhfmhklaaGreatDoor

namespace Go.Proofs.YtdicgenhfmhklaaGreatDoor
open Go Go.RowKit
open Sha

/-- At b, o lie the lists ps, one behind the other. -/
def LsAt (w : World) (b o : Nat) (ps : List (List (BitVec 8))) : Prop := ∃ vs : List Value, vs.length = ps.length ∧ w.rangeAt b o vs ∧ ∀ i, i < ps.length → SlAtT w (vs.getD i undef) (ps.getD i [])
theorem LsAt.below {w w' : World} {b o : Nat} {ps : List (List (BitVec 8))} (h : LsAt w b o ps) (k : Below w.heap.size w w') : LsAt w' b o ps := by
  obtain ⟨vs, h1, h2, h3⟩ := h
  exact ⟨vs, h1, range_below h2 k (Nat.le_refl _), fun i hi => (h3 i hi).below k (Nat.le_refl _)⟩
theorem LsAt.take {w : World} {b o : Nat} {ps : List (List (BitVec 8))} (h : LsAt w b o ps) (k : Nat) : LsAt w b o (ps.take k) := by
  obtain ⟨vs, h1, h2, h3⟩ := h
  refine ⟨vs.take k, by rw [List.length_take, List.length_take, h1], fun j v hv => ?_, fun i hi => ?_⟩
  · rw [List.getElem?_take] at hv
    split at hv
    · exact h2 j v hv
    · cases hv
  · rw [List.length_take] at hi
    have hk : i < k := by omega
    have e1 : (vs.take k).getD i undef = vs.getD i undef := by simp [List.getD_eq_getElem?_getD, hk]
    have e2 : (ps.take k).getD i [] = ps.getD i [] := by simp [List.getD_eq_getElem?_getD, hk]
    rw [e1, e2]
    exact h3 i (by omega)
theorem LsAt.drop {w : World} {b o : Nat} {ps : List (List (BitVec 8))} (h : LsAt w b o ps) (k : Nat) : LsAt w b (o + k) (ps.drop k) := by
  obtain ⟨vs, h1, h2, h3⟩ := h
  refine ⟨vs.drop k, by rw [List.length_drop, List.length_drop, h1], fun j v hv => ?_, fun i hi => ?_⟩
  · rw [List.getElem?_drop] at hv
    have := h2 (k + j) v hv
    rw [← Nat.add_assoc] at this
    exact this
  · rw [List.length_drop] at hi
    have e1 : (vs.drop k).getD i undef = vs.getD (k + i) undef := by simp [List.getD_eq_getElem?_getD, List.getElem?_drop]
    have e2 : (ps.drop k).getD i [] = ps.getD (k + i) [] := by simp [List.getD_eq_getElem?_getD, List.getElem?_drop]
    rw [e1, e2]
    exact h3 (k + i) (by omega)

/-- The root over a list of leaves, by fuel. -/
def rtF : Nat → List (List (BitVec 8)) → List (BitVec 8)
  | 0, _ => dig []
  | f + 1, ps => if ps.length = 0 then dig [] else if ps.length = 1 then dig ([0#8] ++ ps.getD 0 []) else dig ([1#8] ++ (rtF f (ps.take (fpart ps.length)) ++ rtF f (ps.drop (fpart ps.length))))
/-- The root over a list of leaves. -/
def rt (ps : List (List (BitVec 8))) : List (BitVec 8) := rtF ps.length ps
theorem rtF_length (f : Nat) (ps : List (List (BitVec 8))) : (rtF f ps).length = 32 := by
  cases f with
  | zero => exact dig_length _
  | succ f =>
    unfold rtF
    split
    · exact dig_length _
    · split <;> exact dig_length _
theorem rt_length (ps : List (List (BitVec 8))) : (rt ps).length = 32 := rtF_length _ _
theorem rtF_fuel : ∀ (f g : Nat) (ps : List (List (BitVec 8))), ps.length ≤ f → ps.length ≤ g → ps.length < 4611686018427387904 → rtF f ps = rtF g ps
  | 0, 0, _, _, _, _ => rfl
  | 0, g + 1, ps, h, _, _ => by
    have : ps.length = 0 := by omega
    simp [rtF, this]
  | f + 1, 0, ps, _, h, _ => by
    have : ps.length = 0 := by omega
    simp [rtF, this]
  | f + 1, g + 1, ps, hf, hg, hl => by
    unfold rtF
    split
    · rfl
    · split
      · rfl
      · have hb := fpart_bounds ps.length (by omega) hl
        have hp := fpart_pos ps.length
        rw [rtF_fuel f g (ps.take _) (by rw [List.length_take]; omega) (by rw [List.length_take]; omega) (by rw [List.length_take]; omega), rtF_fuel f g (ps.drop _) (by rw [List.length_drop]; omega) (by rw [List.length_drop]; omega) (by rw [List.length_drop]; omega)]
theorem rt_nil (ps : List (List (BitVec 8))) (h : ps.length = 0) : rt ps = dig [] := by
  unfold rt; rw [h]; rfl
theorem rt_one (ps : List (List (BitVec 8))) (h : ps.length = 1) : rt ps = dig ([0#8] ++ ps.getD 0 []) := by
  unfold rt rtF; simp [h]
theorem rt_many (ps : List (List (BitVec 8))) (h2 : 2 ≤ ps.length) (hl : ps.length < 4611686018427387904) : rt ps = dig ([1#8] ++ (rt (ps.take (fpart ps.length)) ++ rt (ps.drop (fpart ps.length)))) := by
  have hb := fpart_bounds ps.length h2 hl
  have hp := fpart_pos ps.length
  have e : rt ps = rtF (ps.length + 1) ps := rtF_fuel _ _ ps (Nat.le_refl _) (by omega) hl
  rw [e]
  unfold rtF
  rw [if_neg (by omega), if_neg (by omega), rtF_fuel ps.length (ps.take (fpart ps.length)).length (ps.take _) (by rw [List.length_take]; omega) (Nat.le_refl _) (by rw [List.length_take]; omega), rtF_fuel ps.length (ps.drop (fpart ps.length)).length (ps.drop _) (by rw [List.length_drop]; omega) (Nat.le_refl _) (by rw [List.length_drop]; omega)]
  rfl

section
variable {P : Program} {Q : Exit → Act → World → Prop} {o : Oper} {a : Act} {w : World} {K : Act → World → Prop}
theorem wp_slice_to (t e : TypeId) (x z : Operand) (b f n cap k : Nat) (ho : o.op = .slice t x none (some z) none) (hx : a.eval x = .slice (some ⟨b, f, none⟩) n cap) (hz : a.eval z = .int .i64 (k : Int)) (hk : k ≤ cap)
    (hu : P.underlying t = some (.slice e)) (hs : (P.info? e).map (·.size) = some 1) (h : K (a.put o.dst (.slice (some ⟨b, f, none⟩) k cap)) w) : Oper.wp P o a w K Q := by
  cases hq : P.info? e with
  | none => simp [hq] at hs
  | some i =>
    have hr : (Instr.sliceAt t (.slice (some ⟨b, f, none⟩) n cap) none (some (.int .i64 (k : Int))) none).run P w = .ok (.slice (some ⟨b, f, none⟩) k cap) w := by
      simp [Instr.sliceAt, Instr.slice, run_underlying hu, Instr.sliceBounds, Instr.sliceBound, asIntOf, sizeOf, typeInfo, hq, hk, Addr.add_mid]
    unfold Oper.wp execOp
    simp only [ho, hx, hz, Option.map_some, Option.map_none, Sem.run_bind, hr, Result.andThen_ok, Sem.run_pure, Oper.upon_value]
    exact h
theorem wp_slice_on (t e : TypeId) (x z : Operand) (b f n cap k : Nat) (ho : o.op = .slice t x (some z) none none) (hx : a.eval x = .slice (some ⟨b, f, none⟩) n cap) (hz : a.eval z = .int .i64 (k : Int)) (hk : k ≤ n) (hc : k < cap)
    (hu : P.underlying t = some (.slice e)) (hs : (P.info? e).map (·.size) = some 1) (h : K (a.put o.dst (.slice (some ⟨b, f + k, none⟩) (n - k) (cap - k))) w) : Oper.wp P o a w K Q := by
  have hr := run_slice_fromT (P := P) w t e b f n cap k (k : Int) rfl hk hu hs
  rw [if_neg (by omega)] at hr
  unfold Oper.wp execOp
  simp only [ho, hx, hz, Option.map_some, Option.map_none, Sem.run_bind, hr, Result.andThen_ok, Sem.run_pure, Oper.upon_value]
  exact h
end

end Go.Proofs.YtdicgenhfmhklaaGreatDoor

namespace Go.Proofs.YtdicgenhfmhklaaGreatDoor
open Go Go.RowKit
open Sha

set_option maxRecDepth 100000 in
set_option maxHeartbeats 1000000 in
theorem root_nil (A : Option Addr) (cap : Nat) (dd : List (BitVec 8)) (hd : dd = dig []) (w : World) (hK : Tab w 2) :
    Calls Tryz.prog 24 #[.slice A 0 cap] w fun e w' => e = .returned (.agg (vB dd).toArray) ∧ Below w.heap.size w w' := by
  have HD : Hid (dd = dig []) := hd
  have HDL : Hid (dd.length = 32) := by rw [hd]; exact dig_length _
  have hi5 : (Tryz.prog.info? 44).map (·.size) = some (vB dd).toArray.size := by rw [info_dig]; simp [vB_length, HDL.out]
  clear hd
  go_enter Tryz.func24, Tryz.ntmps24
  go_wp2_with (first
    | (go_at_call 41; refine (sum_any [] dd HD.out (by decide) _ _ (hK.below ((Below.refl _ _).alloc (Nat.le_refl _) _) hK.lt) (.inl ⟨rfl, _, _, rfl⟩)).mono ?_; rintro e w2 ⟨rfl, hB2⟩)
    | (refine wpList_store_mid rfl 44 (.tmp 2) (.tmp 8) rfl w.heap.size 0 (vB dd).toArray rfl rfl (Row.there (Row.below (Row.new' (cs := vB (List.replicate 32 0#8)) rfl rfl) hB2 (by simp)) 0 _ (by simp [vB_length, HDL.out])) hi5 (all_oneCell_toArray (vB_one dd)) ?_))
  have q0 : Row w2 w.heap.size (vB (List.replicate 32 0#8)) 44 := Row.below (Row.new' rfl rfl) hB2 (by simp)
  have nf := q0.over (vs := vB dd) (by rw [vB_length, HDL.out]; rfl)
  have nB := below_setCells (((Below.refl _ _).alloc (Nat.le_refl _) _).trans (hB2.mono (by simp))) (b := w.heap.size) (o := 0) (Nat.le_refl _) (vB dd)
  exact bodyPost_ret (results_row Tryz.results24 _ _ w.heap.size 44 (vB dd) rfl nf Tryz.underlying44 info_dig (by rw [vB_length, HDL.out])) rfl ⟨rfl, nB⟩

set_option maxRecDepth 100000 in
set_option maxHeartbeats 1000000 in
theorem root_one (d dd : List (BitVec 8)) (hd : dd = dig ([0#8] ++ d)) (hlen : d.length < 1152921504606846975) (b o cap : Nat) (v : Value) (w : World) (hK : Tab w 2) (hc : w.cell? ⟨b, o, none⟩ = some v) (hv : SlAtT w v d) :
    Calls Tryz.prog 24 #[.slice (some ⟨b, o, none⟩) 1 cap] w fun e w' => e = .returned (.agg (vB dd).toArray) ∧ Below w.heap.size w w' := by
  have HD : Hid (dd = dig ([0#8] ++ d)) := hd
  have HDL : Hid (dd.length = 32) := by rw [hd]; exact dig_length _
  have hi5 : (Tryz.prog.info? 44).map (·.size) = some (vB dd).toArray.size := by rw [info_dig]; simp [vB_length, HDL.out]
  have gk : (w.alloc (Obj.cells #[.int .u8 0, .int .u8 0, .int .u8 0, .int .u8 0, .int .u8 0, .int .u8 0, .int .u8 0, .int .u8 0, .int .u8 0, .int .u8 0, .int .u8 0, .int .u8 0, .int .u8 0, .int .u8 0, .int .u8 0, .int .u8 0, .int .u8 0, .int .u8 0, .int .u8 0, .int .u8 0, .int .u8 0, .int .u8 0, .int .u8 0, .int .u8 0, .int .u8 0, .int .u8 0, .int .u8 0, .int .u8 0, .int .u8 0, .int .u8 0, .int .u8 0, .int .u8 0] 44)).cell? ⟨b, o, none⟩ = some v := (Below.cell ((Below.refl w.heap.size w).alloc (Nat.le_refl _) _) (p := ⟨b, o, none⟩) (World.block_lt_of_cell? w _ hc)).trans hc
  have HV : Hid (SlAtT w v d) := hv
  clear hd hv hc
  go_enter Tryz.func24, Tryz.ntmps24
  go_wp2_with (first
    | (go_at_call 42; refine (leaf_any d dd HD.out hlen v _ (hK.below ((Below.refl _ _).alloc (Nat.le_refl _) _) hK.lt) (HV.out.below ((Below.refl _ _).alloc (Nat.le_refl _) _) (Nat.le_refl _))).mono ?_; rintro e w2 ⟨rfl, hB2⟩)
    | (refine wpList_store_mid rfl 44 (.tmp 2) (.tmp 14) rfl w.heap.size 0 (vB dd).toArray rfl rfl (Row.there (Row.below (Row.new' (cs := vB (List.replicate 32 0#8)) rfl rfl) hB2 (by simp)) 0 _ (by simp [vB_length, HDL.out])) hi5 (all_oneCell_toArray (vB_one dd)) ?_))
  have q0 : Row w2 w.heap.size (vB (List.replicate 32 0#8)) 44 := Row.below (Row.new' rfl rfl) hB2 (by simp)
  have nf := q0.over (vs := vB dd) (by rw [vB_length, HDL.out]; rfl)
  have nB := below_setCells (((Below.refl _ _).alloc (Nat.le_refl _) _).trans (hB2.mono (by simp))) (b := w.heap.size) (o := 0) (Nat.le_refl _) (vB dd)
  exact bodyPost_ret (results_row Tryz.results24 _ _ w.heap.size 44 (vB dd) rfl nf Tryz.underlying44 info_dig (by rw [vB_length, HDL.out])) rfl ⟨rfl, nB⟩

set_option maxRecDepth 100000 in
set_option maxHeartbeats 4000000 in
theorem root_step (n k : Nat) (h2 : 2 ≤ n) (hn : n < 4611686018427387904) (hk : fpart n = k) (l r dd : List (BitVec 8)) (hl0 : l.length = 32) (hr0 : r.length = 32) (hd : dd = dig ([1#8] ++ (l ++ r))) (b o cap : Nat) (hc : n ≤ cap) (w : World) (hK : Tab w 2)
    (hL : ∀ W, Below w.heap.size w W → Calls Tryz.prog 24 #[.slice (some ⟨b, o, none⟩) k cap] W fun e w' => e = .returned (.agg (vB l).toArray) ∧ Below W.heap.size W w')
    (hR : ∀ W, Below w.heap.size w W → Calls Tryz.prog 24 #[.slice (some ⟨b, o + k, none⟩) (n - k) (cap - k)] W fun e w' => e = .returned (.agg (vB r).toArray) ∧ Below W.heap.size W w') :
    Calls Tryz.prog 24 #[.slice (some ⟨b, o, none⟩) n cap] w fun e w' => e = .returned (.agg (vB dd).toArray) ∧ Below w.heap.size w w' := by
  have HD : Hid (dd = dig ([1#8] ++ (l ++ r))) := hd
  have HDL : Hid (dd.length = 32) := by rw [hd]; exact dig_length _
  have HI5 : Hid ((Tryz.prog.info? 44).map (·.size) = some (vB dd).toArray.size) := by show _ = _; rw [info_dig]; simp [vB_length, HDL.out]
  have HL : Hid (∀ W, _ → _) := hL
  have HR : Hid (∀ W, _ → _) := hR
  have HL0 : Hid (l.length = 32) := hl0
  have HR0 : Hid (r.length = 32) := hr0
  have HKL : Hid (∀ W, Below w.heap.size w W → Tab W 2) := fun W hB => hK.below hB hK.lt
  have HKN : Hid (k < n) := by show _ < _; rw [← hk]; exact (fpart_bounds n h2 hn).1
  have HC : Hid (n ≤ cap) := hc
  have HF : Hid (∀ w, _) := fun w => first_any n h2 hn w
  rw [hk] at HF
  have n0 : ¬ (n : Int) = 0 := by omega
  have n1 : ¬ (n : Int) = 1 := by omega
  clear hd hl0 hr0 hL hR hK hk h2 hn hc
  have hb1 : Below w.heap.size w (w.alloc (Obj.cells (vB (List.replicate 32 0#8)).toArray 44)) := (Below.refl _ _).alloc (Nat.le_refl _) _
  have r0 : Row (w.alloc (Obj.cells (vB (List.replicate 32 0#8)).toArray 44)) w.heap.size (vB (List.replicate 32 0#8)) 44 := Row.new' rfl rfl
  go_enter Tryz.func24, Tryz.ntmps24
  go_wp2_with (go_at_call 43; refine (HF.out _).mono ?_; rintro e w2 ⟨rfl, rfl⟩)
  refine wp_named fun a0 ha0 => ?_
  have hsz : a0.tmps.size = 27 := by rw [ha0]; rfl
  have s0 : a0.eval (.tmp 0) = .slice (some ⟨b, o, none⟩) n cap := by rw [ha0]; rfl
  have s3 : a0.eval (.tmp 3) = .int .i64 (k : Int) := by rw [ha0]; rfl
  have s2 : a0.eval (.tmp 2) = .pointer (some ⟨w.heap.size, 0, none⟩) := by rw [ha0]; rfl
  obtain ⟨D, hD⟩ : ∃ D : List (Tmp × SP), D = [(18, SP.is (.slice (some ⟨b, o, none⟩) n cap)), (19, SP.is (.int .i64 (k : Int))), (20, SP.is (.slice (some ⟨b, o, none⟩) k cap)), (21, SP.is (.agg (vB l).toArray)), (22, SP.is (.slice (some ⟨b, o, none⟩) n cap)), (23, SP.is (.int .i64 (k : Int))), (24, SP.is (.slice (some ⟨b, o + k, none⟩) (n - k) (cap - k))), (25, SP.is (.agg (vB r).toArray)), (26, SP.is (.agg (vB dd).toArray)), (1000, SP.any)] := ⟨_, rfl⟩
  refine wp_region_down (by kernel_rfl) (fun listed ac W => listed.size = 10 ∧ Fp D a0 listed ac W ∧ Below w.heap.size w W ∧ Row W w.heap.size (if listed.getD 9 false = true then (vB dd) else vB (List.replicate 32 0#8)) 44) ?_ ?_ ?_
  · exact ⟨by simp, Fp.start D a0 _ _, Below.drew hb1, (by rw [if_neg (fun h => start_no h)]; exact Row.drew r0)⟩
  · clear ha0 hb1 r0 
    intro listed ac W k hI hdn hk
    obtain ⟨hl, hF, hb1, r0⟩ := hI
    have hk1 : k < 10 := List.mem_range.1 (List.mem_filter.1 hk).1
    have hl2 : ∀ j, (listed.setIfInBounds j true).size = 10 := fun j => by rw [Array.size_setIfInBounds]; exact hl
    rcases (show k = 0 ∨ k = 1 ∨ k = 2 ∨ k = 3 ∨ k = 4 ∨ k = 5 ∨ k = 6 ∨ k = 7 ∨ k = 8 ∨ k = 9 by omega) with rfl | rfl | rfl | rfl | rfl | rfl | rfl | rfl | rfl | rfl
    · have hk3 := hk
      exact wpOp_plain rfl rfl (wp_move_v (ac.eval (.tmp 0)) rfl rfl ⟨hl2 0, (hF.put 0 18 (SP.is (.slice (some ⟨b, o, none⟩) n cap)) (ac.eval (.tmp 0)) (by rw [hD]; rfl) (((hF.keep 0 (by rw [hD]; rfl)).trans s0)) (by rw [hD]; rfl) (by rw [hsz]; decide) (by rw [hl]; decide)), hb1, (by rw [getD_set _ _ _ (by decide)]; exact r0)⟩)
    · have hk3 := hk
      exact wpOp_plain rfl rfl (wp_move_v (ac.eval (.tmp 3)) rfl rfl ⟨hl2 1, (hF.put 1 19 (SP.is (.int .i64 (k : Int))) (ac.eval (.tmp 3)) (by rw [hD]; rfl) (((hF.keep 3 (by rw [hD]; rfl)).trans s3)) (by rw [hD]; rfl) (by rw [hsz]; decide) (by rw [hl]; decide)), hb1, (by rw [getD_set _ _ _ (by decide)]; exact r0)⟩)
    · have hk3 := hk
      have ea := (hF.done 0 (18, SP.is (.slice (some ⟨b, o, none⟩) n cap)) (by rw [hD]; rfl) (ready_dep hk 0 (by kernel_rfl)))
      have eb := (hF.done 1 (19, SP.is (.int .i64 (k : Int))) (by rw [hD]; rfl) (ready_dep hk 1 (by kernel_rfl)))
      exact wpOp_plain rfl rfl (wp_slice_to 27 54 (.tmp 18) (.tmp 19) b o n cap k rfl ea eb (Nat.le_trans (Nat.le_of_lt HKN.out) HC.out) Tryz.underlying27 info_slbT ⟨hl2 2, (hF.put 2 20 (SP.is (.slice (some ⟨b, o, none⟩) k cap)) (.slice (some ⟨b, o, none⟩) k cap) (by rw [hD]; rfl) rfl (by rw [hD]; rfl) (by rw [hsz]; decide) (by rw [hl]; decide)), hb1, (by rw [getD_set _ _ _ (by decide)]; exact r0)⟩)
    · have hk3 := hk
      have ea := (hF.done 2 (20, SP.is (.slice (some ⟨b, o, none⟩) k cap)) (by rw [hD]; rfl) (ready_dep hk 2 (by kernel_rfl)))
      refine wpOp_plain rfl rfl (wp_fcall_v 24 #[.slice (some ⟨b, o, none⟩) k cap] rfl rfl (by show [ac.eval (.tmp 20)] = _; rw [show ac.eval (.tmp 20) = _ from ea]) (by go_simp) ((HL.out W hb1).mono ?_))
      rintro e W2 ⟨rfl, hB⟩
      exact ⟨_, rfl, hl2 3, ((hF.world hB).put 3 21 (SP.is (.agg (vB l).toArray)) (.agg (vB l).toArray) (by rw [hD]; rfl) rfl (by rw [hD]; rfl) (by rw [hsz]; decide) (by rw [hl]; decide)), hb1.trans (hB.mono hb1.size), (by rw [getD_set _ _ _ (by decide)]; exact Row.below r0 hB (Row.lt r0))⟩
    · have hk3 := hk
      exact wpOp_plain rfl rfl (wp_move_v (ac.eval (.tmp 0)) rfl rfl ⟨hl2 4, (hF.put 4 22 (SP.is (.slice (some ⟨b, o, none⟩) n cap)) (ac.eval (.tmp 0)) (by rw [hD]; rfl) (((hF.keep 0 (by rw [hD]; rfl)).trans s0)) (by rw [hD]; rfl) (by rw [hsz]; decide) (by rw [hl]; decide)), hb1, (by rw [getD_set _ _ _ (by decide)]; exact r0)⟩)
    · have hk3 := hk
      exact wpOp_plain rfl rfl (wp_move_v (ac.eval (.tmp 3)) rfl rfl ⟨hl2 5, (hF.put 5 23 (SP.is (.int .i64 (k : Int))) (ac.eval (.tmp 3)) (by rw [hD]; rfl) (((hF.keep 3 (by rw [hD]; rfl)).trans s3)) (by rw [hD]; rfl) (by rw [hsz]; decide) (by rw [hl]; decide)), hb1, (by rw [getD_set _ _ _ (by decide)]; exact r0)⟩)
    · have hk3 := hk
      have ea := (hF.done 4 (22, SP.is (.slice (some ⟨b, o, none⟩) n cap)) (by rw [hD]; rfl) (ready_dep hk 4 (by kernel_rfl)))
      have eb := (hF.done 5 (23, SP.is (.int .i64 (k : Int))) (by rw [hD]; rfl) (ready_dep hk 5 (by kernel_rfl)))
      exact wpOp_plain rfl rfl (wp_slice_on 27 54 (.tmp 22) (.tmp 23) b o n cap k rfl ea eb (Nat.le_of_lt HKN.out) (Nat.lt_of_lt_of_le HKN.out HC.out) Tryz.underlying27 info_slbT ⟨hl2 6, (hF.put 6 24 (SP.is (.slice (some ⟨b, o + k, none⟩) (n - k) (cap - k))) (.slice (some ⟨b, o + k, none⟩) (n - k) (cap - k)) (by rw [hD]; rfl) rfl (by rw [hD]; rfl) (by rw [hsz]; decide) (by rw [hl]; decide)), hb1, (by rw [getD_set _ _ _ (by decide)]; exact r0)⟩)
    · have hk3 := hk
      have ea := (hF.done 6 (24, SP.is (.slice (some ⟨b, o + k, none⟩) (n - k) (cap - k))) (by rw [hD]; rfl) (ready_dep hk 6 (by kernel_rfl)))
      refine wpOp_plain rfl rfl (wp_fcall_v 24 #[.slice (some ⟨b, o + k, none⟩) (n - k) (cap - k)] rfl rfl (by show [ac.eval (.tmp 24)] = _; rw [show ac.eval (.tmp 24) = _ from ea]) (by go_simp) ((HR.out W hb1).mono ?_))
      rintro e W2 ⟨rfl, hB⟩
      exact ⟨_, rfl, hl2 7, ((hF.world hB).put 7 25 (SP.is (.agg (vB r).toArray)) (.agg (vB r).toArray) (by rw [hD]; rfl) rfl (by rw [hD]; rfl) (by rw [hsz]; decide) (by rw [hl]; decide)), hb1.trans (hB.mono hb1.size), (by rw [getD_set _ _ _ (by decide)]; exact Row.below r0 hB (Row.lt r0))⟩
    · have hk3 := hk
      have ea := (hF.done 3 (21, SP.is (.agg (vB l).toArray)) (by rw [hD]; rfl) (ready_dep hk 3 (by kernel_rfl)))
      have eb := (hF.done 7 (25, SP.is (.agg (vB r).toArray)) (by rw [hD]; rfl) (ready_dep hk 7 (by kernel_rfl)))
      refine wpOp_plain rfl rfl (wp_fcall_v 44 #[.agg (vB l).toArray, .agg (vB r).toArray] rfl rfl (by show [ac.eval (.tmp 21), ac.eval (.tmp 25)] = _; rw [show ac.eval (.tmp 21) = _ from ea, show ac.eval (.tmp 25) = _ from eb]) (by go_simp) ((node_any l r dd HL0.out HR0.out HD.out W (HKL.out W hb1)).mono ?_))
      rintro e W2 ⟨rfl, hB⟩
      exact ⟨_, rfl, hl2 8, ((hF.world hB).put 8 26 (SP.is (.agg (vB dd).toArray)) (.agg (vB dd).toArray) (by rw [hD]; rfl) rfl (by rw [hD]; rfl) (by rw [hsz]; decide) (by rw [hl]; decide)), hb1.trans (hB.mono hb1.size), (by rw [getD_set _ _ _ (by decide)]; exact Row.below r0 hB (Row.lt r0))⟩
    · have hk3 := hk
      have hno : ¬ listed.getD 9 false = true := not_yet hk
      rw [if_neg hno] at r0
      have T := r0.there 0 (vB dd).toArray.size (by simp [vB_length, HDL.out])
      have fin := r0.over (vs := (vB dd)) (by rw [vB_length, HDL.out]; rfl)
      have hT : Fp D a0 listed ac (W.setCells w.heap.size 0 (vB dd)) := hF.turn (by rw [hD]; simp only [List.forall_mem_cons, List.not_mem_nil, false_implies, implies_true, and_true]; exact ⟨fun _ h => h, fun _ h => h, fun _ h => h, fun _ h => h, fun _ h => h, fun _ h => h, fun _ h => h, fun _ h => h, fun _ h => h, fun _ h => h⟩)
      exact wpOp_plain rfl rfl (wp_store_mid 44 (.tmp 2) (.tmp 26) rfl w.heap.size 0 (vB dd).toArray ((hF.keep 2 (by rw [hD]; rfl)).trans s2) (hF.done 8 (26, SP.is (.agg (vB dd).toArray)) (by rw [hD]; rfl) (ready_dep hk 8 (by kernel_rfl))) T HI5.out (all_oneCell_toArray (vB_one dd)) ⟨hl2 9, (hT.skip 9 1000 (by rw [hD]; rfl) (by rw [hl]; decide)), below_setCells hb1 (by omega) _, (by rw [if_pos (getD_same (by rw [hl]; decide))]; exact fin)⟩)
  · clear hb1 r0 
    intro listed ac W hI hr
    obtain ⟨hl, hF, hb1, r0⟩ := hI
    have hall := all_listed (by kernel_rfl) hl hr
    rw [if_pos (hall 9 (by decide))] at r0
    have h18 : ac.eval (.tmp 18) = .slice (some ⟨b, o, none⟩) n cap := hF.done 0 (18, SP.is (.slice (some ⟨b, o, none⟩) n cap)) (by rw [hD]; rfl) (hall 0 (by decide))
    have h19 : ac.eval (.tmp 19) = .int .i64 (k : Int) := hF.done 1 (19, SP.is (.int .i64 (k : Int))) (by rw [hD]; rfl) (hall 1 (by decide))
    have h20 : ac.eval (.tmp 20) = .slice (some ⟨b, o, none⟩) k cap := hF.done 2 (20, SP.is (.slice (some ⟨b, o, none⟩) k cap)) (by rw [hD]; rfl) (hall 2 (by decide))
    have h21 : ac.eval (.tmp 21) = .agg (vB l).toArray := hF.done 3 (21, SP.is (.agg (vB l).toArray)) (by rw [hD]; rfl) (hall 3 (by decide))
    have h22 : ac.eval (.tmp 22) = .slice (some ⟨b, o, none⟩) n cap := hF.done 4 (22, SP.is (.slice (some ⟨b, o, none⟩) n cap)) (by rw [hD]; rfl) (hall 4 (by decide))
    have h23 : ac.eval (.tmp 23) = .int .i64 (k : Int) := hF.done 5 (23, SP.is (.int .i64 (k : Int))) (by rw [hD]; rfl) (hall 5 (by decide))
    have h24 : ac.eval (.tmp 24) = .slice (some ⟨b, o + k, none⟩) (n - k) (cap - k) := hF.done 6 (24, SP.is (.slice (some ⟨b, o + k, none⟩) (n - k) (cap - k))) (by rw [hD]; rfl) (hall 6 (by decide))
    have h25 : ac.eval (.tmp 25) = .agg (vB r).toArray := hF.done 7 (25, SP.is (.agg (vB r).toArray)) (by rw [hD]; rfl) (hall 7 (by decide))
    have h26 : ac.eval (.tmp 26) = .agg (vB dd).toArray := hF.done 8 (26, SP.is (.agg (vB dd).toArray)) (by rw [hD]; rfl) (hall 8 (by decide))
    have ea := hF.lay [(18, .slice (some ⟨b, o, none⟩) n cap), (19, .int .i64 (k : Int)), (20, .slice (some ⟨b, o, none⟩) k cap), (21, .agg (vB l).toArray), (22, .slice (some ⟨b, o, none⟩) n cap), (23, .int .i64 (k : Int)), (24, .slice (some ⟨b, o + k, none⟩) (n - k) (cap - k)), (25, .agg (vB r).toArray), (26, .agg (vB dd).toArray)] (by rw [hD, hsz]; rfl) (by simp only [List.forall_mem_cons, List.not_mem_nil, false_implies, implies_true, and_true]; exact ⟨h18, h19, h20, h21, h22, h23, h24, h25, h26⟩)
    rw [ha0] at ea
    simp only [List.foldl_cons, List.foldl_nil, List.setIfInBounds_toArray, List.set_cons_zero, List.set_cons_succ] at ea
    clear hF hall hr hl hD  s0 s3 s2 ha0 hsz h18 h19 h20 h21 h22 h23 h24 h25 h26
    subst ea
    go_wp2_with fail
    exact bodyPost_ret (results_row Tryz.results24 _ _ w.heap.size 44 (vB dd) rfl r0 Tryz.underlying44 info_dig (by rw [vB_length, HDL.out])) rfl ⟨rfl, hb1⟩

/-- Root of any list of leaves. -/
theorem root_any (n : Nat) : ∀ (ps : List (List (BitVec 8))), ps.length = n → n < 4611686018427387904 → (∀ i, i < ps.length → (ps.getD i []).length < 1152921504606846975) → ∀ (dd : List (BitVec 8)), dd = rt ps → ∀ (b o cap : Nat), n ≤ cap → ∀ w : World, Tab w 2 → LsAt w b o ps →
    Calls Tryz.prog 24 #[.slice (some ⟨b, o, none⟩) n cap] w fun e w' => e = .returned (.agg (vB dd).toArray) ∧ Below w.heap.size w w' := by
  induction n using Nat.strongRecOn with
  | ind n ih =>
    intro ps hn hlt hm dd hd b o cap hc w hK hv
    subst hd
    rcases (show n = 0 ∨ n = 1 ∨ 2 ≤ n by omega) with rfl | rfl | h2
    · rw [rt_nil ps hn]
      exact root_nil _ _ _ rfl w hK
    · rw [rt_one ps hn]
      obtain ⟨vs, h1, h3, h4⟩ := hv
      have hx : vs[0]? = some (vs.getD 0 undef) := by rw [List.getD_eq_getElem?_getD, List.getElem?_eq_getElem (show 0 < vs.length by omega)]; rfl
      exact root_one (ps.getD 0 []) _ rfl (hm 0 (by omega)) b o cap (vs.getD 0 undef) w hK (h3 0 _ hx) (h4 0 (by omega))
    · have hb := fpart_bounds n h2 hlt
      have hp := fpart_pos n
      rw [rt_many ps (by omega) (by omega), hn]
      generalize hk : fpart n = k at *
      have t1 : (ps.take k).length = k := by rw [List.length_take]; omega
      have t2 : (ps.drop k).length = n - k := by rw [List.length_drop]; omega
      refine root_step n k h2 hlt hk _ _ _ (rt_length _) (rt_length _) rfl b o cap hc w hK (fun W hB => ?_) (fun W hB => ?_)
      · refine ih k hb.1 (ps.take k) t1 (by omega) (fun i hi => ?_) _ rfl b o cap (by omega) W (hK.below hB hK.lt) ((hv.below hB).take k)
        have hi2 : i < k := by omega
        have e2 : (ps.take k).getD i [] = ps.getD i [] := by simp [List.getD_eq_getElem?_getD, hi2]
        rw [e2]
        exact hm i (by omega)
      · refine ih (n - k) (by omega) (ps.drop k) t2 (by omega) (fun i hi => ?_) _ rfl b (o + k) (cap - k) (by omega) W (hK.below hB hK.lt) ((hv.below hB).drop k)
        have e2 : (ps.drop k).getD i [] = ps.getD (k + i) [] := by simp [List.getD_eq_getElem?_getD, List.getElem?_drop]
        rw [e2]
        exact hm (k + i) (by omega)

end Go.Proofs.YtdicgenhfmhklaaGreatDoor
