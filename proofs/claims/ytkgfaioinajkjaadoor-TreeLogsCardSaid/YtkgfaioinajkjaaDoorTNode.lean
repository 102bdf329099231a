/-
  Node.
-/
import Derived.Test.YtkgfaioinajkjaaDoorParts
import Derived.Test.YtkgfaioinajkjaaDoorTFp

namespace Go.Proofs.YtkgfaioinajkjaaDoor
open Go Go.RowKit
open Sha

/-- Parts of one list that lies in a new row. -/
theorem parts_one (d dd : List (BitVec 8)) (hd : dd = dig d) (v : Value) (hlen : d.length < 1152921504606846976) (g cap : Nat) (w0 w : World) (hK : Tab w0 4) (hv : SlAt w0 v d) (hB : Below w0.heap.size w0 w) (hr : Row w g [v] 31) :
    Calls Tryd.prog 40 #[.slice (some ⟨g, 0, none⟩) 1 cap] w fun e w' => e = .returned (.agg (vB dd).toArray) ∧ Below w.heap.size w w' := by
  have h := parts_any [d] [v] rfl g 0 cap (by simpa using hlen) (by show 1 < _; decide) w (hK.below hB hK.lt) (fun i hi => by
    obtain rfl : i = 0 := by simp at hi; omega
    exact hv.below hB (Nat.le_refl _)) hr.all
  rw [show [d].flatten = d by simp, ← hd] at h
  exact h

set_option maxRecDepth 100000 in
set_option maxHeartbeats 1000000 in
theorem sum_v (d dd : List (BitVec 8)) (hd : dd = dig d) (hlen : d.length < 1152921504606846976) (a : Option Addr) (n cap : Nat) (w : World) (hK : Tab w 4) (hv : SlAt w (.slice a n cap) d) :
    Calls Tryd.prog 36 #[.slice a n cap] w fun e w' => e = .returned (.agg (vB dd).toArray) ∧ Below w.heap.size w w' := by
  have HD : Hid (dd = dig d) := hd
  have HDL : Hid (dd.length = 32) := by rw [hd]; exact dig_length _
  have hi5 : (Tryd.prog.info? 42).map (·.size) = some (vB dd).toArray.size := by rw [info_dig]; simp [vB_length, HDL.out]
  clear hd
  go_enter Tryd.func36, Tryd.ntmps36
  go_wp2_with (first
    | (go_at_call 40; refine (parts_one d dd HD.out (.slice a n cap) hlen (w.heap.size + 1) 1 w _ hK hv (((Below.refl _ _).alloc (Nat.le_refl _) _).alloc (by simp) _) (Row.new' (by simp) rfl)).mono ?_; rintro e w2 ⟨rfl, hB2⟩)
    | (refine wpList_store_mid rfl 42 (.tmp 2) (.tmp 5) rfl w.heap.size 0 (vB dd).toArray rfl rfl (Row.there (Row.below (Row.alloc (Row.new' (cs := vB (List.replicate 32 0#8)) rfl rfl) _) hB2 (by simp; omega)) 0 _ (by simp [vB_length, HDL.out])) hi5 (all_oneCell_toArray (vB_one dd)) ?_))
  have q0 : Row w2 w.heap.size (vB (List.replicate 32 0#8)) 42 := Row.below (Row.alloc (Row.new' rfl rfl) _) hB2 (by simp; omega)
  have nf := q0.over (vs := vB dd) (by rw [vB_length, HDL.out]; rfl)
  have nB := below_setCells ((((Below.refl _ _).alloc (Nat.le_refl _) _).alloc (by simp) _).trans (hB2.mono (by simp; omega))) (b := w.heap.size) (o := 0) (Nat.le_refl _) (vB dd)
  exact bodyPost_ret (results_row Tryd.results36 _ _ w.heap.size 42 (vB dd) rfl nf Tryd.underlying42 info_dig (by rw [vB_length, HDL.out])) rfl ⟨rfl, nB⟩

/-- Sum of a slice of bytes. -/
theorem sum_any (d dd : List (BitVec 8)) (hd : dd = dig d) (hlen : d.length < 1152921504606846976) (v : Value) (w : World) (hK : Tab w 4) (hv : SlAt w v d) :
    Calls Tryd.prog 36 #[v] w fun e w' => e = .returned (.agg (vB dd).toArray) ∧ Below w.heap.size w w' := by
  rcases hv with ⟨h1, A, cap, rfl⟩ | ⟨ab, ao, cap, rfl, h2, h3⟩
  · exact sum_v d dd hd hlen A 0 cap w hK (.inl ⟨h1, A, cap, rfl⟩)
  · exact sum_v d dd hd hlen _ _ _ w hK (.inr ⟨ab, ao, cap, rfl, h2, h3⟩)

end Go.Proofs.YtkgfaioinajkjaaDoor

namespace Go.Proofs.YtkgfaioinajkjaaDoor
open Go Go.RowKit
open Sha

/-- Parts of two lists whose list lies in a row. -/
theorem parts_two (d0 d dd : List (BitVec 8)) (hd : dd = dig (d0 ++ d)) (v0 v : Value) (hlen : d0.length + d.length < 1152921504606846976) (g cap : Nat) (w : World) (hK : Tab w 4) (h0 : SlAt w v0 d0) (hv : SlAt w v d) (hr : Row w g [v0, v] 31) :
    Calls Tryd.prog 40 #[.slice (some ⟨g, 0, none⟩) 2 cap] w fun e w' => e = .returned (.agg (vB dd).toArray) ∧ Below w.heap.size w w' := by
  have h := parts_any [d0, d] [v0, v] rfl g 0 cap (by simpa using hlen) (by show 2 < _; decide) w hK (fun i hi => by
    rcases (show i = 0 ∨ i = 1 by simp at hi; omega) with rfl | rfl
    · exact h0
    · exact hv) hr.all
  rw [show [d0, d].flatten = d0 ++ d by simp, ← hd] at h
  exact h
/-- Parts of three lists whose list lies in a row. -/
theorem parts_three (d0 d e0 dd : List (BitVec 8)) (hd : dd = dig (d0 ++ (d ++ e0))) (v0 v u : Value) (hlen : d0.length + (d.length + e0.length) < 1152921504606846976) (g cap : Nat) (w : World) (hK : Tab w 4) (h0 : SlAt w v0 d0) (hv : SlAt w v d) (hu : SlAt w u e0) (hr : Row w g [v0, v, u] 31) :
    Calls Tryd.prog 40 #[.slice (some ⟨g, 0, none⟩) 3 cap] w fun e w' => e = .returned (.agg (vB dd).toArray) ∧ Below w.heap.size w w' := by
  have h := parts_any [d0, d, e0] [v0, v, u] rfl g 0 cap (by simpa using hlen) (by show 3 < _; decide) w hK (fun i hi => by
    rcases (show i = 0 ∨ i = 1 ∨ i = 2 by simp at hi; omega) with rfl | rfl | rfl
    · exact h0
    · exact hv
    · exact hu) hr.all
  rw [show [d0, d, e0].flatten = d0 ++ (d ++ e0) by simp, ← hd] at h
  exact h

set_option maxRecDepth 100000 in
set_option maxHeartbeats 1000000 in
theorem leaf_v (d dd : List (BitVec 8)) (hd : dd = dig ([0#8] ++ d)) (hlen : d.length < 1152921504606846975) (a : Option Addr) (n cap : Nat) (w : World) (hK : Tab w 4) (hv : SlAt w (.slice a n cap) d) :
    Calls Tryd.prog 25 #[.slice a n cap] w fun e w' => e = .returned (.agg (vB dd).toArray) ∧ Below w.heap.size w w' := by
  have HD : Hid (dd = dig ([0#8] ++ d)) := hd
  have HDL : Hid (dd.length = 32) := by rw [hd]; exact dig_length _
  have hi5 : (Tryd.prog.info? 42).map (·.size) = some (vB dd).toArray.size := by rw [info_dig]; simp [vB_length, HDL.out]
  clear hd
  go_enter Tryd.func25, Tryd.ntmps25
  go_wp2_with (first
    | (go_at_call 40
       refine (parts_two [0#8] d dd HD.out (.slice (some ⟨w.heap.size + 1, 0, none⟩) 1 1) (.slice a n cap) (by simp; omega) (w.heap.size + 2) 2 _ (hK.below ((((Below.refl _ _).alloc (Nat.le_refl _) _).alloc (by simp) _).alloc (by simp; omega) _) hK.lt) (.inr ⟨w.heap.size + 1, 0, 1, rfl, Nat.le_refl _, Row.all (Row.alloc (Row.new' (cs := vB [0#8]) (by simp) rfl) _)⟩) (hv.below ((((Below.refl _ _).alloc (Nat.le_refl _) _).alloc (by simp) _).alloc (by simp; omega) _) (Nat.le_refl _)) (Row.new' (by simp) rfl)).mono ?_; rintro e w2 ⟨rfl, hB2⟩)
    | (refine wpList_store_mid rfl 42 (.tmp 2) (.tmp 6) rfl w.heap.size 0 (vB dd).toArray rfl rfl (Row.there (Row.below (Row.alloc (Row.alloc (Row.new' (cs := vB (List.replicate 32 0#8)) rfl rfl) _) _) hB2 (by simp; omega)) 0 _ (by simp [vB_length, HDL.out])) hi5 (all_oneCell_toArray (vB_one dd)) ?_))
  have q0 : Row w2 w.heap.size (vB (List.replicate 32 0#8)) 42 := Row.below (Row.alloc (Row.alloc (Row.new' rfl rfl) _) _) hB2 (by simp; omega)
  have nf := q0.over (vs := vB dd) (by rw [vB_length, HDL.out]; rfl)
  have nB := below_setCells (((((Below.refl _ _).alloc (Nat.le_refl _) _).alloc (by simp) _).alloc (by simp; omega) _).trans (hB2.mono (by simp; omega))) (b := w.heap.size) (o := 0) (Nat.le_refl _) (vB dd)
  exact bodyPost_ret (results_row Tryd.results25 _ _ w.heap.size 42 (vB dd) rfl nf Tryd.underlying42 info_dig (by rw [vB_length, HDL.out])) rfl ⟨rfl, nB⟩

/-- Leaf of a slice of bytes. -/
theorem leaf_any (d dd : List (BitVec 8)) (hd : dd = dig ([0#8] ++ d)) (hlen : d.length < 1152921504606846975) (v : Value) (w : World) (hK : Tab w 4) (hv : SlAt w v d) :
    Calls Tryd.prog 25 #[v] w fun e w' => e = .returned (.agg (vB dd).toArray) ∧ Below w.heap.size w w' := by
  rcases hv with ⟨h1, A, cap, rfl⟩ | ⟨ab, ao, cap, rfl, h2, h3⟩
  · exact leaf_v d dd hd hlen A 0 cap w hK (.inl ⟨h1, A, cap, rfl⟩)
  · exact leaf_v d dd hd hlen _ _ _ w hK (.inr ⟨ab, ao, cap, rfl, h2, h3⟩)

end Go.Proofs.YtkgfaioinajkjaaDoor

namespace Go.Proofs.YtkgfaioinajkjaaDoor
open Go Go.RowKit
open Sha

/-- A new slice of the bytes d, away from block B. -/
def SP.bt (B : Nat) (d : List (BitVec 8)) : SP := ⟨fun W v => ∃ N, N ≠ B ∧ v = .slice (some ⟨N, 0, none⟩) d.length d.length ∧ Row W N (vB d) 5, fun _ _ _ hB ⟨N, hN, e, r⟩ => ⟨N, hN, e, Row.below r hB (Row.lt r)⟩⟩
/-- A new list of three: new bytes, and two others. -/
def SP.l3 (B : Nat) (d : List (BitVec 8)) (v u : Value) : SP := ⟨fun W x => ∃ N v0, N ≠ B ∧ x = .slice (some ⟨N, 0, none⟩) 3 3 ∧ Row W N [v0, v, u] 31 ∧ (SP.bt B d).P W v0, fun _ _ _ hB ⟨N, v0, hN, e, r, h⟩ => ⟨N, v0, hN, e, Row.below r hB (Row.lt r), (SP.bt B d).st _ _ _ hB h⟩⟩
theorem SP.bt_turn {B : Nat} {d : List (BitVec 8)} {W : World} {v : Value} (h : (SP.bt B d).P W v) (o : Nat) (cs : List Value) : (SP.bt B d).P (W.setCells B o cs) v := by
  obtain ⟨N, hN, e, r⟩ := h
  exact ⟨N, hN, e, Row.setCells_other r _ _ _ hN⟩
theorem SP.l3_turn {B : Nat} {d : List (BitVec 8)} {v u : Value} {W : World} {x : Value} (h : (SP.l3 B d v u).P W x) (o : Nat) (cs : List Value) : (SP.l3 B d v u).P (W.setCells B o cs) x := by
  obtain ⟨N, v0, hN, e, r, h⟩ := h
  exact ⟨N, v0, hN, e, Row.setCells_other r _ _ _ hN, SP.bt_turn h _ _⟩
theorem SP.bt_at {B : Nat} {d : List (BitVec 8)} {W : World} {v : Value} (h : (SP.bt B d).P W v) : SlAt W v d := by
  obtain ⟨N, hN, e, r⟩ := h
  exact .inr ⟨N, 0, d.length, e, Nat.le_refl _, r.all⟩
theorem SP.bt_one {B : Nat} {d : List (BitVec 8)} {W : World} {v : Value} (h : (SP.bt B d).P W v) : v.cells = #[v] := by
  obtain ⟨N, hN, e, r⟩ := h
  rw [e]; rfl
theorem slat_row {W : World} {N n : Nat} {d : List (BitVec 8)} {t : TypeId} (h : Row W N (vB d) t) (hn : d.length = n) : SlAt W (.slice (some ⟨N, 0, none⟩) n n) d := by
  subst hn
  exact .inr ⟨N, 0, d.length, rfl, Nat.le_refl _, h.all⟩
theorem zero_slb : ((Tryd.prog.info? 31).bind (·.zero)).isSome = true := by kernel_rfl
theorem zero_u8 : ((Tryd.prog.info? 5).bind (·.zero)).isSome = true := by kernel_rfl

set_option maxRecDepth 100000 in
set_option maxHeartbeats 4000000 in
theorem node_any (l r dd : List (BitVec 8)) (hl0 : l.length = 32) (hr0 : r.length = 32) (hd : dd = dig ([1#8] ++ (l ++ r))) (w : World) (hK : Tab w 4) :
    Calls Tryd.prog 27 #[.agg (vB l).toArray, .agg (vB r).toArray] w fun e w' => e = .returned (.agg (vB dd).toArray) ∧ Below w.heap.size w w' := by
  have HD : Hid (dd = dig ([1#8] ++ (l ++ r))) := hd
  have HDL : Hid (dd.length = 32) := by rw [hd]; exact dig_length _
  have HI5 : Hid ((Tryd.prog.info? 42).map (·.size) = some (vB dd).toArray.size) := by show _ = _; rw [info_dig]; simp [vB_length, HDL.out]
  have HL : Hid (l.length = 32) := hl0
  have HR : Hid (r.length = 32) := hr0
  have HN : Hid (([1#8] : List (BitVec 8)).length + (l.length + r.length) < 1152921504606846976) := by show _ < _; rw [hl0, hr0]; decide
  have HK : Hid (Tab w 4) := hK
  have HKL : Hid (∀ W, Below w.heap.size w W → Tab W 4) := fun W hB => hK.below hB hK.lt
  clear hd hl0 hr0 hK
  have hb1 : Below w.heap.size w (((w.alloc (Obj.cells (vB l).toArray 42)).alloc (Obj.cells (vB r).toArray 42)).alloc (Obj.cells (vB (List.replicate 32 0#8)).toArray 42)) := (((Below.refl _ _).alloc (Nat.le_refl _) _).alloc (by simp) _).alloc (by simp; omega) _
  have r0 : Row (((w.alloc (Obj.cells (vB l).toArray 42)).alloc (Obj.cells (vB r).toArray 42)).alloc (Obj.cells (vB (List.replicate 32 0#8)).toArray 42)) (w.heap.size) (vB l) 42 := ((Row.new w (vB l) _).alloc _).alloc _
  have r1 : Row (((w.alloc (Obj.cells (vB l).toArray 42)).alloc (Obj.cells (vB r).toArray 42)).alloc (Obj.cells (vB (List.replicate 32 0#8)).toArray 42)) (w.heap.size + 1) (vB r) 42 := (Row.new' (by simp) rfl).alloc _
  have r2 : Row (((w.alloc (Obj.cells (vB l).toArray 42)).alloc (Obj.cells (vB r).toArray 42)).alloc (Obj.cells (vB (List.replicate 32 0#8)).toArray 42)) (w.heap.size + 2) (vB (List.replicate 32 0#8)) 42 := Row.new' (by simp) rfl
  go_enter Tryd.func27, Tryd.ntmps27
  go_wp2_with fail
  refine wp_named fun a0 ha0 => ?_
  have hsz : a0.tmps.size = 10 := by rw [ha0]; rfl
  have s2 : a0.eval (.tmp 2) = .pointer (some ⟨w.heap.size, 0, none⟩) := by rw [ha0]; rfl
  have s3 : a0.eval (.tmp 3) = .pointer (some ⟨w.heap.size + 1, 0, none⟩) := by rw [ha0]; rfl
  have s4 : a0.eval (.tmp 4) = .pointer (some ⟨w.heap.size + 2, 0, none⟩) := by rw [ha0]; rfl
  obtain ⟨D, hD⟩ : ∃ D : List (Tmp × SP), D = [(5, SP.bt (w.heap.size + 2) [1#8]), (6, SP.is (.slice (some ⟨w.heap.size, 0, none⟩) 32 32)), (7, SP.is (.slice (some ⟨w.heap.size + 1, 0, none⟩) 32 32)), (8, SP.l3 (w.heap.size + 2) [1#8] (.slice (some ⟨w.heap.size, 0, none⟩) 32 32) (.slice (some ⟨w.heap.size + 1, 0, none⟩) 32 32)), (9, SP.is (.agg (vB dd).toArray)), (1000, SP.any)] := ⟨_, rfl⟩
  refine wp_region_down (by kernel_rfl) (fun listed ac W => listed.size = 6 ∧ Fp D a0 listed ac W ∧ Below w.heap.size w W ∧ Row W w.heap.size (vB l) 42 ∧ Row W (w.heap.size + 1) (vB r) 42 ∧ Row W (w.heap.size + 2) (if listed.getD 5 false = true then (vB dd) else vB (List.replicate 32 0#8)) 42) ?_ ?_ ?_
  · exact ⟨by simp, Fp.start D a0 _ _, Below.drew hb1, Row.drew r0, Row.drew r1, (by rw [if_neg (fun h => start_no h)]; exact Row.drew r2)⟩
  · clear ha0 hb1 r0 r1 r2 
    intro listed ac W k hI hdn hk
    obtain ⟨hl, hF, hb1, r0, r1, r2⟩ := hI
    have hk1 : k < 6 := List.mem_range.1 (List.mem_filter.1 hk).1
    have hl2 : ∀ j, (listed.setIfInBounds j true).size = 6 := fun j => by rw [Array.size_setIfInBounds]; exact hl
    rcases (show k = 0 ∨ k = 1 ∨ k = 2 ∨ k = 3 ∨ k = 4 ∨ k = 5 by omega) with rfl | rfl | rfl | rfl | rfl | rfl
    · have hk3 := hk
      have hB : Below W.heap.size W (W.alloc (Obj.cells ((vB [1#8]) : List Value).toArray 5)) := (Below.refl _ _).alloc (Nat.le_refl _) _
      exact wpOp_plain rfl rfl (wp_build1 31 5 1 _ (vB [1#8]) rfl Tryd.underlying31 info_u8 zero_u8 rfl (by decide) (by decide) (fun v hv => by obtain rfl := List.mem_singleton.1 hv; rfl) rfl ⟨hl2 0, ((hF.world hB).put 0 5 (SP.bt (w.heap.size + 2) [1#8]) (.slice (some ⟨W.heap.size, 0, none⟩) 1 1) (by rw [hD]; rfl) (⟨W.heap.size, Nat.ne_of_gt (Row.lt r2), rfl, Row.new' rfl rfl⟩) (by rw [hD]; rfl) (by rw [hsz]; decide) (by rw [hl]; decide)), hb1.alloc hb1.size _, Row.alloc r0 _, Row.alloc r1 _, (by rw [getD_set _ _ _ (by decide)]; exact Row.alloc r2 _)⟩)
    · have hk3 := hk
      have e := ((hF.keep 2 (by rw [hD]; rfl)).trans s2)
      exact wpOp_plain rfl rfl (wp_slice_all 42 5 32 (.tmp 2) (w.heap.size) 0 rfl e Tryd.underlying42 info_u8 ⟨hl2 1, (hF.put 1 6 (SP.is (.slice (some ⟨w.heap.size, 0, none⟩) 32 32)) (.slice (some ⟨w.heap.size, 0, none⟩) 32 32) (by rw [hD]; rfl) rfl (by rw [hD]; rfl) (by rw [hsz]; decide) (by rw [hl]; decide)), hb1, r0, r1, (by rw [getD_set _ _ _ (by decide)]; exact r2)⟩)
    · have hk3 := hk
      have e := ((hF.keep 3 (by rw [hD]; rfl)).trans s3)
      exact wpOp_plain rfl rfl (wp_slice_all 42 5 32 (.tmp 3) (w.heap.size + 1) 0 rfl e Tryd.underlying42 info_u8 ⟨hl2 2, (hF.put 2 7 (SP.is (.slice (some ⟨w.heap.size + 1, 0, none⟩) 32 32)) (.slice (some ⟨w.heap.size + 1, 0, none⟩) 32 32) (by rw [hD]; rfl) rfl (by rw [hD]; rfl) (by rw [hsz]; decide) (by rw [hl]; decide)), hb1, r0, r1, (by rw [getD_set _ _ _ (by decide)]; exact r2)⟩)
    · have hk3 := hk
      have b5 := (hF.done 0 (5, SP.bt (w.heap.size + 2) [1#8]) (by rw [hD]; rfl) (ready_dep hk 0 (by kernel_rfl)))
      have e6 := (hF.done 1 (6, SP.is (.slice (some ⟨w.heap.size, 0, none⟩) 32 32)) (by rw [hD]; rfl) (ready_dep hk 1 (by kernel_rfl)))
      have e7 := (hF.done 2 (7, SP.is (.slice (some ⟨w.heap.size + 1, 0, none⟩) 32 32)) (by rw [hD]; rfl) (ready_dep hk 2 (by kernel_rfl)))
      have hB : Below W.heap.size W (W.alloc (Obj.cells ([ac.eval (.tmp 5), .slice (some ⟨w.heap.size, 0, none⟩) 32 32, .slice (some ⟨w.heap.size + 1, 0, none⟩) 32 32] : List Value).toArray 31)) := (Below.refl _ _).alloc (Nat.le_refl _) _
      exact wpOp_plain rfl rfl (wp_build1 54 31 3 _ [ac.eval (.tmp 5), .slice (some ⟨w.heap.size, 0, none⟩) 32 32, .slice (some ⟨w.heap.size + 1, 0, none⟩) 32 32] rfl Tryd.underlying54 info_slb zero_slb rfl (by decide) (by decide) (fun v hv => by rcases List.mem_cons.1 hv with rfl | hv; exact SP.bt_one b5; rcases List.mem_cons.1 hv with rfl | hv; rfl; obtain rfl := List.mem_singleton.1 hv; rfl) (by rw [← show ac.eval (.tmp 6) = _ from e6, ← show ac.eval (.tmp 7) = _ from e7]; rfl) ⟨hl2 3, ((hF.world hB).put 3 8 (SP.l3 (w.heap.size + 2) [1#8] (.slice (some ⟨w.heap.size, 0, none⟩) 32 32) (.slice (some ⟨w.heap.size + 1, 0, none⟩) 32 32)) (.slice (some ⟨W.heap.size, 0, none⟩) 3 3) (by rw [hD]; rfl) (⟨W.heap.size, _, Nat.ne_of_gt (Row.lt r2), rfl, Row.new' rfl rfl, (SP.bt (w.heap.size + 2) [1#8]).st _ _ _ hB b5⟩) (by rw [hD]; rfl) (by rw [hsz]; decide) (by rw [hl]; decide)), hb1.alloc hb1.size _, Row.alloc r0 _, Row.alloc r1 _, (by rw [getD_set _ _ _ (by decide)]; exact Row.alloc r2 _)⟩)
    · have hk3 := hk
      obtain ⟨N8, v0, hn8, e8, r8, b8⟩ := (hF.done 3 (8, SP.l3 (w.heap.size + 2) [1#8] (.slice (some ⟨w.heap.size, 0, none⟩) 32 32) (.slice (some ⟨w.heap.size + 1, 0, none⟩) 32 32)) (by rw [hD]; rfl) (ready_dep hk 3 (by kernel_rfl)))
      refine wpOp_plain rfl rfl (wp_fcall_v 40 #[.slice (some ⟨N8, 0, none⟩) 3 3] rfl rfl (by show [ac.eval (.tmp 8)] = _; simp only [e8]) (by go_simp) ((parts_three [1#8] l r dd HD.out v0 _ _ HN.out N8 3 W (HKL.out W hb1) (SP.bt_at b8) (slat_row r0 HL.out) (slat_row r1 HR.out) r8).mono ?_))
      rintro e W2 ⟨rfl, hB⟩
      exact ⟨_, rfl, hl2 4, ((hF.world hB).put 4 9 (SP.is (.agg (vB dd).toArray)) (.agg (vB dd).toArray) (by rw [hD]; rfl) rfl (by rw [hD]; rfl) (by rw [hsz]; decide) (by rw [hl]; decide)), hb1.trans (hB.mono hb1.size), Row.below r0 hB (Row.lt r0), Row.below r1 hB (Row.lt r1), (by rw [getD_set _ _ _ (by decide)]; exact Row.below r2 hB (Row.lt r2))⟩
    · have hk3 := hk
      have hno : ¬ listed.getD 5 false = true := not_yet hk
      rw [if_neg hno] at r2
      have T := r2.there 0 (vB dd).toArray.size (by simp [vB_length, HDL.out])
      have fin := r2.over (vs := (vB dd)) (by rw [vB_length, HDL.out]; rfl)
      have hT : Fp D a0 listed ac (W.setCells (w.heap.size + 2) 0 (vB dd)) := hF.turn (by rw [hD]; simp only [List.forall_mem_cons, List.not_mem_nil, false_implies, implies_true, and_true]; exact ⟨fun _ h => SP.bt_turn h _ _, fun _ h => h, fun _ h => h, fun _ h => SP.l3_turn h _ _, fun _ h => h, fun _ h => h⟩)
      exact wpOp_plain rfl rfl (wp_store_mid 42 (.tmp 4) (.tmp 9) rfl (w.heap.size + 2) 0 (vB dd).toArray ((hF.keep 4 (by rw [hD]; rfl)).trans s4) (hF.done 4 (9, SP.is (.agg (vB dd).toArray)) (by rw [hD]; rfl) (ready_dep hk 4 (by kernel_rfl))) T HI5.out (all_oneCell_toArray (vB_one dd)) ⟨hl2 5, (hT.skip 5 1000 (by rw [hD]; rfl) (by rw [hl]; decide)), below_setCells hb1 (by omega) _, Row.setCells_other r0 _ _ _ (by omega), Row.setCells_other r1 _ _ _ (by omega), (by rw [if_pos (getD_same (by rw [hl]; decide))]; exact fin)⟩)
  · clear hb1 r0 r1 r2 
    intro listed ac W hI hr
    obtain ⟨hl, hF, hb1, r0, r1, r2⟩ := hI
    have hall := all_listed (by kernel_rfl) hl hr
    rw [if_pos (hall 5 (by decide))] at r2
    obtain ⟨x5, h5⟩ : ∃ x, ac.eval (.tmp 5) = x := ⟨_, rfl⟩
    have h6 : ac.eval (.tmp 6) = .slice (some ⟨w.heap.size, 0, none⟩) 32 32 := hF.done 1 (6, SP.is (.slice (some ⟨w.heap.size, 0, none⟩) 32 32)) (by rw [hD]; rfl) (hall 1 (by decide))
    have h7 : ac.eval (.tmp 7) = .slice (some ⟨w.heap.size + 1, 0, none⟩) 32 32 := hF.done 2 (7, SP.is (.slice (some ⟨w.heap.size + 1, 0, none⟩) 32 32)) (by rw [hD]; rfl) (hall 2 (by decide))
    obtain ⟨x8, h8⟩ : ∃ x, ac.eval (.tmp 8) = x := ⟨_, rfl⟩
    have h9 : ac.eval (.tmp 9) = .agg (vB dd).toArray := hF.done 4 (9, SP.is (.agg (vB dd).toArray)) (by rw [hD]; rfl) (hall 4 (by decide))
    have ea := hF.lay [(5, x5), (6, .slice (some ⟨w.heap.size, 0, none⟩) 32 32), (7, .slice (some ⟨w.heap.size + 1, 0, none⟩) 32 32), (8, x8), (9, .agg (vB dd).toArray)] (by rw [hD, hsz]; rfl) (by simp only [List.forall_mem_cons, List.not_mem_nil, false_implies, implies_true, and_true]; exact ⟨h5, h6, h7, h8, h9⟩)
    rw [ha0] at ea
    simp only [List.foldl_cons, List.foldl_nil, List.setIfInBounds_toArray, List.set_cons_zero, List.set_cons_succ] at ea
    clear hF hall hr hl hD  s2 s3 s4 ha0 hsz h5 h6 h7 h8 h9
    subst ea
    go_wp2_with fail
    exact bodyPost_ret (results_row Tryd.results27 _ _ (w.heap.size + 2) 42 (vB dd) rfl r2 Tryd.underlying42 info_dig (by rw [vB_length, HDL.out])) rfl ⟨rfl, hb1⟩

end Go.Proofs.YtkgfaioinajkjaaDoor
