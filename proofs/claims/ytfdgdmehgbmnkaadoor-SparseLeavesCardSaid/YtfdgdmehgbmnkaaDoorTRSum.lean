/-
  The document's Sum and Bits.
-/
import Derived.Test.YtfdgdmehgbmnkaaDoorTROf
namespace Go.Proofs.YtfdgdmehgbmnkaaDoor
open Go Go.RowKit
open Sha

/-- The three tables lie as the program laid them. -/
structure Given (w : World) : Prop where
  con : Tab w 1
  beg : w.rangeAt 0 0 (vW st0.list)
  cub : Tab w 3
theorem Given.below {B : Nat} {w w' : World} (h : Given w) (k : Below B w w') (hB : w.heap.size ≤ B) : Given w' :=
  ⟨h.con.below k (Nat.lt_of_lt_of_le h.con.lt hB), range_below h.beg k hB, h.cub.below k (Nat.lt_of_lt_of_le h.cub.lt hB)⟩
theorem Given.low {w0 w' : World} (h : Given w0) (k : Below w0.heap.size w0 w') : Given w' := h.below k (Nat.le_refl _)

theorem of_d (d dd : List (BitVec 8)) (hd : d.length ≤ 140737488355000) (A : Option Addr) (cap n : Nat) (hn : n ≤ 8 * d.length) (hdd : dd = dbits d n) (w : World) (hv : SlAt w (.slice A d.length cap) d) (hG : Given w) :
    Calls Tryd.prog 71 #[.slice A d.length cap, .int .i64 (n : Int)] w fun e w' => e = .returned (.agg (vB dd).toArray) ∧ Below w.heap.size w w' := by
  have h := of_any d hd A cap n hn w hv hG.con hG.beg
  rw [laid_dbits d n (by omega), ← hdd] at h
  exact h

theorem dig_all (d : List (BitVec 8)) : dig d = dbits d (8 * d.length) := by
  rw [dbits_whole d _ (by omega) (by omega), show 8 * d.length / 8 = d.length by omega, List.take_length]

theorem of_sum (d dd : List (BitVec 8)) (hd : d.length ≤ 140737488355000) (A : Option Addr) (cap : Nat) (hdd : dd = dig d) (w : World) (hv : SlAt w (.slice A d.length cap) d) (hG : Given w) :
    Calls Tryd.prog 71 #[.slice A d.length cap, .int .i64 (8 * (d.length : Int))] w fun e w' => e = .returned (.agg (vB dd).toArray) ∧ Below w.heap.size w w' := by
  have h := of_d d dd hd A cap (8 * d.length) (Nat.le_refl _) (by rw [hdd, dig_all]) w hv hG
  rw [show ((8 * d.length : Nat) : Int) = 8 * (d.length : Int) by omega] at h
  exact h

set_option maxRecDepth 100000 in
set_option maxHeartbeats 1000000 in
theorem rsum_v (d dd : List (BitVec 8)) (hdd : dd = dig d) (hd : d.length ≤ 140737488355000) (A : Option Addr) (cap : Nat) (w : World) (hv : SlAt w (.slice A d.length cap) d) (hG : Given w) :
    Calls Tryd.prog 51 #[.slice A d.length cap] w fun e w' => e = .returned (.agg (vB dd).toArray) ∧ Below w.heap.size w w' := by
  have HD : Hid (dd = dig d) := hdd
  have HDL : Hid (dd.length = 32) := by rw [hdd]; exact dig_length _
  have hi5 : (Tryd.prog.info? 29).map (·.size) = some (vB dd).toArray.size := by rw [info_dig]; simp [vB_length, HDL.out]
  have hb1 : ∀ o, Below w.heap.size w (w.alloc o) := fun o => (Below.refl _ _).alloc (Nat.le_refl _) _
  have HB1 : Hid _ := hb1
  have HV : Hid _ := hv
  have HG : Hid (Given w) := hG
  clear hdd hb1 hv hG
  go_enter Tryd.func51, Tryd.ntmps51
  go_wp2_with (first
    | (go_at_call 71; refine (of_sum d dd hd A cap HD.out _ (SlAt.below HV.out (HB1.out _) (Nat.le_refl _)) (HG.out.low (HB1.out _))).mono ?_; rintro e w2 ⟨rfl, hB2⟩)
    | (refine wpList_store_mid rfl 29 (.tmp 2) (.tmp 7) rfl w.heap.size 0 (vB dd).toArray rfl rfl (Row.there (Row.below (Row.new' (cs := vB (List.replicate 32 0#8)) rfl rfl) hB2 (by simp)) 0 _ (by simp [vB_length, HDL.out])) hi5 (all_oneCell_toArray (vB_one dd)) ?_))
  have q0 : Row w2 w.heap.size (vB (List.replicate 32 0#8)) 29 := Row.below (Row.new' rfl rfl) hB2 (by simp)
  have nf := q0.over (vs := vB dd) (by rw [vB_length, HDL.out]; rfl)
  have nB := below_setCells ((HB1.out _).trans (hB2.mono (by simp))) (b := w.heap.size) (o := 0) (Nat.le_refl _) (vB dd)
  exact bodyPost_ret (results_row Tryd.results51 _ _ w.heap.size 29 (vB dd) rfl nf Tryd.underlying29 info_dig (by rw [vB_length, HDL.out])) rfl ⟨rfl, nB⟩

theorem rsum_any (d dd : List (BitVec 8)) (hdd : dd = dig d) (hd : d.length ≤ 140737488355000) (v : Value) (w : World) (hv : SlAt w v d) (hG : Given w) :
    Calls Tryd.prog 51 #[v] w fun e w' => e = .returned (.agg (vB dd).toArray) ∧ Below w.heap.size w w' := by
  have h0 := hv
  rcases hv with ⟨h1, A, cap, rfl⟩ | ⟨ab, ao, cap, rfl, h2, h3⟩
  · subst h1; exact rsum_v [] dd hdd hd A cap w h0 hG
  · exact rsum_v d dd hdd hd _ _ w h0 hG

end Go.Proofs.YtfdgdmehgbmnkaaDoor
