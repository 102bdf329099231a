/-
  finish: the end of a text of n bits.
-/
import Derived.Test.YtfdgdmehgbmnkaaDoorBytes
namespace Go.Proofs.YtfdgdmehgbmnkaaDoor
open Go Go.RowKit
open Sha

namespace Sha
def hi (n : Nat) : BitVec 32 := BitVec.ofNat 32 (n / 4294967296)
def lo (n : Nat) : BitVec 32 := BitVec.ofNat 32 n
/-- The bit 1 behind n bits. -/
def oneBit (t : List (BitVec 8)) (n : Nat) : List (BitVec 8) := t.set (n % 512 / 8) (t.getD (n % 512 / 8) 0 ||| (128#8 >>> (n % 512 % 8)))
/-- The last piece. -/
def last (t : List (BitVec 8)) (n : Nat) : List (BitVec 32) := ((words t 16).set 14 (hi n)).set 15 (lo n)
def noughts : List (BitVec 8) := List.replicate 64 0#8
/-- The end of a text of n bits whose last ones stand in t. -/
def fin (s : St) (t : List (BitVec 8)) (n : Nat) : St :=
  if 448 ≤ n % 512 then comp (comp s (words (oneBit t n) 16)) (last noughts n) else comp s (last (oneBit t n) n)
theorem oneBit_length (t : List (BitVec 8)) (n : Nat) : (oneBit t n).length = t.length := by simp [oneBit]
theorem last_length (t : List (BitVec 8)) (n : Nat) : (last t n).length = 16 := by simp [last, words_length]
end Sha

theorem info_b64 : (Tryd.prog.info? 151).map (·.size) = some 64 := by kernel_rfl

theorem mark_byte (y : BitVec 8) (n : Nat) : bits BinOp.or IntKind.u8 (c y) (128 / 2 ^ (n % 8)) = c (y ||| (128#8 >>> (n % 512 % 8))) := by
  rw [show n % 512 % 8 = n % 8 by omega]
  have h : (128 : Int) / 2 ^ (n % 8) = (((128#8 >>> (n % 8)).toNat : Nat) : Int) := by
    rw [BitVec.toNat_ushiftRight, Nat.shiftRight_eq_div_pow]; simp
  rw [h]
  unfold c
  rw [u8_or_nat _ _ y.isLt (BitVec.isLt _), BitVec.toNat_or]

theorem takeIn_r (s : St) (p : List (BitVec 32)) (r : St) (hp : p.length = 16) (hr : comp s p = r) (w : World) (hK : Tab w 3) :
    Calls Tryd.prog 95 #[.agg (vW s.list).toArray, .agg (vW p).toArray] w fun e w' => e = .returned (.agg (vW r.list).toArray) ∧ Below w.heap.size w w' := by
  rw [← hr]; exact takeIn_any s p hp w hK

theorem hi_eq (n : Nat) (hn : n < 9223372036854775808) : (n : Int) / 4294967296 = u (hi n) := by
  unfold u hi; rw [BitVec.toNat_ofNat]; omega
theorem lo_eq (n : Nat) : (n : Int) % 4294967296 = u (lo n) := by
  unfold u lo; rw [BitVec.toNat_ofNat]; omega

theorem words_w (p : List (BitVec 8)) (q : List (BitVec 32)) (hp : p.length = 64) (hq : words p 16 = q) (w : World) :
    Calls Tryd.prog 96 #[.agg (vB p).toArray] w fun e w' => e = .returned (.agg (vW q).toArray) ∧ Below w.heap.size w w' := by
  rw [← hq]; exact words_any p hp w

set_option maxRecDepth 100000 in
set_option maxHeartbeats 1000000 in
theorem finish_any (s : St) (t : List (BitVec 8)) (ht : t.length = 64) (n : Nat) (hn : n < 9223372036854775808) (w : World) (hK : Tab w 3) :
    Calls Tryd.prog 97 #[.agg (vW s.list).toArray, .agg (vB t).toArray, .int .i64 n] w fun e w' => e = .returned (.agg (vB (fin s t n).bytes).toArray) ∧ Below w.heap.size w w' := by
  go_enter Tryd.func97, Tryd.ntmps97
  go_wp2
  obtain ⟨W, hW⟩ : ∃ W, W = ((w.alloc (Obj.cells (vW s.list).toArray 142)).alloc (Obj.cells (vB t).toArray 151)).alloc (Obj.cells (vB (List.replicate 32 0#8)).toArray 29) := ⟨_, rfl⟩
  have hB : Below w.heap.size w W := by rw [hW]; exact ((((Below.refl _ _).alloc (Nat.le_refl _) _).alloc (by simp) _).alloc (by simp; omega) _)
  have hz : W.heap.size = w.heap.size + 3 := by rw [hW]; simp
  have r0 : Row W w.heap.size (vW s.list) 142 := by rw [hW]; exact ((Row.new _ _ _).alloc _).alloc _
  have r1 : Row W (w.heap.size + 1) (vB t) 151 := by rw [hW]; exact (Row.new' (by simp) rfl).alloc _
  have r2 : Row W (w.heap.size + 1 + 1) (vB (List.replicate 32 0#8)) 29 := by rw [hW]; exact Row.new' (by simp) rfl
  have hT : Tab W 3 := hK.below hB hK.lt
  change Code.wp _ _ _ _ (((w.alloc (Obj.cells (vW s.list).toArray 142)).alloc (Obj.cells (vB t).toArray 151)).alloc (Obj.cells (vB (List.replicate 32 0#8)).toArray 29))
  rw [← hW]
  clear hW
  have g0 := r1.cell (n % 512 / 8) _ (vB_get t (n % 512 / 8) (by omega))
  have f0 := r1.thaw (n % 512 / 8)
  have hm : Hid (oneBit t n = t.set (n % 512 / 8) (t.getD (n % 512 / 8) 0 ||| (128#8 >>> (n % 512 % 8)))) := rfl
  generalize t.getD (n % 512 / 8) 0 = y at g0 hm
  refine wp_region_quiet_tail (C := fun w' => ∃ n, w' = W.drewN n) 9 (by kernel_rfl) (by kernel_rfl) ⟨1, rfl⟩ ?_
  simp only [List.take_succ_cons, List.take_zero, List.drop_succ_cons, List.drop_zero]
  repeat (go_big_quiet_step (fail))
  refine wpQuiet_nil ?_
  intro w' hw'
  obtain ⟨nq, rfl⟩ := hw'
  refine wpList_store1 rfl 5 (.tmp 19) (.tmp 18) rfl (w.heap.size + 1) (n % 512 / 8) (.int .u8 (bits BinOp.or IntKind.u8 (c y) (128 / 2 ^ (n % 8)))) rfl rfl rfl (Row.there (r1.drewN nq) _ 1 (by rw [vB_length]; omega)) info_u8 rfl ?_
  rw [mark_byte]
  have q1 : Row ((W.drewN nq).setCell ⟨w.heap.size + 1, n % 512 / 8, none⟩ (.int .u8 (c (y ||| (128#8 >>> (n % 512 % 8)))))) (w.heap.size + 1) (vB (oneBit t n)) 151 := by
    have := (r1.drewN nq).set (n % 512 / 8) (.int .u8 (c (y ||| (128#8 >>> (n % 512 % 8)))))
    rwa [vB_set, ← hm.out] at this
  have q0 := (r0.drewN nq).set_other (w.heap.size + 1) (n % 512 / 8) (.int .u8 (c (y ||| (128#8 >>> (n % 512 % 8))))) (by omega)
  have q2 := (r2.drewN nq).set_other (w.heap.size + 1) (n % 512 / 8) (.int .u8 (c (y ||| (128#8 >>> (n % 512 % 8))))) (by omega)
  have qB := Below.setCell (below_drewN hB nq) (p := ⟨w.heap.size + 1, n % 512 / 8, none⟩) (by simp) (.int .u8 (c (y ||| (128#8 >>> (n % 512 % 8)))))
  have qz : ((W.drewN nq).setCell ⟨w.heap.size + 1, n % 512 / 8, none⟩ (.int .u8 (c (y ||| (128#8 >>> (n % 512 % 8)))))).heap.size = w.heap.size + 3 := by simpa [World.setCell] using hz
  generalize ((W.drewN nq).setCell ⟨w.heap.size + 1, n % 512 / 8, none⟩ (.int .u8 (c (y ||| (128#8 >>> (n % 512 % 8)))))) = W3 at *
  clear hm r0 r1 r2 hT hB hz g0 f0
  simp only [Act.put]
  by_cases hlt : 448 ≤ n % 512
  · have hol : (oneBit t n).length = 64 := by rw [oneBit_length, ht]
    have hi1 : (Tryd.prog.info? 151).map (·.size) = some (vB (oneBit t n)).length := by rw [info_b64, vB_length, hol]
    obtain ⟨wa, hwa⟩ : ∃ wa, words (oneBit t n) 16 = wa := ⟨_, rfl⟩
    have HWA : Hid (words (oneBit t n) 16 = wa) := hwa
    have hwl : wa.length = 16 := by rw [← hwa]; exact words_length _ _
    have HWL : Hid (wa.length = 16) := hwl
    obtain ⟨ra, hra⟩ : ∃ ra, comp s wa = ra := ⟨_, rfl⟩
    have HRA : Hid (comp s wa = ra) := hra
    clear hwa hwl hra
    go_wp2
    refine wp_region_quiet_tail (C := fun w' => Below W3.heap.size W3 w') 4 (by kernel_rfl) (by kernel_rfl) ((Below.refl _ _).drew) ?_
    simp only [List.take_succ_cons, List.take_zero, List.drop_succ_cons, List.drop_zero]
    refine quiet_load rfl 142 (.tmp 3) rfl w.heap.size 0 rfl (vW s.list) _ (fun w' hw' => (q0.below hw' (by omega)).all) Tryd.underlying142 rfl info_arr8 ?_
    simp only [Act.put, List.setIfInBounds_toArray, List.set_cons_zero, List.set_cons_succ]
    refine quiet_load rfl 151 (.tmp 4) rfl (w.heap.size + 1) 0 rfl (vB (oneBit t n)) _ (fun w' hw' => (q1.below hw' (by omega)).all) Tryd.underlying151 rfl hi1 ?_
    simp only [Act.put, List.setIfInBounds_toArray, List.set_cons_zero, List.set_cons_succ]
    refine quiet_call rfl 96 #[.agg (vB (oneBit t n)).toArray] (.agg (vW wa).toArray) (fun w' _ => by go_simp) (fun w' hw' => (words_w _ wa hol HWA.out w').mono (fun e w'' h => ⟨h.1, hw'.trans (h.2.mono hw'.size)⟩)) ?_
    simp only [Act.put, List.setIfInBounds_toArray, List.set_cons_zero, List.set_cons_succ]
    refine quiet_call rfl 95 #[.agg (vW s.list).toArray, .agg (vW wa).toArray] (.agg (vW ra.list).toArray) (fun w' _ => by go_simp) (fun w' hw' => (takeIn_r s wa ra HWL.out HRA.out w' (hK.below (qB.trans (hw'.mono (by omega))) hK.lt)).mono (fun e w'' h => ⟨h.1, hw'.trans (h.2.mono hw'.size)⟩)) ?_
    simp only [Act.put, List.setIfInBounds_toArray, List.set_cons_zero, List.set_cons_succ]
    refine wpQuiet_nil ?_
    intro w' hw'
    have q0' := q0.below hw' (by omega)
    have q1' := q1.below hw' (by omega)
    have q2' := q2.below hw' (by omega)
    have qB' := qB.trans (hw'.mono (by omega))
    have qz' : w.heap.size + 3 ≤ w'.heap.size := by have := hw'.size; omega
    clear hw' q0 q1 q2 qB qz
    refine wpList_store_mid rfl 142 (.tmp 3) (.tmp 25) rfl w.heap.size 0 (vW ra.list).toArray rfl rfl (q0'.there 0 8 (Nat.le_refl 8)) info_arr8 (all_oneCell_toArray (vW_one ra.list)) ?_
    simp only [Act.put]
    have a0 := q0'.over (vs := vW ra.list) rfl
    have a1 := q1'.setCells_other w.heap.size 0 (vW ra.list) (by omega)
    have a2 := q2'.setCells_other w.heap.size 0 (vW ra.list) (by omega)
    have aB := below_setCells qB' (b := w.heap.size) (o := 0) (Nat.le_refl _) (vW ra.list)
    have az : w.heap.size + 3 ≤ (World.setCells w' w.heap.size 0 (vW ra.list)).heap.size := by rw [size_setCells]; exact qz'
    generalize World.setCells w' w.heap.size 0 (vW ra.list) = W6 at *
    clear q0' q1' q2' qB' qz' w' W3
    have hi9 : (Tryd.prog.info? 151).map (·.size) = some (vB noughts).toArray.size := info_b64
    have ho9 := all_oneCell_toArray (vB_one noughts)
    have hnl : noughts.length = 64 := rfl
    have hi1 : (Tryd.prog.info? 151).map (·.size) = some (vB (noughts)).length := by rw [info_b64, vB_length, hnl]
    have hw16 : (words (noughts) 16).length = 16 := words_length _ _
    have HL : Hid (last (noughts) n = ((words (noughts) 16).set 14 (hi n)).set 15 (lo n)) := rfl
    have HL16 : Hid ((last (noughts) n).length = 16) := last_length _ _
    generalize hww : words (noughts) 16 = ww at hw16 HL
    have HWW : Hid (words (noughts) 16 = ww) := hww
    have HW16 : Hid (ww.length = 16) := hw16
    generalize hll : last (noughts) n = ll at HL HL16
    have HLL : Hid (last (noughts) n = ll) := hll
    clear hww hw16 hll
    have hi2 : (Tryd.prog.info? 155).map (·.size) = some (vW ww).toArray.size := by rw [info_arr16]; simp [vW_length, HW16.out]
    have hi3 : (Tryd.prog.info? 155).map (·.size) = some (vW ll).length := by rw [info_arr16, vW_length, HL16.out]
    obtain ⟨r, hr⟩ : ∃ r, comp (ra) ll = r := ⟨_, rfl⟩
    have HR : Hid (comp (ra) ll = r) := hr
    clear hr
    have hi5 : (Tryd.prog.info? 29).map (·.size) = some (vB r.bytes).toArray.size := info_dig
    have ho := all_oneCell_toArray (vW_one ww)
    have ho5 := all_oneCell_toArray (vB_one r.bytes)
    have hhi := hi_eq n hn
    have hlo := lo_eq n
    go_wp2_with (first
      | (refine wpList_store_mid rfl 151 (.tmp 4) (.tmp 26) rfl (w.heap.size + 1) 0 (vB noughts).toArray rfl rfl (a1.there 0 64 (by rw [vB_length, hol]; decide)) hi9 ho9 ?_; simp only [Act.put]; (have q0 := a0.setCells_other (w.heap.size + 1) 0 (vB noughts) (by omega)); (have q1 := a1.over (vs := vB noughts) (by rw [vB_length, vB_length, hol]; rfl)); (have q2 := a2.setCells_other (w.heap.size + 1) 0 (vB noughts) (by omega)); (have qB := below_setCells aB (b := w.heap.size + 1) (o := 0) (by omega) (vB noughts)); (have qz : w.heap.size + 3 ≤ (World.setCells W6 (w.heap.size + 1) 0 (vB noughts)).heap.size := (by rw [size_setCells]; exact az)); (change wpList _ _ _ _ _ (World.setCells W6 (w.heap.size + 1) 0 (vB noughts))); (generalize World.setCells W6 (w.heap.size + 1) 0 (vB noughts) = W3 at *))
      | (refine wpList_load_mid rfl 151 (.tmp 4) rfl (w.heap.size + 1) 0 rfl (vB (noughts)) _ q1.all Tryd.underlying151 rfl hi1 ?_; simp only [Act.put, List.setIfInBounds_toArray, List.set_cons_zero, List.set_cons_succ])
      | (go_at_call 96; refine (words_w _ ww hnl HWW.out _).mono ?_; rintro e w1 ⟨rfl, hb1⟩)
      | (refine wpList_store_mid rfl 155 (.tmp 8) (.tmp 28) rfl w1.heap.size 0 (vW ww).toArray rfl rfl ?_ hi2 ho ?_; (exact Row.there (Row.new' (cs := vW (List.replicate 16 0#32)) rfl rfl) 0 _ (by simp [vW_length, HW16.out])); simp only [Act.put]; (have p0 := Row.setCells_other (Row.alloc (q0.below hb1 (by omega)) (Obj.cells (vW (List.replicate 16 0#32)).toArray 155)) w1.heap.size 0 (vW ww) (by have := hb1.size; omega)); (have p2 := Row.setCells_other (Row.alloc (q2.below hb1 (by omega)) (Obj.cells (vW (List.replicate 16 0#32)).toArray 155)) w1.heap.size 0 (vW ww) (by have := hb1.size; omega)); (have p8 := Row.over (Row.new w1 (vW (List.replicate 16 0#32)) 155) (vs := vW ww) (by rw [vW_length, HW16.out]; rfl)); (have pB := below_setCells ((qB.trans (hb1.mono (by omega))).alloc (by have := hb1.size; omega) (Obj.cells (vW (List.replicate 16 0#32)).toArray 155)) (b := w1.heap.size) (o := 0) (by have := hb1.size; omega) (vW ww)); (have pz : Hid (w.heap.size + 3 ≤ w1.heap.size) := (by have := hb1.size; show _ ≤ _; omega)); (change wpList _ _ _ _ _ (World.setCells (w1.alloc (Obj.cells (vW (List.replicate 16 0#32)).toArray 155)) w1.heap.size 0 (vW ww))); (generalize World.setCells (w1.alloc (Obj.cells (vW (List.replicate 16 0#32)).toArray 155)) w1.heap.size 0 (vW ww) = W4 at *); clear hb1; (generalize w1.heap.size = b8 at *); clear w1)
      | (refine wpList_store1 rfl 141 (.tmp 35) (.tmp 32) rfl b8 14 (.int .u32 (u (hi n))) rfl rfl rfl (Row.there p8 14 1 (by rw [vW_length, HW16.out]; decide)) info_u32 rfl ?_; simp only [Act.put])
      | (refine wpList_store1 rfl 141 (.tmp 36) (.tmp 34) rfl b8 15 (.int .u32 (u (lo n))) rfl rfl rfl (Row.there (p8.set 14 (.int .u32 (u (hi n)))) 15 1 (by rw [List.length_set, vW_length, HW16.out]; decide)) info_u32 rfl ?_; simp only [Act.put]; (have m8 := (p8.set 14 (.int .u32 (u (hi n)))).set 15 (.int .u32 (u (lo n)))); rw [vW_set, vW_set, ← HL.out] at m8; (have m0 := (p0.set_other b8 14 (.int .u32 (u (hi n))) (by have := pz.out; omega)).set_other b8 15 (.int .u32 (u (lo n))) (by have := pz.out; omega)); (have m2 := (p2.set_other b8 14 (.int .u32 (u (hi n))) (by have := pz.out; omega)).set_other b8 15 (.int .u32 (u (lo n))) (by have := pz.out; omega)); (have mB := (pB.setCell (p := ⟨b8, 14, none⟩) (by have := pz.out; show _ ≤ b8; omega) (.int .u32 (u (hi n)))).setCell (p := ⟨b8, 15, none⟩) (by have := pz.out; show _ ≤ b8; omega) (.int .u32 (u (lo n)))); (generalize World.setCell (World.setCell W4 ⟨b8, 14, none⟩ (.int .u32 (u (hi n)))) ⟨b8, 15, none⟩ (.int .u32 (u (lo n))) = W5 at *); (have mT : Tab W5 3 := hK.below mB hK.lt); (have mz : w.heap.size + 3 ≤ W5.heap.size := (by have h1 := m8.lt; have h2 := pz.out; omega)))
      | (refine wpList_load_mid rfl 142 (.tmp 3) rfl w.heap.size 0 rfl (vW (ra).list) _ m0.all Tryd.underlying142 rfl info_arr8 ?_; simp only [Act.put, List.setIfInBounds_toArray, List.set_cons_zero, List.set_cons_succ])
      | (refine wpList_load_mid rfl 155 (.tmp 8) rfl b8 0 rfl (vW ll) _ m8.all Tryd.underlying155 rfl hi3 ?_; simp only [Act.put, List.setIfInBounds_toArray, List.set_cons_zero, List.set_cons_succ])
      | (go_at_call 95; refine (takeIn_r (ra) ll r HL16.out HR.out W5 mT).mono ?_; rintro e w5 ⟨rfl, hb5⟩)
      | (go_at_call 102; refine (bytesOf_any r w5).mono ?_; rintro e w6 ⟨rfl, hb6⟩)
      | (refine wpList_store_mid rfl 29 (.tmp 6) (.tmp 40) rfl (w.heap.size + 1 + 1) 0 (vB r.bytes).toArray rfl rfl ?_ hi5 ho5 ?_; (exact Row.there ((m2.below hb5 (by omega)).below hb6 (by have := hb5.size; omega)) 0 32 (by rw [vB_length, List.length_replicate]; decide))))
    have n2 := (m2.below hb5 (by omega)).below hb6 (by have := hb5.size; omega)
    have nf := n2.over (vs := vB r.bytes) rfl
    have nB := below_setCells ((mB.trans (hb5.mono (by omega))).trans (hb6.mono (by have := hb5.size; omega))) (b := w.heap.size + 1 + 1) (o := 0) (by omega) (vB r.bytes)
    refine bodyPost_ret (results_row Tryd.results97 _ _ (w.heap.size + 1 + 1) 29 (vB r.bytes) rfl nf Tryd.underlying29 info_dig rfl) rfl ⟨?_, nB⟩
    rw [show fin s t n = r from by rw [fin, if_pos hlt, HWA.out, HRA.out, HLL.out]; exact HR.out]
  · have hol : (oneBit t n).length = 64 := by rw [oneBit_length, ht]
    have qT : Tab W3 3 := hK.below qB hK.lt
    have hi1 : (Tryd.prog.info? 151).map (·.size) = some (vB (oneBit t n)).length := by rw [info_b64, vB_length, hol]
    have hw16 : (words (oneBit t n) 16).length = 16 := words_length _ _
    have HL : Hid (last (oneBit t n) n = ((words (oneBit t n) 16).set 14 (hi n)).set 15 (lo n)) := rfl
    have HL16 : Hid ((last (oneBit t n) n).length = 16) := last_length _ _
    generalize hww : words (oneBit t n) 16 = ww at hw16 HL
    have HWW : Hid (words (oneBit t n) 16 = ww) := hww
    have HW16 : Hid (ww.length = 16) := hw16
    generalize hll : last (oneBit t n) n = ll at HL HL16
    have HLL : Hid (last (oneBit t n) n = ll) := hll
    clear hww hw16 hll
    have hi2 : (Tryd.prog.info? 155).map (·.size) = some (vW ww).toArray.size := by rw [info_arr16]; simp [vW_length, HW16.out]
    have hi3 : (Tryd.prog.info? 155).map (·.size) = some (vW ll).length := by rw [info_arr16, vW_length, HL16.out]
    obtain ⟨r, hr⟩ : ∃ r, comp (s) ll = r := ⟨_, rfl⟩
    have HR : Hid (comp (s) ll = r) := hr
    clear hr
    have hi5 : (Tryd.prog.info? 29).map (·.size) = some (vB r.bytes).toArray.size := info_dig
    have ho := all_oneCell_toArray (vW_one ww)
    have ho5 := all_oneCell_toArray (vB_one r.bytes)
    have hhi := hi_eq n hn
    have hlo := lo_eq n
    go_wp2_with (first
      | (refine wpList_load_mid rfl 151 (.tmp 4) rfl (w.heap.size + 1) 0 rfl (vB (oneBit t n)) _ q1.all Tryd.underlying151 rfl hi1 ?_; simp only [Act.put, List.setIfInBounds_toArray, List.set_cons_zero, List.set_cons_succ])
      | (go_at_call 96; refine (words_w _ ww hol HWW.out _).mono ?_; rintro e w1 ⟨rfl, hb1⟩)
      | (refine wpList_store_mid rfl 155 (.tmp 8) (.tmp 28) rfl w1.heap.size 0 (vW ww).toArray rfl rfl ?_ hi2 ho ?_; (exact Row.there (Row.new' (cs := vW (List.replicate 16 0#32)) rfl rfl) 0 _ (by simp [vW_length, HW16.out])); simp only [Act.put]; (have p0 := Row.setCells_other (Row.alloc (q0.below hb1 (by omega)) (Obj.cells (vW (List.replicate 16 0#32)).toArray 155)) w1.heap.size 0 (vW ww) (by have := hb1.size; omega)); (have p2 := Row.setCells_other (Row.alloc (q2.below hb1 (by omega)) (Obj.cells (vW (List.replicate 16 0#32)).toArray 155)) w1.heap.size 0 (vW ww) (by have := hb1.size; omega)); (have p8 := Row.over (Row.new w1 (vW (List.replicate 16 0#32)) 155) (vs := vW ww) (by rw [vW_length, HW16.out]; rfl)); (have pB := below_setCells ((qB.trans (hb1.mono (by omega))).alloc (by have := hb1.size; omega) (Obj.cells (vW (List.replicate 16 0#32)).toArray 155)) (b := w1.heap.size) (o := 0) (by have := hb1.size; omega) (vW ww)); (have pz : Hid (w.heap.size + 3 ≤ w1.heap.size) := (by have := hb1.size; show _ ≤ _; omega)); (change wpList _ _ _ _ _ (World.setCells (w1.alloc (Obj.cells (vW (List.replicate 16 0#32)).toArray 155)) w1.heap.size 0 (vW ww))); (generalize World.setCells (w1.alloc (Obj.cells (vW (List.replicate 16 0#32)).toArray 155)) w1.heap.size 0 (vW ww) = W4 at *); clear hb1; (generalize w1.heap.size = b8 at *); clear w1)
      | (refine wpList_store1 rfl 141 (.tmp 35) (.tmp 32) rfl b8 14 (.int .u32 (u (hi n))) rfl rfl rfl (Row.there p8 14 1 (by rw [vW_length, HW16.out]; decide)) info_u32 rfl ?_; simp only [Act.put])
      | (refine wpList_store1 rfl 141 (.tmp 36) (.tmp 34) rfl b8 15 (.int .u32 (u (lo n))) rfl rfl rfl (Row.there (p8.set 14 (.int .u32 (u (hi n)))) 15 1 (by rw [List.length_set, vW_length, HW16.out]; decide)) info_u32 rfl ?_; simp only [Act.put]; (have m8 := (p8.set 14 (.int .u32 (u (hi n)))).set 15 (.int .u32 (u (lo n)))); rw [vW_set, vW_set, ← HL.out] at m8; (have m0 := (p0.set_other b8 14 (.int .u32 (u (hi n))) (by have := pz.out; omega)).set_other b8 15 (.int .u32 (u (lo n))) (by have := pz.out; omega)); (have m2 := (p2.set_other b8 14 (.int .u32 (u (hi n))) (by have := pz.out; omega)).set_other b8 15 (.int .u32 (u (lo n))) (by have := pz.out; omega)); (have mB := (pB.setCell (p := ⟨b8, 14, none⟩) (by have := pz.out; show _ ≤ b8; omega) (.int .u32 (u (hi n)))).setCell (p := ⟨b8, 15, none⟩) (by have := pz.out; show _ ≤ b8; omega) (.int .u32 (u (lo n)))); (generalize World.setCell (World.setCell W4 ⟨b8, 14, none⟩ (.int .u32 (u (hi n)))) ⟨b8, 15, none⟩ (.int .u32 (u (lo n))) = W5 at *); (have mT : Tab W5 3 := hK.below mB hK.lt); (have mz : w.heap.size + 3 ≤ W5.heap.size := (by have h1 := m8.lt; have h2 := pz.out; omega)))
      | (refine wpList_load_mid rfl 142 (.tmp 3) rfl w.heap.size 0 rfl (vW (s).list) _ m0.all Tryd.underlying142 rfl info_arr8 ?_; simp only [Act.put, List.setIfInBounds_toArray, List.set_cons_zero, List.set_cons_succ])
      | (refine wpList_load_mid rfl 155 (.tmp 8) rfl b8 0 rfl (vW ll) _ m8.all Tryd.underlying155 rfl hi3 ?_; simp only [Act.put, List.setIfInBounds_toArray, List.set_cons_zero, List.set_cons_succ])
      | (go_at_call 95; refine (takeIn_r (s) ll r HL16.out HR.out W5 mT).mono ?_; rintro e w5 ⟨rfl, hb5⟩)
      | (go_at_call 102; refine (bytesOf_any r w5).mono ?_; rintro e w6 ⟨rfl, hb6⟩)
      | (refine wpList_store_mid rfl 29 (.tmp 6) (.tmp 40) rfl (w.heap.size + 1 + 1) 0 (vB r.bytes).toArray rfl rfl ?_ hi5 ho5 ?_; (exact Row.there ((m2.below hb5 (by omega)).below hb6 (by have := hb5.size; omega)) 0 32 (by rw [vB_length, List.length_replicate]; decide))))
    have n2 := (m2.below hb5 (by omega)).below hb6 (by have := hb5.size; omega)
    have nf := n2.over (vs := vB r.bytes) rfl
    have nB := below_setCells ((mB.trans (hb5.mono (by omega))).trans (hb6.mono (by have := hb5.size; omega))) (b := w.heap.size + 1 + 1) (o := 0) (by omega) (vB r.bytes)
    refine bodyPost_ret (results_row Tryd.results97 _ _ (w.heap.size + 1 + 1) 29 (vB r.bytes) rfl nf Tryd.underlying29 info_dig rfl) rfl ⟨?_, nB⟩
    rw [show fin s t n = r from by rw [fin, if_neg hlt, HLL.out]; exact HR.out]

end Go.Proofs.YtfdgdmehgbmnkaaDoor
