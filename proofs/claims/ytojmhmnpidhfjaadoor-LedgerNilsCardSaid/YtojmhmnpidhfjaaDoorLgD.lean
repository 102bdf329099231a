/-
  small amounts; their bytes.
-/
import Derived.Test.YtojmhmnpidhfjaaDoorLgB
import Derived.LoopN
import Derived.Test.YtojmhmnpidhfjaaDoorWKn
import Derived.Test.YtojmhmnpidhfjaaDoorWVU
import Derived.Test.YtojmhmnpidhfjaaDoorWRdM
import Derived.Test.YtojmhmnpidhfjaaDoorWRd
import Derived.Test.YtojmhmnpidhfjaaDoorWEq
import Derived.Test.YtojmhmnpidhfjaaDoorWMul0

namespace Go.Proofs.YtojmhmnpidhfjaaDoor
open Go Go.RowKit Go.Maps
open Sha


set_option maxRecDepth 100000 in
set_option maxHeartbeats 1000000 in
theorem key0 (S : Nat) (tb : BitVec 8) (mk : UInt8) (mb : BitVec 8) (hmb : BitVec.ofNat 8 mk.toNat = mb) (d : List (BitVec 8)) (hd : d = [mb, tb]) (w : World) : Calls Tryd.prog 45 #[.agg (pg S (c tb)).toArray, .string ⟨#[mk]⟩, .slice none 0 0] w fun e w' => e = .returned (.string (str d)) ∧ Below w.heap.size w w' := by
  obtain ⟨W1, hW1, r1, b1⟩ : ∃ W, W = w.alloc (Obj.cells (pg S (c tb)).toArray 61) ∧ Row W w.heap.size (pg S (c tb)) 61 ∧ Below w.heap.size w W := ⟨_, rfl, Row.new' rfl rfl, (Below.refl _ _).alloc (Nat.le_refl _) _⟩
  have HMB : Hid (BitVec.ofNat 8 mk.toNat = mb) := hmb
  have HD : Hid (d = [mb, tb]) := hd
  have HW : Hid (W1 = _) := hW1
  have R1 : Hid (Row W1 w.heap.size (pg S (c tb)) 61) := r1
  have B1 : Hid (Below w.heap.size w W1) := b1
  clear hW1 r1 b1 hmb hd
  go_enter Tryd.func45, Tryd.ntmps45
  go_upto_region 1 with fail
  rw [← HW.out]
  clear HW
  go_wp2_with (first
    | (refine wpList_mark rfl (.tmp 10) rfl mk rfl mb HMB.out ?_; intro v1 V1 q1 q2; have g1 := (Row.below R1.out q2 R1.out.lt).cell 1 _ rfl; have Q1 : Hid (Sp W1.heap.size V1 v1 _) := q1; have Q2 : Hid (Below W1.heap.size W1 V1) := q2; clear q1 q2; simp only [Act.put, List.setIfInBounds_toArray, List.set_cons_zero, List.set_cons_succ])
    | (refine wpList_app_sp rfl (.tmp 11) (.tmp 14) rfl W1.heap.size v1 [mb] [tb] rfl (Sp.be Q1.out ((Below.refl _ _).alloc (Nat.le_refl _) _)) V1.heap.size 0 1 1 rfl (by decide) rfl (Row.all (cs := vB [tb]) (Row.new' rfl rfl)) (by show 1 + 1 ≤ 1000; decide) ?_; intro v2 V2 q1 q2; have Q3 : Hid (Sp W1.heap.size V2 v2 [mb, tb]) := q1; have Q4 : Hid (Below W1.heap.size W1 V2) := (Q2.out.alloc Q2.out.size _).trans q2; clear q1 q2 Q1 Q2 g1; simp only [Act.put, List.setIfInBounds_toArray, List.set_cons_zero, List.set_cons_succ]))
  refine wp_loop_rounds 1 ?_
  rw [rounds_succ]
  replace Q3 : Hid (Sp W1.heap.size V2 v2 d) := by rw [HD.out]; exact Q3.out
  have hcv := run_convert_sl (P := Tryd.prog) V2 55 5 9 Tryd.underlying55 Tryd.underlying5 Tryd.underlying9 v2 _ Q3.out.sl
  have HB : Hid (Below w.heap.size w V2) := B1.out.trans (Q4.out.mono B1.out.size)
  go_wp2_with fail
  go_ret
  exact ⟨rfl, HB.out⟩

set_option maxRecDepth 100000 in
set_option maxHeartbeats 1000000 in
theorem key1 (S : Nat) (tb : BitVec 8) (mk : UInt8) (mb : BitVec 8) (hmb : BitVec.ofNat 8 mk.toNat = mb) (who : List (BitVec 8)) (hw : who.length = 20) (q : Nat) (d : List (BitVec 8)) (hd : d = [mb, tb] ++ who) (w : World) (hq : Row w q (vB who) 23) : Calls Tryd.prog 45 #[.agg (pg S (c tb)).toArray, .string ⟨#[mk]⟩, .slice (some ⟨q, 0, none⟩) 1 1] w fun e w' => e = .returned (.string (str d)) ∧ Below w.heap.size w w' := by
  obtain ⟨W1, hW1, r1, b1⟩ : ∃ W, W = w.alloc (Obj.cells (pg S (c tb)).toArray 61) ∧ Row W w.heap.size (pg S (c tb)) 61 ∧ Below w.heap.size w W := ⟨_, rfl, Row.new' rfl rfl, (Below.refl _ _).alloc (Nat.le_refl _) _⟩
  have HMB : Hid (BitVec.ofNat 8 mk.toNat = mb) := hmb
  have HD : Hid (d = [mb, tb] ++ who) := hd
  have HW : Hid (W1 = _) := hW1
  have R1 : Hid (Row W1 w.heap.size (pg S (c tb)) 61) := r1
  have B1 : Hid (Below w.heap.size w W1) := b1
  have RQ : Hid (Row W1 q (vB who) 23) := Row.below hq b1 hq.lt
  have HWL : Hid (who.length = 20) := hw
  have HIA : Hid ((Tryd.prog.info? 23).map (·.size) = some (vB who).length) := by show _ = _; rw [vB_length, hw]; kernel_rfl
  have HIB : Hid ((Tryd.prog.info? 23).map (·.size) = some (vB who).toArray.size) := by show _ = _; rw [List.size_toArray, vB_length, hw]; kernel_rfl
  have HON : Hid ((vB who).toArray.all (·.oneCell') = true) := by show _ = true; rw [← Array.all_toList]; exact List.all_eq_true.2 (vB_one who)
  clear hq hw
  clear hW1 r1 b1 hmb hd
  go_enter Tryd.func45, Tryd.ntmps45
  go_upto_region 1 with fail
  rw [← HW.out]
  clear HW
  go_wp2_with (first
    | (refine wpList_mark rfl (.tmp 10) rfl mk rfl mb HMB.out ?_; intro v1 V1 q1 q2; have g1 := (Row.below R1.out q2 R1.out.lt).cell 1 _ rfl; have Q1 : Hid (Sp W1.heap.size V1 v1 _) := q1; have Q2 : Hid (Below W1.heap.size W1 V1) := q2; clear q1 q2; simp only [Act.put, List.setIfInBounds_toArray, List.set_cons_zero, List.set_cons_succ])
    | (refine wpList_app_sp rfl (.tmp 11) (.tmp 14) rfl W1.heap.size v1 [mb] [tb] rfl (Sp.be Q1.out ((Below.refl _ _).alloc (Nat.le_refl _) _)) V1.heap.size 0 1 1 rfl (by decide) rfl (Row.all (cs := vB [tb]) (Row.new' rfl rfl)) (by show 1 + 1 ≤ 1000; decide) ?_; intro v2 V2 q1 q2; have Q3 : Hid (Sp W1.heap.size V2 v2 [mb, tb]) := q1; have Q4 : Hid (Below W1.heap.size W1 V2) := (Q2.out.alloc Q2.out.size _).trans q2; clear q1 q2 Q1 Q2 g1; simp only [Act.put, List.setIfInBounds_toArray, List.set_cons_zero, List.set_cons_succ]))
  refine wp_loop_rounds 2 ?_
  rw [rounds_succ]
  have Rr : Hid (V2.rangeAt q 0 (vB who)) := (Row.below RQ.out Q4.out RQ.out.lt).all
  obtain ⟨X, hX, rX, bX⟩ : ∃ X, X = (V2.alloc (Obj.cells (vB (List.replicate 20 0#8)).toArray 23)).setCells V2.heap.size 0 (vB who) ∧ Row X V2.heap.size (vB who) 23 ∧ Below V2.heap.size V2 X := ⟨_, rfl, Row.over (Row.new' (cs := vB (List.replicate 20 0#8)) rfl rfl) (vs := vB who) (by rw [vB_length, vB_length, HWL.out]; rfl), below_setCells ((Below.refl V2.heap.size V2).alloc (Nat.le_refl _) _) (Nat.le_refl _) _⟩
  have HX : Hid (X = _) := hX
  have RX : Hid (Row X V2.heap.size (vB who) 23) := rX
  have BX : Hid (Below V2.heap.size V2 X) := bX
  clear hX rX bX
  go_wp2_with (first
    | (refine wpList_load_w rfl 23 (.tmp 20) rfl q 0 rfl (vB who) _ Rr.out Tryd.underlying23 rfl HIA.out ?_; simp only [Act.put, List.setIfInBounds_toArray, List.set_cons_zero, List.set_cons_succ])
    | (refine wpList_store_mid rfl 23 (.tmp 9) (.tmp 21) rfl V2.heap.size 0 (vB who).toArray rfl rfl (Row.there (Row.new' (cs := vB (List.replicate 20 0#8)) rfl rfl) 0 _ (by rw [List.size_toArray, vB_length, vB_length, HWL.out]; decide)) HIB.out HON.out ?_; simp only [Act.put]; change wpList _ _ _ _ _ (World.setCells (World.alloc V2 (Obj.cells (vB (List.replicate 20 0#8)).toArray 23)) V2.heap.size 0 (vB who)); rw [← HX.out])
    | (refine wpList_app_sp rfl (.tmp 22) (.tmp 23) rfl W1.heap.size v2 [mb, tb] who rfl (Sp.be Q3.out BX.out) V2.heap.size 0 20 20 HWL.out (by decide) rfl RX.out.all (by show 2 + 20 ≤ 1000; decide) ?_; intro v3 V3 q1 q2; have Q5 : Hid (Sp W1.heap.size V3 v3 d) := (by rw [HD.out]; exact q1); have Q6 : Hid (Below W1.heap.size W1 V3) := (Q4.out.trans (BX.out.mono Q4.out.size)).trans q2; clear q1 q2 Q3 Q4; simp only [Act.put, List.setIfInBounds_toArray, List.set_cons_zero, List.set_cons_succ]))
  rw [rounds_succ]
  have hcv := run_convert_sl (P := Tryd.prog) V3 55 5 9 Tryd.underlying55 Tryd.underlying5 Tryd.underlying9 v3 _ Q5.out.sl
  have HB : Hid (Below w.heap.size w V3) := B1.out.trans (Q6.out.mono B1.out.size)
  go_wp2_with fail
  go_ret
  exact ⟨rfl, HB.out⟩

end Go.Proofs.YtojmhmnpidhfjaaDoor

namespace Go.Proofs.YtojmhmnpidhfjaaDoor
open Go Go.RowKit
open Wd

set_option maxRecDepth 100000 in
set_option maxHeartbeats 2000000 in
theorem bytes_any (a : Nat) (w : World) :
    Calls Tryd.prog 48 #[.agg (vQ (dgs a 4)).toArray] w fun e w' => ∃ N, w.heap.size ≤ N ∧ Row w' N (vU (bl a)) 5 ∧ e = .returned (.slice (some ⟨N, 0, none⟩) 32 32) ∧ Below w.heap.size w w' := by
  go_enter Tryd.func48, Tryd.ntmps48
  go_wp2_with (refine wpList_make_u rfl 55 (.const (.int .i64 32)) (.const (.int .i64 32)) rfl 5 32 _ _ rfl rfl rfl rfl (by decide) Tryd.underlying55 info_all_u8 ?_; simp only [Act.put, List.setIfInBounds_toArray, List.set_cons_zero, List.set_cons_succ])
  go_loopw [4, 8] (fun _ iv wr => ∃ t : Nat, t ≤ 32 ∧ iv = .int .i64 (t : Int) ∧ Below w.heap.size w wr ∧ Row wr w.heap.size (vQ (dgs a 4)) 26 ∧ Row wr (w.heap.size + 1) (vU (List.replicate (32 - t) 0 ++ rx (by8 a) t)) 5) (fun _ iv _ => 32 - (intOf iv).toNat)
  case atStart =>
    refine ⟨0, by omega, rfl, ((Below.refl _ _).alloc (Nat.le_refl _) _).alloc (by simp) _, (Row.new' rfl rfl).alloc _, ?_⟩
    exact Row.new' (by simp) rfl
  case round =>
    obtain ⟨t, ht, rfl, hb, h1, h3⟩ := hrel
    by_cases hlt : t < 32
    · have hq : t / 8 < 4 := by omega
      have g1 := h1.cell (t / 8) _ (vQ_get _ (t / 8) (by rw [dgs_length]; exact hq))
      rw [dgs_getD _ _ _ hq] at g1
      have hlen : (List.replicate (32 - t) 0 ++ rx (by8 a) t).length = 32 := by rw [List.length_append, List.length_replicate, rx_length]; omega
      have g3 := h3.cell (31 - t) _ (vU_get _ (31 - t) (by rw [hlen]; omega))
      have gf := h3.thaw (31 - t)
      have hby := by8_lim a t
      have hbl := by8_lt a t
      have hx := lim_lt a (t / 8)
      have e1 : (t : Int) / 8 = ((t / 8 : Nat) : Int) := by omega
      have e2 : (t : Int) % 8 = ((t % 8 : Nat) : Int) := by omega
      generalize (List.replicate (32 - t) 0 ++ rx (by8 a) t).getD (31 - t) 0 = z at g3
      generalize lim a (t / 8) = x at *
      obtain ⟨q, hqe⟩ : ∃ q, q = t / 8 := ⟨_, rfl⟩
      obtain ⟨r0, hr0⟩ : ∃ r0, r0 = t % 8 := ⟨_, rfl⟩
      obtain ⟨r, hre⟩ : ∃ r, r = r0 * 8 := ⟨_, rfl⟩
      obtain ⟨j, hj⟩ : ∃ j, j = 31 - t := ⟨_, rfl⟩
      rw [← hqe] at g1 e1 hq
      rw [← hr0] at e2 hby
      rw [← hre] at hby
      rw [← hj] at g3 gf
      have e3 : (r0 : Int) * 8 = (r : Int) := by omega
      have e4 : (31 : Int) - (t : Int) = (j : Int) := by omega
      have lr : (r : Int) ≤ 56 := by omega
      have lr' : r < 64 := by omega
      have lj : (j : Int) < 32 := by omega
      have lj' : j < 32 := by omega
      have lq : (q : Int) < 4 := by omega
      have eK : (x : Int) / 2 ^ r = ((x / 2 ^ r : Nat) : Int) := by simp
      obtain ⟨y, hy⟩ : ∃ y, y = x / 2 ^ r := ⟨_, rfl⟩
      rw [← hy] at eK hby
      obtain ⟨d, hd⟩ : ∃ d, d = by8 a t := ⟨_, rfl⟩
      rw [← hd] at hby hbl
      have eA : IntKind.u8.wrap (y : Int) = (d : Int) := by rw [IntKind.wrap_u8]; omega
      have HJ : Hid (j = 31 - t ∧ d = by8 a t) := ⟨hj, hd⟩
      clear hqe hre hr0 hy hby hx ht hj hd hlen hbl
      go_wp2
      refine ⟨⟨t + 1, hlt, by go_num, Below.setCell hb (by simp) _, h1.set_other _ _ _ (by omega), ?_⟩, by simp [intOf]; omega⟩
      have := h3.set j (.int .u8 (d : Int))
      rw [vU_set, HJ.out.1, HJ.out.2, show 31 - t = 32 - 1 - t from rfl, rx_fill (by8 a) t 32 hlt] at this
      rw [HJ.out.1, HJ.out.2]
      exact this
    · have et : t = 32 := by omega
      have e4 : (t : Int) = 32 := by omega
      rw [et, Nat.sub_self, List.replicate_zero, List.nil_append] at h3
      rw [e4]
      clear et e4 ht hlt
      go_wp2
      go_ret
      exact ⟨w.heap.size + 1, by omega, h3, by simp, hb⟩

end Go.Proofs.YtojmhmnpidhfjaaDoor

namespace Go.Proofs.YtojmhmnpidhfjaaDoor
open Go Go.RowKit Go.Maps
open Sha
open Wd

/-- A small amount's cells. -/
abbrev sm (n : Int) : Array Value := #[.int .u64 n, .int .u64 0, .int .u64 0, .int .u64 0]
theorem sm_dgs (n : Nat) (h : n < 1000000) : (vQ (dgs n 4)).toArray = sm (n : Int) := by
  have e0 : lim n 0 = n := by unfold lim; rw [Nat.mul_zero, Nat.pow_zero, Nat.div_one]; exact Nat.mod_eq_of_lt (by omega)
  have e1 : lim n 1 = 0 := by unfold lim; rw [Nat.div_eq_of_lt (Nat.lt_of_lt_of_le h (by decide))]
  have e2 : lim n 2 = 0 := by unfold lim; rw [Nat.div_eq_of_lt (Nat.lt_of_lt_of_le h (by decide))]
  have e3 : lim n 3 = 0 := by unfold lim; rw [Nat.div_eq_of_lt (Nat.lt_of_lt_of_le h (by decide))]
  have e : dgs n 4 = [lim n 0, lim n 1, lim n 2, lim n 3] := rfl
  rw [e, e0, e1, e2, e3]
  rfl
/-- An amount's bytes. -/
def wB (n : Nat) : List (BitVec 8) := (bl n).map (BitVec.ofNat 8)
theorem wB_len (n : Nat) : (wB n).length = 32 := by unfold wB; rw [List.length_map, bl_length]
theorem wB_vU (n : Nat) : vB (wB n) = vU (bl n) := by
  unfold wB vB vU
  rw [List.map_map]
  refine List.map_congr_left (fun x hx => ?_)
  simp only [Function.comp_apply, c, BitVec.toNat_ofNat]
  rw [Nat.mod_eq_of_lt (bl_lt n x hx)]
theorem addS (a b : Nat) (h : a + b < 1000000) (w : World) : Calls Tryd.prog 28 #[.agg (sm (a : Int)), .agg (sm (b : Int))] w fun e w' => e = .returned (.tuple #[.agg (sm ((a + b : Nat) : Int)), .int .i64 0]) ∧ Below w.heap.size w w' := by
  have q := add_any a b (by omega) (by omega) w
  rw [sm_dgs a (by omega), sm_dgs b (by omega)] at q
  unfold addR addE at q
  rw [if_pos (by omega), if_pos (by omega), sm_dgs (a + b) h] at q
  exact q
theorem subS (a b : Nat) (h : a < 1000000) (hb : b ≤ a) (w : World) : Calls Tryd.prog 38 #[.agg (sm (a : Int)), .agg (sm (b : Int))] w fun e w' => e = .returned (.tuple #[.agg (sm ((a - b : Nat) : Int)), .int .i64 0]) ∧ Below w.heap.size w w' := by
  have q := sub_any a b (by omega) (by omega) w
  rw [sm_dgs a (by omega), sm_dgs b (by omega)] at q
  unfold subR subE at q
  rw [if_neg (by omega), if_neg (by omega), sm_dgs (a - b) (by omega)] at q
  exact q
theorem subN (a b : Nat) (h : a < b) (hb : b < 1000000) (w : World) : Calls Tryd.prog 38 #[.agg (sm (a : Int)), .agg (sm (b : Int))] w fun e w' => e = .returned (.tuple #[.agg (sm 0), .int .i64 23]) ∧ Below w.heap.size w w' := by
  have q := sub_any a b (by omega) (by omega) w
  rw [sm_dgs a (by omega), sm_dgs b (by omega)] at q
  unfold subR subE at q
  rw [if_pos h, if_pos h, sm_dgs 0 (by omega)] at q
  exact q
theorem zeroS (n : Nat) (h : n < 1000000) (B : Bool) (hB : decide (n = 0) = B) (w : World) : Calls Tryd.prog 40 #[.agg (sm (n : Int))] w fun e w' => e = .returned (.bool B) ∧ Below w.heap.size w w' := by
  have q := isZero_any n (by omega) w
  rw [sm_dgs n h, hB] at q
  exact q
theorem bytesS (n : Nat) (h : n < 1000000) (w : World) : Calls Tryd.prog 48 #[.agg (sm (n : Int))] w fun e w' => ∃ N, w.heap.size ≤ N ∧ Row w' N (vB (wB n)) 5 ∧ e = .returned (.slice (some ⟨N, 0, none⟩) 32 32) ∧ Below w.heap.size w w' := by
  have q := bytes_any n w
  rw [sm_dgs n h, ← wB_vU] at q
  exact q
theorem readS (n : Nat) (h : n < 1000000) (A : Option Addr) (cap : Nat) (w : World) (hv : SlAt w (.slice A 32 cap) (wB n)) : Calls Tryd.prog 51 #[.slice A 32 cap] w fun e w' => e = .returned (.tuple #[.agg (sm (n : Int)), .int .i64 0]) ∧ Below w.heap.size w w' := by
  rcases hv with ⟨h0, _⟩ | ⟨ab, ao, c', hv, hc, hr⟩
  · have := wB_len n
    rw [h0] at this
    simp at this
  · simp only [Value.slice.injEq] at hv
    obtain ⟨rfl, _, _⟩ := hv
    have hby : By w (some ⟨ab, ao, none⟩) (bl n) := fun i hi => by
      have hg : (vB (wB n))[i]? = some (.int .u8 (((bl n).getD i 0 : Nat) : Int)) := by rw [wB_vU]; exact vU_get (bl n) i hi
      have q := hr i _ hg
      exact ⟨ab, ao, rfl, q, World.block_lt_of_cell? w _ q⟩
    have q := read_by (bl n) (bl_lt n) (some ⟨ab, ao, none⟩) cap w hby
    unfold rdR rdE at q
    rw [if_pos (bl_length n), if_pos (bl_length n), rdn_bl n (by omega), bl_length, sm_dgs n h] at q
    exact q

end Go.Proofs.YtojmhmnpidhfjaaDoor
