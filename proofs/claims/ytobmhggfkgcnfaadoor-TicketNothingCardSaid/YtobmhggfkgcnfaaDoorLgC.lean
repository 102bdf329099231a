/-
  keys.
-/
import Derived.Test.YtobmhggfkgcnfaaDoorLgB
import Derived.LoopN
import Derived.Test.YtobmhggfkgcnfaaDoorWKn
namespace Go.Proofs.YtobmhggfkgcnfaaDoor
open Go Go.RowKit Go.Maps
open Sha


set_option maxRecDepth 100000 in
set_option maxHeartbeats 1000000 in
theorem key0 (S : Nat) (tb : BitVec 8) (mk : UInt8) (mb : BitVec 8) (hmb : BitVec.ofNat 8 mk.toNat = mb) (d : List (BitVec 8)) (hd : d = [mb, tb]) (w : World) : Calls Tryd.prog 48 #[.agg (pg S (c tb)).toArray, .string ⟨#[mk]⟩, .slice none 0 0] w fun e w' => e = .returned (.string (str d)) ∧ Below w.heap.size w w' := by
  obtain ⟨W1, hW1, r1, b1⟩ : ∃ W, W = w.alloc (Obj.cells (pg S (c tb)).toArray 85) ∧ Row W w.heap.size (pg S (c tb)) 85 ∧ Below w.heap.size w W := ⟨_, rfl, Row.new' rfl rfl, (Below.refl _ _).alloc (Nat.le_refl _) _⟩
  have HMB : Hid (BitVec.ofNat 8 mk.toNat = mb) := hmb
  have HD : Hid (d = [mb, tb]) := hd
  have HW : Hid (W1 = _) := hW1
  have R1 : Hid (Row W1 w.heap.size (pg S (c tb)) 85) := r1
  have B1 : Hid (Below w.heap.size w W1) := b1
  clear hW1 r1 b1 hmb hd
  go_enter Tryd.func48, Tryd.ntmps48
  go_upto_region 1 with fail
  rw [← HW.out]
  clear HW
  go_wp2_with (first
    | (refine wpList_mark rfl (.tmp 10) rfl mk rfl mb HMB.out ?_; intro v1 V1 q1 q2; have g1 := (Row.below R1.out q2 R1.out.lt).cell 1 _ rfl; have Q1 : Hid (Sp W1.heap.size V1 v1 _) := q1; have Q2 : Hid (Below W1.heap.size W1 V1) := q2; clear q1 q2; simp only [Act.put, List.setIfInBounds_toArray, List.set_cons_zero, List.set_cons_succ])
    | (refine wpList_app_sp rfl (.tmp 11) (.tmp 14) rfl W1.heap.size v1 [mb] [tb] rfl (Sp.be Q1.out ((Below.refl _ _).alloc (Nat.le_refl _) _)) V1.heap.size 0 1 1 rfl (by decide) rfl (Row.all (cs := vB [tb]) (Row.new' rfl rfl)) (by show 1 + 1 ≤ 1000; decide) ?_; intro v2 V2 q1 q2; have Q3 : Hid (Sp W1.heap.size V2 v2 [mb, tb]) := q1; have Q4 : Hid (Below W1.heap.size W1 V2) := (Q2.out.alloc Q2.out.size _).trans q2; clear q1 q2 Q1 Q2 g1; simp only [Act.put, List.setIfInBounds_toArray, List.set_cons_zero, List.set_cons_succ]))
  refine wp_loop_rounds 1 ?_
  rw [rounds_succ]
  replace Q3 : Hid (Sp W1.heap.size V2 v2 d) := by rw [HD.out]; exact Q3.out
  have hcv := run_convert_sl (P := Tryd.prog) V2 46 5 9 Tryd.underlying46 Tryd.underlying5 Tryd.underlying9 v2 _ Q3.out.sl
  have HB : Hid (Below w.heap.size w V2) := B1.out.trans (Q4.out.mono B1.out.size)
  go_wp2_with fail
  go_ret
  exact ⟨rfl, HB.out⟩

set_option maxRecDepth 100000 in
set_option maxHeartbeats 1000000 in
theorem key1 (S : Nat) (tb : BitVec 8) (mk : UInt8) (mb : BitVec 8) (hmb : BitVec.ofNat 8 mk.toNat = mb) (who : List (BitVec 8)) (hw : who.length = 20) (q : Nat) (d : List (BitVec 8)) (hd : d = [mb, tb] ++ who) (w : World) (hq : Row w q (vB who) 24) : Calls Tryd.prog 48 #[.agg (pg S (c tb)).toArray, .string ⟨#[mk]⟩, .slice (some ⟨q, 0, none⟩) 1 1] w fun e w' => e = .returned (.string (str d)) ∧ Below w.heap.size w w' := by
  obtain ⟨W1, hW1, r1, b1⟩ : ∃ W, W = w.alloc (Obj.cells (pg S (c tb)).toArray 85) ∧ Row W w.heap.size (pg S (c tb)) 85 ∧ Below w.heap.size w W := ⟨_, rfl, Row.new' rfl rfl, (Below.refl _ _).alloc (Nat.le_refl _) _⟩
  have HMB : Hid (BitVec.ofNat 8 mk.toNat = mb) := hmb
  have HD : Hid (d = [mb, tb] ++ who) := hd
  have HW : Hid (W1 = _) := hW1
  have R1 : Hid (Row W1 w.heap.size (pg S (c tb)) 85) := r1
  have B1 : Hid (Below w.heap.size w W1) := b1
  have RQ : Hid (Row W1 q (vB who) 24) := Row.below hq b1 hq.lt
  have HWL : Hid (who.length = 20) := hw
  have HIA : Hid ((Tryd.prog.info? 24).map (·.size) = some (vB who).length) := by show _ = _; rw [vB_length, hw]; kernel_rfl
  have HIB : Hid ((Tryd.prog.info? 24).map (·.size) = some (vB who).toArray.size) := by show _ = _; rw [List.size_toArray, vB_length, hw]; kernel_rfl
  have HON : Hid ((vB who).toArray.all (·.oneCell') = true) := by show _ = true; rw [← Array.all_toList]; exact List.all_eq_true.2 (vB_one who)
  clear hq hw
  clear hW1 r1 b1 hmb hd
  go_enter Tryd.func48, Tryd.ntmps48
  go_upto_region 1 with fail
  rw [← HW.out]
  clear HW
  go_wp2_with (first
    | (refine wpList_mark rfl (.tmp 10) rfl mk rfl mb HMB.out ?_; intro v1 V1 q1 q2; have g1 := (Row.below R1.out q2 R1.out.lt).cell 1 _ rfl; have Q1 : Hid (Sp W1.heap.size V1 v1 _) := q1; have Q2 : Hid (Below W1.heap.size W1 V1) := q2; clear q1 q2; simp only [Act.put, List.setIfInBounds_toArray, List.set_cons_zero, List.set_cons_succ])
    | (refine wpList_app_sp rfl (.tmp 11) (.tmp 14) rfl W1.heap.size v1 [mb] [tb] rfl (Sp.be Q1.out ((Below.refl _ _).alloc (Nat.le_refl _) _)) V1.heap.size 0 1 1 rfl (by decide) rfl (Row.all (cs := vB [tb]) (Row.new' rfl rfl)) (by show 1 + 1 ≤ 1000; decide) ?_; intro v2 V2 q1 q2; have Q3 : Hid (Sp W1.heap.size V2 v2 [mb, tb]) := q1; have Q4 : Hid (Below W1.heap.size W1 V2) := (Q2.out.alloc Q2.out.size _).trans q2; clear q1 q2 Q1 Q2 g1; simp only [Act.put, List.setIfInBounds_toArray, List.set_cons_zero, List.set_cons_succ]))
  refine wp_loop_rounds 2 ?_
  rw [rounds_succ]
  have Rr : Hid (V2.rangeAt q 0 (vB who)) := (Row.below RQ.out Q4.out RQ.out.lt).all
  obtain ⟨X, hX, rX, bX⟩ : ∃ X, X = (V2.alloc (Obj.cells (vB (List.replicate 20 0#8)).toArray 24)).setCells V2.heap.size 0 (vB who) ∧ Row X V2.heap.size (vB who) 24 ∧ Below V2.heap.size V2 X := ⟨_, rfl, Row.over (Row.new' (cs := vB (List.replicate 20 0#8)) rfl rfl) (vs := vB who) (by rw [vB_length, vB_length, HWL.out]; rfl), below_setCells ((Below.refl V2.heap.size V2).alloc (Nat.le_refl _) _) (Nat.le_refl _) _⟩
  have HX : Hid (X = _) := hX
  have RX : Hid (Row X V2.heap.size (vB who) 24) := rX
  have BX : Hid (Below V2.heap.size V2 X) := bX
  clear hX rX bX
  go_wp2_with (first
    | (refine wpList_load_w rfl 24 (.tmp 20) rfl q 0 rfl (vB who) _ Rr.out Tryd.underlying24 rfl HIA.out ?_; simp only [Act.put, List.setIfInBounds_toArray, List.set_cons_zero, List.set_cons_succ])
    | (refine wpList_store_mid rfl 24 (.tmp 9) (.tmp 21) rfl V2.heap.size 0 (vB who).toArray rfl rfl (Row.there (Row.new' (cs := vB (List.replicate 20 0#8)) rfl rfl) 0 _ (by rw [List.size_toArray, vB_length, vB_length, HWL.out]; decide)) HIB.out HON.out ?_; simp only [Act.put]; change wpList _ _ _ _ _ (World.setCells (World.alloc V2 (Obj.cells (vB (List.replicate 20 0#8)).toArray 24)) V2.heap.size 0 (vB who)); rw [← HX.out])
    | (refine wpList_app_sp rfl (.tmp 22) (.tmp 23) rfl W1.heap.size v2 [mb, tb] who rfl (Sp.be Q3.out BX.out) V2.heap.size 0 20 20 HWL.out (by decide) rfl RX.out.all (by show 2 + 20 ≤ 1000; decide) ?_; intro v3 V3 q1 q2; have Q5 : Hid (Sp W1.heap.size V3 v3 d) := (by rw [HD.out]; exact q1); have Q6 : Hid (Below W1.heap.size W1 V3) := (Q4.out.trans (BX.out.mono Q4.out.size)).trans q2; clear q1 q2 Q3 Q4; simp only [Act.put, List.setIfInBounds_toArray, List.set_cons_zero, List.set_cons_succ]))
  rw [rounds_succ]
  have hcv := run_convert_sl (P := Tryd.prog) V3 46 5 9 Tryd.underlying46 Tryd.underlying5 Tryd.underlying9 v3 _ Q5.out.sl
  have HB : Hid (Below w.heap.size w V3) := B1.out.trans (Q6.out.mono B1.out.size)
  go_wp2_with fail
  go_ret
  exact ⟨rfl, HB.out⟩

end Go.Proofs.YtobmhggfkgcnfaaDoor
