/-
  two entries compared.
-/
import Derived.Test.YtfjhecmnbodkfaaGreatDoorIbI
import Derived.Test.YtfjhecmnbodkfaaGreatDoorIoM
import Derived.Test.YtfjhecmnbodkfaaGreatDoorIoB3

namespace Go.Proofs.YtfjhecmnbodkfaaGreatDoor
open Go Go.RowKit
open Sha

set_option maxRecDepth 100000 in
set_option maxHeartbeats 4000000 in
theorem alike_c3 (k : Int) (sd : List (BitVec 8)) (tm : Int) (tk : Int) (rc : List (BitVec 8)) (am : List Nat) (gs : Int) (d : List (BitVec 8)) (tk2 : Int) (rc2 : List (BitVec 8)) (am2 : List Nat) (gs2 : Int) (d2 : List (BitVec 8)) (hne : ¬ tk = tk2) (h1 : sd.length = 20) (h2 : rc.length = 20) (h3 : am.length = 4) (h4 : sd.length = 20) (h5 : rc2.length = 20) (h6 : am2.length = 4) (A1 A2 : Option Addr) (n1 n2 c1 c2 : Nat) (L M : List Value) (hL : L = ent k sd tm tk rc am gs (.slice A1 n1 c1)) (hM : M = ent k sd tm tk2 rc2 am2 gs2 (.slice A2 n2 c2)) (w : World) (s1 : SlAt w (.slice A1 n1 c1) d) (s2 : SlAt w (.slice A2 n2 c2) d2) :
    Calls Tryz.prog 45 #[.agg L.toArray, .agg M.toArray] w fun r w' => r = .returned (.bool false) ∧ Below w.heap.size w w' := by
  have HL : Hid (L = ent k sd tm tk rc am gs (.slice A1 n1 c1)) := hL
  have HM : Hid (M = ent k sd tm tk2 rc2 am2 gs2 (.slice A2 n2 c2)) := hM
  have S1 : Hid (∀ X, Below w.heap.size w X → SlAt X (.slice A1 n1 c1) d) := fun X k => s1.be k
  have S2 : Hid (∀ X, Below w.heap.size w X → SlAt X (.slice A2 n2 c2) d2) := fun X k => s2.be k
  have K1 : Hid (sd.length = 20) := h1
  have K2 : Hid (rc.length = 20) := h2
  have K3 : Hid (am.length = 4) := h3
  have J1 : Hid (sd.length = 20) := h4
  have J2 : Hid (rc2.length = 20) := h5
  have J3 : Hid (am2.length = 4) := h6
  have HI1 : Hid _ := info_adE sd h1
  have HI2 : Hid _ := info_adE rc h2
  have HI3 : Hid _ := info_wdE am h3
  have HJ1 : Hid _ := info_adE sd h4
  have HJ2 : Hid _ := info_adE rc2 h5
  have HJ3 : Hid _ := info_wdE am2 h6
  have HNE : Hid (¬ tk = tk2) := hne
  have HEQ : Hid ((tk == tk2) = false) := by simpa [Hid] using hne
  clear hne
  clear hL hM s1 s2 h1 h2 h3 h4 h5 h6
  go_enter Tryz.func45, Tryz.ntmps45
  go_upto_region 1 with (first
    | (refine wpList_boxG 46 rfl (.tmp 0) rfl L rfl ?_; intro X1 q1 q2 q3; have E1 : Hid (En X1 w.heap.size k sd tm tk rc am gs (.slice A1 n1 c1)) := ⟨(by rw [HL.out] at q1; exact q1), K1.out, K2.out, K3.out⟩; have B1 : Hid (Below w.heap.size w X1) := q2; clear q1 q2 q3; simp only [Act.put, List.setIfInBounds_toArray, List.set_cons_zero, List.set_cons_succ])
    | (refine wpList_boxG 46 rfl (.tmp 1) rfl M rfl ?_; intro X2 q1 q2 q3; have F2 : Hid (En X2 X1.heap.size k sd tm tk2 rc2 am2 gs2 (.slice A2 n2 c2)) := ⟨(by rw [HM.out] at q1; exact q1), J1.out, J2.out, J3.out⟩; have E2 : Hid (En X2 w.heap.size k sd tm tk rc am gs (.slice A1 n1 c1)) := E1.out.be q2; have B2 : Hid (Below w.heap.size w X2) := B1.out.trans (q2.mono B1.out.size); clear q1 q2 q3; simp only [Act.put, List.setIfInBounds_toArray, List.set_cons_zero, List.set_cons_succ]))
  obtain ⟨x, hx⟩ : ∃ x, x = w.heap.size := ⟨_, rfl⟩
  obtain ⟨y, hy⟩ : ∃ y, y = X1.heap.size := ⟨_, rfl⟩
  rw [← hx] at E2 ⊢
  rw [← hy] at F2 ⊢
  clear hx hy E1 B1 HL HM
  have a0 := E2.out.c_kind
  have b0 := F2.out.c_kind
  have a2 := E2.out.c_time
  have b2 := F2.out.c_time
  have a3 := E2.out.c_token
  have b3 := F2.out.c_token
  go_wp2_with (first
    | (refine wpList_skip rfl ?_; simp only [Act.put, List.setIfInBounds_toArray, List.set_cons_zero, List.set_cons_succ])
    | (refine wpList_load_w rfl 40 (.tmp 11) rfl x 1 rfl (vB sd) _ E2.out.r_sender Tryz.underlying40 rfl HI1.out ?_; simp only [Act.put, List.setIfInBounds_toArray, List.set_cons_zero, List.set_cons_succ])
    | (refine wpList_load_w rfl 40 (.tmp 13) rfl y 1 rfl (vB sd) _ F2.out.r_sender Tryz.underlying40 rfl HJ1.out ?_; simp only [Act.put, List.setIfInBounds_toArray, List.set_cons_zero, List.set_cons_succ])
    | (refine wpList_eql_b rfl 40 (.tmp 12) (.tmp 14) _ rfl 5 20 sd sd rfl rfl Tryz.underlying40 Tryz.underlying5 info_u8 K1.out J1.out guardAE true (decide_eq_true rfl) ?_; simp only [Act.put, List.setIfInBounds_toArray, List.set_cons_zero, List.set_cons_succ])
    | (refine BigFrame.wpList_want rfl (fun _ hK => wp_eqint_v (x := .tmp 26) (y := .tmp 28) rfl rfl rfl HEQ.out (hK _ _ ?_)); simp only [Act.put, List.setIfInBounds_toArray, List.set_cons_zero, List.set_cons_succ]))
  go_ret
  exact ⟨rfl, B2.out⟩
set_option maxRecDepth 100000 in
set_option maxHeartbeats 4000000 in
theorem alike_c4 (k : Int) (sd : List (BitVec 8)) (tm : Int) (tk : Int) (rc : List (BitVec 8)) (am : List Nat) (gs : Int) (d : List (BitVec 8)) (rc2 : List (BitVec 8)) (am2 : List Nat) (gs2 : Int) (d2 : List (BitVec 8)) (hne : ¬ rc = rc2) (h1 : sd.length = 20) (h2 : rc.length = 20) (h3 : am.length = 4) (h4 : sd.length = 20) (h5 : rc2.length = 20) (h6 : am2.length = 4) (A1 A2 : Option Addr) (n1 n2 c1 c2 : Nat) (L M : List Value) (hL : L = ent k sd tm tk rc am gs (.slice A1 n1 c1)) (hM : M = ent k sd tm tk rc2 am2 gs2 (.slice A2 n2 c2)) (w : World) (s1 : SlAt w (.slice A1 n1 c1) d) (s2 : SlAt w (.slice A2 n2 c2) d2) :
    Calls Tryz.prog 45 #[.agg L.toArray, .agg M.toArray] w fun r w' => r = .returned (.bool false) ∧ Below w.heap.size w w' := by
  have HL : Hid (L = ent k sd tm tk rc am gs (.slice A1 n1 c1)) := hL
  have HM : Hid (M = ent k sd tm tk rc2 am2 gs2 (.slice A2 n2 c2)) := hM
  have S1 : Hid (∀ X, Below w.heap.size w X → SlAt X (.slice A1 n1 c1) d) := fun X k => s1.be k
  have S2 : Hid (∀ X, Below w.heap.size w X → SlAt X (.slice A2 n2 c2) d2) := fun X k => s2.be k
  have K1 : Hid (sd.length = 20) := h1
  have K2 : Hid (rc.length = 20) := h2
  have K3 : Hid (am.length = 4) := h3
  have J1 : Hid (sd.length = 20) := h4
  have J2 : Hid (rc2.length = 20) := h5
  have J3 : Hid (am2.length = 4) := h6
  have HI1 : Hid _ := info_adE sd h1
  have HI2 : Hid _ := info_adE rc h2
  have HI3 : Hid _ := info_wdE am h3
  have HJ1 : Hid _ := info_adE sd h4
  have HJ2 : Hid _ := info_adE rc2 h5
  have HJ3 : Hid _ := info_wdE am2 h6
  have HNE : Hid (¬ rc = rc2) := hne
  clear hne
  clear hL hM s1 s2 h1 h2 h3 h4 h5 h6
  go_enter Tryz.func45, Tryz.ntmps45
  go_upto_region 1 with (first
    | (refine wpList_boxG 46 rfl (.tmp 0) rfl L rfl ?_; intro X1 q1 q2 q3; have E1 : Hid (En X1 w.heap.size k sd tm tk rc am gs (.slice A1 n1 c1)) := ⟨(by rw [HL.out] at q1; exact q1), K1.out, K2.out, K3.out⟩; have B1 : Hid (Below w.heap.size w X1) := q2; clear q1 q2 q3; simp only [Act.put, List.setIfInBounds_toArray, List.set_cons_zero, List.set_cons_succ])
    | (refine wpList_boxG 46 rfl (.tmp 1) rfl M rfl ?_; intro X2 q1 q2 q3; have F2 : Hid (En X2 X1.heap.size k sd tm tk rc2 am2 gs2 (.slice A2 n2 c2)) := ⟨(by rw [HM.out] at q1; exact q1), J1.out, J2.out, J3.out⟩; have E2 : Hid (En X2 w.heap.size k sd tm tk rc am gs (.slice A1 n1 c1)) := E1.out.be q2; have B2 : Hid (Below w.heap.size w X2) := B1.out.trans (q2.mono B1.out.size); clear q1 q2 q3; simp only [Act.put, List.setIfInBounds_toArray, List.set_cons_zero, List.set_cons_succ]))
  obtain ⟨x, hx⟩ : ∃ x, x = w.heap.size := ⟨_, rfl⟩
  obtain ⟨y, hy⟩ : ∃ y, y = X1.heap.size := ⟨_, rfl⟩
  rw [← hx] at E2 ⊢
  rw [← hy] at F2 ⊢
  clear hx hy E1 B1 HL HM
  have a0 := E2.out.c_kind
  have b0 := F2.out.c_kind
  have a2 := E2.out.c_time
  have b2 := F2.out.c_time
  have a3 := E2.out.c_token
  have b3 := F2.out.c_token
  go_wp2_with (first
    | (refine wpList_skip rfl ?_; simp only [Act.put, List.setIfInBounds_toArray, List.set_cons_zero, List.set_cons_succ])
    | (refine wpList_load_w rfl 40 (.tmp 11) rfl x 1 rfl (vB sd) _ E2.out.r_sender Tryz.underlying40 rfl HI1.out ?_; simp only [Act.put, List.setIfInBounds_toArray, List.set_cons_zero, List.set_cons_succ])
    | (refine wpList_load_w rfl 40 (.tmp 13) rfl y 1 rfl (vB sd) _ F2.out.r_sender Tryz.underlying40 rfl HJ1.out ?_; simp only [Act.put, List.setIfInBounds_toArray, List.set_cons_zero, List.set_cons_succ])
    | (refine wpList_eql_b rfl 40 (.tmp 12) (.tmp 14) _ rfl 5 20 sd sd rfl rfl Tryz.underlying40 Tryz.underlying5 info_u8 K1.out J1.out guardAE true (decide_eq_true rfl) ?_; simp only [Act.put, List.setIfInBounds_toArray, List.set_cons_zero, List.set_cons_succ])
    | (refine wpList_load_w rfl 40 (.tmp 32) rfl x 23 rfl (vB rc) _ E2.out.r_to Tryz.underlying40 rfl HI2.out ?_; simp only [Act.put, List.setIfInBounds_toArray, List.set_cons_zero, List.set_cons_succ])
    | (refine wpList_load_w rfl 40 (.tmp 34) rfl y 23 rfl (vB rc2) _ F2.out.r_to Tryz.underlying40 rfl HJ2.out ?_; simp only [Act.put, List.setIfInBounds_toArray, List.set_cons_zero, List.set_cons_succ])
    | (refine wpList_eql_b rfl 40 (.tmp 33) (.tmp 35) _ rfl 5 20 rc rc2 rfl rfl Tryz.underlying40 Tryz.underlying5 info_u8 K2.out J2.out guardAE false (decide_eq_false HNE.out) ?_; simp only [Act.put, List.setIfInBounds_toArray, List.set_cons_zero, List.set_cons_succ]))
  go_ret
  exact ⟨rfl, B2.out⟩
set_option maxRecDepth 100000 in
set_option maxHeartbeats 4000000 in
theorem alike_c5 (k : Int) (sd : List (BitVec 8)) (tm : Int) (tk : Int) (rc : List (BitVec 8)) (am : List Nat) (gs : Int) (d : List (BitVec 8)) (am2 : List Nat) (gs2 : Int) (d2 : List (BitVec 8)) (hne : ¬ am = am2) (h1 : sd.length = 20) (h2 : rc.length = 20) (h3 : am.length = 4) (h4 : sd.length = 20) (h5 : rc.length = 20) (h6 : am2.length = 4) (A1 A2 : Option Addr) (n1 n2 c1 c2 : Nat) (L M : List Value) (hL : L = ent k sd tm tk rc am gs (.slice A1 n1 c1)) (hM : M = ent k sd tm tk rc am2 gs2 (.slice A2 n2 c2)) (w : World) (s1 : SlAt w (.slice A1 n1 c1) d) (s2 : SlAt w (.slice A2 n2 c2) d2) :
    Calls Tryz.prog 45 #[.agg L.toArray, .agg M.toArray] w fun r w' => r = .returned (.bool false) ∧ Below w.heap.size w w' := by
  have HL : Hid (L = ent k sd tm tk rc am gs (.slice A1 n1 c1)) := hL
  have HM : Hid (M = ent k sd tm tk rc am2 gs2 (.slice A2 n2 c2)) := hM
  have S1 : Hid (∀ X, Below w.heap.size w X → SlAt X (.slice A1 n1 c1) d) := fun X k => s1.be k
  have S2 : Hid (∀ X, Below w.heap.size w X → SlAt X (.slice A2 n2 c2) d2) := fun X k => s2.be k
  have K1 : Hid (sd.length = 20) := h1
  have K2 : Hid (rc.length = 20) := h2
  have K3 : Hid (am.length = 4) := h3
  have J1 : Hid (sd.length = 20) := h4
  have J2 : Hid (rc.length = 20) := h5
  have J3 : Hid (am2.length = 4) := h6
  have HI1 : Hid _ := info_adE sd h1
  have HI2 : Hid _ := info_adE rc h2
  have HI3 : Hid _ := info_wdE am h3
  have HJ1 : Hid _ := info_adE sd h4
  have HJ2 : Hid _ := info_adE rc h5
  have HJ3 : Hid _ := info_wdE am2 h6
  have HNE : Hid (¬ am = am2) := hne
  clear hne
  clear hL hM s1 s2 h1 h2 h3 h4 h5 h6
  go_enter Tryz.func45, Tryz.ntmps45
  go_upto_region 1 with (first
    | (refine wpList_boxG 46 rfl (.tmp 0) rfl L rfl ?_; intro X1 q1 q2 q3; have E1 : Hid (En X1 w.heap.size k sd tm tk rc am gs (.slice A1 n1 c1)) := ⟨(by rw [HL.out] at q1; exact q1), K1.out, K2.out, K3.out⟩; have B1 : Hid (Below w.heap.size w X1) := q2; clear q1 q2 q3; simp only [Act.put, List.setIfInBounds_toArray, List.set_cons_zero, List.set_cons_succ])
    | (refine wpList_boxG 46 rfl (.tmp 1) rfl M rfl ?_; intro X2 q1 q2 q3; have F2 : Hid (En X2 X1.heap.size k sd tm tk rc am2 gs2 (.slice A2 n2 c2)) := ⟨(by rw [HM.out] at q1; exact q1), J1.out, J2.out, J3.out⟩; have E2 : Hid (En X2 w.heap.size k sd tm tk rc am gs (.slice A1 n1 c1)) := E1.out.be q2; have B2 : Hid (Below w.heap.size w X2) := B1.out.trans (q2.mono B1.out.size); clear q1 q2 q3; simp only [Act.put, List.setIfInBounds_toArray, List.set_cons_zero, List.set_cons_succ]))
  obtain ⟨x, hx⟩ : ∃ x, x = w.heap.size := ⟨_, rfl⟩
  obtain ⟨y, hy⟩ : ∃ y, y = X1.heap.size := ⟨_, rfl⟩
  rw [← hx] at E2 ⊢
  rw [← hy] at F2 ⊢
  clear hx hy E1 B1 HL HM
  have a0 := E2.out.c_kind
  have b0 := F2.out.c_kind
  have a2 := E2.out.c_time
  have b2 := F2.out.c_time
  have a3 := E2.out.c_token
  have b3 := F2.out.c_token
  go_wp2_with (first
    | (refine wpList_skip rfl ?_; simp only [Act.put, List.setIfInBounds_toArray, List.set_cons_zero, List.set_cons_succ])
    | (refine wpList_load_w rfl 40 (.tmp 11) rfl x 1 rfl (vB sd) _ E2.out.r_sender Tryz.underlying40 rfl HI1.out ?_; simp only [Act.put, List.setIfInBounds_toArray, List.set_cons_zero, List.set_cons_succ])
    | (refine wpList_load_w rfl 40 (.tmp 13) rfl y 1 rfl (vB sd) _ F2.out.r_sender Tryz.underlying40 rfl HJ1.out ?_; simp only [Act.put, List.setIfInBounds_toArray, List.set_cons_zero, List.set_cons_succ])
    | (refine wpList_eql_b rfl 40 (.tmp 12) (.tmp 14) _ rfl 5 20 sd sd rfl rfl Tryz.underlying40 Tryz.underlying5 info_u8 K1.out J1.out guardAE true (decide_eq_true rfl) ?_; simp only [Act.put, List.setIfInBounds_toArray, List.set_cons_zero, List.set_cons_succ])
    | (refine wpList_load_w rfl 40 (.tmp 32) rfl x 23 rfl (vB rc) _ E2.out.r_to Tryz.underlying40 rfl HI2.out ?_; simp only [Act.put, List.setIfInBounds_toArray, List.set_cons_zero, List.set_cons_succ])
    | (refine wpList_load_w rfl 40 (.tmp 34) rfl y 23 rfl (vB rc) _ F2.out.r_to Tryz.underlying40 rfl HJ2.out ?_; simp only [Act.put, List.setIfInBounds_toArray, List.set_cons_zero, List.set_cons_succ])
    | (refine wpList_eql_b rfl 40 (.tmp 33) (.tmp 35) _ rfl 5 20 rc rc rfl rfl Tryz.underlying40 Tryz.underlying5 info_u8 K2.out J2.out guardAE true (decide_eq_true rfl) ?_; simp only [Act.put, List.setIfInBounds_toArray, List.set_cons_zero, List.set_cons_succ])
    | (refine wpList_load_w rfl 43 (.tmp 39) rfl x 43 rfl (vQ am) _ E2.out.r_amount Tryz.underlying43 rfl HI3.out ?_; simp only [Act.put, List.setIfInBounds_toArray, List.set_cons_zero, List.set_cons_succ])
    | (refine wpList_load_w rfl 43 (.tmp 41) rfl y 43 rfl (vQ am2) _ F2.out.r_amount Tryz.underlying43 rfl HJ3.out ?_; simp only [Act.put, List.setIfInBounds_toArray, List.set_cons_zero, List.set_cons_succ])
    | (refine wpList_eql_q rfl (.tmp 40) (.tmp 42) _ rfl am am2 K3.out J3.out rfl rfl false (decide_eq_false HNE.out) ?_; simp only [Act.put, List.setIfInBounds_toArray, List.set_cons_zero, List.set_cons_succ]))
  go_ret
  exact ⟨rfl, B2.out⟩

end Go.Proofs.YtfjhecmnbodkfaaGreatDoor

namespace Go.Proofs.YtfjhecmnbodkfaaGreatDoor
open Go Go.RowKit
open Sha

set_option maxRecDepth 100000 in
set_option maxHeartbeats 4000000 in
theorem alike_c0 (k : Int) (sd : List (BitVec 8)) (tm : Int) (tk : Int) (rc : List (BitVec 8)) (am : List Nat) (gs : Int) (d : List (BitVec 8)) (k2 : Int) (sd2 : List (BitVec 8)) (tm2 : Int) (tk2 : Int) (rc2 : List (BitVec 8)) (am2 : List Nat) (gs2 : Int) (d2 : List (BitVec 8)) (hne : ¬ k = k2) (h1 : sd.length = 20) (h2 : rc.length = 20) (h3 : am.length = 4) (h4 : sd2.length = 20) (h5 : rc2.length = 20) (h6 : am2.length = 4) (A1 A2 : Option Addr) (n1 n2 c1 c2 : Nat) (L M : List Value) (hL : L = ent k sd tm tk rc am gs (.slice A1 n1 c1)) (hM : M = ent k2 sd2 tm2 tk2 rc2 am2 gs2 (.slice A2 n2 c2)) (w : World) (s1 : SlAt w (.slice A1 n1 c1) d) (s2 : SlAt w (.slice A2 n2 c2) d2) :
    Calls Tryz.prog 45 #[.agg L.toArray, .agg M.toArray] w fun r w' => r = .returned (.bool false) ∧ Below w.heap.size w w' := by
  have HL : Hid (L = ent k sd tm tk rc am gs (.slice A1 n1 c1)) := hL
  have HM : Hid (M = ent k2 sd2 tm2 tk2 rc2 am2 gs2 (.slice A2 n2 c2)) := hM
  have S1 : Hid (∀ X, Below w.heap.size w X → SlAt X (.slice A1 n1 c1) d) := fun X k => s1.be k
  have S2 : Hid (∀ X, Below w.heap.size w X → SlAt X (.slice A2 n2 c2) d2) := fun X k => s2.be k
  have K1 : Hid (sd.length = 20) := h1
  have K2 : Hid (rc.length = 20) := h2
  have K3 : Hid (am.length = 4) := h3
  have J1 : Hid (sd2.length = 20) := h4
  have J2 : Hid (rc2.length = 20) := h5
  have J3 : Hid (am2.length = 4) := h6
  have HI1 : Hid _ := info_adE sd h1
  have HI2 : Hid _ := info_adE rc h2
  have HI3 : Hid _ := info_wdE am h3
  have HJ1 : Hid _ := info_adE sd2 h4
  have HJ2 : Hid _ := info_adE rc2 h5
  have HJ3 : Hid _ := info_wdE am2 h6
  have HNE : Hid (¬ k = k2) := hne
  have HEQ : Hid ((k == k2) = false) := by simpa [Hid] using hne
  clear hne
  clear hL hM s1 s2 h1 h2 h3 h4 h5 h6
  go_enter Tryz.func45, Tryz.ntmps45
  go_upto_region 1 with (first
    | (refine wpList_boxG 46 rfl (.tmp 0) rfl L rfl ?_; intro X1 q1 q2 q3; have E1 : Hid (En X1 w.heap.size k sd tm tk rc am gs (.slice A1 n1 c1)) := ⟨(by rw [HL.out] at q1; exact q1), K1.out, K2.out, K3.out⟩; have B1 : Hid (Below w.heap.size w X1) := q2; clear q1 q2 q3; simp only [Act.put, List.setIfInBounds_toArray, List.set_cons_zero, List.set_cons_succ])
    | (refine wpList_boxG 46 rfl (.tmp 1) rfl M rfl ?_; intro X2 q1 q2 q3; have F2 : Hid (En X2 X1.heap.size k2 sd2 tm2 tk2 rc2 am2 gs2 (.slice A2 n2 c2)) := ⟨(by rw [HM.out] at q1; exact q1), J1.out, J2.out, J3.out⟩; have E2 : Hid (En X2 w.heap.size k sd tm tk rc am gs (.slice A1 n1 c1)) := E1.out.be q2; have B2 : Hid (Below w.heap.size w X2) := B1.out.trans (q2.mono B1.out.size); clear q1 q2 q3; simp only [Act.put, List.setIfInBounds_toArray, List.set_cons_zero, List.set_cons_succ]))
  obtain ⟨x, hx⟩ : ∃ x, x = w.heap.size := ⟨_, rfl⟩
  obtain ⟨y, hy⟩ : ∃ y, y = X1.heap.size := ⟨_, rfl⟩
  rw [← hx] at E2 ⊢
  rw [← hy] at F2 ⊢
  clear hx hy E1 B1 HL HM
  have a0 := E2.out.c_kind
  have b0 := F2.out.c_kind
  go_wp2_with (first
    | (refine wpList_skip rfl ?_; simp only [Act.put, List.setIfInBounds_toArray, List.set_cons_zero, List.set_cons_succ])
    | (refine BigFrame.wpList_want rfl (fun _ hK => wp_eqint_v (x := .tmp 6) (y := .tmp 8) rfl rfl rfl HEQ.out (hK _ _ ?_)); simp only [Act.put, List.setIfInBounds_toArray, List.set_cons_zero, List.set_cons_succ]))
  go_ret
  exact ⟨rfl, B2.out⟩
set_option maxRecDepth 100000 in
set_option maxHeartbeats 4000000 in
theorem alike_c1 (k : Int) (sd : List (BitVec 8)) (tm : Int) (tk : Int) (rc : List (BitVec 8)) (am : List Nat) (gs : Int) (d : List (BitVec 8)) (sd2 : List (BitVec 8)) (tm2 : Int) (tk2 : Int) (rc2 : List (BitVec 8)) (am2 : List Nat) (gs2 : Int) (d2 : List (BitVec 8)) (hne : ¬ sd = sd2) (h1 : sd.length = 20) (h2 : rc.length = 20) (h3 : am.length = 4) (h4 : sd2.length = 20) (h5 : rc2.length = 20) (h6 : am2.length = 4) (A1 A2 : Option Addr) (n1 n2 c1 c2 : Nat) (L M : List Value) (hL : L = ent k sd tm tk rc am gs (.slice A1 n1 c1)) (hM : M = ent k sd2 tm2 tk2 rc2 am2 gs2 (.slice A2 n2 c2)) (w : World) (s1 : SlAt w (.slice A1 n1 c1) d) (s2 : SlAt w (.slice A2 n2 c2) d2) :
    Calls Tryz.prog 45 #[.agg L.toArray, .agg M.toArray] w fun r w' => r = .returned (.bool false) ∧ Below w.heap.size w w' := by
  have HL : Hid (L = ent k sd tm tk rc am gs (.slice A1 n1 c1)) := hL
  have HM : Hid (M = ent k sd2 tm2 tk2 rc2 am2 gs2 (.slice A2 n2 c2)) := hM
  have S1 : Hid (∀ X, Below w.heap.size w X → SlAt X (.slice A1 n1 c1) d) := fun X k => s1.be k
  have S2 : Hid (∀ X, Below w.heap.size w X → SlAt X (.slice A2 n2 c2) d2) := fun X k => s2.be k
  have K1 : Hid (sd.length = 20) := h1
  have K2 : Hid (rc.length = 20) := h2
  have K3 : Hid (am.length = 4) := h3
  have J1 : Hid (sd2.length = 20) := h4
  have J2 : Hid (rc2.length = 20) := h5
  have J3 : Hid (am2.length = 4) := h6
  have HI1 : Hid _ := info_adE sd h1
  have HI2 : Hid _ := info_adE rc h2
  have HI3 : Hid _ := info_wdE am h3
  have HJ1 : Hid _ := info_adE sd2 h4
  have HJ2 : Hid _ := info_adE rc2 h5
  have HJ3 : Hid _ := info_wdE am2 h6
  have HNE : Hid (¬ sd = sd2) := hne
  clear hne
  clear hL hM s1 s2 h1 h2 h3 h4 h5 h6
  go_enter Tryz.func45, Tryz.ntmps45
  go_upto_region 1 with (first
    | (refine wpList_boxG 46 rfl (.tmp 0) rfl L rfl ?_; intro X1 q1 q2 q3; have E1 : Hid (En X1 w.heap.size k sd tm tk rc am gs (.slice A1 n1 c1)) := ⟨(by rw [HL.out] at q1; exact q1), K1.out, K2.out, K3.out⟩; have B1 : Hid (Below w.heap.size w X1) := q2; clear q1 q2 q3; simp only [Act.put, List.setIfInBounds_toArray, List.set_cons_zero, List.set_cons_succ])
    | (refine wpList_boxG 46 rfl (.tmp 1) rfl M rfl ?_; intro X2 q1 q2 q3; have F2 : Hid (En X2 X1.heap.size k sd2 tm2 tk2 rc2 am2 gs2 (.slice A2 n2 c2)) := ⟨(by rw [HM.out] at q1; exact q1), J1.out, J2.out, J3.out⟩; have E2 : Hid (En X2 w.heap.size k sd tm tk rc am gs (.slice A1 n1 c1)) := E1.out.be q2; have B2 : Hid (Below w.heap.size w X2) := B1.out.trans (q2.mono B1.out.size); clear q1 q2 q3; simp only [Act.put, List.setIfInBounds_toArray, List.set_cons_zero, List.set_cons_succ]))
  obtain ⟨x, hx⟩ : ∃ x, x = w.heap.size := ⟨_, rfl⟩
  obtain ⟨y, hy⟩ : ∃ y, y = X1.heap.size := ⟨_, rfl⟩
  rw [← hx] at E2 ⊢
  rw [← hy] at F2 ⊢
  clear hx hy E1 B1 HL HM
  have a0 := E2.out.c_kind
  have b0 := F2.out.c_kind
  go_wp2_with (first
    | (refine wpList_skip rfl ?_; simp only [Act.put, List.setIfInBounds_toArray, List.set_cons_zero, List.set_cons_succ])
    | (refine wpList_load_w rfl 40 (.tmp 11) rfl x 1 rfl (vB sd) _ E2.out.r_sender Tryz.underlying40 rfl HI1.out ?_; simp only [Act.put, List.setIfInBounds_toArray, List.set_cons_zero, List.set_cons_succ])
    | (refine wpList_load_w rfl 40 (.tmp 13) rfl y 1 rfl (vB sd2) _ F2.out.r_sender Tryz.underlying40 rfl HJ1.out ?_; simp only [Act.put, List.setIfInBounds_toArray, List.set_cons_zero, List.set_cons_succ])
    | (refine wpList_eql_b rfl 40 (.tmp 12) (.tmp 14) _ rfl 5 20 sd sd2 rfl rfl Tryz.underlying40 Tryz.underlying5 info_u8 K1.out J1.out guardAE false (decide_eq_false HNE.out) ?_; simp only [Act.put, List.setIfInBounds_toArray, List.set_cons_zero, List.set_cons_succ]))
  go_ret
  exact ⟨rfl, B2.out⟩
set_option maxRecDepth 100000 in
set_option maxHeartbeats 4000000 in
theorem alike_c2 (k : Int) (sd : List (BitVec 8)) (tm : Int) (tk : Int) (rc : List (BitVec 8)) (am : List Nat) (gs : Int) (d : List (BitVec 8)) (tm2 : Int) (tk2 : Int) (rc2 : List (BitVec 8)) (am2 : List Nat) (gs2 : Int) (d2 : List (BitVec 8)) (hne : ¬ tm = tm2) (h1 : sd.length = 20) (h2 : rc.length = 20) (h3 : am.length = 4) (h4 : sd.length = 20) (h5 : rc2.length = 20) (h6 : am2.length = 4) (A1 A2 : Option Addr) (n1 n2 c1 c2 : Nat) (L M : List Value) (hL : L = ent k sd tm tk rc am gs (.slice A1 n1 c1)) (hM : M = ent k sd tm2 tk2 rc2 am2 gs2 (.slice A2 n2 c2)) (w : World) (s1 : SlAt w (.slice A1 n1 c1) d) (s2 : SlAt w (.slice A2 n2 c2) d2) :
    Calls Tryz.prog 45 #[.agg L.toArray, .agg M.toArray] w fun r w' => r = .returned (.bool false) ∧ Below w.heap.size w w' := by
  have HL : Hid (L = ent k sd tm tk rc am gs (.slice A1 n1 c1)) := hL
  have HM : Hid (M = ent k sd tm2 tk2 rc2 am2 gs2 (.slice A2 n2 c2)) := hM
  have S1 : Hid (∀ X, Below w.heap.size w X → SlAt X (.slice A1 n1 c1) d) := fun X k => s1.be k
  have S2 : Hid (∀ X, Below w.heap.size w X → SlAt X (.slice A2 n2 c2) d2) := fun X k => s2.be k
  have K1 : Hid (sd.length = 20) := h1
  have K2 : Hid (rc.length = 20) := h2
  have K3 : Hid (am.length = 4) := h3
  have J1 : Hid (sd.length = 20) := h4
  have J2 : Hid (rc2.length = 20) := h5
  have J3 : Hid (am2.length = 4) := h6
  have HI1 : Hid _ := info_adE sd h1
  have HI2 : Hid _ := info_adE rc h2
  have HI3 : Hid _ := info_wdE am h3
  have HJ1 : Hid _ := info_adE sd h4
  have HJ2 : Hid _ := info_adE rc2 h5
  have HJ3 : Hid _ := info_wdE am2 h6
  have HNE : Hid (¬ tm = tm2) := hne
  have HEQ : Hid ((tm == tm2) = false) := by simpa [Hid] using hne
  clear hne
  clear hL hM s1 s2 h1 h2 h3 h4 h5 h6
  go_enter Tryz.func45, Tryz.ntmps45
  go_upto_region 1 with (first
    | (refine wpList_boxG 46 rfl (.tmp 0) rfl L rfl ?_; intro X1 q1 q2 q3; have E1 : Hid (En X1 w.heap.size k sd tm tk rc am gs (.slice A1 n1 c1)) := ⟨(by rw [HL.out] at q1; exact q1), K1.out, K2.out, K3.out⟩; have B1 : Hid (Below w.heap.size w X1) := q2; clear q1 q2 q3; simp only [Act.put, List.setIfInBounds_toArray, List.set_cons_zero, List.set_cons_succ])
    | (refine wpList_boxG 46 rfl (.tmp 1) rfl M rfl ?_; intro X2 q1 q2 q3; have F2 : Hid (En X2 X1.heap.size k sd tm2 tk2 rc2 am2 gs2 (.slice A2 n2 c2)) := ⟨(by rw [HM.out] at q1; exact q1), J1.out, J2.out, J3.out⟩; have E2 : Hid (En X2 w.heap.size k sd tm tk rc am gs (.slice A1 n1 c1)) := E1.out.be q2; have B2 : Hid (Below w.heap.size w X2) := B1.out.trans (q2.mono B1.out.size); clear q1 q2 q3; simp only [Act.put, List.setIfInBounds_toArray, List.set_cons_zero, List.set_cons_succ]))
  obtain ⟨x, hx⟩ : ∃ x, x = w.heap.size := ⟨_, rfl⟩
  obtain ⟨y, hy⟩ : ∃ y, y = X1.heap.size := ⟨_, rfl⟩
  rw [← hx] at E2 ⊢
  rw [← hy] at F2 ⊢
  clear hx hy E1 B1 HL HM
  have a0 := E2.out.c_kind
  have b0 := F2.out.c_kind
  have a2 := E2.out.c_time
  have b2 := F2.out.c_time
  go_wp2_with (first
    | (refine wpList_skip rfl ?_; simp only [Act.put, List.setIfInBounds_toArray, List.set_cons_zero, List.set_cons_succ])
    | (refine wpList_load_w rfl 40 (.tmp 11) rfl x 1 rfl (vB sd) _ E2.out.r_sender Tryz.underlying40 rfl HI1.out ?_; simp only [Act.put, List.setIfInBounds_toArray, List.set_cons_zero, List.set_cons_succ])
    | (refine wpList_load_w rfl 40 (.tmp 13) rfl y 1 rfl (vB sd) _ F2.out.r_sender Tryz.underlying40 rfl HJ1.out ?_; simp only [Act.put, List.setIfInBounds_toArray, List.set_cons_zero, List.set_cons_succ])
    | (refine wpList_eql_b rfl 40 (.tmp 12) (.tmp 14) _ rfl 5 20 sd sd rfl rfl Tryz.underlying40 Tryz.underlying5 info_u8 K1.out J1.out guardAE true (decide_eq_true rfl) ?_; simp only [Act.put, List.setIfInBounds_toArray, List.set_cons_zero, List.set_cons_succ])
    | (refine BigFrame.wpList_want rfl (fun _ hK => wp_eqint_v (x := .tmp 19) (y := .tmp 21) rfl rfl rfl HEQ.out (hK _ _ ?_)); simp only [Act.put, List.setIfInBounds_toArray, List.set_cons_zero, List.set_cons_succ]))
  go_ret
  exact ⟨rfl, B2.out⟩

end Go.Proofs.YtfjhecmnbodkfaaGreatDoor

namespace Go.Proofs.YtfjhecmnbodkfaaGreatDoor
open Go Go.RowKit
open Sha

theorem alike_any (e f : Ev) (we : e.Wf) (wf : f.Wf) (A1 A2 : Option Addr) (n1 n2 c1 c2 : Nat) (L M : List Value) (hL : L = e.cells (.slice A1 n1 c1)) (hM : M = f.cells (.slice A2 n2 c2)) (w : World) (s1 : SlAt w (.slice A1 n1 c1) e.d) (s2 : SlAt w (.slice A2 n2 c2) f.d) (T : Bool) (hT : T = decide (e = f)) :
    Calls Tryz.prog 45 #[.agg L.toArray, .agg M.toArray] w fun r w' => r = .returned (.bool T) ∧ Below w.heap.size w w' := by
  obtain ⟨k, sd, tm, tk, rc, am, gs, d⟩ := e
  obtain ⟨k2, sd2, tm2, tk2, rc2, am2, gs2, d2⟩ := f
  obtain ⟨h1, h2, h3, _⟩ := we
  obtain ⟨h4, h5, h6, _⟩ := wf
  simp only at h1 h2 h3 h4 h5 h6 s1 s2
  by_cases e0 : k = k2
  case neg =>
    have hF : T = false := by rw [hT]; exact decide_eq_false (fun z => e0 (by cases z; rfl))
    rw [hF]
    exact alike_c0 k sd tm tk rc am gs d k2 sd2 tm2 tk2 rc2 am2 gs2 d2 e0 h1 h2 h3 h4 h5 h6 A1 A2 n1 n2 c1 c2 L M hL hM w s1 s2
  case pos =>
  subst e0
  by_cases e1 : sd = sd2
  case neg =>
    have hF : T = false := by rw [hT]; exact decide_eq_false (fun z => e1 (by cases z; rfl))
    rw [hF]
    exact alike_c1 k sd tm tk rc am gs d sd2 tm2 tk2 rc2 am2 gs2 d2 e1 h1 h2 h3 h4 h5 h6 A1 A2 n1 n2 c1 c2 L M hL hM w s1 s2
  case pos =>
  subst e1
  by_cases e2 : tm = tm2
  case neg =>
    have hF : T = false := by rw [hT]; exact decide_eq_false (fun z => e2 (by cases z; rfl))
    rw [hF]
    exact alike_c2 k sd tm tk rc am gs d tm2 tk2 rc2 am2 gs2 d2 e2 h1 h2 h3 h4 h5 h6 A1 A2 n1 n2 c1 c2 L M hL hM w s1 s2
  case pos =>
  subst e2
  by_cases e3 : tk = tk2
  case neg =>
    have hF : T = false := by rw [hT]; exact decide_eq_false (fun z => e3 (by cases z; rfl))
    rw [hF]
    exact alike_c3 k sd tm tk rc am gs d tk2 rc2 am2 gs2 d2 e3 h1 h2 h3 h4 h5 h6 A1 A2 n1 n2 c1 c2 L M hL hM w s1 s2
  case pos =>
  subst e3
  by_cases e4 : rc = rc2
  case neg =>
    have hF : T = false := by rw [hT]; exact decide_eq_false (fun z => e4 (by cases z; rfl))
    rw [hF]
    exact alike_c4 k sd tm tk rc am gs d rc2 am2 gs2 d2 e4 h1 h2 h3 h4 h5 h6 A1 A2 n1 n2 c1 c2 L M hL hM w s1 s2
  case pos =>
  subst e4
  by_cases e5 : am = am2
  case neg =>
    have hF : T = false := by rw [hT]; exact decide_eq_false (fun z => e5 (by cases z; rfl))
    rw [hF]
    exact alike_c5 k sd tm tk rc am gs d am2 gs2 d2 e5 h1 h2 h3 h4 h5 h6 A1 A2 n1 n2 c1 c2 L M hL hM w s1 s2
  case pos =>
  subst e5
  by_cases e6 : gs = gs2
  case neg =>
    have hF : T = false := by rw [hT]; exact decide_eq_false (fun z => e6 (by cases z; rfl))
    rw [hF]
    exact alike_c6 k sd tm tk rc am gs d gs2 d2 e6 h1 h2 h3 h4 h5 h6 A1 A2 n1 n2 c1 c2 L M hL hM w s1 s2
  case pos =>
  subst e6
  by_cases e7 : d = d2
  case neg =>
    have hF : T = false := by rw [hT]; exact decide_eq_false (fun z => e7 (by cases z; rfl))
    rw [hF]
    exact alike_c7 k sd tm tk rc am gs d d2 e7 h1 h2 h3 h4 h5 h6 A1 A2 n1 n2 c1 c2 L M hL hM w s1 s2
  case pos =>
  subst e7
  have hF : T = true := by rw [hT]; exact decide_eq_true rfl
  rw [hF]
  exact alike_c8 k sd tm tk rc am gs d h1 h2 h3 h4 h5 h6 A1 A2 n1 n2 c1 c2 L M hL hM w s1 s2

end Go.Proofs.YtfjhecmnbodkfaaGreatDoor
