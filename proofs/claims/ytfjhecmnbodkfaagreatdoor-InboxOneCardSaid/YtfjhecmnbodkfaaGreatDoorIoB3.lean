/-
  two entries compared, part 3.
-/
import Derived.Test.YtfjhecmnbodkfaaGreatDoorIbI
import Derived.Test.YtfjhecmnbodkfaaGreatDoorIoM
namespace Go.Proofs.YtfjhecmnbodkfaaGreatDoor
open Go Go.RowKit
open Sha

set_option maxRecDepth 100000 in
set_option maxHeartbeats 4000000 in
theorem bequal_any (d d2 : List (BitVec 8)) (v u : Value) (w : World) (s1 : SlAt w v d) (s2 : SlAt w u d2) (T : Bool) (hT : decide (d = d2) = T) : Calls Tryz.prog 62 #[v, u] w fun r w' => r = .returned (.bool T) ∧ Below w.heap.size w w' := by
  have S1 : Hid (SlAt w v d) := s1
  have S2 : Hid (SlAt w u d2) := s2
  have HT : Hid (decide (d = d2) = T) := hT
  clear s1 s2 hT
  go_enter Tryz.func62, Tryz.ntmps62
  go_wp2_with (first
    | (refine wpList_convI rfl (.tmp 5) rfl v d rfl S1.out ?_; simp only [Act.put, List.setIfInBounds_toArray, List.set_cons_zero, List.set_cons_succ])
    | (refine wpList_convI rfl (.tmp 7) rfl u d2 rfl S2.out ?_; simp only [Act.put, List.setIfInBounds_toArray, List.set_cons_zero, List.set_cons_succ])
    | (refine wpList_eql_sI rfl (.tmp 6) (.tmp 8) _ rfl d d2 rfl rfl T HT.out ?_; simp only [Act.put, List.setIfInBounds_toArray, List.set_cons_zero, List.set_cons_succ]))
  go_ret
  exact ⟨rfl, Below.refl _ _⟩
set_option maxRecDepth 100000 in
set_option maxHeartbeats 4000000 in
theorem alike_c6 (k : Int) (sd : List (BitVec 8)) (tm : Int) (tk : Int) (rc : List (BitVec 8)) (am : List Nat) (gs : Int) (d : List (BitVec 8)) (gs2 : Int) (d2 : List (BitVec 8)) (hne : ¬ gs = gs2) (h1 : sd.length = 20) (h2 : rc.length = 20) (h3 : am.length = 4) (h4 : sd.length = 20) (h5 : rc.length = 20) (h6 : am.length = 4) (A1 A2 : Option Addr) (n1 n2 c1 c2 : Nat) (L M : List Value) (hL : L = ent k sd tm tk rc am gs (.slice A1 n1 c1)) (hM : M = ent k sd tm tk rc am gs2 (.slice A2 n2 c2)) (w : World) (s1 : SlAt w (.slice A1 n1 c1) d) (s2 : SlAt w (.slice A2 n2 c2) d2) :
    Calls Tryz.prog 45 #[.agg L.toArray, .agg M.toArray] w fun r w' => r = .returned (.bool false) ∧ Below w.heap.size w w' := by
  have HL : Hid (L = ent k sd tm tk rc am gs (.slice A1 n1 c1)) := hL
  have HM : Hid (M = ent k sd tm tk rc am gs2 (.slice A2 n2 c2)) := hM
  have S1 : Hid (∀ X, Below w.heap.size w X → SlAt X (.slice A1 n1 c1) d) := fun X k => s1.be k
  have S2 : Hid (∀ X, Below w.heap.size w X → SlAt X (.slice A2 n2 c2) d2) := fun X k => s2.be k
  have K1 : Hid (sd.length = 20) := h1
  have K2 : Hid (rc.length = 20) := h2
  have K3 : Hid (am.length = 4) := h3
  have J1 : Hid (sd.length = 20) := h4
  have J2 : Hid (rc.length = 20) := h5
  have J3 : Hid (am.length = 4) := h6
  have HI1 : Hid _ := info_adE sd h1
  have HI2 : Hid _ := info_adE rc h2
  have HI3 : Hid _ := info_wdE am h3
  have HJ1 : Hid _ := info_adE sd h4
  have HJ2 : Hid _ := info_adE rc h5
  have HJ3 : Hid _ := info_wdE am h6
  have HNE : Hid (¬ gs = gs2) := hne
  have HEQ : Hid ((gs == gs2) = false) := by simpa [Hid] using hne
  clear hne
  clear hL hM s1 s2 h1 h2 h3 h4 h5 h6
  go_enter Tryz.func45, Tryz.ntmps45
  go_upto_region 1 with (first
    | (refine wpList_boxG 46 rfl (.tmp 0) rfl L rfl ?_; intro X1 q1 q2 q3; have E1 : Hid (En X1 w.heap.size k sd tm tk rc am gs (.slice A1 n1 c1)) := ⟨(by rw [HL.out] at q1; exact q1), K1.out, K2.out, K3.out⟩; have B1 : Hid (Below w.heap.size w X1) := q2; clear q1 q2 q3; simp only [Act.put, List.setIfInBounds_toArray, List.set_cons_zero, List.set_cons_succ])
    | (refine wpList_boxG 46 rfl (.tmp 1) rfl M rfl ?_; intro X2 q1 q2 q3; have F2 : Hid (En X2 X1.heap.size k sd tm tk rc am gs2 (.slice A2 n2 c2)) := ⟨(by rw [HM.out] at q1; exact q1), J1.out, J2.out, J3.out⟩; have E2 : Hid (En X2 w.heap.size k sd tm tk rc am gs (.slice A1 n1 c1)) := E1.out.be q2; have B2 : Hid (Below w.heap.size w X2) := B1.out.trans (q2.mono B1.out.size); clear q1 q2 q3; simp only [Act.put, List.setIfInBounds_toArray, List.set_cons_zero, List.set_cons_succ]))
  obtain ⟨x, hx⟩ : ∃ x, x = w.heap.size := ⟨_, rfl⟩
  obtain ⟨y, hy⟩ : ∃ y, y = X1.heap.size := ⟨_, rfl⟩
  rw [← hx] at E2 ⊢
  rw [← hy] at F2 ⊢
  clear hx hy E1 B1 HL HM
  have a0 := E2.out.c_kind
  have b0 := F2.out.c_kind
  have a2 := E2.out.c_time
  have b2 := F2.out.c_time
  have a3 := E2.out.c_token
  have b3 := F2.out.c_token
  have a6 := E2.out.c_gas
  have b6 := F2.out.c_gas
  go_wp2_with (first
    | (refine wpList_skip rfl ?_; simp only [Act.put, List.setIfInBounds_toArray, List.set_cons_zero, List.set_cons_succ])
    | (refine wpList_load_w rfl 40 (.tmp 11) rfl x 1 rfl (vB sd) _ E2.out.r_sender Tryz.underlying40 rfl HI1.out ?_; simp only [Act.put, List.setIfInBounds_toArray, List.set_cons_zero, List.set_cons_succ])
    | (refine wpList_load_w rfl 40 (.tmp 13) rfl y 1 rfl (vB sd) _ F2.out.r_sender Tryz.underlying40 rfl HJ1.out ?_; simp only [Act.put, List.setIfInBounds_toArray, List.set_cons_zero, List.set_cons_succ])
    | (refine wpList_eql_b rfl 40 (.tmp 12) (.tmp 14) _ rfl 5 20 sd sd rfl rfl Tryz.underlying40 Tryz.underlying5 info_u8 K1.out J1.out guardAE true (decide_eq_true rfl) ?_; simp only [Act.put, List.setIfInBounds_toArray, List.set_cons_zero, List.set_cons_succ])
    | (refine wpList_load_w rfl 40 (.tmp 32) rfl x 23 rfl (vB rc) _ E2.out.r_to Tryz.underlying40 rfl HI2.out ?_; simp only [Act.put, List.setIfInBounds_toArray, List.set_cons_zero, List.set_cons_succ])
    | (refine wpList_load_w rfl 40 (.tmp 34) rfl y 23 rfl (vB rc) _ F2.out.r_to Tryz.underlying40 rfl HJ2.out ?_; simp only [Act.put, List.setIfInBounds_toArray, List.set_cons_zero, List.set_cons_succ])
    | (refine wpList_eql_b rfl 40 (.tmp 33) (.tmp 35) _ rfl 5 20 rc rc rfl rfl Tryz.underlying40 Tryz.underlying5 info_u8 K2.out J2.out guardAE true (decide_eq_true rfl) ?_; simp only [Act.put, List.setIfInBounds_toArray, List.set_cons_zero, List.set_cons_succ])
    | (refine wpList_load_w rfl 43 (.tmp 39) rfl x 43 rfl (vQ am) _ E2.out.r_amount Tryz.underlying43 rfl HI3.out ?_; simp only [Act.put, List.setIfInBounds_toArray, List.set_cons_zero, List.set_cons_succ])
    | (refine wpList_load_w rfl 43 (.tmp 41) rfl y 43 rfl (vQ am) _ F2.out.r_amount Tryz.underlying43 rfl HJ3.out ?_; simp only [Act.put, List.setIfInBounds_toArray, List.set_cons_zero, List.set_cons_succ])
    | (refine wpList_eql_q rfl (.tmp 40) (.tmp 42) _ rfl am am K3.out J3.out rfl rfl true (decide_eq_true rfl) ?_; simp only [Act.put, List.setIfInBounds_toArray, List.set_cons_zero, List.set_cons_succ])
    | (refine BigFrame.wpList_want rfl (fun _ hK => wp_eqint_v (x := .tmp 47) (y := .tmp 49) rfl rfl rfl HEQ.out (hK _ _ ?_)); simp only [Act.put, List.setIfInBounds_toArray, List.set_cons_zero, List.set_cons_succ]))
  go_ret
  exact ⟨rfl, B2.out⟩
set_option maxRecDepth 100000 in
set_option maxHeartbeats 4000000 in
theorem alike_c7 (k : Int) (sd : List (BitVec 8)) (tm : Int) (tk : Int) (rc : List (BitVec 8)) (am : List Nat) (gs : Int) (d : List (BitVec 8)) (d2 : List (BitVec 8)) (hne : ¬ d = d2) (h1 : sd.length = 20) (h2 : rc.length = 20) (h3 : am.length = 4) (h4 : sd.length = 20) (h5 : rc.length = 20) (h6 : am.length = 4) (A1 A2 : Option Addr) (n1 n2 c1 c2 : Nat) (L M : List Value) (hL : L = ent k sd tm tk rc am gs (.slice A1 n1 c1)) (hM : M = ent k sd tm tk rc am gs (.slice A2 n2 c2)) (w : World) (s1 : SlAt w (.slice A1 n1 c1) d) (s2 : SlAt w (.slice A2 n2 c2) d2) :
    Calls Tryz.prog 45 #[.agg L.toArray, .agg M.toArray] w fun r w' => r = .returned (.bool false) ∧ Below w.heap.size w w' := by
  have HL : Hid (L = ent k sd tm tk rc am gs (.slice A1 n1 c1)) := hL
  have HM : Hid (M = ent k sd tm tk rc am gs (.slice A2 n2 c2)) := hM
  have S1 : Hid (∀ X, Below w.heap.size w X → SlAt X (.slice A1 n1 c1) d) := fun X k => s1.be k
  have S2 : Hid (∀ X, Below w.heap.size w X → SlAt X (.slice A2 n2 c2) d2) := fun X k => s2.be k
  have K1 : Hid (sd.length = 20) := h1
  have K2 : Hid (rc.length = 20) := h2
  have K3 : Hid (am.length = 4) := h3
  have J1 : Hid (sd.length = 20) := h4
  have J2 : Hid (rc.length = 20) := h5
  have J3 : Hid (am.length = 4) := h6
  have HI1 : Hid _ := info_adE sd h1
  have HI2 : Hid _ := info_adE rc h2
  have HI3 : Hid _ := info_wdE am h3
  have HJ1 : Hid _ := info_adE sd h4
  have HJ2 : Hid _ := info_adE rc h5
  have HJ3 : Hid _ := info_wdE am h6
  have HNE : Hid (¬ d = d2) := hne
  clear hne
  clear hL hM s1 s2 h1 h2 h3 h4 h5 h6
  go_enter Tryz.func45, Tryz.ntmps45
  go_upto_region 1 with (first
    | (refine wpList_boxG 46 rfl (.tmp 0) rfl L rfl ?_; intro X1 q1 q2 q3; have E1 : Hid (En X1 w.heap.size k sd tm tk rc am gs (.slice A1 n1 c1)) := ⟨(by rw [HL.out] at q1; exact q1), K1.out, K2.out, K3.out⟩; have B1 : Hid (Below w.heap.size w X1) := q2; clear q1 q2 q3; simp only [Act.put, List.setIfInBounds_toArray, List.set_cons_zero, List.set_cons_succ])
    | (refine wpList_boxG 46 rfl (.tmp 1) rfl M rfl ?_; intro X2 q1 q2 q3; have F2 : Hid (En X2 X1.heap.size k sd tm tk rc am gs (.slice A2 n2 c2)) := ⟨(by rw [HM.out] at q1; exact q1), J1.out, J2.out, J3.out⟩; have E2 : Hid (En X2 w.heap.size k sd tm tk rc am gs (.slice A1 n1 c1)) := E1.out.be q2; have B2 : Hid (Below w.heap.size w X2) := B1.out.trans (q2.mono B1.out.size); clear q1 q2 q3; simp only [Act.put, List.setIfInBounds_toArray, List.set_cons_zero, List.set_cons_succ]))
  obtain ⟨x, hx⟩ : ∃ x, x = w.heap.size := ⟨_, rfl⟩
  obtain ⟨y, hy⟩ : ∃ y, y = X1.heap.size := ⟨_, rfl⟩
  rw [← hx] at E2 ⊢
  rw [← hy] at F2 ⊢
  clear hx hy E1 B1 HL HM
  have a0 := E2.out.c_kind
  have b0 := F2.out.c_kind
  have a2 := E2.out.c_time
  have b2 := F2.out.c_time
  have a3 := E2.out.c_token
  have b3 := F2.out.c_token
  have a6 := E2.out.c_gas
  have b6 := F2.out.c_gas
  have a7 := E2.out.c_body
  have b7 := F2.out.c_body
  go_wp2_with (first
    | (refine wpList_skip rfl ?_; simp only [Act.put, List.setIfInBounds_toArray, List.set_cons_zero, List.set_cons_succ])
    | (refine wpList_load_w rfl 40 (.tmp 11) rfl x 1 rfl (vB sd) _ E2.out.r_sender Tryz.underlying40 rfl HI1.out ?_; simp only [Act.put, List.setIfInBounds_toArray, List.set_cons_zero, List.set_cons_succ])
    | (refine wpList_load_w rfl 40 (.tmp 13) rfl y 1 rfl (vB sd) _ F2.out.r_sender Tryz.underlying40 rfl HJ1.out ?_; simp only [Act.put, List.setIfInBounds_toArray, List.set_cons_zero, List.set_cons_succ])
    | (refine wpList_eql_b rfl 40 (.tmp 12) (.tmp 14) _ rfl 5 20 sd sd rfl rfl Tryz.underlying40 Tryz.underlying5 info_u8 K1.out J1.out guardAE true (decide_eq_true rfl) ?_; simp only [Act.put, List.setIfInBounds_toArray, List.set_cons_zero, List.set_cons_succ])
    | (refine wpList_load_w rfl 40 (.tmp 32) rfl x 23 rfl (vB rc) _ E2.out.r_to Tryz.underlying40 rfl HI2.out ?_; simp only [Act.put, List.setIfInBounds_toArray, List.set_cons_zero, List.set_cons_succ])
    | (refine wpList_load_w rfl 40 (.tmp 34) rfl y 23 rfl (vB rc) _ F2.out.r_to Tryz.underlying40 rfl HJ2.out ?_; simp only [Act.put, List.setIfInBounds_toArray, List.set_cons_zero, List.set_cons_succ])
    | (refine wpList_eql_b rfl 40 (.tmp 33) (.tmp 35) _ rfl 5 20 rc rc rfl rfl Tryz.underlying40 Tryz.underlying5 info_u8 K2.out J2.out guardAE true (decide_eq_true rfl) ?_; simp only [Act.put, List.setIfInBounds_toArray, List.set_cons_zero, List.set_cons_succ])
    | (refine wpList_load_w rfl 43 (.tmp 39) rfl x 43 rfl (vQ am) _ E2.out.r_amount Tryz.underlying43 rfl HI3.out ?_; simp only [Act.put, List.setIfInBounds_toArray, List.set_cons_zero, List.set_cons_succ])
    | (refine wpList_load_w rfl 43 (.tmp 41) rfl y 43 rfl (vQ am) _ F2.out.r_amount Tryz.underlying43 rfl HJ3.out ?_; simp only [Act.put, List.setIfInBounds_toArray, List.set_cons_zero, List.set_cons_succ])
    | (refine wpList_eql_q rfl (.tmp 40) (.tmp 42) _ rfl am am K3.out J3.out rfl rfl true (decide_eq_true rfl) ?_; simp only [Act.put, List.setIfInBounds_toArray, List.set_cons_zero, List.set_cons_succ])
    | (go_at_call 62; refine Calls.mono (bequal_any d d2 (.slice A1 n1 c1) (.slice A2 n2 c2) X2 (S1.out _ B2.out) (S2.out _ B2.out) false (decide_eq_false HNE.out)) ?_; rintro r X3 ⟨rfl, q⟩; have B3 : Hid (Below w.heap.size w X3) := B2.out.trans (q.mono B2.out.size); clear q))
  go_ret
  exact ⟨rfl, B3.out⟩
set_option maxRecDepth 100000 in
set_option maxHeartbeats 4000000 in
theorem alike_c8 (k : Int) (sd : List (BitVec 8)) (tm : Int) (tk : Int) (rc : List (BitVec 8)) (am : List Nat) (gs : Int) (d : List (BitVec 8)) (h1 : sd.length = 20) (h2 : rc.length = 20) (h3 : am.length = 4) (h4 : sd.length = 20) (h5 : rc.length = 20) (h6 : am.length = 4) (A1 A2 : Option Addr) (n1 n2 c1 c2 : Nat) (L M : List Value) (hL : L = ent k sd tm tk rc am gs (.slice A1 n1 c1)) (hM : M = ent k sd tm tk rc am gs (.slice A2 n2 c2)) (w : World) (s1 : SlAt w (.slice A1 n1 c1) d) (s2 : SlAt w (.slice A2 n2 c2) d) :
    Calls Tryz.prog 45 #[.agg L.toArray, .agg M.toArray] w fun r w' => r = .returned (.bool true) ∧ Below w.heap.size w w' := by
  have HL : Hid (L = ent k sd tm tk rc am gs (.slice A1 n1 c1)) := hL
  have HM : Hid (M = ent k sd tm tk rc am gs (.slice A2 n2 c2)) := hM
  have S1 : Hid (∀ X, Below w.heap.size w X → SlAt X (.slice A1 n1 c1) d) := fun X k => s1.be k
  have S2 : Hid (∀ X, Below w.heap.size w X → SlAt X (.slice A2 n2 c2) d) := fun X k => s2.be k
  have K1 : Hid (sd.length = 20) := h1
  have K2 : Hid (rc.length = 20) := h2
  have K3 : Hid (am.length = 4) := h3
  have J1 : Hid (sd.length = 20) := h4
  have J2 : Hid (rc.length = 20) := h5
  have J3 : Hid (am.length = 4) := h6
  have HI1 : Hid _ := info_adE sd h1
  have HI2 : Hid _ := info_adE rc h2
  have HI3 : Hid _ := info_wdE am h3
  have HJ1 : Hid _ := info_adE sd h4
  have HJ2 : Hid _ := info_adE rc h5
  have HJ3 : Hid _ := info_wdE am h6
  clear hL hM s1 s2 h1 h2 h3 h4 h5 h6
  go_enter Tryz.func45, Tryz.ntmps45
  go_upto_region 1 with (first
    | (refine wpList_boxG 46 rfl (.tmp 0) rfl L rfl ?_; intro X1 q1 q2 q3; have E1 : Hid (En X1 w.heap.size k sd tm tk rc am gs (.slice A1 n1 c1)) := ⟨(by rw [HL.out] at q1; exact q1), K1.out, K2.out, K3.out⟩; have B1 : Hid (Below w.heap.size w X1) := q2; clear q1 q2 q3; simp only [Act.put, List.setIfInBounds_toArray, List.set_cons_zero, List.set_cons_succ])
    | (refine wpList_boxG 46 rfl (.tmp 1) rfl M rfl ?_; intro X2 q1 q2 q3; have F2 : Hid (En X2 X1.heap.size k sd tm tk rc am gs (.slice A2 n2 c2)) := ⟨(by rw [HM.out] at q1; exact q1), J1.out, J2.out, J3.out⟩; have E2 : Hid (En X2 w.heap.size k sd tm tk rc am gs (.slice A1 n1 c1)) := E1.out.be q2; have B2 : Hid (Below w.heap.size w X2) := B1.out.trans (q2.mono B1.out.size); clear q1 q2 q3; simp only [Act.put, List.setIfInBounds_toArray, List.set_cons_zero, List.set_cons_succ]))
  obtain ⟨x, hx⟩ : ∃ x, x = w.heap.size := ⟨_, rfl⟩
  obtain ⟨y, hy⟩ : ∃ y, y = X1.heap.size := ⟨_, rfl⟩
  rw [← hx] at E2 ⊢
  rw [← hy] at F2 ⊢
  clear hx hy E1 B1 HL HM
  have a0 := E2.out.c_kind
  have b0 := F2.out.c_kind
  have a2 := E2.out.c_time
  have b2 := F2.out.c_time
  have a3 := E2.out.c_token
  have b3 := F2.out.c_token
  have a6 := E2.out.c_gas
  have b6 := F2.out.c_gas
  have a7 := E2.out.c_body
  have b7 := F2.out.c_body
  go_wp2_with (first
    | (refine wpList_skip rfl ?_; simp only [Act.put, List.setIfInBounds_toArray, List.set_cons_zero, List.set_cons_succ])
    | (refine wpList_load_w rfl 40 (.tmp 11) rfl x 1 rfl (vB sd) _ E2.out.r_sender Tryz.underlying40 rfl HI1.out ?_; simp only [Act.put, List.setIfInBounds_toArray, List.set_cons_zero, List.set_cons_succ])
    | (refine wpList_load_w rfl 40 (.tmp 13) rfl y 1 rfl (vB sd) _ F2.out.r_sender Tryz.underlying40 rfl HJ1.out ?_; simp only [Act.put, List.setIfInBounds_toArray, List.set_cons_zero, List.set_cons_succ])
    | (refine wpList_eql_b rfl 40 (.tmp 12) (.tmp 14) _ rfl 5 20 sd sd rfl rfl Tryz.underlying40 Tryz.underlying5 info_u8 K1.out J1.out guardAE true (decide_eq_true rfl) ?_; simp only [Act.put, List.setIfInBounds_toArray, List.set_cons_zero, List.set_cons_succ])
    | (refine wpList_load_w rfl 40 (.tmp 32) rfl x 23 rfl (vB rc) _ E2.out.r_to Tryz.underlying40 rfl HI2.out ?_; simp only [Act.put, List.setIfInBounds_toArray, List.set_cons_zero, List.set_cons_succ])
    | (refine wpList_load_w rfl 40 (.tmp 34) rfl y 23 rfl (vB rc) _ F2.out.r_to Tryz.underlying40 rfl HJ2.out ?_; simp only [Act.put, List.setIfInBounds_toArray, List.set_cons_zero, List.set_cons_succ])
    | (refine wpList_eql_b rfl 40 (.tmp 33) (.tmp 35) _ rfl 5 20 rc rc rfl rfl Tryz.underlying40 Tryz.underlying5 info_u8 K2.out J2.out guardAE true (decide_eq_true rfl) ?_; simp only [Act.put, List.setIfInBounds_toArray, List.set_cons_zero, List.set_cons_succ])
    | (refine wpList_load_w rfl 43 (.tmp 39) rfl x 43 rfl (vQ am) _ E2.out.r_amount Tryz.underlying43 rfl HI3.out ?_; simp only [Act.put, List.setIfInBounds_toArray, List.set_cons_zero, List.set_cons_succ])
    | (refine wpList_load_w rfl 43 (.tmp 41) rfl y 43 rfl (vQ am) _ F2.out.r_amount Tryz.underlying43 rfl HJ3.out ?_; simp only [Act.put, List.setIfInBounds_toArray, List.set_cons_zero, List.set_cons_succ])
    | (refine wpList_eql_q rfl (.tmp 40) (.tmp 42) _ rfl am am K3.out J3.out rfl rfl true (decide_eq_true rfl) ?_; simp only [Act.put, List.setIfInBounds_toArray, List.set_cons_zero, List.set_cons_succ])
    | (go_at_call 62; refine Calls.mono (bequal_any d d (.slice A1 n1 c1) (.slice A2 n2 c2) X2 (S1.out _ B2.out) (S2.out _ B2.out) true (decide_eq_true rfl)) ?_; rintro r X3 ⟨rfl, q⟩; have B3 : Hid (Below w.heap.size w X3) := B2.out.trans (q.mono B2.out.size); clear q))
  go_ret
  exact ⟨rfl, B3.out⟩

end Go.Proofs.YtfjhecmnbodkfaaGreatDoor
