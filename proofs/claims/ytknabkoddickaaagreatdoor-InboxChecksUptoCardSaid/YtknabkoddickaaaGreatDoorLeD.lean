/-
  entries of any values: table.write, CheckEntry, EntryBytes.
-/
import Derived.Test.YtknabkoddickaaaGreatDoorLeB
import Derived.Test.YtknabkoddickaaaGreatDoorLtE
import Derived.Test.YtknabkoddickaaaGreatDoorLtF
import Derived.Test.YtknabkoddickaaaGreatDoorXStp
import Derived.Deep.CutRange
import Derived.Deep.RegionLaw

namespace Go.Proofs.YtknabkoddickaaaGreatDoor
open Go Go.RowKit
open Sha

/-- A number's form. -/
def nf (n : Int) : List (BitVec 8) := fm [n.toNat, 0, 0, 0] (nb n.toNat 0 0 0)
/-- Four parts' form. -/
def wf (am : List Nat) : List (BitVec 8) := fm am (nb (am.getD 0 0) (am.getD 1 0) (am.getD 2 0) (am.getD 3 0))
theorem nf_len (n : Int) : (nf n).length ≤ 33 := by
  have := nb_le n.toNat 0 0 0
  unfold nf
  rw [fm_len]
  omega
theorem wf_len (am : List Nat) : (wf am).length ≤ 33 := by
  have := nb_le (am.getD 0 0) (am.getD 1 0) (am.getD 2 0) (am.getD 3 0)
  unfold wf
  rw [fm_len]
  omega
theorem wrB_in (bs d : List (BitVec 8)) (h : bs.length + d.length ≤ 4194304) : wrB bs 0 d = bs ++ d := by
  unfold wrB
  rw [if_pos rfl, if_pos h]
theorem wrF_in (bs d : List (BitVec 8)) (h : bs.length + d.length ≤ 4194304) : wrF bs 0 d = 0 := by
  unfold wrF
  rw [if_pos rfl, if_pos h]
theorem nuB_in (bs : List (BitVec 8)) (n : Int) (h0 : 0 ≤ n) (h : bs.length + (nf n).length ≤ 4194304) : nuB bs 0 n = bs ++ nf n := by
  unfold nuB
  rw [if_pos rfl, if_neg (by omega)]
  exact wrB_in bs (nf n) h
theorem nuF_in (bs : List (BitVec 8)) (n : Int) (h0 : 0 ≤ n) (h : bs.length + (nf n).length ≤ 4194304) : nuF bs 0 n = 0 := by
  unfold nuF
  rw [if_pos rfl, if_neg (by omega)]
  exact wrF_in bs (nf n) h

set_option maxRecDepth 100000 in
theorem l_entryFields_2 (k tm tk gs : Int) (sd rc : List (BitVec 8)) (am : List Nat) (v : Value) (bs : List (BitVec 8)) (hl : bs.length ≤ 1000000) (w0 : World) (P b : Nat) (w : World) (hm : Wm w0 w P bs) (h : En w b k sd tm tk rc am gs v) : Calls Tryz.prog 63 #[.pointer (some ⟨P, 0, none⟩), .pointer (some ⟨b, 0, none⟩)] w fun e w' => e = .returned (.tuple #[]) ∧ Wm w0 w' P (bs ++ sd) := by
  obtain ⟨A0, cap0, hw, hf, hP, hB⟩ := hm
  have R : Hid (w.rangeAt b 1 (vB sd)) := h.r_sender
  have HI : Hid ((Tryz.prog.info? 40).map (·.size) = some (vB sd).length) := by show _ = _; rw [vB_length, h.ls]; kernel_rfl
  have HN : Hid _ := address_lays P A0 cap0 bs 0 (by omega) sd h.ls w hw
  have HS : Hid (bs.length + sd.length ≤ 4194304) := by show _ ≤ _; have := h.ls; omega
  have HF : Hid (Fresh w0.heap.size (.slice A0 bs.length cap0)) := hf
  have HB : Hid (Below w0.heap.size w0 w) := hB
  clear h hw hf hB hl
  go_enter Tryz.func63, Tryz.ntmps63
  go_wp2_with (first
    | (refine wpList_load_w rfl 40 (.tmp 7) rfl b 1 rfl (vB sd) _ R.out Tryz.underlying40 rfl HI.out ?_; simp only [Act.put, List.setIfInBounds_toArray, List.set_cons_zero, List.set_cons_succ])
    | (go_at_call 64; refine Calls.mono HN.out ?_; rintro e W ⟨rfl, hq⟩))
  go_end0
  exact ⟨rfl, Wm.lays HF.out hP HB.out hq (wrB_in _ _ HS.out) (wrF_in _ _ HS.out)⟩

set_option maxRecDepth 100000 in
theorem l_entryFields_6 (k tm tk gs : Int) (sd rc : List (BitVec 8)) (am : List Nat) (v : Value) (bs : List (BitVec 8)) (hl : bs.length ≤ 1000000) (h0 : 0 ≤ tm) (h1 : tm < 9223372036854775808) (w0 : World) (P b : Nat) (w : World) (hm : Wm w0 w P bs) (h : En w b k sd tm tk rc am gs v) : Calls Tryz.prog 70 #[.pointer (some ⟨P, 0, none⟩), .pointer (some ⟨b, 0, none⟩)] w fun e w' => e = .returned (.tuple #[]) ∧ Wm w0 w' P (bs ++ nf tm) := by
  obtain ⟨A0, cap0, hw, hf, hP, hB⟩ := hm
  have g := h.c_time
  have HN : Hid _ := number_any P A0 cap0 bs 0 tm h1 (by omega) w _ rfl hw
  have E1 : Hid (nuB bs 0 tm = bs ++ nf tm) := nuB_in bs tm h0 (by have := nf_len tm; omega)
  have E2 : Hid (nuF bs 0 tm = 0) := nuF_in bs tm h0 (by have := nf_len tm; omega)
  have HF : Hid (Fresh w0.heap.size (.slice A0 bs.length cap0)) := hf
  have HB : Hid (Below w0.heap.size w0 w) := hB
  clear h hw hf hB h0 h1 hl
  go_enter Tryz.func70, Tryz.ntmps70
  go_wp2_with (go_at_call 71; refine Calls.mono HN.out ?_; rintro e W ⟨rfl, ⟨A', cap', hw, hff⟩, hG⟩)
  go_end0
  rw [E1.out, E2.out] at hw
  rw [E1.out] at hff
  exact ⟨rfl, Wm.on HF.out hP HB.out hw hff hG⟩

set_option maxRecDepth 100000 in
theorem l_entryFields_10 (k tm tk gs : Int) (sd rc : List (BitVec 8)) (am : List Nat) (v : Value) (bs : List (BitVec 8)) (hl : bs.length ≤ 1000000) (h0 : 0 ≤ tk) (h1 : tk < 9223372036854775808) (w0 : World) (P b : Nat) (w : World) (hm : Wm w0 w P bs) (h : En w b k sd tm tk rc am gs v) : Calls Tryz.prog 77 #[.pointer (some ⟨P, 0, none⟩), .pointer (some ⟨b, 0, none⟩)] w fun e w' => e = .returned (.tuple #[]) ∧ Wm w0 w' P (bs ++ nf tk) := by
  obtain ⟨A0, cap0, hw, hf, hP, hB⟩ := hm
  have g := h.c_token
  have HN : Hid _ := number_any P A0 cap0 bs 0 tk h1 (by omega) w _ rfl hw
  have E1 : Hid (nuB bs 0 tk = bs ++ nf tk) := nuB_in bs tk h0 (by have := nf_len tk; omega)
  have E2 : Hid (nuF bs 0 tk = 0) := nuF_in bs tk h0 (by have := nf_len tk; omega)
  have HF : Hid (Fresh w0.heap.size (.slice A0 bs.length cap0)) := hf
  have HB : Hid (Below w0.heap.size w0 w) := hB
  clear h hw hf hB h0 h1 hl
  go_enter Tryz.func77, Tryz.ntmps77
  go_wp2_with (go_at_call 71; refine Calls.mono HN.out ?_; rintro e W ⟨rfl, ⟨A', cap', hw, hff⟩, hG⟩)
  go_end0
  rw [E1.out, E2.out] at hw
  rw [E1.out] at hff
  exact ⟨rfl, Wm.on HF.out hP HB.out hw hff hG⟩

set_option maxRecDepth 100000 in
theorem l_entryFields_13 (k tm tk gs : Int) (sd rc : List (BitVec 8)) (am : List Nat) (v : Value) (bs : List (BitVec 8)) (hl : bs.length ≤ 1000000) (w0 : World) (P b : Nat) (w : World) (hm : Wm w0 w P bs) (h : En w b k sd tm tk rc am gs v) : Calls Tryz.prog 80 #[.pointer (some ⟨P, 0, none⟩), .pointer (some ⟨b, 0, none⟩)] w fun e w' => e = .returned (.tuple #[]) ∧ Wm w0 w' P (bs ++ rc) := by
  obtain ⟨A0, cap0, hw, hf, hP, hB⟩ := hm
  have R : Hid (w.rangeAt b 23 (vB rc)) := h.r_to
  have HI : Hid ((Tryz.prog.info? 40).map (·.size) = some (vB rc).length) := by show _ = _; rw [vB_length, h.lt]; kernel_rfl
  have HN : Hid _ := address_lays P A0 cap0 bs 0 (by omega) rc h.lt w hw
  have HS : Hid (bs.length + rc.length ≤ 4194304) := by show _ ≤ _; have := h.lt; omega
  have HF : Hid (Fresh w0.heap.size (.slice A0 bs.length cap0)) := hf
  have HB : Hid (Below w0.heap.size w0 w) := hB
  clear h hw hf hB hl
  go_enter Tryz.func80, Tryz.ntmps80
  go_wp2_with (first
    | (refine wpList_load_w rfl 40 (.tmp 7) rfl b 23 rfl (vB rc) _ R.out Tryz.underlying40 rfl HI.out ?_; simp only [Act.put, List.setIfInBounds_toArray, List.set_cons_zero, List.set_cons_succ])
    | (go_at_call 64; refine Calls.mono HN.out ?_; rintro e W ⟨rfl, hq⟩))
  go_end0
  exact ⟨rfl, Wm.lays HF.out hP HB.out hq (wrB_in _ _ HS.out) (wrF_in _ _ HS.out)⟩

set_option maxRecDepth 100000 in
theorem l_entryFields_17 (k tm tk gs : Int) (sd rc : List (BitVec 8)) (am : List Nat) (v : Value) (bs : List (BitVec 8)) (hl : bs.length ≤ 1000000) (hq4 : ∀ x ∈ am, x < 18446744073709551616) (w0 : World) (P b : Nat) (w : World) (hm : Wm w0 w P bs) (h : En w b k sd tm tk rc am gs v) : Calls Tryz.prog 84 #[.pointer (some ⟨P, 0, none⟩), .pointer (some ⟨b, 0, none⟩)] w fun e w' => e = .returned (.tuple #[]) ∧ Wm w0 w' P (bs ++ wf am) := by
  obtain ⟨A0, cap0, hw, hf, hP, hB⟩ := hm
  have R : Hid (w.rangeAt b 43 (vQ am)) := h.r_amount
  have HI : Hid ((Tryz.prog.info? 43).map (·.size) = some (vQ am).length) := by show _ = _; rw [vQ_len, h.la]; kernel_rfl
  have hla := h.la
  obtain ⟨m0, m1, m2, m3, rfl⟩ : ∃ m0 m1 m2 m3, am = [m0, m1, m2, m3] := by
    rcases am with _ | ⟨m0, _ | ⟨m1, _ | ⟨m2, _ | ⟨m3, _ | ⟨m4, r⟩⟩⟩⟩⟩
    all_goals first | exact ⟨_, _, _, _, rfl⟩ | (simp at hla)
  have HN : Hid _ := wide_any P A0 cap0 bs 0 m0 m1 m2 m3 (hq4 _ (by simp)) (hq4 _ (by simp)) (hq4 _ (by simp)) (hq4 _ (by simp)) _ rfl (by omega) w _ rfl hw
  have HS : Hid (bs.length + (wf [m0, m1, m2, m3]).length ≤ 4194304) := by show _ ≤ _; have := wf_len [m0, m1, m2, m3]; omega
  have HF : Hid (Fresh w0.heap.size (.slice A0 bs.length cap0)) := hf
  have HB : Hid (Below w0.heap.size w0 w) := hB
  clear h hw hf hB hl hq4 hla
  go_enter Tryz.func84, Tryz.ntmps84
  go_wp2_with (first
    | (refine wpList_load_w rfl 43 (.tmp 7) rfl b 43 rfl (vQ [m0, m1, m2, m3]) _ R.out Tryz.underlying43 rfl HI.out ?_; simp only [Act.put, List.setIfInBounds_toArray, List.set_cons_zero, List.set_cons_succ])
    | (go_at_call 85; refine Calls.mono HN.out ?_; rintro e W ⟨rfl, hq, hG⟩))
  go_end0
  exact ⟨rfl, Wm.lays HF.out hP HB.out (d := wf [m0, m1, m2, m3]) ⟨hq, hG⟩ (wrB_in _ _ HS.out) (wrF_in _ _ HS.out)⟩

set_option maxRecDepth 100000 in
theorem l_entryFields_21 (k tm tk gs : Int) (sd rc : List (BitVec 8)) (am : List Nat) (v : Value) (bs : List (BitVec 8)) (hl : bs.length ≤ 1000000) (h0 : 0 ≤ gs) (h1 : gs < 9223372036854775808) (w0 : World) (P b : Nat) (w : World) (hm : Wm w0 w P bs) (h : En w b k sd tm tk rc am gs v) : Calls Tryz.prog 90 #[.pointer (some ⟨P, 0, none⟩), .pointer (some ⟨b, 0, none⟩)] w fun e w' => e = .returned (.tuple #[]) ∧ Wm w0 w' P (bs ++ nf gs) := by
  obtain ⟨A0, cap0, hw, hf, hP, hB⟩ := hm
  have g := h.c_gas
  have HN : Hid _ := number_any P A0 cap0 bs 0 gs h1 (by omega) w _ rfl hw
  have E1 : Hid (nuB bs 0 gs = bs ++ nf gs) := nuB_in bs gs h0 (by have := nf_len gs; omega)
  have E2 : Hid (nuF bs 0 gs = 0) := nuF_in bs gs h0 (by have := nf_len gs; omega)
  have HF : Hid (Fresh w0.heap.size (.slice A0 bs.length cap0)) := hf
  have HB : Hid (Below w0.heap.size w0 w) := hB
  clear h hw hf hB h0 h1 hl
  go_enter Tryz.func90, Tryz.ntmps90
  go_wp2_with (go_at_call 71; refine Calls.mono HN.out ?_; rintro e W ⟨rfl, ⟨A', cap', hw, hff⟩, hG⟩)
  go_end0
  rw [E1.out, E2.out] at hw
  rw [E1.out] at hff
  exact ⟨rfl, Wm.on HF.out hP HB.out hw hff hG⟩

set_option maxRecDepth 100000 in
theorem l_entryFields_25 (k tm tk gs : Int) (sd rc : List (BitVec 8)) (am : List Nat) (A : Option Addr) (n cap : Nat) (bs : List (BitVec 8)) (hl : bs.length ≤ 1000000) (d : List (BitVec 8)) (hd : d.length = n) (hn : n ≤ 1000000) (hnil : A = none → cap = 0) (w0 : World) (P b : Nat) (w : World) (hS : ∀ W, Below w0.heap.size w0 W → SlAt W (.slice A n cap) d) (hm : Wm w0 w P bs) (h : En w b k sd tm tk rc am gs (.slice A n cap)) : Calls Tryz.prog 94 #[.pointer (some ⟨P, 0, none⟩), .pointer (some ⟨b, 0, none⟩)] w fun e w' => e = .returned (.tuple #[]) ∧ Wm w0 w' P (bs ++ (fm [n, 0, 0, 0] (nb n 0 0 0) ++ d)) := by
  obtain ⟨A0, cap0, hw, hf, hP, hB⟩ := hm
  have g := h.c_body
  have HN : Hid _ := bytes_lays P A0 cap0 bs 0 (by omega) d n hd (by omega) A cap hnil _ rfl w hw (fun W hG => hS W (hB.trans (hG.to_below hB.size (fun k q => by
    rcases q with q | q
    · rw [q]; exact hP
    · exact hf k q)))) (by omega)
  have HS : Hid (bs.length + (fm [n, 0, 0, 0] (nb n 0 0 0) ++ d).length ≤ 4194304) := by
    show _ ≤ _
    have := nb_le n 0 0 0
    rw [List.length_append, fm_len, hd]
    omega
  have HF : Hid (Fresh w0.heap.size (.slice A0 bs.length cap0)) := hf
  have HB : Hid (Below w0.heap.size w0 w) := hB
  clear h hw hf hB hl hd hn hnil hS
  go_enter Tryz.func94, Tryz.ntmps94
  go_wp2_with (go_at_call 95; refine Calls.mono HN.out ?_; rintro e W ⟨rfl, hq⟩)
  go_end0
  exact ⟨rfl, Wm.lays HF.out hP HB.out hq (wrB_in _ _ HS.out) (wrF_in _ _ HS.out)⟩

end Go.Proofs.YtknabkoddickaaaGreatDoor

namespace Go.Proofs.YtknabkoddickaaaGreatDoor
open Go Go.RowKit
open Sha

/-- A deposit's bytes. -/
def eb1 (sd : List (BitVec 8)) (tm tk : Int) (rc : List (BitVec 8)) (am : List Nat) (gs : Int) : List (BitVec 8) := [1#8] ++ sd ++ nf tm ++ nf tk ++ rc ++ wf am ++ nf gs
/-- A call's bytes. -/
def eb2 (sd : List (BitVec 8)) (tm : Int) (n : Nat) (d : List (BitVec 8)) : List (BitVec 8) := [2#8] ++ sd ++ nf tm ++ (fm [n, 0, 0, 0] (nb n 0 0 0) ++ d)

set_option maxRecDepth 100000 in
set_option maxHeartbeats 2000000 in
theorem writeE_1 (tm tk gs : Int) (sd rc : List (BitVec 8)) (am : List Nat) (A : Option Addr) (n cap : Nat) (q0 : 0 ≤ tm) (q1 : tm < 9223372036854775808) (q2 : 0 ≤ tk) (q3 : tk < 9223372036854775808) (q4 : 0 ≤ gs) (q5 : gs < 9223372036854775808) (q6 : ∀ x ∈ am, x < 18446744073709551616) (L : Nat) (hL : (eb1 sd tm tk rc am gs).length = L) (T U b : Nat) (w : World) (hT : Row w T etab 123) (hU : Row w U [.int .i64 0, .int .i64 1, .int .i64 2, .int .i64 3, .int .i64 4, .int .i64 5] 3) (hb : En w b 1 sd tm tk rc am gs (.slice A n cap)) :
    Calls Tryz.prog 51 #[.slice (some ⟨T, 0, none⟩) 7 7, .int .i64 1, .pointer (some ⟨b, 0, none⟩), .slice (some ⟨U, 0, none⟩) 6 6] w fun e w' => ∃ A' c', e = .returned (.slice A' L c') ∧ Bw w' (.slice A' L c') (eb1 sd tm tk rc am gs) ∧ Fresh w.heap.size (.slice A' L c') ∧ Below w.heap.size w w' := by
  have h_s := hb.ls
  have h_t := hb.lt
  have N0 : Hid (([1#8] : List (BitVec 8)).length ≤ 1000000) := by show _ ≤ _; decide
  have N1 : Hid (([1#8] ++ sd).length ≤ 1000000) := by
    show _ ≤ _
    have := nf_len tm
    have := nf_len tk
    have := nf_len gs
    have := wf_len am
    simp only [List.length_append, List.length_cons, List.length_nil]
    omega
  have N2 : Hid (([1#8] ++ sd ++ nf tm).length ≤ 1000000) := by
    show _ ≤ _
    have := nf_len tm
    have := nf_len tk
    have := nf_len gs
    have := wf_len am
    simp only [List.length_append, List.length_cons, List.length_nil]
    omega
  have N3 : Hid (([1#8] ++ sd ++ nf tm ++ nf tk).length ≤ 1000000) := by
    show _ ≤ _
    have := nf_len tm
    have := nf_len tk
    have := nf_len gs
    have := wf_len am
    simp only [List.length_append, List.length_cons, List.length_nil]
    omega
  have N4 : Hid (([1#8] ++ sd ++ nf tm ++ nf tk ++ rc).length ≤ 1000000) := by
    show _ ≤ _
    have := nf_len tm
    have := nf_len tk
    have := nf_len gs
    have := wf_len am
    simp only [List.length_append, List.length_cons, List.length_nil]
    omega
  have N5 : Hid (([1#8] ++ sd ++ nf tm ++ nf tk ++ rc ++ wf am).length ≤ 1000000) := by
    show _ ≤ _
    have := nf_len tm
    have := nf_len tk
    have := nf_len gs
    have := wf_len am
    simp only [List.length_append, List.length_cons, List.length_nil]
    omega
  have NL : Hid ((eb1 sd tm tk rc am gs).length = L) := hL
  have NZ : Hid ((eb1 sd tm tk rc am gs).length ≤ 140737488355328) := by
    show _ ≤ _
    have := nf_len tm
    have := nf_len tk
    have := nf_len gs
    have := wf_len am
    skip
    unfold eb1
    simp only [List.length_append, List.length_cons, List.length_nil]
    omega
  have HT : Hid (Row w T etab 123) := hT
  have HU : Hid (Row w U [.int .i64 0, .int .i64 1, .int .i64 2, .int .i64 3, .int .i64 4, .int .i64 5] 3) := hU
  have HL : Hid (En w b 1 sd tm tk rc am gs (.slice A n cap)) := hb
  have Kq0 : Hid (0 ≤ tm) := q0
  have Kq1 : Hid (tm < 9223372036854775808) := q1
  have Kq2 : Hid (0 ≤ tk) := q2
  have Kq3 : Hid (tk < 9223372036854775808) := q3
  have Kq4 : Hid (0 ≤ gs) := q4
  have Kq5 : Hid (gs < 9223372036854775808) := q5
  have Kq6 : Hid (∀ x ∈ am, x < 18446744073709551616) := q6
  clear hT hU hb h_s h_t hL q0 q1 q2 q3 q4 q5 q6
  go_enter Tryz.func51, Tryz.ntmps51
  go_wp2_with fail
  refine Calls.mono (newWriter_any _) ?_
  rintro e W1 ⟨rfl, hw1, hB1⟩
  have HW1 : Hid (Wr W1 w.heap.size none 0 [] 0) := hw1
  have HB1 : Hid (Below w.heap.size w W1) := hB1
  clear hw1 hB1
  go_wp2_with fail
  refine Calls.mono (byte_any w.heap.size none 0 [] 0 (by decide) 1#8 1 (by decide +kernel) W1 HW1.out) ?_
  rintro e W2 ⟨rfl, hq⟩
  have M0 : Hid (Wm w W2 w.heap.size [1#8]) := Wm.lays (fun g e => by first | cases e | simp [Value.ownBlock] at e) (Nat.le_refl _) HB1.out hq (by decide +kernel) (by decide +kernel)
  clear hq
  go_wp2_with fail
  refine wp_loop_rounds 7 ?_
  rw [rounds_succ]
  have gu := (Row.below HU.out M0.out.below HU.out.lt).cell 0 _ rfl
  have gt := (Row.below HT.out M0.out.below HT.out.lt).cell 2 _ rfl
  go_wp2_with fail
  refine Calls.mono (l_entryFields_2 1 tm tk gs sd rc am (.slice A n cap) ([1#8]) N0.out w w.heap.size b W2 M0.out (HL.out.below M0.out.below)) ?_
  rintro e W3 ⟨rfl, hq⟩
  have M1 : Hid (Wm w W3 w.heap.size ([1#8] ++ sd)) := hq
  clear hq gu gt
  go_wp2_with fail
  rw [rounds_succ]
  have gu := (Row.below HU.out M1.out.below HU.out.lt).cell 1 _ rfl
  have gt := (Row.below HT.out M1.out.below HT.out.lt).cell 6 _ rfl
  go_wp2_with fail
  refine Calls.mono (l_entryFields_6 1 tm tk gs sd rc am (.slice A n cap) ([1#8] ++ sd) N1.out Kq0.out Kq1.out w w.heap.size b W3 M1.out (HL.out.below M1.out.below)) ?_
  rintro e W4 ⟨rfl, hq⟩
  have M2 : Hid (Wm w W4 w.heap.size ([1#8] ++ sd ++ nf tm)) := hq
  clear hq gu gt
  go_wp2_with fail
  rw [rounds_succ]
  have gu := (Row.below HU.out M2.out.below HU.out.lt).cell 2 _ rfl
  have gt := (Row.below HT.out M2.out.below HT.out.lt).cell 10 _ rfl
  go_wp2_with fail
  refine Calls.mono (l_entryFields_10 1 tm tk gs sd rc am (.slice A n cap) ([1#8] ++ sd ++ nf tm) N2.out Kq2.out Kq3.out w w.heap.size b W4 M2.out (HL.out.below M2.out.below)) ?_
  rintro e W5 ⟨rfl, hq⟩
  have M3 : Hid (Wm w W5 w.heap.size ([1#8] ++ sd ++ nf tm ++ nf tk)) := hq
  clear hq gu gt
  go_wp2_with fail
  rw [rounds_succ]
  have gu := (Row.below HU.out M3.out.below HU.out.lt).cell 3 _ rfl
  have gt := (Row.below HT.out M3.out.below HT.out.lt).cell 14 _ rfl
  go_wp2_with fail
  refine Calls.mono (l_entryFields_13 1 tm tk gs sd rc am (.slice A n cap) ([1#8] ++ sd ++ nf tm ++ nf tk) N3.out w w.heap.size b W5 M3.out (HL.out.below M3.out.below)) ?_
  rintro e W6 ⟨rfl, hq⟩
  have M4 : Hid (Wm w W6 w.heap.size ([1#8] ++ sd ++ nf tm ++ nf tk ++ rc)) := hq
  clear hq gu gt
  go_wp2_with fail
  rw [rounds_succ]
  have gu := (Row.below HU.out M4.out.below HU.out.lt).cell 4 _ rfl
  have gt := (Row.below HT.out M4.out.below HT.out.lt).cell 18 _ rfl
  go_wp2_with fail
  refine Calls.mono (l_entryFields_17 1 tm tk gs sd rc am (.slice A n cap) ([1#8] ++ sd ++ nf tm ++ nf tk ++ rc) N4.out Kq6.out w w.heap.size b W6 M4.out (HL.out.below M4.out.below)) ?_
  rintro e W7 ⟨rfl, hq⟩
  have M5 : Hid (Wm w W7 w.heap.size ([1#8] ++ sd ++ nf tm ++ nf tk ++ rc ++ wf am)) := hq
  clear hq gu gt
  go_wp2_with fail
  rw [rounds_succ]
  have gu := (Row.below HU.out M5.out.below HU.out.lt).cell 5 _ rfl
  have gt := (Row.below HT.out M5.out.below HT.out.lt).cell 22 _ rfl
  go_wp2_with fail
  refine Calls.mono (l_entryFields_21 1 tm tk gs sd rc am (.slice A n cap) ([1#8] ++ sd ++ nf tm ++ nf tk ++ rc ++ wf am) N5.out Kq4.out Kq5.out w w.heap.size b W7 M5.out (HL.out.below M5.out.below)) ?_
  rintro e W8 ⟨rfl, hq⟩
  have M6 : Hid (Wm w W8 w.heap.size ([1#8] ++ sd ++ nf tm ++ nf tk ++ rc ++ wf am ++ nf gs)) := hq
  clear hq gu gt
  go_wp2_with fail
  rw [rounds_succ]
  go_wp2_with fail
  obtain ⟨A9, cap9, hw, hf, hP, hB⟩ : Wm w W8 w.heap.size (eb1 sd tm tk rc am gs) := M6.out
  have HD := done_ok w.heap.size A9 cap9 (eb1 sd tm tk rc am gs) NZ.out W8 hw
  rw [NL.out] at HD
  refine Calls.mono HD ?_
  rintro e W9 ⟨A', c', rfl, hbw, hfr, hbe⟩
  have HQ : Hid (Bw W9 (.slice A' L c') (eb1 sd tm tk rc am gs) ∧ Fresh w.heap.size (.slice A' L c') ∧ Below w.heap.size w W9) := ⟨hbw, fun g e => Nat.le_trans hB.size (hfr g e), hB.trans (hbe.mono hB.size)⟩
  clear hbw hfr hbe hw hf hB HD
  go_wp2_with fail
  go_ret
  exact ⟨A', c', rfl, HQ.out⟩

set_option maxRecDepth 100000 in
set_option maxHeartbeats 2000000 in
theorem writeE_2 (tm tk gs : Int) (sd rc : List (BitVec 8)) (am : List Nat) (A : Option Addr) (n cap : Nat) (d : List (BitVec 8)) (q0 : 0 ≤ tm) (q1 : tm < 9223372036854775808) (q7 : d.length = n) (q8 : n ≤ 1000000) (q9 : A = none → cap = 0) (L : Nat) (hL : (eb2 sd tm n d).length = L) (T U b : Nat) (w : World) (hS : ∀ W, Below w.heap.size w W → SlAt W (.slice A n cap) d) (hT : Row w T etab 123) (hU : Row w U [.int .i64 0, .int .i64 1, .int .i64 6] 3) (hb : En w b 2 sd tm tk rc am gs (.slice A n cap)) :
    Calls Tryz.prog 51 #[.slice (some ⟨T, 0, none⟩) 7 7, .int .i64 2, .pointer (some ⟨b, 0, none⟩), .slice (some ⟨U, 0, none⟩) 3 3] w fun e w' => ∃ A' c', e = .returned (.slice A' L c') ∧ Bw w' (.slice A' L c') (eb2 sd tm n d) ∧ Fresh w.heap.size (.slice A' L c') ∧ Below w.heap.size w w' := by
  have h_s := hb.ls
  have h_t := hb.lt
  have N0 : Hid (([2#8] : List (BitVec 8)).length ≤ 1000000) := by show _ ≤ _; decide
  have N1 : Hid (([2#8] ++ sd).length ≤ 1000000) := by
    show _ ≤ _
    have := nf_len tm
    have := nf_len tk
    have := nf_len gs
    have := wf_len am
    simp only [List.length_append, List.length_cons, List.length_nil]
    omega
  have N2 : Hid (([2#8] ++ sd ++ nf tm).length ≤ 1000000) := by
    show _ ≤ _
    have := nf_len tm
    have := nf_len tk
    have := nf_len gs
    have := wf_len am
    simp only [List.length_append, List.length_cons, List.length_nil]
    omega
  have NL : Hid ((eb2 sd tm n d).length = L) := hL
  have NZ : Hid ((eb2 sd tm n d).length ≤ 140737488355328) := by
    show _ ≤ _
    have := nf_len tm
    have := nf_len tk
    have := nf_len gs
    have := wf_len am
    have := nb_le n 0 0 0
    unfold eb2
    simp only [List.length_append, List.length_cons, List.length_nil, fm_len]
    omega
  have HT : Hid (Row w T etab 123) := hT
  have HU : Hid (Row w U [.int .i64 0, .int .i64 1, .int .i64 6] 3) := hU
  have HL : Hid (En w b 2 sd tm tk rc am gs (.slice A n cap)) := hb
  have Kq0 : Hid (0 ≤ tm) := q0
  have Kq1 : Hid (tm < 9223372036854775808) := q1
  have Kq7 : Hid (d.length = n) := q7
  have Kq8 : Hid (n ≤ 1000000) := q8
  have Kq9 : Hid (A = none → cap = 0) := q9
  have KhS : Hid (∀ W, Below w.heap.size w W → SlAt W (.slice A n cap) d) := hS
  clear hT hU hb h_s h_t hL q0 q1 q7 q8 q9 hS
  go_enter Tryz.func51, Tryz.ntmps51
  go_wp2_with fail
  refine Calls.mono (newWriter_any _) ?_
  rintro e W1 ⟨rfl, hw1, hB1⟩
  have HW1 : Hid (Wr W1 w.heap.size none 0 [] 0) := hw1
  have HB1 : Hid (Below w.heap.size w W1) := hB1
  clear hw1 hB1
  go_wp2_with fail
  refine Calls.mono (byte_any w.heap.size none 0 [] 0 (by decide) 2#8 2 (by decide +kernel) W1 HW1.out) ?_
  rintro e W2 ⟨rfl, hq⟩
  have M0 : Hid (Wm w W2 w.heap.size [2#8]) := Wm.lays (fun g e => by first | cases e | simp [Value.ownBlock] at e) (Nat.le_refl _) HB1.out hq (by decide +kernel) (by decide +kernel)
  clear hq
  go_wp2_with fail
  refine wp_loop_rounds 4 ?_
  rw [rounds_succ]
  have gu := (Row.below HU.out M0.out.below HU.out.lt).cell 0 _ rfl
  have gt := (Row.below HT.out M0.out.below HT.out.lt).cell 2 _ rfl
  go_wp2_with fail
  refine Calls.mono (l_entryFields_2 2 tm tk gs sd rc am (.slice A n cap) ([2#8]) N0.out w w.heap.size b W2 M0.out (HL.out.below M0.out.below)) ?_
  rintro e W3 ⟨rfl, hq⟩
  have M1 : Hid (Wm w W3 w.heap.size ([2#8] ++ sd)) := hq
  clear hq gu gt
  go_wp2_with fail
  rw [rounds_succ]
  have gu := (Row.below HU.out M1.out.below HU.out.lt).cell 1 _ rfl
  have gt := (Row.below HT.out M1.out.below HT.out.lt).cell 6 _ rfl
  go_wp2_with fail
  refine Calls.mono (l_entryFields_6 2 tm tk gs sd rc am (.slice A n cap) ([2#8] ++ sd) N1.out Kq0.out Kq1.out w w.heap.size b W3 M1.out (HL.out.below M1.out.below)) ?_
  rintro e W4 ⟨rfl, hq⟩
  have M2 : Hid (Wm w W4 w.heap.size ([2#8] ++ sd ++ nf tm)) := hq
  clear hq gu gt
  go_wp2_with fail
  rw [rounds_succ]
  have gu := (Row.below HU.out M2.out.below HU.out.lt).cell 2 _ rfl
  have gt := (Row.below HT.out M2.out.below HT.out.lt).cell 26 _ rfl
  go_wp2_with fail
  refine Calls.mono (l_entryFields_25 2 tm tk gs sd rc am A n cap ([2#8] ++ sd ++ nf tm) N2.out d Kq7.out Kq8.out Kq9.out w w.heap.size b W4 KhS.out M2.out (HL.out.below M2.out.below)) ?_
  rintro e W5 ⟨rfl, hq⟩
  have M3 : Hid (Wm w W5 w.heap.size ([2#8] ++ sd ++ nf tm ++ (fm [n, 0, 0, 0] (nb n 0 0 0) ++ d))) := hq
  clear hq gu gt
  go_wp2_with fail
  rw [rounds_succ]
  go_wp2_with fail
  obtain ⟨A9, cap9, hw, hf, hP, hB⟩ : Wm w W5 w.heap.size (eb2 sd tm n d) := M3.out
  have HD := done_ok w.heap.size A9 cap9 (eb2 sd tm n d) NZ.out W5 hw
  rw [NL.out] at HD
  refine Calls.mono HD ?_
  rintro e W9 ⟨A', c', rfl, hbw, hfr, hbe⟩
  have HQ : Hid (Bw W9 (.slice A' L c') (eb2 sd tm n d) ∧ Fresh w.heap.size (.slice A' L c') ∧ Below w.heap.size w W9) := ⟨hbw, fun g e => Nat.le_trans hB.size (hfr g e), hB.trans (hbe.mono hB.size)⟩
  clear hbw hfr hbe hw hf hB HD
  go_wp2_with fail
  go_ret
  exact ⟨A', c', rfl, HQ.out⟩

end Go.Proofs.YtknabkoddickaaaGreatDoor
