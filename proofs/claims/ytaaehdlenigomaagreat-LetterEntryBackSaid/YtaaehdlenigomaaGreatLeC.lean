/-
  entries of any values: the closures that lay; table.write.
-/
import Derived.Test.YtaaehdlenigomaaGreatLeB
import Derived.Test.YtaaehdlenigomaaGreatLtE
namespace Go.Proofs.YtaaehdlenigomaaGreat
open Go Go.RowKit
open Sha

/-- A number's form. -/
def nf (n : Int) : List (BitVec 8) := fm [n.toNat, 0, 0, 0] (nb n.toNat 0 0 0)
/-- Four parts' form. -/
def wf (am : List Nat) : List (BitVec 8) := fm am (nb (am.getD 0 0) (am.getD 1 0) (am.getD 2 0) (am.getD 3 0))
theorem nf_len (n : Int) : (nf n).length ≤ 33 := by
  have := nb_le n.toNat 0 0 0
  unfold nf
  rw [fm_len]
  omega
theorem wf_len (am : List Nat) : (wf am).length ≤ 33 := by
  have := nb_le (am.getD 0 0) (am.getD 1 0) (am.getD 2 0) (am.getD 3 0)
  unfold wf
  rw [fm_len]
  omega
theorem wrB_in (bs d : List (BitVec 8)) (h : bs.length + d.length ≤ 4194304) : wrB bs 0 d = bs ++ d := by
  unfold wrB
  rw [if_pos rfl, if_pos h]
theorem wrF_in (bs d : List (BitVec 8)) (h : bs.length + d.length ≤ 4194304) : wrF bs 0 d = 0 := by
  unfold wrF
  rw [if_pos rfl, if_pos h]
theorem nuB_in (bs : List (BitVec 8)) (n : Int) (h0 : 0 ≤ n) (h : bs.length + (nf n).length ≤ 4194304) : nuB bs 0 n = bs ++ nf n := by
  unfold nuB
  rw [if_pos rfl, if_neg (by omega)]
  exact wrB_in bs (nf n) h
theorem nuF_in (bs : List (BitVec 8)) (n : Int) (h0 : 0 ≤ n) (h : bs.length + (nf n).length ≤ 4194304) : nuF bs 0 n = 0 := by
  unfold nuF
  rw [if_pos rfl, if_neg (by omega)]
  exact wrF_in bs (nf n) h

set_option maxRecDepth 100000 in
theorem l_entryFields_2 (k tm tk gs : Int) (sd rc : List (BitVec 8)) (am : List Nat) (v : Value) (bs : List (BitVec 8)) (hl : bs.length ≤ 1000000) (w0 : World) (P b : Nat) (w : World) (hm : Wm w0 w P bs) (h : En w b k sd tm tk rc am gs v) : Calls Tryz.prog 29 #[.pointer (some ⟨P, 0, none⟩), .pointer (some ⟨b, 0, none⟩)] w fun e w' => e = .returned (.tuple #[]) ∧ Wm w0 w' P (bs ++ sd) := by
  obtain ⟨A0, cap0, hw, hf, hP, hB⟩ := hm
  have R : Hid (w.rangeAt b 1 (vB sd)) := h.r_sender
  have HI : Hid ((Tryz.prog.info? 23).map (·.size) = some (vB sd).length) := by show _ = _; rw [vB_length, h.ls]; kernel_rfl
  have HN : Hid _ := address_lays P A0 cap0 bs 0 (by omega) sd h.ls w hw
  have HS : Hid (bs.length + sd.length ≤ 4194304) := by show _ ≤ _; have := h.ls; omega
  have HF : Hid (Fresh w0.heap.size (.slice A0 bs.length cap0)) := hf
  have HB : Hid (Below w0.heap.size w0 w) := hB
  clear h hw hf hB hl
  go_enter Tryz.func29, Tryz.ntmps29
  go_wp2_with (first
    | (refine wpList_load_w rfl 23 (.tmp 7) rfl b 1 rfl (vB sd) _ R.out Tryz.underlying23 rfl HI.out ?_; simp only [Act.put, List.setIfInBounds_toArray, List.set_cons_zero, List.set_cons_succ])
    | (go_at_call 30; refine Calls.mono HN.out ?_; rintro e W ⟨rfl, hq⟩))
  go_end0
  exact ⟨rfl, Wm.lays HF.out hP HB.out hq (wrB_in _ _ HS.out) (wrF_in _ _ HS.out)⟩

set_option maxRecDepth 100000 in
theorem l_entryFields_6 (k tm tk gs : Int) (sd rc : List (BitVec 8)) (am : List Nat) (v : Value) (bs : List (BitVec 8)) (hl : bs.length ≤ 1000000) (h0 : 0 ≤ tm) (h1 : tm < 9223372036854775808) (w0 : World) (P b : Nat) (w : World) (hm : Wm w0 w P bs) (h : En w b k sd tm tk rc am gs v) : Calls Tryz.prog 36 #[.pointer (some ⟨P, 0, none⟩), .pointer (some ⟨b, 0, none⟩)] w fun e w' => e = .returned (.tuple #[]) ∧ Wm w0 w' P (bs ++ nf tm) := by
  obtain ⟨A0, cap0, hw, hf, hP, hB⟩ := hm
  have g := h.c_time
  have HN : Hid _ := number_any P A0 cap0 bs 0 tm h1 (by omega) w _ rfl hw
  have E1 : Hid (nuB bs 0 tm = bs ++ nf tm) := nuB_in bs tm h0 (by have := nf_len tm; omega)
  have E2 : Hid (nuF bs 0 tm = 0) := nuF_in bs tm h0 (by have := nf_len tm; omega)
  have HF : Hid (Fresh w0.heap.size (.slice A0 bs.length cap0)) := hf
  have HB : Hid (Below w0.heap.size w0 w) := hB
  clear h hw hf hB h0 h1 hl
  go_enter Tryz.func36, Tryz.ntmps36
  go_wp2_with (go_at_call 37; refine Calls.mono HN.out ?_; rintro e W ⟨rfl, ⟨A', cap', hw, hff⟩, hG⟩)
  go_end0
  rw [E1.out, E2.out] at hw
  rw [E1.out] at hff
  exact ⟨rfl, Wm.on HF.out hP HB.out hw hff hG⟩

set_option maxRecDepth 100000 in
theorem l_entryFields_10 (k tm tk gs : Int) (sd rc : List (BitVec 8)) (am : List Nat) (v : Value) (bs : List (BitVec 8)) (hl : bs.length ≤ 1000000) (h0 : 0 ≤ tk) (h1 : tk < 9223372036854775808) (w0 : World) (P b : Nat) (w : World) (hm : Wm w0 w P bs) (h : En w b k sd tm tk rc am gs v) : Calls Tryz.prog 43 #[.pointer (some ⟨P, 0, none⟩), .pointer (some ⟨b, 0, none⟩)] w fun e w' => e = .returned (.tuple #[]) ∧ Wm w0 w' P (bs ++ nf tk) := by
  obtain ⟨A0, cap0, hw, hf, hP, hB⟩ := hm
  have g := h.c_token
  have HN : Hid _ := number_any P A0 cap0 bs 0 tk h1 (by omega) w _ rfl hw
  have E1 : Hid (nuB bs 0 tk = bs ++ nf tk) := nuB_in bs tk h0 (by have := nf_len tk; omega)
  have E2 : Hid (nuF bs 0 tk = 0) := nuF_in bs tk h0 (by have := nf_len tk; omega)
  have HF : Hid (Fresh w0.heap.size (.slice A0 bs.length cap0)) := hf
  have HB : Hid (Below w0.heap.size w0 w) := hB
  clear h hw hf hB h0 h1 hl
  go_enter Tryz.func43, Tryz.ntmps43
  go_wp2_with (go_at_call 37; refine Calls.mono HN.out ?_; rintro e W ⟨rfl, ⟨A', cap', hw, hff⟩, hG⟩)
  go_end0
  rw [E1.out, E2.out] at hw
  rw [E1.out] at hff
  exact ⟨rfl, Wm.on HF.out hP HB.out hw hff hG⟩

set_option maxRecDepth 100000 in
theorem l_entryFields_13 (k tm tk gs : Int) (sd rc : List (BitVec 8)) (am : List Nat) (v : Value) (bs : List (BitVec 8)) (hl : bs.length ≤ 1000000) (w0 : World) (P b : Nat) (w : World) (hm : Wm w0 w P bs) (h : En w b k sd tm tk rc am gs v) : Calls Tryz.prog 46 #[.pointer (some ⟨P, 0, none⟩), .pointer (some ⟨b, 0, none⟩)] w fun e w' => e = .returned (.tuple #[]) ∧ Wm w0 w' P (bs ++ rc) := by
  obtain ⟨A0, cap0, hw, hf, hP, hB⟩ := hm
  have R : Hid (w.rangeAt b 23 (vB rc)) := h.r_to
  have HI : Hid ((Tryz.prog.info? 23).map (·.size) = some (vB rc).length) := by show _ = _; rw [vB_length, h.lt]; kernel_rfl
  have HN : Hid _ := address_lays P A0 cap0 bs 0 (by omega) rc h.lt w hw
  have HS : Hid (bs.length + rc.length ≤ 4194304) := by show _ ≤ _; have := h.lt; omega
  have HF : Hid (Fresh w0.heap.size (.slice A0 bs.length cap0)) := hf
  have HB : Hid (Below w0.heap.size w0 w) := hB
  clear h hw hf hB hl
  go_enter Tryz.func46, Tryz.ntmps46
  go_wp2_with (first
    | (refine wpList_load_w rfl 23 (.tmp 7) rfl b 23 rfl (vB rc) _ R.out Tryz.underlying23 rfl HI.out ?_; simp only [Act.put, List.setIfInBounds_toArray, List.set_cons_zero, List.set_cons_succ])
    | (go_at_call 30; refine Calls.mono HN.out ?_; rintro e W ⟨rfl, hq⟩))
  go_end0
  exact ⟨rfl, Wm.lays HF.out hP HB.out hq (wrB_in _ _ HS.out) (wrF_in _ _ HS.out)⟩

set_option maxRecDepth 100000 in
theorem l_entryFields_17 (k tm tk gs : Int) (sd rc : List (BitVec 8)) (am : List Nat) (v : Value) (bs : List (BitVec 8)) (hl : bs.length ≤ 1000000) (hq4 : ∀ x ∈ am, x < 18446744073709551616) (w0 : World) (P b : Nat) (w : World) (hm : Wm w0 w P bs) (h : En w b k sd tm tk rc am gs v) : Calls Tryz.prog 50 #[.pointer (some ⟨P, 0, none⟩), .pointer (some ⟨b, 0, none⟩)] w fun e w' => e = .returned (.tuple #[]) ∧ Wm w0 w' P (bs ++ wf am) := by
  obtain ⟨A0, cap0, hw, hf, hP, hB⟩ := hm
  have R : Hid (w.rangeAt b 43 (vQ am)) := h.r_amount
  have HI : Hid ((Tryz.prog.info? 26).map (·.size) = some (vQ am).length) := by show _ = _; rw [vQ_len, h.la]; kernel_rfl
  have hla := h.la
  obtain ⟨m0, m1, m2, m3, rfl⟩ : ∃ m0 m1 m2 m3, am = [m0, m1, m2, m3] := by
    rcases am with _ | ⟨m0, _ | ⟨m1, _ | ⟨m2, _ | ⟨m3, _ | ⟨m4, r⟩⟩⟩⟩⟩
    all_goals first | exact ⟨_, _, _, _, rfl⟩ | (simp at hla)
  have HN : Hid _ := wide_any P A0 cap0 bs 0 m0 m1 m2 m3 (hq4 _ (by simp)) (hq4 _ (by simp)) (hq4 _ (by simp)) (hq4 _ (by simp)) _ rfl (by omega) w _ rfl hw
  have HS : Hid (bs.length + (wf [m0, m1, m2, m3]).length ≤ 4194304) := by show _ ≤ _; have := wf_len [m0, m1, m2, m3]; omega
  have HF : Hid (Fresh w0.heap.size (.slice A0 bs.length cap0)) := hf
  have HB : Hid (Below w0.heap.size w0 w) := hB
  clear h hw hf hB hl hq4 hla
  go_enter Tryz.func50, Tryz.ntmps50
  go_wp2_with (first
    | (refine wpList_load_w rfl 26 (.tmp 7) rfl b 43 rfl (vQ [m0, m1, m2, m3]) _ R.out Tryz.underlying26 rfl HI.out ?_; simp only [Act.put, List.setIfInBounds_toArray, List.set_cons_zero, List.set_cons_succ])
    | (go_at_call 51; refine Calls.mono HN.out ?_; rintro e W ⟨rfl, hq, hG⟩))
  go_end0
  exact ⟨rfl, Wm.lays HF.out hP HB.out (d := wf [m0, m1, m2, m3]) ⟨hq, hG⟩ (wrB_in _ _ HS.out) (wrF_in _ _ HS.out)⟩

set_option maxRecDepth 100000 in
theorem l_entryFields_21 (k tm tk gs : Int) (sd rc : List (BitVec 8)) (am : List Nat) (v : Value) (bs : List (BitVec 8)) (hl : bs.length ≤ 1000000) (h0 : 0 ≤ gs) (h1 : gs < 9223372036854775808) (w0 : World) (P b : Nat) (w : World) (hm : Wm w0 w P bs) (h : En w b k sd tm tk rc am gs v) : Calls Tryz.prog 56 #[.pointer (some ⟨P, 0, none⟩), .pointer (some ⟨b, 0, none⟩)] w fun e w' => e = .returned (.tuple #[]) ∧ Wm w0 w' P (bs ++ nf gs) := by
  obtain ⟨A0, cap0, hw, hf, hP, hB⟩ := hm
  have g := h.c_gas
  have HN : Hid _ := number_any P A0 cap0 bs 0 gs h1 (by omega) w _ rfl hw
  have E1 : Hid (nuB bs 0 gs = bs ++ nf gs) := nuB_in bs gs h0 (by have := nf_len gs; omega)
  have E2 : Hid (nuF bs 0 gs = 0) := nuF_in bs gs h0 (by have := nf_len gs; omega)
  have HF : Hid (Fresh w0.heap.size (.slice A0 bs.length cap0)) := hf
  have HB : Hid (Below w0.heap.size w0 w) := hB
  clear h hw hf hB h0 h1 hl
  go_enter Tryz.func56, Tryz.ntmps56
  go_wp2_with (go_at_call 37; refine Calls.mono HN.out ?_; rintro e W ⟨rfl, ⟨A', cap', hw, hff⟩, hG⟩)
  go_end0
  rw [E1.out, E2.out] at hw
  rw [E1.out] at hff
  exact ⟨rfl, Wm.on HF.out hP HB.out hw hff hG⟩

set_option maxRecDepth 100000 in
theorem l_entryFields_25 (k tm tk gs : Int) (sd rc : List (BitVec 8)) (am : List Nat) (A : Option Addr) (n cap : Nat) (bs : List (BitVec 8)) (hl : bs.length ≤ 1000000) (d : List (BitVec 8)) (hd : d.length = n) (hn : n ≤ 1000000) (hnil : A = none → cap = 0) (w0 : World) (P b : Nat) (w : World) (hS : ∀ W, Below w0.heap.size w0 W → SlAt W (.slice A n cap) d) (hm : Wm w0 w P bs) (h : En w b k sd tm tk rc am gs (.slice A n cap)) : Calls Tryz.prog 60 #[.pointer (some ⟨P, 0, none⟩), .pointer (some ⟨b, 0, none⟩)] w fun e w' => e = .returned (.tuple #[]) ∧ Wm w0 w' P (bs ++ (fm [n, 0, 0, 0] (nb n 0 0 0) ++ d)) := by
  obtain ⟨A0, cap0, hw, hf, hP, hB⟩ := hm
  have g := h.c_body
  have HN : Hid _ := bytes_lays P A0 cap0 bs 0 (by omega) d n hd (by omega) A cap hnil _ rfl w hw (fun W hG => hS W (hB.trans (hG.to_below hB.size (fun k q => by
    rcases q with q | q
    · rw [q]; exact hP
    · exact hf k q)))) (by omega)
  have HS : Hid (bs.length + (fm [n, 0, 0, 0] (nb n 0 0 0) ++ d).length ≤ 4194304) := by
    show _ ≤ _
    have := nb_le n 0 0 0
    rw [List.length_append, fm_len, hd]
    omega
  have HF : Hid (Fresh w0.heap.size (.slice A0 bs.length cap0)) := hf
  have HB : Hid (Below w0.heap.size w0 w) := hB
  clear h hw hf hB hl hd hn hnil hS
  go_enter Tryz.func60, Tryz.ntmps60
  go_wp2_with (go_at_call 61; refine Calls.mono HN.out ?_; rintro e W ⟨rfl, hq⟩)
  go_end0
  exact ⟨rfl, Wm.lays HF.out hP HB.out hq (wrB_in _ _ HS.out) (wrF_in _ _ HS.out)⟩

end Go.Proofs.YtaaehdlenigomaaGreat
