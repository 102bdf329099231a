/-
  LadderBytes: the program's Bytes.
-/
import Derived.Test.YtfommclhnfcioaaLbW
import Derived.Test.YtfommclhnfcioaaLaD
namespace Go.Proofs.Ytfommclhnfcioaa
open Go Go.RowKit
open Sha

theorem wm_digest (w0 : World) (P : Nat) (bs : List (BitVec 8)) (hl : bs.length ≤ 1000000) (d : List (BitVec 8)) (hd : d.length = 32) (w : World) (hm : Wm w0 w P bs) : Calls Try.prog 38 #[.pointer (some ⟨P, 0, none⟩), .agg (vB d).toArray] w fun e w' => e = .returned (.tuple #[]) ∧ Wm w0 w' P (bs ++ d) := by
  obtain ⟨A, cap, hw, hf, hP, hB⟩ := hm
  refine (digest_lays P A cap bs 0 (by omega) d hd w hw).mono ?_
  rintro e w' ⟨rfl, hq⟩
  exact ⟨rfl, Wm.lays hf hP hB hq (wrB_in _ _ (by omega)) (wrF_in _ _ (by omega))⟩
theorem may_cm {c : Cm} (h : mayB c = true) : 0 ≤ c.n ∧ c.n < 9223372036854775808 ∧ 0 ≤ c.k ∧ c.k < 9223372036854775808 := by
  have q := (mayB_iff c).1 h
  unfold Cm.May at q
  omega
/-- A commit's bytes. -/
def cmb (c : Cm) : List (BitVec 8) := [65#8] ++ nf c.n ++ c.s ++ c.o ++ nf c.k
theorem cmb_len {c : Cm} (h : c.Wf) : (cmb c).length ≤ 153 := by
  have h1 := nf_len c.n
  have h2 := nf_len c.k
  have h3 := h.ls
  have h4 := h.lo
  unfold cmb
  simp only [List.length_append, List.length_singleton]
  omega
theorem Cm.at_s {c : Cm} (j : Nat) (u : Value) (hj : (vB c.s)[j]? = some u) : c.cells[1 + j]? = some u := by
  unfold Cm.cells
  rw [Nat.add_comm, List.getElem?_cons_succ, List.getElem?_append_left ((List.getElem?_eq_some_iff.1 hj).1)]
  exact hj
theorem Cm.at_o {c : Cm} (h : c.Wf) (j : Nat) (u : Value) (hj : (vB c.o)[j]? = some u) : c.cells[33 + j]? = some u := by
  unfold Cm.cells
  rw [show 33 + j = (32 + j) + 1 by omega, List.getElem?_cons_succ, List.getElem?_append_right (by rw [vB_length, h.ls]; omega), vB_length, h.ls, Nat.add_sub_cancel_left, List.getElem?_append_left ((List.getElem?_eq_some_iff.1 hj).1)]
  exact hj
theorem info_Dg (d : List (BitVec 8)) (h : d.length = 32) : (Try.prog.info? 23).map (·.size) = some (vB d).length := by rw [vB_length, h]; kernel_rfl
set_option maxRecDepth 100000 in
set_option maxHeartbeats 4000000 in
theorem lbytes_no (c : Cm) (hw : c.Wf) (hm : mayB c = false) (L : List Value) (hL : L = c.cells) (w : World) : Calls Try.prog 10 #[.agg L.toArray] w fun e w' => e = .returned (.tuple #[.slice none 0 0, .int .i64 160]) ∧ Below w.heap.size w w' := by
  have HM : Hid (∀ X, Calls Try.prog 34 #[.agg L.toArray] X fun e w' => e = .returned (.bool false) ∧ Below X.heap.size X w') := fun X => by have := mayBe_any c hw L hL X; rwa [hm] at this
  have HI : Hid ((Try.prog.info? tC).map (·.size) = some L.length) := by rw [hL]; exact Cm.info hw
  clear hL
  go_enter Try.func10, Try.ntmps10
  go_wp2_with (first
    | (refine wpList_bxG tC rfl (.tmp 0) rfl L rfl ?_; intro X1 q1 q2 q3; have R1 : Hid (Row X1 w.heap.size L tC) := q1; have B1 : Hid (Below w.heap.size w X1) := q2; clear q1 q2 q3; simp only [Act.put, List.setIfInBounds_toArray, List.set_cons_zero, List.set_cons_succ])
    | (refine wpList_ldS rfl tC (.tmp 1) rfl w.heap.size 0 rfl L _ R1.out.all Try.underlying25 rfl HI.out ?_; simp only [Act.put, List.setIfInBounds_toArray, List.set_cons_zero, List.set_cons_succ])
    | (go_at_call 34; refine Calls.mono (HM.out X1) ?_; rintro e X2 ⟨rfl, q⟩; have B2 : Hid (Below w.heap.size w X2) := B1.out.trans (q.mono B1.out.size); clear q))
  go_ret2
  exact ⟨rfl, B2.out⟩
set_option maxRecDepth 100000 in
set_option maxHeartbeats 4000000 in
theorem lbytes_ok (c : Cm) (hw : c.Wf) (hm : mayB c = true) (L : List Value) (hL : L = c.cells) (w : World) : Calls Try.prog 10 #[.agg L.toArray] w fun e w' => ∃ A n cap, n = (cmb c).length ∧ e = .returned (.tuple #[.slice A n cap, .int .i64 0]) ∧ Bw w' (.slice A n cap) (cmb c) ∧ Fresh w.heap.size (.slice A n cap) ∧ Below w.heap.size w w' := by
  have HM : Hid (∀ X, Calls Try.prog 34 #[.agg L.toArray] X fun e w' => e = .returned (.bool true) ∧ Below X.heap.size X w') := fun X => by have := mayBe_any c hw L hL X; rwa [hm] at this
  have HI : Hid ((Try.prog.info? tC).map (·.size) = some L.length) := by rw [hL]; exact Cm.info hw
  have HIS : Hid ((Try.prog.info? 23).map (·.size) = some (vB c.s).length) := info_Dg _ hw.ls
  have HIO : Hid ((Try.prog.info? 23).map (·.size) = some (vB c.o).length) := info_Dg _ hw.lo
  have HL : Hid (L = c.cells) := hL
  have HW : Hid c.Wf := hw
  have HIN : Hid (0 ≤ c.n ∧ c.n < 9223372036854775808 ∧ 0 ≤ c.k ∧ c.k < 9223372036854775808) := may_cm hm
  clear hL hw hm
  go_enter Try.func10, Try.ntmps10
  go_upto_region 3 with (first
    | (refine wpList_bxG tC rfl (.tmp 0) rfl L rfl ?_; intro X1 q1 q2 q3; have R1 : Hid (Row X1 w.heap.size L tC) := q1; have B1 : Hid (Below w.heap.size w X1) := q2; clear q1 q2 q3; simp only [Act.put, List.setIfInBounds_toArray, List.set_cons_zero, List.set_cons_succ])
    | (refine wpList_ldS rfl tC (.tmp 1) rfl w.heap.size 0 rfl L _ R1.out.all Try.underlying25 rfl HI.out ?_; simp only [Act.put, List.setIfInBounds_toArray, List.set_cons_zero, List.set_cons_succ])
    | (go_at_call 34; refine Calls.mono (HM.out X1) ?_; rintro e X2 ⟨rfl, q⟩; have R2 : Hid (Row X2 w.heap.size L tC) := Row.below R1.out q R1.out.lt; have B2 : Hid (Below w.heap.size w X2) := B1.out.trans (q.mono B1.out.size); clear q))
  obtain ⟨b, hb⟩ : ∃ b, b = w.heap.size := ⟨_, rfl⟩
  have HB0 : Hid (b = w.heap.size) := hb
  have hR2 := R2.out
  rw [HL.out] at hR2
  have hlt : b < X2.heap.size := by rw [hb]; exact hR2.lt
  rw [← hb] at hR2 ⊢
  have RL : Hid (∀ Y, Below X2.heap.size X2 Y → Row Y b c.cells tC) := fun Y k => Row.below hR2 k hlt
  obtain ⟨P, hP⟩ : ∃ P, P = X2.heap.size := ⟨_, rfl⟩
  have HP : Hid (P = X2.heap.size) := hP
  have LN : Hid (([65#8] : List (BitVec 8)).length ≤ 1000000 ∧ ([65#8] ++ nf c.n).length ≤ 1000000 ∧ ([65#8] ++ nf c.n ++ c.s).length ≤ 1000000 ∧ ([65#8] ++ nf c.n ++ c.s ++ c.o).length ≤ 1000000 ∧ (cmb c).length ≤ 1000000) := by
    have h1 := nf_len c.n
    have h4 := cmb_len HW.out
    have h5 := HW.out.ls
    have h6 := HW.out.lo
    simp only [List.length_append, List.length_singleton]
    refine ⟨?_, ?_, ?_, ?_, ?_⟩ <;> omega
  clear hb hP hR2 hlt R2 R1 B1 HM HL HI
  go_upto_region 4 with (go_at_call 35; refine Calls.mono (wm_new X2) ?_; rintro e X3 ⟨rfl, q⟩; have M3 : Hid (Wm X2 X3 P []) := (by rw [HP.out]; exact q); clear q; rw [← HP.out])
  go_upto_region 5 with (go_at_call 36; refine Calls.mono (wm_byte X2 P [] (Nat.zero_le _) 65#8 65 rfl X3 M3.out) ?_; rintro e X4 ⟨rfl, q⟩; have M4 : Hid (Wm X2 X4 P [65#8]) := q; have c0 := (RL.out X4 q.below).cell 0 _ (Cm.at_n c); clear q M3)
  go_upto_region 6 with (go_at_call 37; refine Calls.mono (wm_number X2 P [65#8] LN.out.1 c.n HIN.out.1 HIN.out.2.1 X4 M4.out) ?_; rintro e X5 ⟨rfl, q⟩; have M5 : Hid (Wm X2 X5 P ([65#8] ++ nf c.n)) := q; have RS : Hid (X5.rangeAt b 1 (vB c.s)) := (RL.out X5 q.below).range 1 _ (fun j u hj => Cm.at_s j u hj); clear q M4 c0)
  go_upto_region 7 with (first
    | (refine wpList_ldS rfl 23 (.tmp 16) rfl b 1 rfl (vB c.s) _ RS.out Try.underlying23 rfl HIS.out ?_; simp only [Act.put, List.setIfInBounds_toArray, List.set_cons_zero, List.set_cons_succ])
    | (go_at_call 38; refine Calls.mono (wm_digest X2 P ([65#8] ++ nf c.n) LN.out.2.1 c.s HW.out.ls X5 M5.out) ?_; rintro e X6 ⟨rfl, q⟩; have M6 : Hid (Wm X2 X6 P ([65#8] ++ nf c.n ++ c.s)) := q; have RO : Hid (X6.rangeAt b 33 (vB c.o)) := (RL.out X6 q.below).range 33 _ (fun j u hj => Cm.at_o HW.out j u hj); clear q M5 RS))
  go_upto_region 8 with (first
    | (refine wpList_ldS rfl 23 (.tmp 20) rfl b 33 rfl (vB c.o) _ RO.out Try.underlying23 rfl HIO.out ?_; simp only [Act.put, List.setIfInBounds_toArray, List.set_cons_zero, List.set_cons_succ])
    | (go_at_call 38; refine Calls.mono (wm_digest X2 P ([65#8] ++ nf c.n ++ c.s) LN.out.2.2.1 c.o HW.out.lo X6 M6.out) ?_; rintro e X7 ⟨rfl, q⟩; have M7 : Hid (Wm X2 X7 P ([65#8] ++ nf c.n ++ c.s ++ c.o)) := q; have c1 := (RL.out X7 q.below).cell 65 _ (Cm.at_k HW.out); clear q M6 RO))
  go_upto_region 9 with (go_at_call 37; refine Calls.mono (wm_number X2 P ([65#8] ++ nf c.n ++ c.s ++ c.o) LN.out.2.2.2.1 c.k HIN.out.2.2.1 HIN.out.2.2.2 X7 M7.out) ?_; rintro e X9 ⟨rfl, q⟩; have M9 : Hid (Wm X2 X9 P (cmb c)) := q; clear q M7 c1)
  obtain ⟨bs, hbs⟩ : ∃ bs, bs = cmb c := ⟨_, rfl⟩
  have HBS : Hid (bs = cmb c) := hbs
  rw [← hbs] at M9 LN
  obtain ⟨n, hn⟩ : ∃ n, n = bs.length := ⟨_, rfl⟩
  have HN : Hid (n = bs.length) := hn
  clear hbs hn
  go_wp2_with (go_at_call 39; refine Calls.mono (wm_done X2 P bs LN.out.2.2.2.2 X9 M9.out) ?_; rintro e Y ⟨A, cap, rfl, q1, q2, q3⟩; rw [← HN.out] at q1 q2 ⊢; have E1 : Hid (Bw Y (.slice A n cap) bs) := q1; have E2 : Hid (Fresh X2.heap.size (.slice A n cap)) := q2; have E3 : Hid (Below X2.heap.size X2 Y) := q3; clear q1 q2 q3)
  go_ret2
  exact ⟨A, n, cap, by rw [HN.out, HBS.out], rfl, by rw [← HBS.out]; exact E1.out, E2.out.more B2.out.size, B2.out.trans (E3.out.mono B2.out.size)⟩

end Go.Proofs.Ytfommclhnfcioaa
