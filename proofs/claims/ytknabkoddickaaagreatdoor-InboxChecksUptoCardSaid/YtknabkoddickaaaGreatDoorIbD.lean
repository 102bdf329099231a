/-
  the inbox: a box in memory; New, last, Len, Link.
-/
import Derived.Test.YtknabkoddickaaaGreatDoorIbA
import Derived.Test.YtknabkoddickaaaGreatDoorLws

namespace Go.Proofs.YtknabkoddickaaaGreatDoor
open Go Go.RowKit
open Sha

theorem info_slE : (Tryz.prog.info? 44).map (·.size) = some 1 := by kernel_rfl
theorem row_apart2 {w : World} {b c : Nat} {xs ys : List Value} {s t : TypeId} (h : Row w b xs s) (k : Row w c ys t) (e : s ≠ t) : b ≠ c := fun q => by
  subst q
  have := h.symm.trans k
  simp only [Option.some.injEq, Obj.cells.injEq] at this
  exact e this.2.1
set_option maxRecDepth 100000 in
set_option maxHeartbeats 4000000 in
theorem inext_ok (e : Ev) (hw : e.Wf) (hm : e.May) (kk dd : List (BitVec 8)) (hk : kk.length = 32) (hd : dd = dig (kk ++ e.bytes)) (A : Option Addr) (n cap : Nat) (hn : e.d.length = n) (hnil : A = none → cap = 0) (L : List Value) (hL : L = e.cells (.slice A n cap)) (w : World) (hK : Tab w 1) (hS : SlAt w (.slice A n cap) e.d) :
    Calls Tryz.prog 15 #[.agg (vB kk).toArray, .agg L.toArray] w fun r w' => r = .returned (.tuple #[.agg (vB dd).toArray, .int .i64 0]) ∧ Below w.heap.size w w' := by
  have HD : Hid (dd = dig (kk ++ e.bytes)) := hd
  have HDL : Hid (dd.length = 32) := by rw [hd]; exact dig_length _
  have HKL : Hid (kk.length = 32) := hk
  have HBL : Hid (kk.length + e.bytes.length < 1152921504606846976) := by have := Ev.bytes_len hw hm; show _ < _; omega
  have HID : Hid ((Tryz.prog.info? 51).map (·.size) = some (vB dd).length) := by show _ = _; rw [vB_length, HDL.out]; exact info_dg
  have HI : Hid ((Tryz.prog.info? 46).map (·.size) = some L.length) := by rw [hL]; exact Ev.info hw _
  have HLL : Hid ((vB dd).length = (vB zK).length) := by show _ = _; rw [vB_length, vB_length, HDL.out]; rfl
  have HT : Hid (∀ X, Below w.heap.size w X → Tab X 1) := fun X k => hK.below k hK.lt
  have HEB : Hid (∀ X, Below w.heap.size w X → Calls Tryz.prog 36 #[.agg L.toArray] X fun r w' => ∃ A' N c', r = .returned (.tuple #[.slice A' N c', .int .i64 0]) ∧ e.bytes.length = N ∧ Bw w' (.slice A' N c') e.bytes ∧ Fresh X.heap.size (.slice A' N c') ∧ Below X.heap.size X w') := fun X k => ebytes_ok e hw hm A n cap hn hnil L hL X (hS.be k)
  obtain ⟨M, hM⟩ : ∃ M, M = vB kk := ⟨_, rfl⟩
  have HM : Hid (M = vB kk) := hM
  rw [← hM]
  clear hd hk hw hm hn hnil hL hK hS hM
  go_enter Tryz.func15, Tryz.ntmps15
  go_upto_region 1 with (first
    | (refine wpList_boxG 51 rfl (.tmp 0) rfl M rfl ?_; intro X1 q1 q2 q3; have R1 : Hid (Row X1 w.heap.size (vB kk) 51) := (by rw [← HM.out]; exact q1); have B1 : Hid (Below w.heap.size w X1) := q2; clear q1 q2 q3; simp only [Act.put, List.setIfInBounds_toArray, List.set_cons_zero, List.set_cons_succ])
    | (refine wpList_boxG 46 rfl (.tmp 1) rfl L rfl ?_; intro X2 q1 q2 q3; have R2 : Hid (Row X2 X1.heap.size L 46) := q1; have B2 : Hid (Below w.heap.size w X2) := B1.out.trans (q2.mono B1.out.size); have D2 : Hid (Row X2 w.heap.size (vB kk) 51) := Row.below R1.out q2 R1.out.lt; clear q1 q2 q3 R1; simp only [Act.put, List.setIfInBounds_toArray, List.set_cons_zero, List.set_cons_succ])
    | (refine wpList_allocD rfl rfl ?_; intro X3 q1 q2; have R3 : Hid (Row X3 X2.heap.size (vB zK) 51) := q1; have B3 : Hid (Below w.heap.size w X3) := B2.out.trans (q2.mono B2.out.size); have D3 : Hid (Row X3 w.heap.size (vB kk) 51) := Row.below D2.out q2 D2.out.lt; have E3 : Hid (Row X3 X1.heap.size L 46) := Row.below R2.out q2 R2.out.lt; have N3 : Hid (w.heap.size < X2.heap.size) := D2.out.lt; clear q1 q2 D2 R2; simp only [Act.put, List.setIfInBounds_toArray, List.set_cons_zero, List.set_cons_succ]))
  obtain ⟨b, hb⟩ : ∃ b, b = X2.heap.size := ⟨_, rfl⟩
  obtain ⟨be, hbe⟩ : ∃ b, b = X1.heap.size := ⟨_, rfl⟩
  obtain ⟨bk, hbk⟩ : ∃ b, b = w.heap.size := ⟨_, rfl⟩
  have N4 : Hid (bk < b ∧ w.heap.size ≤ b) := by show _ ∧ _; rw [hbk, hb]; exact ⟨N3.out, Nat.le_of_lt N3.out⟩
  rw [← hb] at R3 ⊢
  rw [← hbe] at E3 ⊢
  rw [← hbk] at D3 ⊢
  clear hb hbe hbk B1 B2 N3
  go_upto_region 2 with (first
    | (refine wpList_load_w rfl 46 (.tmp 3) rfl be 0 rfl L _ E3.out.all Tryz.underlying46 rfl HI.out ?_; simp only [Act.put, List.setIfInBounds_toArray, List.set_cons_zero, List.set_cons_succ])
    | (go_at_call 36; refine Calls.mono (HEB.out X3 B3.out) ?_; rintro e4 X4 ⟨A', N, c', rfl, q0, q1, q2, q3⟩; have W4 : Hid (Bw X4 (.slice A' N c') e.bytes) := q1; have B4 : Hid (Below w.heap.size w X4) := B3.out.trans (q3.mono B3.out.size); have R4 : Hid (Row X4 b (vB zK) 51) := Row.below R3.out q3 R3.out.lt; have D4 : Hid (Row X4 bk (vB kk) 51) := Row.below D3.out q3 D3.out.lt; clear q0 q1 q2 q3))
  clear R3 D3 E3 B3 HEB
  go_wp2_with (first
    | (go_at_call 37
       refine Calls.mono (parts_two kk e.bytes dd HD.out (.slice (some ⟨bk, 0, none⟩) 32 32) (.slice A' N c') HBL.out X4.heap.size 2 _ (HT.out _ (B4.out.trans ((((Below.refl _ _).alloc (Nat.le_refl _) _)).mono B4.out.size))) (slTo (by rw [← HKL.out]; exact .inr ⟨bk, 0, kk.length, rfl, Nat.le_refl _, (Row.alloc D4.out _).all⟩)) (slTo (Bw.sl (Bw.be W4.out ((Below.refl _ _).alloc (Nat.le_refl _) _)))) (Row.new' rfl rfl)) ?_
       rintro e5 X5 ⟨rfl, q⟩
       have B5 : Hid (Below w.heap.size w X5) := (B4.out.trans ((((Below.refl _ _).alloc (Nat.le_refl _) _)).mono B4.out.size)).trans (q.mono (Nat.le_trans B4.out.size (by simp)))
       have R5 : Hid (Row X5 b (vB zK) 51) := Row.below (Row.alloc R4.out _) q (Nat.lt_trans R4.out.lt (by simp))
       clear q)
    | (refine wpList_storeL rfl 51 (.tmp 4) (.tmp 19) rfl b (vB dd) (vB zK) 51 rfl rfl R5.out HLL.out HID.out (all_oneCell_toArray (vB_one dd)) ?_; intro X6 q1 q2; have B6 : Hid (Below w.heap.size w X6) := (by rw [q1]; exact below_setCells B5.out N4.out.2 _); have R6 : Hid (Row X6 b (vB dd) 51) := q2; clear q1 q2; simp only [Act.put]))
  exact bodyPost_ret (results_row_tmp Tryz.results15 _ _ b 51 (vB dd) (.int .i64 0) rfl rfl R6.out Tryz.underlying51 info_dg (by rw [vB_length, HDL.out])) rfl ⟨rfl, B6.out⟩

/-- copied: the same entry with a Body of its own. -/
theorem Ev.bset {e : Ev} (h : e.Wf) {w : World} {b : Nat} {v u : Value} {t : TypeId} (r : Row w b ((e.cells v).set 48 u) t) : Row w b (e.cells u) t := by rw [← Ev.set h v u]; exact r
set_option maxRecDepth 100000 in
set_option maxHeartbeats 4000000 in
theorem copied_ok (e : Ev) (hw : e.Wf) (A : Option Addr) (n cap : Nat) (hn : e.d.length = n) (hn2 : n ≤ 1000000) (hnil : A = none → cap = 0) (L : List Value) (hL : L = e.cells (.slice A n cap)) (w : World) (hS : SlAt w (.slice A n cap) e.d) :
    Calls Tryz.prog 42 #[.agg L.toArray] w fun r w' => ∃ A' c', r = .returned (.agg (e.cells (.slice A' n c')).toArray) ∧ Bw w' (.slice A' n c') e.d ∧ (A' = none → c' = 0) ∧ Fresh w.heap.size (.slice A' n c') ∧ Below w.heap.size w w' := by
  have HW : Hid e.Wf := hw
  have HL : Hid (L = e.cells (.slice A n cap)) := hL
  have HNN : Hid (e.d.length = n) := hn
  have HNL : Hid (A = none → cap = 0) := hnil
  have HSZ : Hid (([] : List (BitVec 8)).length + n ≤ 140737488355328) := by show 0 + n ≤ _; omega
  have HS : Hid (∀ X, Below w.heap.size w X → SlAt X (.slice A n cap) e.d) := fun X k => hS.be k
  have c48 : L[48]? = some (.slice A n cap) := by rw [hL]; exact Ev.body hw _
  have HC : Hid (L[48]? = some (.slice A n cap)) := c48
  have HLN : Hid (48 < L.length) := by show _ < _; rw [hL, Ev.len hw]; decide
  clear hw hL hn hn2 hnil hS c48
  go_enter Tryz.func42, Tryz.ntmps42
  go_upto_region 1 with (first
    | (refine wpList_boxG 46 rfl (.tmp 0) rfl L rfl ?_; intro X1 q1 q2 q3; have R1 : Hid (Row X1 w.heap.size L 46) := q1; have B1 : Hid (Below w.heap.size w X1) := q2; clear q1 q2 q3; simp only [Act.put, List.setIfInBounds_toArray, List.set_cons_zero, List.set_cons_succ])
    | (refine wpList_allocE rfl rfl ?_; intro X2 q1 q2; have Z2 : Hid (Row X2 X1.heap.size zE 46) := q1; have B2 : Hid (Below w.heap.size w X2) := B1.out.trans (q2.mono B1.out.size); have R2 : Hid (Row X2 w.heap.size L 46) := Row.below R1.out q2 R1.out.lt; have N2 : Hid (w.heap.size < X1.heap.size) := R1.out.lt; clear q1 q2; simp only [Act.put, List.setIfInBounds_toArray, List.set_cons_zero, List.set_cons_succ]))
  obtain ⟨b, hb⟩ : ∃ b, b = w.heap.size := ⟨_, rfl⟩
  obtain ⟨z, hz⟩ : ∃ b, b = X1.heap.size := ⟨_, rfl⟩
  have NB : Hid (w.heap.size ≤ b ∧ b < z) := by show _ ∧ _; rw [hb, hz]; exact ⟨Nat.le_refl _, N2.out⟩
  rw [← hb] at R2 ⊢
  rw [← hz] at Z2 ⊢
  clear hb hz R1 B1 N2
  have cc := R2.out.cell 48 _ HC.out
  go_upto_region 2 with (first
    | (refine wpList_app rfl (.const (.slice none 0 0)) (.tmp 4) rfl (.slice none 0 0) [] e.d rfl (Bw.nil _) A n cap HNN.out rfl (HS.out X2 B2.out) HNL.out HSZ.out ?_; intro v4 X4 q1 q2 q3; have W4 : Hid (Bw X4 v4 e.d) := q1; have F4 : Hid (Fresh w.heap.size v4) := (fun g eg => by rcases q3 with q | q <;> rw [q] at eg <;> cases eg; exact B2.out.size); have B4 : Hid (Below w.heap.size w X4) := below_gb B2.out q2 (fun g eg => by cases eg); have R4 : Hid (Row X4 b L 46) := row_gb R2.out q2 (by intro h; cases h); have Z4 : Hid (Row X4 z zE 46) := row_gb Z2.out q2 (by intro h; cases h); clear q1 q2 q3; obtain ⟨A5, c5, e5, _, n5⟩ := Bw.form W4.out; rw [HNN.out] at e5; subst e5; have N5 : Hid (A5 = none → c5 = 0) := n5; clear n5; simp only [Act.put, List.setIfInBounds_toArray, List.set_cons_zero, List.set_cons_succ])
    | (refine wpList_set1 rfl 44 (.tmp 6) (.tmp 5) rfl b 48 (.slice A5 n c5) L 46 rfl rfl rfl R4.out HLN.out info_slE rfl ?_; intro X6 q1 q2 q3; have R6 : Hid (Row X6 b (e.cells (.slice A5 n c5)) 46) := Ev.bset HW.out (by rw [HL.out] at q1; exact q1); have B6 : Hid (Below w.heap.size w X6) := B4.out.trans (q2.to_below B4.out.size (fun k ek => by rw [ek]; exact NB.out.1)); have Z6 : Hid (Row X6 z zE 46) := q2.row Z4.out (fun ek => by have := NB.out.2; omega); have W6 : Hid (Bw X6 (.slice A5 n c5) e.d) := Bw.gro W4.out q2 (Bw.ne W4.out R4.out (by decide)); clear q1 q2 q3; simp only [Act.put]))
  obtain ⟨L6, hL6⟩ : ∃ L6, L6 = e.cells (.slice A5 n c5) := ⟨_, rfl⟩
  have H6 : Hid (L6 = e.cells (.slice A5 n c5)) := hL6
  have HI : Hid ((Tryz.prog.info? 46).map (·.size) = some L6.length) := by rw [hL6]; exact Ev.info HW.out _
  have HLL : Hid (L6.length = zE.length) := by show _ = _; rw [hL6, Ev.len HW.out]; rfl
  have HO : Hid (L6.toArray.all (·.oneCell') = true) := by rw [hL6]; exact all_oneCell_toArray (Ev.one e _ _ _)
  rw [← hL6] at R6
  clear hL6 cc R2 Z2 B2 R4 Z4 B4 HL HC HLN HNL HS W4
  go_wp2_with (first
    | (refine wpList_load_w rfl 46 (.tmp 1) rfl b 0 rfl L6 _ R6.out.all Tryz.underlying46 rfl HI.out ?_; simp only [Act.put, List.setIfInBounds_toArray, List.set_cons_zero, List.set_cons_succ])
    | (refine wpList_storeL rfl 46 (.tmp 2) (.tmp 7) rfl z L6 zE 46 rfl rfl Z6.out HLL.out HI.out HO.out ?_; intro X7 q1 q2; have G7 : Hid (Gro (· = z) X6 X7) := (by rw [q1]; exact gro_over (Gro.refl _ _) z 0 L6 rfl); have R7 : Hid (Row X7 z L6 46) := q2; clear q1 q2; simp only [Act.put]))
  refine bodyPost_ret (results_cell_row Tryz.results42 _ _ z 46 L6.toArray (0, 0) _ rfl R7.out Tryz.underlying46 rfl (by simp [HI.out])) rfl ⟨A5, c5, by rw [H6.out], ?_, N5.out, F4.out, B6.out.trans (G7.out.to_below B6.out.size (fun k ek => by rw [ek]; exact Nat.le_of_lt (Nat.lt_of_le_of_lt NB.out.1 NB.out.2)))⟩
  exact Bw.gro W6.out G7.out (Bw.ne W6.out Z6.out (by decide))

end Go.Proofs.YtknabkoddickaaaGreatDoor

namespace Go.Proofs.YtknabkoddickaaaGreatDoor
open Go Go.RowKit
open Sha

theorem rw_len (L : List Value) (kk : List (BitVec 8)) (hL : L.length = 49) (hk : kk.length = 32) : (L ++ vB kk).length = 81 := by rw [List.length_append, vB_length, hL, hk]
theorem rw_one (L : List Value) (kk : List (BitVec 8)) (h : ∀ v ∈ L, v.oneCell' = true) : (L ++ vB kk).toArray.all (·.oneCell') = true := all_oneCell_toArray (by
  intro v hv
  rcases List.mem_append.1 hv with q | q
  · exact h v q
  · exact vB_one _ v q)
theorem zR_one : zR.toArray.all (·.oneCell') = true := by unfold zR; exact rw_one _ _ (ent_one1 _ _ _ _ _ _ _ _ _ _)
theorem zR_len : zR.length = 81 := by decide
/-- A row: the time of its entry, its link. -/
structure Irw (R : List Value) (t0 : Int) (kk : List (BitVec 8)) : Prop where
  len : R.length = 81
  tm : R[21]? = some (.int .i64 t0)
  lk : ∀ j u, (vB kk)[j]? = some u → R[49 + j]? = some u
  kl : kk.length = 32
theorem Irw.zero : Irw zR 0 zK := ⟨by decide, rfl, fun j u h => by
  unfold zR
  rw [List.getElem?_append_right (by rw [show zE.length = 49 by decide]; omega), show zE.length = 49 by decide, Nat.add_sub_cancel_left]
  exact h, rfl⟩
theorem Irw.of {e : Ev} (h : e.Wf) (v : Value) (kk : List (BitVec 8)) (hk : kk.length = 32) : Irw (e.cells v ++ vB kk) e.tm kk :=
  ⟨rw_len _ _ (Ev.len h v) hk, by rw [List.getElem?_append_left (by rw [Ev.len h]; decide)]; exact Ev.time h v, fun j u q => by
    rw [List.getElem?_append_right (by rw [Ev.len h]; omega), Ev.len h, Nat.add_sub_cancel_left]; exact q, hk⟩
theorem Irw.info {R : List Value} {t0 : Int} {kk : List (BitVec 8)} (h : Irw R t0 kk) : (Tryz.prog.info? 84).map (·.size) = some R.length := by rw [h.len]; exact info_row
set_option maxRecDepth 100000 in
set_option maxHeartbeats 4000000 in
theorem rnext_ok (e : Ev) (hw : e.Wf) (hm : e.May) (kk dd : List (BitVec 8)) (hd : dd = dig (kk ++ e.bytes)) (A : Option Addr) (n cap : Nat) (hn : e.d.length = n) (hnil : A = none → cap = 0) (L : List Value) (hL : L = e.cells (.slice A n cap)) (R : List Value) (t0 : Int) (hR : Irw R t0 kk) (ht : ¬ e.tm < t0) (w : World) (hK : Tab w 1) (hS : SlAt w (.slice A n cap) e.d) :
    Calls Tryz.prog 34 #[.agg R.toArray, .agg L.toArray] w fun r w' => r = .returned (.tuple #[.agg (L ++ vB dd).toArray, .int .i64 0]) ∧ Below w.heap.size w w' := by
  obtain ⟨tm, htm⟩ : ∃ t, t = e.tm := ⟨_, rfl⟩
  have ht' : ¬ tm < t0 := by rw [htm]; exact ht
  obtain ⟨dl, hdl⟩ : ∃ x : Nat, x = 32 := ⟨_, rfl⟩
  have HDL : Hid (dd.length = 32) := by rw [hd]; exact dig_length _
  have HKI : Hid ((Tryz.prog.info? 51).map (·.size) = some (vB kk).length) := by show _ = _; rw [vB_length, hR.kl]; exact info_dg
  have HID : Hid ((Tryz.prog.info? 51).map (·.size) = some (vB dd).length) := by show _ = _; rw [vB_length, HDL.out]; exact info_dg
  have HLL : Hid ((vB dd).length = (vB zK).length) := by show _ = _; rw [vB_length, vB_length, HDL.out]; rfl
  have HLN : Hid (L.length = 49) := by rw [hL]; exact Ev.len hw _
  have HI : Hid ((Tryz.prog.info? 46).map (·.size) = some L.length) := by rw [hL]; exact Ev.info hw _
  have HLT : Hid (L[21]? = some (.int .i64 tm)) := by rw [hL, htm]; exact Ev.time hw _
  obtain ⟨R', hR'⟩ : ∃ R', R' = L ++ vB dd := ⟨_, rfl⟩
  have HR' : Hid (R' = L ++ vB dd) := hR'
  have HRL : Hid (R'.length = zR.length) := by show _ = _; rw [hR', rw_len _ _ HLN.out HDL.out]; rfl
  have HRI : Hid ((Tryz.prog.info? 84).map (·.size) = some R'.length) := by show _ = _; rw [HRL.out]; exact info_row
  have HRO : Hid (R'.toArray.all (·.oneCell') = true) := by rw [hR']; exact rw_one _ _ (by rw [hL]; exact Ev.one e _ _ _)
  have HNX : Hid (∀ X, Below w.heap.size w X → Calls Tryz.prog 15 #[.agg (vB kk).toArray, .agg L.toArray] X fun r w' => r = .returned (.tuple #[.agg (vB dd).toArray, .int .i64 0]) ∧ Below X.heap.size X w') := fun X k => inext_ok e hw hm kk dd hR.kl hd A n cap hn hnil L hL X (hK.below k hK.lt) (hS.be k)
  have HR : Hid (Irw R t0 kk) := hR
  rw [← hR']
  clear hd hw hm hn hnil hL hK hS hR hR' ht htm hdl dl
  go_enter Tryz.func34, Tryz.ntmps34
  go_upto_region 1 with (first
    | (refine wpList_boxG 84 rfl (.tmp 0) rfl R rfl ?_; intro X1 q1 q2 q3; have R1 : Hid (Row X1 w.heap.size R 84) := q1; have B1 : Hid (Below w.heap.size w X1) := q2; clear q1 q2 q3; simp only [Act.put, List.setIfInBounds_toArray, List.set_cons_zero, List.set_cons_succ])
    | (refine wpList_boxG 46 rfl (.tmp 1) rfl L rfl ?_; intro X2 q1 q2 q3; have E2 : Hid (Row X2 X1.heap.size L 46) := q1; have B2 : Hid (Below w.heap.size w X2) := B1.out.trans (q2.mono B1.out.size); have R2 : Hid (Row X2 w.heap.size R 84) := Row.below R1.out q2 R1.out.lt; clear q1 q2 q3 R1; simp only [Act.put, List.setIfInBounds_toArray, List.set_cons_zero, List.set_cons_succ])
    | (refine wpList_allocR rfl rfl ?_; intro X3 q1 q2; have Z3 : Hid (Row X3 X2.heap.size zR 84) := q1; have B3 : Hid (Below w.heap.size w X3) := B2.out.trans (q2.mono B2.out.size); have R3 : Hid (Row X3 w.heap.size R 84) := Row.below R2.out q2 R2.out.lt; have E3 : Hid (Row X3 X1.heap.size L 46) := Row.below E2.out q2 E2.out.lt; have N3 : Hid (w.heap.size ≤ X2.heap.size) := B2.out.size; clear q1 q2 R2 E2; simp only [Act.put, List.setIfInBounds_toArray, List.set_cons_zero, List.set_cons_succ]))
  obtain ⟨b, hb⟩ : ∃ b, b = X2.heap.size := ⟨_, rfl⟩
  obtain ⟨be, hbe⟩ : ∃ b, b = X1.heap.size := ⟨_, rfl⟩
  obtain ⟨br, hbr⟩ : ∃ b, b = w.heap.size := ⟨_, rfl⟩
  have N4 : Hid (w.heap.size ≤ b) := by show _ ≤ _; rw [hb]; exact N3.out
  rw [← hb] at Z3 ⊢
  rw [← hbe] at E3 ⊢
  rw [← hbr] at R3 ⊢
  clear hb hbe hbr B1 B2 N3
  have RK : Hid (∀ X, Row X br R 84 → X.rangeAt br 49 (vB kk)) := fun X h => h.range 49 _ (fun j u hj => HR.out.lk j u hj)
  go_upto_region 2 with (first
    | (refine wpList_load_w rfl 51 (.tmp 9) rfl br 49 rfl (vB kk) _ (RK.out _ R3.out) Tryz.underlying51 rfl HKI.out ?_; simp only [Act.put, List.setIfInBounds_toArray, List.set_cons_zero, List.set_cons_succ])
    | (refine wpList_load_w rfl 46 (.tmp 3) rfl be 0 rfl L _ E3.out.all Tryz.underlying46 rfl HI.out ?_; simp only [Act.put, List.setIfInBounds_toArray, List.set_cons_zero, List.set_cons_succ])
    | (go_at_call 15; refine Calls.mono (HNX.out X3 B3.out) ?_; rintro e4 X4 ⟨rfl, q3⟩; have B4 : Hid (Below w.heap.size w X4) := B3.out.trans (q3.mono B3.out.size); have Z4 : Hid (Row X4 b zR 84) := Row.below Z3.out q3 Z3.out.lt; have R4 : Hid (Row X4 br R 84) := Row.below R3.out q3 R3.out.lt; have E4 : Hid (Row X4 be L 46) := Row.below E3.out q3 E3.out.lt; clear q3)
    | (refine wpList_allocD rfl rfl ?_; intro X5 q1 q2; have D5 : Hid (Row X5 X4.heap.size (vB zK) 51) := q1; have B5 : Hid (Below w.heap.size w X5) := B4.out.trans (q2.mono B4.out.size); have Z5 : Hid (Row X5 b zR 84) := Row.below Z4.out q2 Z4.out.lt; have R5 : Hid (Row X5 br R 84) := Row.below R4.out q2 R4.out.lt; have E5 : Hid (Row X5 be L 46) := Row.below E4.out q2 E4.out.lt; clear q1 q2; simp only [Act.put, List.setIfInBounds_toArray, List.set_cons_zero, List.set_cons_succ])
    | (refine wpList_storeL rfl 51 (.tmp 6) (.tmp 13) rfl X4.heap.size (vB dd) (vB zK) 51 rfl rfl D5.out HLL.out HID.out (all_oneCell_toArray (vB_one dd)) ?_; intro X6 q1 q2; have G6 : Hid (Gro (· = X4.heap.size) X5 X6) := (by rw [q1]; exact gro_over (Gro.refl _ _) _ 0 (vB dd) rfl); have D6 : Hid (Row X6 X4.heap.size (vB dd) 51) := q2; clear q1 q2; simp only [Act.put]))
  obtain ⟨bd, hbd⟩ : ∃ b, b = X4.heap.size := ⟨_, rfl⟩
  have B6 : Hid (Below w.heap.size w X6) := B5.out.trans (G6.out.to_below B5.out.size (fun k ek => by rw [ek]; exact B4.out.size))
  have Z6 : Hid (Row X6 b zR 84) := G6.out.row Z5.out (row_apart2 Z5.out D5.out (by decide))
  have R6 : Hid (Row X6 br R 84) := G6.out.row R5.out (row_apart2 R5.out D5.out (by decide))
  have E6 : Hid (Row X6 be L 46) := G6.out.row E5.out (row_apart2 E5.out D5.out (by decide))
  rw [← hbd] at D6 ⊢
  clear hbd D5 B5 Z5 R5 E5 B4 Z4 R4 E4 B3 Z3 R3 E3 G6 HNX HLL
  have c1 := E6.out.cell 21 _ HLT.out
  have c2 := R6.out.cell 21 _ HR.out.tm
  go_wp2_with (first
    | (refine wpList_load_w rfl 46 (.tmp 3) rfl be 0 rfl L _ E6.out.all Tryz.underlying46 rfl HI.out ?_; simp only [Act.put, List.setIfInBounds_toArray, List.set_cons_zero, List.set_cons_succ])
    | (refine wpList_load_w rfl 51 (.tmp 6) rfl bd 0 rfl (vB dd) _ D6.out.all Tryz.underlying51 rfl HID.out ?_; simp only [Act.put, List.setIfInBounds_toArray, List.set_cons_zero, List.set_cons_succ])
    | (refine wpList_buildRw rfl (.tmp 28) (.tmp 29) rfl L dd HLN.out HDL.out rfl rfl R' HR'.out ?_; simp only [Act.put, List.setIfInBounds_toArray, List.set_cons_zero, List.set_cons_succ])
    | (refine wpList_storeL rfl 84 (.tmp 4) (.tmp 30) rfl b R' zR 84 rfl rfl Z6.out HRL.out HRI.out HRO.out ?_; intro X7 q1 q2; have B7 : Hid (Below w.heap.size w X7) := (by rw [q1]; exact below_setCells B6.out N4.out _); have R7 : Hid (Row X7 b R' 84) := q2; clear q1 q2; simp only [Act.put]))
  exact bodyPost_ret (results_rowS_tmp Tryz.results34 _ _ b 84 R' (.int .i64 0) rfl rfl R7.out Tryz.underlying84 HRI.out) rfl ⟨rfl, B7.out⟩

set_option maxRecDepth 100000 in
set_option maxHeartbeats 4000000 in
theorem numbered_ok (e : Ev) (hw : e.Wf) (hm : e.May) (kk dd : List (BitVec 8)) (hd : dd = dig (kk ++ e.bytes)) (A : Option Addr) (n cap : Nat) (hn : e.d.length = n) (hnil : A = none → cap = 0) (L : List Value) (hL : L = e.cells (.slice A n cap)) (R : List Value) (t0 : Int) (hR : Irw R t0 kk) (ht : ¬ e.tm < t0) (N : Nat) (hN : N ≤ 1000000) (w : World) (hK : Tab w 1) (hS : SlAt w (.slice A n cap) e.d) :
    Calls Tryz.prog 41 #[.agg R.toArray, .int .i64 (N : Int), .agg L.toArray] w fun r w' => ∃ A' c', r = .returned (.tuple #[.agg (e.cells (.slice A' n c') ++ vB dd).toArray, .int .i64 0]) ∧ Bw w' (.slice A' n c') e.d ∧ (A' = none → c' = 0) ∧ Fresh w.heap.size (.slice A' n c') ∧ Below w.heap.size w w' := by
  have HDL : Hid (dd.length = 32) := by rw [hd]; exact dig_length _
  have HW : Hid e.Wf := hw
  have HLN : Hid (L.length = 49) := by rw [hL]; exact Ev.len hw _
  have HI : Hid ((Tryz.prog.info? 46).map (·.size) = some L.length) := by rw [hL]; exact Ev.info hw _
  have HIR : Hid ((Tryz.prog.info? 84).map (·.size) = some R.length) := hR.info
  obtain ⟨R', hR'⟩ : ∃ R', R' = L ++ vB dd := ⟨_, rfl⟩
  have HR' : Hid (R' = L ++ vB dd) := hR'
  have HRL : Hid (R'.length = zR.length) := by show _ = _; rw [hR', rw_len _ _ HLN.out HDL.out]; rfl
  have HRI : Hid ((Tryz.prog.info? 84).map (·.size) = some R'.length) := by show _ = _; rw [HRL.out]; exact info_row
  have HRO : Hid (R'.toArray.all (·.oneCell') = true) := by rw [hR']; exact rw_one _ _ (by rw [hL]; exact Ev.one e _ _ _)
  have HNX : Hid (∀ X, Below w.heap.size w X → Calls Tryz.prog 34 #[.agg R.toArray, .agg L.toArray] X fun r w' => r = .returned (.tuple #[.agg R'.toArray, .int .i64 0]) ∧ Below X.heap.size X w') := fun X k => by rw [hR']; exact rnext_ok e hw hm kk dd hd A n cap hn hnil L hL R t0 hR ht X (hK.below k hK.lt) (hS.be k)
  have hd1 : n ≤ 1000000 := by
    rcases hm.2.2 with q | q
    · have := q.2.2.2.2.2.2; omega
    · have := q.2.2.2.2.2; omega
  have HCO : Hid (∀ X, Below w.heap.size w X → Calls Tryz.prog 42 #[.agg L.toArray] X fun r w' => ∃ A' c', r = .returned (.agg (e.cells (.slice A' n c')).toArray) ∧ Bw w' (.slice A' n c') e.d ∧ (A' = none → c' = 0) ∧ Fresh X.heap.size (.slice A' n c') ∧ Below X.heap.size X w') := fun X k => copied_ok e hw A n cap hn hd1 hnil L hL X (hS.be k)
  have hN2 : ¬ ((1099511627776 : Int) ≤ (N : Int)) := by omega
  have hN3 : (N : Int) < (1099511627776 : Int) := by omega
  have hN4 : decide ((1099511627776 : Int) ≤ (N : Int)) = false := decide_eq_false hN2
  clear hd hw hm hn hnil hL hK hS hR hR' ht hN hd1
  go_enter Tryz.func41, Tryz.ntmps41
  go_upto_region 1 with (first
    | (refine wpList_boxG 84 rfl (.tmp 0) rfl R rfl ?_; intro X1 q1 q2 q3; have R1 : Hid (Row X1 w.heap.size R 84) := q1; have B1 : Hid (Below w.heap.size w X1) := q2; clear q1 q2 q3; simp only [Act.put, List.setIfInBounds_toArray, List.set_cons_zero, List.set_cons_succ])
    | (refine wpList_boxG 46 rfl (.tmp 2) rfl L rfl ?_; intro X2 q1 q2 q3; have E2 : Hid (Row X2 X1.heap.size L 46) := q1; have B2 : Hid (Below w.heap.size w X2) := B1.out.trans (q2.mono B1.out.size); have R2 : Hid (Row X2 w.heap.size R 84) := Row.below R1.out q2 R1.out.lt; clear q1 q2 q3 R1; simp only [Act.put, List.setIfInBounds_toArray, List.set_cons_zero, List.set_cons_succ])
    | (refine wpList_allocR rfl rfl ?_; intro X3 q1 q2; have Z3 : Hid (Row X3 X2.heap.size zR 84) := q1; have B3 : Hid (Below w.heap.size w X3) := B2.out.trans (q2.mono B2.out.size); have R3 : Hid (Row X3 w.heap.size R 84) := Row.below R2.out q2 R2.out.lt; have E3 : Hid (Row X3 X1.heap.size L 46) := Row.below E2.out q2 E2.out.lt; have N3 : Hid (w.heap.size ≤ X2.heap.size) := B2.out.size; clear q1 q2 R2 E2; simp only [Act.put, List.setIfInBounds_toArray, List.set_cons_zero, List.set_cons_succ]))
  obtain ⟨b, hb⟩ : ∃ b, b = X2.heap.size := ⟨_, rfl⟩
  obtain ⟨be, hbe⟩ : ∃ b, b = X1.heap.size := ⟨_, rfl⟩
  obtain ⟨br, hbr⟩ : ∃ b, b = w.heap.size := ⟨_, rfl⟩
  have N4 : Hid (w.heap.size ≤ b) := by show _ ≤ _; rw [hb]; exact N3.out
  rw [← hb] at Z3 ⊢
  rw [← hbe] at E3 ⊢
  rw [← hbr] at R3 ⊢
  clear hb hbe hbr B1 B2 N3
  go_upto_region 2 with (first
    | (refine wpList_load_w rfl 84 (.tmp 3) rfl br 0 rfl R _ R3.out.all Tryz.underlying84 rfl HIR.out ?_; simp only [Act.put, List.setIfInBounds_toArray, List.set_cons_zero, List.set_cons_succ])
    | (refine wpList_load_w rfl 46 (.tmp 5) rfl be 0 rfl L _ E3.out.all Tryz.underlying46 rfl HI.out ?_; simp only [Act.put, List.setIfInBounds_toArray, List.set_cons_zero, List.set_cons_succ])
    | (go_at_call 34; refine Calls.mono (HNX.out X3 B3.out) ?_; rintro e4 X4 ⟨rfl, q3⟩; have B4 : Hid (Below w.heap.size w X4) := B3.out.trans (q3.mono B3.out.size); have Z4 : Hid (Row X4 b zR 84) := Row.below Z3.out q3 Z3.out.lt; have E4 : Hid (Row X4 be L 46) := Row.below E3.out q3 E3.out.lt; clear q3)
    | (refine wpList_allocR rfl rfl ?_; intro X5 q1 q2; have D5 : Hid (Row X5 X4.heap.size zR 84) := q1; have B5 : Hid (Below w.heap.size w X5) := B4.out.trans (q2.mono B4.out.size); have Z5 : Hid (Row X5 b zR 84) := Row.below Z4.out q2 Z4.out.lt; have E5 : Hid (Row X5 be L 46) := Row.below E4.out q2 E4.out.lt; have N5 : Hid (b < X4.heap.size) := Z4.out.lt; clear q1 q2; simp only [Act.put, List.setIfInBounds_toArray, List.set_cons_zero, List.set_cons_succ])
    | (refine wpList_storeL rfl 84 (.tmp 8) (.tmp 14) rfl X4.heap.size R' zR 84 rfl rfl D5.out HRL.out HRI.out HRO.out ?_; intro X6 q1 q2; have G6 : Hid (Gro (· = X4.heap.size) X5 X6) := (by rw [q1]; exact gro_over (Gro.refl _ _) _ 0 R' rfl); have D6 : Hid (Row X6 X4.heap.size R' 84) := q2; clear q1 q2; simp only [Act.put]))
  obtain ⟨bd, hbd⟩ : ∃ b, b = X4.heap.size := ⟨_, rfl⟩
  have B6 : Hid (Below w.heap.size w X6) := B5.out.trans (G6.out.to_below B5.out.size (fun k ek => by rw [ek]; exact B4.out.size))
  have Z6 : Hid (Row X6 b zR 84) := G6.out.row Z5.out (fun ek => by have := N5.out; omega)
  have E6 : Hid (Row X6 be L 46) := G6.out.row E5.out (row_apart2 E5.out D5.out (by decide))
  have ND : Hid (b < bd ∧ w.heap.size ≤ bd) := by show _ ∧ _; rw [hbd]; exact ⟨N5.out, B4.out.size⟩
  rw [← hbd] at D6 ⊢
  clear hbd D5 B5 Z5 E5 B4 Z4 E4 B3 Z3 R3 E3 G6 HNX HIR N5
  go_upto_region 7 with (first
    | (refine wpList_load_w rfl 46 (.tmp 5) rfl be 0 rfl L _ E6.out.all Tryz.underlying46 rfl HI.out ?_; simp only [Act.put, List.setIfInBounds_toArray, List.set_cons_zero, List.set_cons_succ])
    | (go_at_call 42; refine Calls.mono (HCO.out X6 B6.out) ?_; rintro e7 X7 ⟨A', c', rfl, q1, q2, q3, q4⟩; have W7 : Hid (Bw X7 (.slice A' n c') e.d) := q1; have V7 : Hid ((A' = none → c' = 0) ∧ Fresh w.heap.size (.slice A' n c')) := ⟨q2, q3.more B6.out.size⟩; have B7 : Hid (Below w.heap.size w X7) := B6.out.trans (q4.mono B6.out.size); have Z7 : Hid (Row X7 b zR 84) := Row.below Z6.out q4 Z6.out.lt; have D7 : Hid (Row X7 bd R' 84) := Row.below D6.out q4 D6.out.lt; clear q1 q2 q3 q4; obtain ⟨L7, hL7⟩ : ∃ L7, L7 = e.cells (.slice A' n c') := ⟨_, rfl⟩; have H7 : Hid (L7 = e.cells (.slice A' n c')) := hL7; have I7 : Hid ((Tryz.prog.info? 46).map (·.size) = some L7.length) := (by rw [hL7]; exact Ev.info HW.out _); have N7 : Hid (L7.length = 49) := (by rw [hL7]; exact Ev.len HW.out _); have O7 : Hid (∀ v ∈ L7, v.oneCell' = true) := (by rw [hL7]; exact Ev.one e _ _ _); rw [← hL7]; clear hL7)
    | (refine wpList_storeM rfl 46 (.tmp 27) (.tmp 26) rfl bd 0 L7 R' 84 rfl rfl D7.out (by rw [HRL.out, N7.out]; decide) I7.out (all_oneCell_toArray O7.out) ?_; intro X8 q1 q2; have D8 : Hid (Row X8 bd (L7 ++ vB dd) 84) := (by rw [HR'.out, List.take_zero, List.nil_append, Nat.zero_add, N7.out, ← HLN.out, List.drop_left] at q1; exact q1); have B8 : Hid (Below w.heap.size w X8) := B7.out.trans (q2.to_below B7.out.size (fun k ek => by rw [ek]; exact ND.out.2)); have Z8 : Hid (Row X8 b zR 84) := q2.row Z7.out (fun ek => by have := ND.out.1; omega); have W8 : Hid (Bw X8 (.slice A' n c') e.d) := Bw.gro W7.out q2 (Bw.ne W7.out D7.out (by decide)); clear q1 q2; simp only [Act.put]))
  obtain ⟨R8, hR8⟩ : ∃ R8, R8 = L7 ++ vB dd := ⟨_, rfl⟩
  have H8 : Hid (R8 = e.cells (.slice A' n c') ++ vB dd) := by show _ = _; rw [hR8, H7.out]
  have L8 : Hid (R8.length = zR.length) := by show _ = _; rw [hR8, rw_len _ _ N7.out HDL.out]; rfl
  have I8 : Hid ((Tryz.prog.info? 84).map (·.size) = some R8.length) := by show _ = _; rw [L8.out]; exact info_row
  have O8 : Hid (R8.toArray.all (·.oneCell') = true) := by rw [hR8]; exact rw_one _ _ O7.out
  rw [← hR8] at D8
  clear hR8 W7 B7 Z7 D7 B6 Z6 E6 D6 HCO HRL HRI HRO HR'
  go_wp2_with (first
    | (refine wpList_load_w rfl 84 (.tmp 8) rfl bd 0 rfl R8 _ D8.out.all Tryz.underlying84 rfl I8.out ?_; simp only [Act.put, List.setIfInBounds_toArray, List.set_cons_zero, List.set_cons_succ])
    | (refine wpList_storeL rfl 84 (.tmp 6) (.tmp 28) rfl b R8 zR 84 rfl rfl Z8.out L8.out I8.out O8.out ?_; intro X9 q1 q2; have G9 : Hid (Gro (· = b) X8 X9) := (by rw [q1]; exact gro_over (Gro.refl _ _) b 0 R8 rfl); have R9 : Hid (Row X9 b R8 84) := q2; clear q1 q2; simp only [Act.put]))
  refine bodyPost_ret (results_rowS_tmp Tryz.results41 _ _ b 84 R8 (.int .i64 0) rfl rfl R9.out Tryz.underlying84 I8.out) rfl ⟨A', c', by rw [H8.out], ?_, V7.out.1, V7.out.2, B8.out.trans (G9.out.to_below B8.out.size (fun k ek => by rw [ek]; exact N4.out))⟩
  exact Bw.gro W8.out G9.out (Bw.ne W8.out Z8.out (by decide))

end Go.Proofs.YtknabkoddickaaaGreatDoor

namespace Go.Proofs.YtknabkoddickaaaGreatDoor
open Go Go.RowKit
open Sha

/-- The link behind an entry. -/
def nx (k : List (BitVec 8)) (e : Ev) : List (BitVec 8) := dig (k ++ e.bytes)
def lkf (k : List (BitVec 8)) (es : List Ev) : List (BitVec 8) := es.foldl nx k
def lk (es : List Ev) (n : Nat) : List (BitVec 8) := lkf zK (es.take n)
def ltm (es : List Ev) : Nat → Int
  | 0 => 0
  | i + 1 => ((es[i]?).map (·.tm)).getD 0
theorem lkf_len (k : List (BitVec 8)) (hk : k.length = 32) : ∀ es : List Ev, (lkf k es).length = 32 := fun es => by
  unfold lkf
  induction es generalizing k with
  | nil => exact hk
  | cons e es ih => exact ih _ (dig_length _)
theorem lkf_app (k : List (BitVec 8)) (es fs : List Ev) : lkf k (es ++ fs) = lkf (lkf k es) fs := List.foldl_append
theorem lk_len (es : List Ev) (n : Nat) : (lk es n).length = 32 := lkf_len _ rfl _
theorem lk_succ (es : List Ev) (i : Nat) (e : Ev) (h : es[i]? = some e) : lk es (i + 1) = nx (lk es i) e := by
  unfold lk
  rw [List.take_add_one, h, lkf_app]
  rfl
theorem lk_app (es fs : List Ev) (n : Nat) (h : n ≤ es.length) : lk (es ++ fs) n = lk es n := by
  unfold lk
  rw [List.take_append_of_le_length h]
/-- A box that was made behind w0: its entries. -/
structure Bx (w0 w : World) (p : Nat) (v : Value) (es : List Ev) : Prop where
  row : Row w p [v] 66
  own : ∃ cs, Lw w 84 81 v es.length cs ∧ ∀ (i : Nat) (e : Ev), es[i]? = some e → ∃ A c, (∀ j u, (e.cells (.slice A e.d.length c) ++ vB (lk es (i + 1)))[j]? = some u → cs[i * 81 + j]? = some u) ∧ Bw w (.slice A e.d.length c) e.d ∧ (A = none → c = 0) ∧ Fresh w0.heap.size (.slice A e.d.length c)
  b0 : w0.heap.size ≤ p
  v0 : ∀ g, v.ownBlock = some g → w0.heap.size ≤ g
  be : Below w0.heap.size w0 w
  ok : ∀ e ∈ es, e.Wf ∧ e.May
theorem Bx.keep {w0 w w' : World} {p : Nat} {v : Value} {es : List Ev} (h : Bx w0 w p v es) (k : Below w.heap.size w w') : Bx w0 w' p v es := by
  obtain ⟨cs, h1, h2⟩ := h.own
  exact ⟨Row.below h.row k h.row.lt, ⟨cs, Lw.be h1 k, fun i e he => by obtain ⟨A, c, q1, q2, q3, q4⟩ := h2 i e he; exact ⟨A, c, q1, Bw.be q2 k, q3, q4⟩⟩, h.b0, h.v0, h.be.trans (k.mono h.be.size), h.ok⟩
theorem Bx.form {w0 w : World} {p : Nat} {v : Value} {es : List Ev} (h : Bx w0 w p v es) : ∃ A cap, v = .slice A es.length cap := by
  obtain ⟨cs, h1, _⟩ := h.own
  obtain ⟨A, cap, e, _⟩ := Lw.form h1
  exact ⟨A, cap, e⟩
theorem Bx.wf {w0 w : World} {p : Nat} {v : Value} {es : List Ev} (h : Bx w0 w p v es) {i : Nat} {e : Ev} (he : es[i]? = some e) : e.Wf ∧ e.May := h.ok e (List.mem_of_getElem? he)
/-- Row i of a box. -/
theorem Bx.at {w0 w : World} {p : Nat} {v : Value} {es : List Ev} (h : Bx w0 w p v es) {i : Nat} {e : Ev} (he : es[i]? = some e) : ∃ g cap A c, v = .slice (some ⟨g, 0, none⟩) es.length cap ∧ w.rangeAt g (i * 81) (e.cells (.slice A e.d.length c) ++ vB (lk es (i + 1))) ∧ Bw w (.slice A e.d.length c) e.d ∧ (A = none → c = 0) := by
  obtain ⟨cs, h1, h2⟩ := h.own
  obtain ⟨A, c, q1, q2, q3, _⟩ := h2 i e he
  obtain ⟨g, cap, hv, _⟩ := Lw.open h1 (by have := (List.getElem?_eq_some_iff.1 he).1; omega)
  subst hv
  exact ⟨g, cap, A, c, rfl, fun j u hj => by have := Lw.range h1 (i * 81 + j) u (q1 j u hj); rwa [Nat.zero_add] at this, q2, q3⟩
section
variable {P : Program} {Q : Exit → Act → World → Prop} {o : Oper} {a : Act} {w : World} {K : Act → World → Prop}
theorem wp_ixI (T e : TypeId) {x y : Operand} (ho : o.op = .indexAddr T x y) (b f n c t s : Nat) (hx : a.eval x = .slice (some ⟨b, f, none⟩) n c) (hy : a.eval y = .int .i64 (t : Int)) (ht : t < n)
    (hu : P.underlying T = some (.slice e)) (hs : (P.info? e).map (·.size) = some s) (h : K (a.put o.dst (.pointer (some ⟨b, f + t * s, none⟩))) w) : Oper.wp P o a w K Q := by
  cases hi : P.info? e with
  | none => simp [hi] at hs
  | some i =>
    have h4 : i.size = s := by simpa [hi] using hs
    have hr : (Instr.indexAt T (.slice (some ⟨b, f, none⟩) n c) (.int .i64 (t : Int))).run P w = .ok (.pointer (some ⟨b, f + t * s, none⟩)) w := by
      simp [Instr.indexAt, run_underlying hu, asIntOf, ht, sizeOf, typeInfo, hi, h4, Addr.add_mid]
    unfold Oper.wp execOp
    simp only [ho, hx, hy, Sem.run_bind, hr, Result.andThen_ok, Sem.run_pure, Oper.upon_value]
    exact h
end
theorem wpList_ixI {P : Program} {ops : Array Oper} {rest : List Oper} {op : Oper} {a : Act} {w : World} {Q : Exit → Act → World → Prop} (T e : TypeId) (x y : Operand) (ho : op.op = .indexAddr T x y) (b f n c t s : Nat) (hx : a.eval x = .slice (some ⟨b, f, none⟩) n c) (hy : a.eval y = .int .i64 (t : Int)) (ht : t < n)
    (hu : P.underlying T = some (.slice e)) (hs : (P.info? e).map (·.size) = some s) (hw : Region.wanted op (yielded ops a.tmps) = true) (h : wpList P ops Q rest (a.put op.dst (.pointer (some ⟨b, f + t * s, none⟩))) w) : wpList P ops Q (op :: rest) a w :=
  BigFrame.wpList_want hw fun _ hK => wp_ixI T e ho b f n c t s hx hy ht hu hs (hK _ _ h)
set_option maxRecDepth 100000 in
set_option maxHeartbeats 4000000 in
theorem bnew_any (w : World) : Calls Tryz.prog 5 #[] w fun e w' => ∃ p, e = .returned (.pointer (some ⟨p, 0, none⟩)) ∧ Bx w w' p (.slice none 0 0) [] := by
  go_enter Tryz.func5, Tryz.ntmps5
  go_wp2_with (refine wpList_boxG 66 rfl (.tmp 1) rfl [.slice none 0 0] rfl ?_; intro X q1 q2 q3; have R1 : Hid (Row X w.heap.size [.slice none 0 0] 66) := q1; have B1 : Hid (Below w.heap.size w X) := q2; clear q1 q2 q3; simp only [Act.put, List.setIfInBounds_toArray, List.set_cons_zero, List.set_cons_succ])
  go_ret
  exact ⟨_, rfl, R1.out, ⟨[], Lw.nil _ _ _, fun i d h => by simp at h⟩, Nat.le_refl _, (fun g e => by cases e), B1.out, (fun e h => by cases h)⟩
set_option maxRecDepth 100000 in
set_option maxHeartbeats 4000000 in
theorem last_zero (p : Value) (w : World) : Calls Tryz.prog 40 #[p, .int .i64 0] w fun r w' => r = .returned (.agg zR.toArray) ∧ Below w.heap.size w w' := by
  obtain ⟨R, hR⟩ : ∃ R, R = zR := ⟨_, rfl⟩
  have HR : Hid (R = zR) := hR
  have HI : Hid ((Tryz.prog.info? 84).map (·.size) = some R.length) := by rw [hR]; exact info_row
  have HL : Hid (R.length = R.length) := rfl
  have HO : Hid (R.toArray.all (·.oneCell') = true) := by rw [hR]; exact zR_one
  rw [← hR]
  clear hR
  go_enter Tryz.func40, Tryz.ntmps40
  go_wp2_with (first
    | (refine wpList_allocR rfl rfl ?_; intro X3 q1 q2; have Z3 : Hid (Row X3 w.heap.size R 84) := (by rw [HR.out]; exact q1); have B3 : Hid (Below w.heap.size w X3) := q2; clear q1 q2; simp only [Act.put, List.setIfInBounds_toArray, List.set_cons_zero, List.set_cons_succ])
    | (refine wpList_buildR0 rfl rfl R HR.out ?_; simp only [Act.put, List.setIfInBounds_toArray, List.set_cons_zero, List.set_cons_succ])
    | (refine wpList_storeL rfl 84 (.tmp 4) (.tmp 7) rfl w.heap.size R R 84 rfl rfl Z3.out HL.out HI.out HO.out ?_; intro X9 q1 q2; have B9 : Hid (Below w.heap.size w X9) := (by rw [q1]; exact below_setCells B3.out (Nat.le_refl _) _); have R9 : Hid (Row X9 w.heap.size R 84) := q2; clear q1 q2; simp only [Act.put]))
  exact bodyPost_ret (results_cell_row Tryz.results40 _ _ w.heap.size 84 R.toArray (0, 0) _ rfl R9.out Tryz.underlying84 rfl (by simp [HI.out])) rfl ⟨rfl, B9.out⟩
set_option maxRecDepth 100000 in
set_option maxHeartbeats 4000000 in
theorem last_some (p g N cap i : Nat) (hi : i < N) (hN : N ≤ 1000000) (R : List Value) (hR : R.length = 81) (ho : ∀ v ∈ R, v.oneCell' = true) (w : World) (hp : w.cell? ⟨p, 0, none⟩ = some (.slice (some ⟨g, 0, none⟩) N cap)) (hr : w.rangeAt g (i * 81) R) :
    Calls Tryz.prog 40 #[.pointer (some ⟨p, 0, none⟩), .int .i64 ((i + 1 : Nat) : Int)] w fun r w' => r = .returned (.agg R.toArray) ∧ Below w.heap.size w w' := by
  have HI : Hid ((Tryz.prog.info? 84).map (·.size) = some R.length) := by rw [hR]; exact info_row
  have HL : Hid (R.length = zR.length) := by rw [hR]; exact rfl
  have HO : Hid (R.toArray.all (·.oneCell') = true) := all_oneCell_toArray ho
  have HC : Hid (∀ X, Below w.heap.size w X → X.cell? ⟨p, 0, none⟩ = some (.slice (some ⟨g, 0, none⟩) N cap)) := fun X k => cell_be hp k
  have HR : Hid (∀ X, Below w.heap.size w X → X.rangeAt g (0 + i * 81) R) := fun X k => by rw [Nat.zero_add]; exact range_be hr k
  have HIN : Hid (i < N) := hi
  obtain ⟨I, hI⟩ : ∃ I : Int, I = ((i + 1 : Nat) : Int) := ⟨_, rfl⟩
  have h0 : ¬ I = 0 := by omega
  have h1 : I - 1 = (i : Int) := by omega
  have h2 : I ≤ 1000001 := by omega
  have h3 : 0 ≤ I := by omega
  rw [← hI]
  clear hI hR ho hp hr hi hN
  go_enter Tryz.func40, Tryz.ntmps40
  go_upto_region 1 with (refine wpList_allocR rfl rfl ?_; intro X3 q1 q2; have Z3 : Hid (Row X3 w.heap.size zR 84) := q1; have B3 : Hid (Below w.heap.size w X3) := q2; clear q1 q2; simp only [Act.put, List.setIfInBounds_toArray, List.set_cons_zero, List.set_cons_succ])
  have c0 := HC.out X3 B3.out
  obtain ⟨b, hb⟩ : ∃ b, b = w.heap.size := ⟨_, rfl⟩
  have NB : Hid (w.heap.size ≤ b) := by rw [hb]; exact Nat.le_refl _
  rw [← hb] at Z3 ⊢
  clear hb
  go_wp2_with (first
    | (refine wpList_ixI 64 84 (.tmp 11) (.tmp 13) rfl g 0 N cap i 81 rfl rfl HIN.out Tryz.underlying64 info_row rfl ?_; simp only [Act.put, List.setIfInBounds_toArray, List.set_cons_zero, List.set_cons_succ])
    | (refine wpList_load_w rfl 84 (.tmp 14) rfl g (0 + i * 81) rfl R _ (HR.out X3 B3.out) Tryz.underlying84 rfl HI.out ?_; simp only [Act.put, List.setIfInBounds_toArray, List.set_cons_zero, List.set_cons_succ])
    | (refine wpList_storeL rfl 84 (.tmp 4) (.tmp 15) rfl b R zR 84 rfl rfl Z3.out HL.out HI.out HO.out ?_; intro X9 q1 q2; have B9 : Hid (Below w.heap.size w X9) := (by rw [q1]; exact below_setCells B3.out NB.out _); have R9 : Hid (Row X9 b R 84) := q2; clear q1 q2; simp only [Act.put]))
  exact bodyPost_ret (results_cell_row Tryz.results40 _ _ b 84 R.toArray (0, 0) _ rfl R9.out Tryz.underlying84 rfl (by simp [HI.out])) rfl ⟨rfl, B9.out⟩
/-- The row of the last one among the first i. -/
theorem last_any {w0 w : World} {p : Nat} {v : Value} {es : List Ev} (h : Bx w0 w p v es) (i : Nat) (hi : i ≤ es.length) (hn : es.length ≤ 1000000) :
    ∃ R, Irw R (ltm es i) (lk es i) ∧ (∀ u ∈ R, u.oneCell' = true) ∧ ∀ X, Below w.heap.size w X → Calls Tryz.prog 40 #[.pointer (some ⟨p, 0, none⟩), .int .i64 (i : Int)] X fun r w' => r = .returned (.agg R.toArray) ∧ Below X.heap.size X w' := by
  cases i with
  | zero => exact ⟨zR, Irw.zero, (fun u hu => by
      rcases List.mem_append.1 hu with q | q
      · exact ent_one1 _ _ _ _ _ _ _ _ _ _ u q
      · exact vB_one _ u q), fun X _ => last_zero _ X⟩
  | succ i =>
    obtain ⟨e, he⟩ : ∃ e, es[i]? = some e := ⟨_, List.getElem?_eq_getElem (by omega)⟩
    obtain ⟨g, cap, A, c, hv, hr, hb, hnil⟩ := h.at he
    have hw := (h.wf he).1
    have hone : ∀ u ∈ e.cells (.slice A e.d.length c) ++ vB (lk es (i + 1)), u.oneCell' = true := fun u hu => by
      rcases List.mem_append.1 hu with q | q
      · exact Ev.one e _ _ _ u q
      · exact vB_one _ u q
    refine ⟨e.cells (.slice A e.d.length c) ++ vB (lk es (i + 1)), ?_, hone, fun X k => ?_⟩
    · have := Irw.of hw (.slice A e.d.length c) (lk es (i + 1)) (lk_len _ _)
      have et : ltm es (i + 1) = e.tm := by simp [ltm, he]
      rw [et]; exact this
    · exact last_some p g es.length cap i (by omega) hn _ (rw_len _ _ (Ev.len hw _) (lk_len _ _)) hone X (by rw [← hv]; exact cell_be (h.row.cell 0 _ rfl) k) (range_be hr k)
set_option maxRecDepth 100000 in
set_option maxHeartbeats 4000000 in
theorem blen_any {w0 w : World} {p : Nat} {v : Value} {es : List Ev} (h : Bx w0 w p v es) : Calls Tryz.prog 22 #[.pointer (some ⟨p, 0, none⟩)] w fun r w' => r = .returned (.int .i64 (es.length : Int)) ∧ w' = w := by
  obtain ⟨A, cap, hv⟩ := h.form
  have c0 := h.row.cell 0 _ rfl
  obtain ⟨N, hN⟩ : ∃ N, N = es.length := ⟨_, rfl⟩
  rw [hv, ← hN] at c0
  rw [← hN]
  clear h hv hN
  go_enter Tryz.func22, Tryz.ntmps22
  go_wp2
  go_ret
  exact ⟨rfl, rfl⟩

end Go.Proofs.YtknabkoddickaaaGreatDoor
