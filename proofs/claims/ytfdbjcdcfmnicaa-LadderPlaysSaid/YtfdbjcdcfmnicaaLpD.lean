/-
  LadderPlays: the document's Confirm.
-/
import Derived.Test.YtfdbjcdcfmnicaaLpC
namespace Go.Proofs.Ytfdbjcdcfmnicaa
open Go Go.RowKit
open Sha

set_option maxRecDepth 100000 in
set_option maxHeartbeats 16000000 in
theorem rconfirm_any {w : World} {v : Value} {B : Int} {st : La} (h : Rf w v B st) (now : Int) (L : List Value) (hL : L = st.dc v) (st' : La) (y : Pn) (E : Int) (hr : st.confirm now = (st', y, E)) : Calls Try.prog 57 #[.agg L.toArray, .int .i64 now] w fun e w' => ∃ v', e = .returned (.tuple #[.agg (st'.dc v').toArray, .agg y.cells.toArray, .int .i64 E]) ∧ Rf w' v' B st' ∧ Nv w v v' ∧ Below w.heap.size w w' := by
  have HI : Hid ((Try.prog.info? tRL).map (·.size) = some L.length) := by show _ = _; rw [hL]; exact La.dinfo h.ok.cf v
  have HRF : Hid (Rf w v B st) := h
  have HLL : Hid (L = st.dc v) := hL
  obtain ⟨A, cap, hv, hcap, hp⟩ := h.form
  have HLN0 : Hid (L.length = zRL.length) := by show _ = _; rw [hL, La.dlen h.ok.cf, zRL_len]
  have HO0 : Hid (L.toArray.all (·.oneCell') = true) := by show _ = _; rw [hL, hv]; exact all_one (La.done _ _ _ _)
  obtain ⟨Z, hZ⟩ : ∃ Z, Z = zP.cells := ⟨_, rfl⟩
  have HZ : Hid (Z = zP.cells) := hZ
  have HB0 : Hid (Try.prog.built tP [] = some Z.toArray) := by show _ = _; rw [hZ]; exact built_p0
  have HIZ : Hid ((Try.prog.info? tP).map (·.size) = some Z.length) := by show _ = _; rw [hZ]; exact Pn.info zP_wf
  have HOZ : Hid (Z.toArray.all (·.oneCell') = true) := by show _ = _; rw [hZ]; exact all_one (Pn.one zP)
  obtain ⟨la, hla⟩ : ∃ z, z = st.last := ⟨_, rfl⟩
  have HCL : Hid (∀ X, Row X w.heap.size L tRL → X.cell? ⟨w.heap.size, 69, none⟩ = some (.int .i64 la)) := fun X r => by rw [hL] at r; rw [hla]; exact (h.row r).2.2.2.1
  obtain ⟨n, hn⟩ : ∃ n, n = st.pend.length := ⟨_, rfl⟩
  rw [← hn] at hv hcap
  have HC : Hid (∀ X, Row X w.heap.size L tRL → X.cell? ⟨w.heap.size, 66, none⟩ = some (.slice A n cap)) := fun X r => by rw [hL] at r; have := (h.row r).1; rwa [hv] at this
  unfold La.confirm at hr
  rw [← hla] at hr
  by_cases h1 : now < 0
  · rw [if_pos (by rw [tmB, decide_eq_false (by omega), Bool.false_and, Bool.false_and])] at hr
    obtain ⟨rfl, k2⟩ := Prod.mk.inj hr
    obtain ⟨rfl, rfl⟩ := Prod.mk.inj k2
    clear h hL hv hcap hp hr hZ hla hn k2
    go_enter Try.func57, Try.ntmps57
    go_wp2_with (first
      | (refine wpList_bxG tRL rfl (.tmp 0) rfl L rfl ?_; intro X1 q1 q2 q3; clear q3; have R1 : Hid (Row X1 w.heap.size L tRL) := q1; have BX1 : Hid (Below w.heap.size w X1) := q2; clear q1 q2; simp only [Act.put, List.setIfInBounds_toArray, List.set_cons_zero, List.set_cons_succ])
      | (refine wpList_alRL rfl rfl ?_; intro X2 q1 q2 q3; clear q3; have RX2 : Hid (Row X2 X1.heap.size zRL tRL) := q1; have BX2 : Hid (Below w.heap.size w X2) := BX1.out.trans (q2.mono BX1.out.size); have R12 : Hid (Row X2 w.heap.size L tRL) := Row.below R1.out q2 R1.out.lt; clear q1 q2; simp only [Act.put, List.setIfInBounds_toArray, List.set_cons_zero, List.set_cons_succ])
      | (refine wpList_alP rfl rfl ?_; intro X3 q1 q2 q3; clear q3; have RX3 : Hid (Row X3 X2.heap.size zP.cells tP) := q1; have BX3 : Hid (Below w.heap.size w X3) := BX2.out.trans (q2.mono BX2.out.size); rw [← HZ.out] at q1; have R33 : Hid (Row X3 X2.heap.size Z tP) := q1; have R13 : Hid (Row X3 w.heap.size L tRL) := Row.below R12.out q2 R12.out.lt; have R23 : Hid (Row X3 X1.heap.size zRL tRL) := Row.below RX2.out q2 RX2.out.lt; have c66 := HC.out X3 R13.out; have c69 := HCL.out X3 R13.out; rw [HZ.out] at q1; clear q1 q2; simp only [Act.put, List.setIfInBounds_toArray, List.set_cons_zero, List.set_cons_succ])
      | (refine wpList_ldS rfl tRL (.tmp 2) rfl w.heap.size 0 rfl L _ R13.out.all Try.underlying44 rfl HI.out ?_; simp only [Act.put, List.setIfInBounds_toArray, List.set_cons_zero, List.set_cons_succ])
      | (refine wpList_blt rfl tP _ rfl [] rfl Z HB0.out ?_; simp only [Act.put, List.setIfInBounds_toArray, List.set_cons_zero, List.set_cons_succ])
      | (refine wpList_stL rfl tRL (.tmp 4) (.tmp 20) rfl X1.heap.size L zRL tRL rfl rfl R23.out HLN0.out HI.out HO0.out ?_; intro Y4 q1 q2; have S2 : Hid (Row Y4 X1.heap.size L tRL) := q1; have D4 : Hid (Below w.heap.size w Y4) := gro_newL BX3.out BX1.out.size q2; have S3 : Hid (Row Y4 X2.heap.size Z tP) := q2.row R33.out (fun e => by { have := RX2.out.lt; omega }); clear q1 q2; simp only [Act.put])
      | (refine wpList_stL rfl tP (.tmp 5) (.tmp 21) rfl X2.heap.size Z Z tP rfl rfl S3.out rfl HIZ.out HOZ.out ?_; intro Y5 q1 q2; have T3 : Hid (Row Y5 X2.heap.size Z tP) := q1; have D5 : Hid (Below w.heap.size w Y5) := gro_newL D4.out BX2.out.size q2; have T2 : Hid (Row Y5 X1.heap.size L tRL) := q2.row S2.out (fun e => by { have := RX2.out.lt; omega }); clear q1 q2))
    exact bodyPost_ret (results_rSSt Try.results57 _ _ X1.heap.size X2.heap.size tRL tP L Z (.int .i64 168) rfl rfl rfl T2.out T3.out Try.underlying44 Try.underlying66 HI.out HIZ.out) rfl ⟨v, by rw [HLL.out, HZ.out], HRF.out.be D5.out, .inl rfl, D5.out⟩
  by_cases h2 : 4611686018427387904 < now
  · rw [if_pos (by rw [tmB, decide_eq_false (show ¬ now ≤ 4611686018427387904 by omega), Bool.and_false, Bool.false_and])] at hr
    obtain ⟨rfl, k2⟩ := Prod.mk.inj hr
    obtain ⟨rfl, rfl⟩ := Prod.mk.inj k2
    clear h hL hv hcap hp hr hZ hla hn k2
    go_enter Try.func57, Try.ntmps57
    go_wp2_with (first
      | (refine wpList_bxG tRL rfl (.tmp 0) rfl L rfl ?_; intro X1 q1 q2 q3; clear q3; have R1 : Hid (Row X1 w.heap.size L tRL) := q1; have BX1 : Hid (Below w.heap.size w X1) := q2; clear q1 q2; simp only [Act.put, List.setIfInBounds_toArray, List.set_cons_zero, List.set_cons_succ])
      | (refine wpList_alRL rfl rfl ?_; intro X2 q1 q2 q3; clear q3; have RX2 : Hid (Row X2 X1.heap.size zRL tRL) := q1; have BX2 : Hid (Below w.heap.size w X2) := BX1.out.trans (q2.mono BX1.out.size); have R12 : Hid (Row X2 w.heap.size L tRL) := Row.below R1.out q2 R1.out.lt; clear q1 q2; simp only [Act.put, List.setIfInBounds_toArray, List.set_cons_zero, List.set_cons_succ])
      | (refine wpList_alP rfl rfl ?_; intro X3 q1 q2 q3; clear q3; have RX3 : Hid (Row X3 X2.heap.size zP.cells tP) := q1; have BX3 : Hid (Below w.heap.size w X3) := BX2.out.trans (q2.mono BX2.out.size); rw [← HZ.out] at q1; have R33 : Hid (Row X3 X2.heap.size Z tP) := q1; have R13 : Hid (Row X3 w.heap.size L tRL) := Row.below R12.out q2 R12.out.lt; have R23 : Hid (Row X3 X1.heap.size zRL tRL) := Row.below RX2.out q2 RX2.out.lt; have c66 := HC.out X3 R13.out; have c69 := HCL.out X3 R13.out; rw [HZ.out] at q1; clear q1 q2; simp only [Act.put, List.setIfInBounds_toArray, List.set_cons_zero, List.set_cons_succ])
      | (refine wpList_ldS rfl tRL (.tmp 2) rfl w.heap.size 0 rfl L _ R13.out.all Try.underlying44 rfl HI.out ?_; simp only [Act.put, List.setIfInBounds_toArray, List.set_cons_zero, List.set_cons_succ])
      | (refine wpList_blt rfl tP _ rfl [] rfl Z HB0.out ?_; simp only [Act.put, List.setIfInBounds_toArray, List.set_cons_zero, List.set_cons_succ])
      | (refine wpList_stL rfl tRL (.tmp 4) (.tmp 20) rfl X1.heap.size L zRL tRL rfl rfl R23.out HLN0.out HI.out HO0.out ?_; intro Y4 q1 q2; have S2 : Hid (Row Y4 X1.heap.size L tRL) := q1; have D4 : Hid (Below w.heap.size w Y4) := gro_newL BX3.out BX1.out.size q2; have S3 : Hid (Row Y4 X2.heap.size Z tP) := q2.row R33.out (fun e => by { have := RX2.out.lt; omega }); clear q1 q2; simp only [Act.put])
      | (refine wpList_stL rfl tP (.tmp 5) (.tmp 21) rfl X2.heap.size Z Z tP rfl rfl S3.out rfl HIZ.out HOZ.out ?_; intro Y5 q1 q2; have T3 : Hid (Row Y5 X2.heap.size Z tP) := q1; have D5 : Hid (Below w.heap.size w Y5) := gro_newL D4.out BX2.out.size q2; have T2 : Hid (Row Y5 X1.heap.size L tRL) := q2.row S2.out (fun e => by { have := RX2.out.lt; omega }); clear q1 q2))
    exact bodyPost_ret (results_rSSt Try.results57 _ _ X1.heap.size X2.heap.size tRL tP L Z (.int .i64 168) rfl rfl rfl T2.out T3.out Try.underlying44 Try.underlying66 HI.out HIZ.out) rfl ⟨v, by rw [HLL.out, HZ.out], HRF.out.be D5.out, .inl rfl, D5.out⟩
  by_cases h3 : now < la
  · rw [if_pos (by rw [decide_eq_false (show ¬ la ≤ now by omega), Bool.and_false])] at hr
    obtain ⟨rfl, k2⟩ := Prod.mk.inj hr
    obtain ⟨rfl, rfl⟩ := Prod.mk.inj k2
    clear h hL hv hcap hp hr hZ hla hn k2
    go_enter Try.func57, Try.ntmps57
    go_wp2_with (first
      | (refine wpList_bxG tRL rfl (.tmp 0) rfl L rfl ?_; intro X1 q1 q2 q3; clear q3; have R1 : Hid (Row X1 w.heap.size L tRL) := q1; have BX1 : Hid (Below w.heap.size w X1) := q2; clear q1 q2; simp only [Act.put, List.setIfInBounds_toArray, List.set_cons_zero, List.set_cons_succ])
      | (refine wpList_alRL rfl rfl ?_; intro X2 q1 q2 q3; clear q3; have RX2 : Hid (Row X2 X1.heap.size zRL tRL) := q1; have BX2 : Hid (Below w.heap.size w X2) := BX1.out.trans (q2.mono BX1.out.size); have R12 : Hid (Row X2 w.heap.size L tRL) := Row.below R1.out q2 R1.out.lt; clear q1 q2; simp only [Act.put, List.setIfInBounds_toArray, List.set_cons_zero, List.set_cons_succ])
      | (refine wpList_alP rfl rfl ?_; intro X3 q1 q2 q3; clear q3; have RX3 : Hid (Row X3 X2.heap.size zP.cells tP) := q1; have BX3 : Hid (Below w.heap.size w X3) := BX2.out.trans (q2.mono BX2.out.size); rw [← HZ.out] at q1; have R33 : Hid (Row X3 X2.heap.size Z tP) := q1; have R13 : Hid (Row X3 w.heap.size L tRL) := Row.below R12.out q2 R12.out.lt; have R23 : Hid (Row X3 X1.heap.size zRL tRL) := Row.below RX2.out q2 RX2.out.lt; have c66 := HC.out X3 R13.out; have c69 := HCL.out X3 R13.out; rw [HZ.out] at q1; clear q1 q2; simp only [Act.put, List.setIfInBounds_toArray, List.set_cons_zero, List.set_cons_succ])
      | (refine wpList_ldS rfl tRL (.tmp 2) rfl w.heap.size 0 rfl L _ R13.out.all Try.underlying44 rfl HI.out ?_; simp only [Act.put, List.setIfInBounds_toArray, List.set_cons_zero, List.set_cons_succ])
      | (refine wpList_blt rfl tP _ rfl [] rfl Z HB0.out ?_; simp only [Act.put, List.setIfInBounds_toArray, List.set_cons_zero, List.set_cons_succ])
      | (refine wpList_stL rfl tRL (.tmp 4) (.tmp 20) rfl X1.heap.size L zRL tRL rfl rfl R23.out HLN0.out HI.out HO0.out ?_; intro Y4 q1 q2; have S2 : Hid (Row Y4 X1.heap.size L tRL) := q1; have D4 : Hid (Below w.heap.size w Y4) := gro_newL BX3.out BX1.out.size q2; have S3 : Hid (Row Y4 X2.heap.size Z tP) := q2.row R33.out (fun e => by { have := RX2.out.lt; omega }); clear q1 q2; simp only [Act.put])
      | (refine wpList_stL rfl tP (.tmp 5) (.tmp 21) rfl X2.heap.size Z Z tP rfl rfl S3.out rfl HIZ.out HOZ.out ?_; intro Y5 q1 q2; have T3 : Hid (Row Y5 X2.heap.size Z tP) := q1; have D5 : Hid (Below w.heap.size w Y5) := gro_newL D4.out BX2.out.size q2; have T2 : Hid (Row Y5 X1.heap.size L tRL) := q2.row S2.out (fun e => by { have := RX2.out.lt; omega }); clear q1 q2))
    exact bodyPost_ret (results_rSSt Try.results57 _ _ X1.heap.size X2.heap.size tRL tP L Z (.int .i64 168) rfl rfl rfl T2.out T3.out Try.underlying44 Try.underlying66 HI.out HIZ.out) rfl ⟨v, by rw [HLL.out, HZ.out], HRF.out.be D5.out, .inl rfl, D5.out⟩
  rw [if_neg (by rw [tmB, decide_eq_true (show 0 ≤ now by omega), decide_eq_true (show now ≤ 4611686018427387904 by omega), decide_eq_true (show la ≤ now by omega)]; decide)] at hr
  cases hpd : st.pend with
  | nil =>
    rw [hpd] at hr hn
    obtain ⟨rfl, k2⟩ := Prod.mk.inj hr
    obtain ⟨rfl, rfl⟩ := Prod.mk.inj k2
    obtain rfl : n = 0 := hn
    clear h hL hv hcap hp hr hZ hla k2 hpd
    go_enter Try.func57, Try.ntmps57
    go_wp2_with (first
      | (refine wpList_bxG tRL rfl (.tmp 0) rfl L rfl ?_; intro X1 q1 q2 q3; clear q3; have R1 : Hid (Row X1 w.heap.size L tRL) := q1; have BX1 : Hid (Below w.heap.size w X1) := q2; clear q1 q2; simp only [Act.put, List.setIfInBounds_toArray, List.set_cons_zero, List.set_cons_succ])
      | (refine wpList_alRL rfl rfl ?_; intro X2 q1 q2 q3; clear q3; have RX2 : Hid (Row X2 X1.heap.size zRL tRL) := q1; have BX2 : Hid (Below w.heap.size w X2) := BX1.out.trans (q2.mono BX1.out.size); have R12 : Hid (Row X2 w.heap.size L tRL) := Row.below R1.out q2 R1.out.lt; clear q1 q2; simp only [Act.put, List.setIfInBounds_toArray, List.set_cons_zero, List.set_cons_succ])
      | (refine wpList_alP rfl rfl ?_; intro X3 q1 q2 q3; clear q3; have RX3 : Hid (Row X3 X2.heap.size zP.cells tP) := q1; have BX3 : Hid (Below w.heap.size w X3) := BX2.out.trans (q2.mono BX2.out.size); rw [← HZ.out] at q1; have R33 : Hid (Row X3 X2.heap.size Z tP) := q1; have R13 : Hid (Row X3 w.heap.size L tRL) := Row.below R12.out q2 R12.out.lt; have R23 : Hid (Row X3 X1.heap.size zRL tRL) := Row.below RX2.out q2 RX2.out.lt; have c66 := HC.out X3 R13.out; have c69 := HCL.out X3 R13.out; rw [HZ.out] at q1; clear q1 q2; simp only [Act.put, List.setIfInBounds_toArray, List.set_cons_zero, List.set_cons_succ])
      | (refine wpList_ldS rfl tRL (.tmp 2) rfl w.heap.size 0 rfl L _ R13.out.all Try.underlying44 rfl HI.out ?_; simp only [Act.put, List.setIfInBounds_toArray, List.set_cons_zero, List.set_cons_succ])
      | (refine wpList_blt rfl tP _ rfl [] rfl Z HB0.out ?_; simp only [Act.put, List.setIfInBounds_toArray, List.set_cons_zero, List.set_cons_succ])
      | (refine wpList_stL rfl tRL (.tmp 4) (.tmp 26) rfl X1.heap.size L zRL tRL rfl rfl R23.out HLN0.out HI.out HO0.out ?_; intro Y4 q1 q2; have S2 : Hid (Row Y4 X1.heap.size L tRL) := q1; have D4 : Hid (Below w.heap.size w Y4) := gro_newL BX3.out BX1.out.size q2; have S3 : Hid (Row Y4 X2.heap.size Z tP) := q2.row R33.out (fun e => by { have := RX2.out.lt; omega }); clear q1 q2; simp only [Act.put])
      | (refine wpList_stL rfl tP (.tmp 5) (.tmp 27) rfl X2.heap.size Z Z tP rfl rfl S3.out rfl HIZ.out HOZ.out ?_; intro Y5 q1 q2; have T3 : Hid (Row Y5 X2.heap.size Z tP) := q1; have D5 : Hid (Below w.heap.size w Y5) := gro_newL D4.out BX2.out.size q2; have T2 : Hid (Row Y5 X1.heap.size L tRL) := q2.row S2.out (fun e => by { have := RX2.out.lt; omega }); clear q1 q2))
    exact bodyPost_ret (results_rSSt Try.results57 _ _ X1.heap.size X2.heap.size tRL tP L Z (.int .i64 164) rfl rfl rfl T2.out T3.out Try.underlying44 Try.underlying66 HI.out HIZ.out) rfl ⟨v, by rw [HLL.out, HZ.out], HRF.out.be D5.out, .inl rfl, D5.out⟩
  | cons x rest =>
    rw [hpd] at hr
    have hx0 : st.pend[0]? = some x := by rw [hpd]; rfl
    have hxm := List.mem_of_getElem? hx0
    obtain ⟨g, o, cap', hv', _, hrg⟩ := h.at hx0
    obtain ⟨rfl, rfl⟩ : A = some (⟨g, o, none⟩ : Addr) ∧ cap = cap' := by rw [hv, ← hn] at hv'; simp at hv'; exact ⟨hv'.1, hv'.2⟩
    have hnr : n = rest.length + 1 := by rw [hn, hpd]; rfl
    have HJ : Hid (0 < n) := by show _ < _; omega
    have HXW : Hid x.Wf := h.ok.pw x hxm
    obtain ⟨Lx, hLx⟩ : ∃ M, M = x.cells := ⟨_, rfl⟩
    have HLX : Hid (Lx = x.cells) := hLx
    have HR : Hid (∀ X, Below w.heap.size w X → X.rangeAt g (o + 0 * 90) Lx) := fun X kx => by rw [hLx]; exact range_be hrg kx
    have HIX : Hid ((Try.prog.info? tP).map (·.size) = some Lx.length) := by show _ = _; rw [hLx]; exact Pn.info HXW.out
    have HLN : Hid (Lx.length = zP.cells.length) := by show _ = _; rw [hLx]; exact (Pn.len HXW.out).trans (Pn.len zP_wf).symm
    have HOX : Hid (Lx.toArray.all (·.oneCell') = true) := by show _ = _; rw [hLx]; exact all_one (Pn.one x)
    have hn0 : ¬ ((n : Int) = 0) := by omega
    obtain ⟨du, hdu⟩ : ∃ z, z = x.du := ⟨_, rfl⟩
    obtain ⟨dl, hdl⟩ : ∃ z, z = x.dl := ⟨_, rfl⟩
    have HDU : Hid (Lx[89]? = some (.int .i64 du)) := by rw [hLx, hdu]; exact Pn.at_du HXW.out
    have HDL : Hid (Lx[88]? = some (.int .i64 dl)) := by rw [hLx, hdl]; exact Pn.at_dl HXW.out
    replace hr : (if 0 < x.du then (st, zP, (166 : Int)) else if now < x.dl then (st, zP, 165) else ({ st with last := now, conf := x.c, pend := rest }, x, 0)) = (st', y, E) := hr
    rw [← hdu, ← hdl] at hr
    by_cases h4 : 0 < du
    · rw [if_pos h4] at hr
      obtain ⟨rfl, k2⟩ := Prod.mk.inj hr
      obtain ⟨rfl, rfl⟩ := Prod.mk.inj k2
      clear h hL hv hcap hp hZ hla hn hpd hx0 hxm hv' hrg hnr hLx hdu hdl k2 hr
      go_enter Try.func57, Try.ntmps57
      go_wp2_with (first
        | (refine wpList_bxG tRL rfl (.tmp 0) rfl L rfl ?_; intro X1 q1 q2 q3; clear q3; have R1 : Hid (Row X1 w.heap.size L tRL) := q1; have BX1 : Hid (Below w.heap.size w X1) := q2; clear q1 q2; simp only [Act.put, List.setIfInBounds_toArray, List.set_cons_zero, List.set_cons_succ])
        | (refine wpList_alRL rfl rfl ?_; intro X2 q1 q2 q3; clear q3; have RX2 : Hid (Row X2 X1.heap.size zRL tRL) := q1; have BX2 : Hid (Below w.heap.size w X2) := BX1.out.trans (q2.mono BX1.out.size); have R12 : Hid (Row X2 w.heap.size L tRL) := Row.below R1.out q2 R1.out.lt; clear q1 q2; simp only [Act.put, List.setIfInBounds_toArray, List.set_cons_zero, List.set_cons_succ])
        | (refine wpList_alP rfl rfl ?_; intro X3 q1 q2 q3; clear q3; have RX3 : Hid (Row X3 X2.heap.size zP.cells tP) := q1; have BX3 : Hid (Below w.heap.size w X3) := BX2.out.trans (q2.mono BX2.out.size); rw [← HZ.out] at q1; have R33 : Hid (Row X3 X2.heap.size Z tP) := q1; have R13 : Hid (Row X3 w.heap.size L tRL) := Row.below R12.out q2 R12.out.lt; have R23 : Hid (Row X3 X1.heap.size zRL tRL) := Row.below RX2.out q2 RX2.out.lt; have c66 := HC.out X3 R13.out; have c69 := HCL.out X3 R13.out; rw [HZ.out] at q1; clear q1 q2; simp only [Act.put, List.setIfInBounds_toArray, List.set_cons_zero, List.set_cons_succ])
        | (refine wpList_stL rfl tP (.tmp 7) (.tmp 31) rfl X3.heap.size Lx zP.cells tP rfl rfl R66.out HLN.out HIX.out HOX.out ?_; intro X7 q1 q2; have R77 : Hid (Row X7 X3.heap.size Lx tP) := q1; have B7 : Hid (Below w.heap.size w X7) := gro_newL B6.out BX3.out.size q2; have R17 : Hid (Row X7 w.heap.size L tRL) := q2.row R16.out (fun e => by { have := R13.out.lt; omega }); have R27 : Hid (Row X7 X1.heap.size zRL tRL) := q2.row R26.out (fun e => by { have := R23.out.lt; omega }); have R37 : Hid (Row X7 X2.heap.size Z tP) := q2.row R36.out (fun e => by { have := R33.out.lt; omega }); have c89 := q1.cell 89 _ HDU.out; have c88 := q1.cell 88 _ HDL.out; have c66 := HC.out X7 R17.out; clear q1 q2; simp only [Act.put])
        | (refine wpList_alP rfl rfl ?_; intro X6 q1 q2 q3; clear q3; have R66 : Hid (Row X6 X3.heap.size zP.cells tP) := q1; have B6 : Hid (Below w.heap.size w X6) := BX3.out.trans (q2.mono BX3.out.size); have R16 : Hid (Row X6 w.heap.size L tRL) := Row.below R13.out q2 R13.out.lt; have R26 : Hid (Row X6 X1.heap.size zRL tRL) := Row.below R23.out q2 R23.out.lt; have R36 : Hid (Row X6 X2.heap.size Z tP) := Row.below R33.out q2 R33.out.lt; clear q1 q2 c66 c69; simp only [Act.put, List.setIfInBounds_toArray, List.set_cons_zero, List.set_cons_succ])
        | (refine wpList_ldS rfl tP (.tmp 30) rfl g (o + 0 * 90) rfl Lx _ (HR.out _ BX3.out) Try.underlying66 rfl HIX.out ?_; simp only [Act.put, List.setIfInBounds_toArray, List.set_cons_zero, List.set_cons_succ])
        | (refine wpList_ixL tPs tP (.tmp 29) (.const (.int .i64 0)) rfl g o n cap 0 90 rfl rfl HJ.out Try.underlying42 info_P rfl ?_; simp only [Act.put, List.setIfInBounds_toArray, List.set_cons_zero, List.set_cons_succ])
        | (refine wpList_ldS rfl tRL (.tmp 2) rfl w.heap.size 0 rfl L _ R17.out.all Try.underlying44 rfl HI.out ?_; simp only [Act.put, List.setIfInBounds_toArray, List.set_cons_zero, List.set_cons_succ])
        | (refine wpList_blt rfl tP _ rfl [] rfl Z HB0.out ?_; simp only [Act.put, List.setIfInBounds_toArray, List.set_cons_zero, List.set_cons_succ])
        | (refine wpList_stL rfl tRL (.tmp 4) (.tmp 35) rfl X1.heap.size L zRL tRL rfl rfl R27.out HLN0.out HI.out HO0.out ?_; intro Y4 q1 q2; have S2 : Hid (Row Y4 X1.heap.size L tRL) := q1; have D4 : Hid (Below w.heap.size w Y4) := gro_newL B7.out BX1.out.size q2; have S3 : Hid (Row Y4 X2.heap.size Z tP) := q2.row R37.out (fun e => by { have := RX2.out.lt; omega }); clear q1 q2; simp only [Act.put])
        | (refine wpList_stL rfl tP (.tmp 5) (.tmp 36) rfl X2.heap.size Z Z tP rfl rfl S3.out rfl HIZ.out HOZ.out ?_; intro Y5 q1 q2; have T3 : Hid (Row Y5 X2.heap.size Z tP) := q1; have D5 : Hid (Below w.heap.size w Y5) := gro_newL D4.out BX2.out.size q2; have T2 : Hid (Row Y5 X1.heap.size L tRL) := q2.row S2.out (fun e => by { have := RX2.out.lt; omega }); clear q1 q2))
      exact bodyPost_ret (results_rSSt Try.results57 _ _ X1.heap.size X2.heap.size tRL tP L Z (.int .i64 166) rfl rfl rfl T2.out T3.out Try.underlying44 Try.underlying66 HI.out HIZ.out) rfl ⟨v, by rw [HLL.out, HZ.out], HRF.out.be D5.out, .inl rfl, D5.out⟩
    rw [if_neg h4] at hr
    by_cases h5 : now < dl
    · rw [if_pos h5] at hr
      obtain ⟨rfl, k2⟩ := Prod.mk.inj hr
      obtain ⟨rfl, rfl⟩ := Prod.mk.inj k2
      clear h hL hv hcap hp hZ hla hn hpd hx0 hxm hv' hrg hnr hLx hdu hdl k2 hr
      go_enter Try.func57, Try.ntmps57
      go_wp2_with (first
        | (refine wpList_bxG tRL rfl (.tmp 0) rfl L rfl ?_; intro X1 q1 q2 q3; clear q3; have R1 : Hid (Row X1 w.heap.size L tRL) := q1; have BX1 : Hid (Below w.heap.size w X1) := q2; clear q1 q2; simp only [Act.put, List.setIfInBounds_toArray, List.set_cons_zero, List.set_cons_succ])
        | (refine wpList_alRL rfl rfl ?_; intro X2 q1 q2 q3; clear q3; have RX2 : Hid (Row X2 X1.heap.size zRL tRL) := q1; have BX2 : Hid (Below w.heap.size w X2) := BX1.out.trans (q2.mono BX1.out.size); have R12 : Hid (Row X2 w.heap.size L tRL) := Row.below R1.out q2 R1.out.lt; clear q1 q2; simp only [Act.put, List.setIfInBounds_toArray, List.set_cons_zero, List.set_cons_succ])
        | (refine wpList_alP rfl rfl ?_; intro X3 q1 q2 q3; clear q3; have RX3 : Hid (Row X3 X2.heap.size zP.cells tP) := q1; have BX3 : Hid (Below w.heap.size w X3) := BX2.out.trans (q2.mono BX2.out.size); rw [← HZ.out] at q1; have R33 : Hid (Row X3 X2.heap.size Z tP) := q1; have R13 : Hid (Row X3 w.heap.size L tRL) := Row.below R12.out q2 R12.out.lt; have R23 : Hid (Row X3 X1.heap.size zRL tRL) := Row.below RX2.out q2 RX2.out.lt; have c66 := HC.out X3 R13.out; have c69 := HCL.out X3 R13.out; rw [HZ.out] at q1; clear q1 q2; simp only [Act.put, List.setIfInBounds_toArray, List.set_cons_zero, List.set_cons_succ])
        | (refine wpList_stL rfl tP (.tmp 7) (.tmp 31) rfl X3.heap.size Lx zP.cells tP rfl rfl R66.out HLN.out HIX.out HOX.out ?_; intro X7 q1 q2; have R77 : Hid (Row X7 X3.heap.size Lx tP) := q1; have B7 : Hid (Below w.heap.size w X7) := gro_newL B6.out BX3.out.size q2; have R17 : Hid (Row X7 w.heap.size L tRL) := q2.row R16.out (fun e => by { have := R13.out.lt; omega }); have R27 : Hid (Row X7 X1.heap.size zRL tRL) := q2.row R26.out (fun e => by { have := R23.out.lt; omega }); have R37 : Hid (Row X7 X2.heap.size Z tP) := q2.row R36.out (fun e => by { have := R33.out.lt; omega }); have c89 := q1.cell 89 _ HDU.out; have c88 := q1.cell 88 _ HDL.out; have c66 := HC.out X7 R17.out; clear q1 q2; simp only [Act.put])
        | (refine wpList_alP rfl rfl ?_; intro X6 q1 q2 q3; clear q3; have R66 : Hid (Row X6 X3.heap.size zP.cells tP) := q1; have B6 : Hid (Below w.heap.size w X6) := BX3.out.trans (q2.mono BX3.out.size); have R16 : Hid (Row X6 w.heap.size L tRL) := Row.below R13.out q2 R13.out.lt; have R26 : Hid (Row X6 X1.heap.size zRL tRL) := Row.below R23.out q2 R23.out.lt; have R36 : Hid (Row X6 X2.heap.size Z tP) := Row.below R33.out q2 R33.out.lt; clear q1 q2 c66 c69; simp only [Act.put, List.setIfInBounds_toArray, List.set_cons_zero, List.set_cons_succ])
        | (refine wpList_ldS rfl tP (.tmp 30) rfl g (o + 0 * 90) rfl Lx _ (HR.out _ BX3.out) Try.underlying66 rfl HIX.out ?_; simp only [Act.put, List.setIfInBounds_toArray, List.set_cons_zero, List.set_cons_succ])
        | (refine wpList_ixL tPs tP (.tmp 29) (.const (.int .i64 0)) rfl g o n cap 0 90 rfl rfl HJ.out Try.underlying42 info_P rfl ?_; simp only [Act.put, List.setIfInBounds_toArray, List.set_cons_zero, List.set_cons_succ])
        | (refine wpList_ldS rfl tRL (.tmp 2) rfl w.heap.size 0 rfl L _ R17.out.all Try.underlying44 rfl HI.out ?_; simp only [Act.put, List.setIfInBounds_toArray, List.set_cons_zero, List.set_cons_succ])
        | (refine wpList_blt rfl tP _ rfl [] rfl Z HB0.out ?_; simp only [Act.put, List.setIfInBounds_toArray, List.set_cons_zero, List.set_cons_succ])
        | (refine wpList_stL rfl tRL (.tmp 4) (.tmp 41) rfl X1.heap.size L zRL tRL rfl rfl R27.out HLN0.out HI.out HO0.out ?_; intro Y4 q1 q2; have S2 : Hid (Row Y4 X1.heap.size L tRL) := q1; have D4 : Hid (Below w.heap.size w Y4) := gro_newL B7.out BX1.out.size q2; have S3 : Hid (Row Y4 X2.heap.size Z tP) := q2.row R37.out (fun e => by { have := RX2.out.lt; omega }); clear q1 q2; simp only [Act.put])
        | (refine wpList_stL rfl tP (.tmp 5) (.tmp 42) rfl X2.heap.size Z Z tP rfl rfl S3.out rfl HIZ.out HOZ.out ?_; intro Y5 q1 q2; have T3 : Hid (Row Y5 X2.heap.size Z tP) := q1; have D5 : Hid (Below w.heap.size w Y5) := gro_newL D4.out BX2.out.size q2; have T2 : Hid (Row Y5 X1.heap.size L tRL) := q2.row S2.out (fun e => by { have := RX2.out.lt; omega }); clear q1 q2))
      exact bodyPost_ret (results_rSSt Try.results57 _ _ X1.heap.size X2.heap.size tRL tP L Z (.int .i64 165) rfl rfl rfl T2.out T3.out Try.underlying44 Try.underlying66 HI.out HIZ.out) rfl ⟨v, by rw [HLL.out, HZ.out], HRF.out.be D5.out, .inl rfl, D5.out⟩
    rw [if_neg h5] at hr
    obtain ⟨hs', k2⟩ := Prod.mk.inj hr
    obtain ⟨rfl, rfl⟩ := Prod.mk.inj k2
    obtain ⟨m, hm⟩ : ∃ m, m = rest.length := ⟨_, rfl⟩
    rw [← hm] at hnr
    have hok' : st'.Ok B := by rw [← hs']; exact La.confirm_ok h.ok (by omega) (by omega) hpd
    have HOK : Hid (st'.Ok B) := hok'
    have HPE : Hid (st'.pend = rest) := by show _ = _; rw [← hs']
    have hn32 : n ≤ 32 := by rw [hn]; exact h.ok.pl
    have HMB : Hid (m ≤ 1000000) := by show _ ≤ _; omega
    have HML : Hid (rest.length = m) := hm.symm
    have HWR : Hid (∀ q ∈ rest, q.Wf) := fun q hq => h.ok.pw q (by rw [hpd]; exact List.mem_cons_of_mem _ hq)
    have HJ1 : Hid (1 ≤ n) := by show _ ≤ _; omega
    have HM : Hid (n - 1 = m) := by show _ = _; omega
    obtain ⟨o2, hcut, hor⟩ := cutL_any g o cap 1 90
    have HCUT : Hid (cutL (some ⟨g, o, none⟩) cap 1 90 = some ⟨g, o2, none⟩) := hcut
    have hlo1 := Lo.from h.own (m := 1) (by rw [← hn]; omega) (g := g) (o := o) (cap := cap) (by rw [← hn]; exact hv) o2 hor
    rw [show (1 * 90 : Nat) = 1 * 90 from rfl, pcs_drop h.ok.pw, ← hn, HM.out, show st.pend.drop 1 = rest by rw [hpd]; rfl] at hlo1
    have HCP : Hid (∀ X, Below w.heap.size w X → Calls Try.prog 89 #[.slice (some ⟨g, o2, none⟩) m (cap - 1)] X fun e w' => ∃ g, e = .returned (.slice (some ⟨g, 0, none⟩) m m) ∧ X.heap.size ≤ g ∧ Row w' g (pcs rest) tP ∧ Below X.heap.size X w') := fun X kx => rcopied_any X _ m _ rest (Pr.ofLo (hlo1.be kx) HML.out HWR.out) HMB.out
    obtain ⟨cc, hcc⟩ : ∃ c, c = x.c := ⟨_, rfl⟩
    have HCW : Hid cc.Wf := by rw [hcc]; exact HXW.out.c
    have HICC : Hid ((Try.prog.info? tC).map (·.size) = some cc.cells.length) := Cm.info HCW.out
    have HCX : Hid (∀ X b, Row X b Lx tP → X.rangeAt b 1 cc.cells) := fun X b r => r.range 1 _ (fun j u hj => by rw [hLx]; rw [hcc] at hj; exact Pn.at_c x j u hj)
    have HSC : Hid (L.take 0 ++ cc.cells ++ L.drop (0 + cc.cells.length) = La.dc { st with conf := cc } v) := by show _ = _; rw [hL]; exact La.dsetc h.ok.cf v cc HCW.out
    have HLL66 : Hid (0 + cc.cells.length ≤ L.length) := by show _ ≤ _; rw [Cm.len HCW.out, hL, La.dlen h.ok.cf]; decide
    obtain ⟨L8, hL8⟩ : ∃ M, M = La.dc { st with conf := cc } v := ⟨_, rfl⟩
    have H8 : Hid (L8 = L.take 0 ++ cc.cells ++ L.drop (0 + cc.cells.length)) := by show _ = _; rw [HSC.out, hL8]
    have HL8 : Hid (66 < L8.length ∧ L8[66]? = some (.slice (some ⟨g, o, none⟩) n cap)) := by
      rw [hL8]
      exact ⟨by rw [La.dlen (st := { st with conf := cc }) HCW.out]; decide, by rw [← hv]; exact La.d66 (st := { st with conf := cc }) HCW.out v⟩
    have HL69 : Hid (69 < L8.length) := by show _ < _; rw [hL8, La.dlen (st := { st with conf := cc }) HCW.out]; decide
    have HST : Hid (∀ u, (L8.set 66 u).set 69 (.int .i64 now) = st'.dc u) := fun u => by
      rw [hL8, La.dset66 (st := { st with conf := cc }) HCW.out, La.dset69 (st := { st with conf := cc }) HCW.out, ← hs', hcc]
      rfl
    clear hok' hn32 hm hlo1 hcut hor hcc hL8 k2 hr hs' HSC h hL hv hcap hp hZ hla hn hpd hx0 hxm hv' hrg hnr hLx hdu hdl
    go_enter Try.func57, Try.ntmps57
    go_upto_region 13 with (first
      | (refine wpList_bxG tRL rfl (.tmp 0) rfl L rfl ?_; intro X1 q1 q2 q3; clear q3; have R1 : Hid (Row X1 w.heap.size L tRL) := q1; have BX1 : Hid (Below w.heap.size w X1) := q2; clear q1 q2; simp only [Act.put, List.setIfInBounds_toArray, List.set_cons_zero, List.set_cons_succ])
      | (refine wpList_alRL rfl rfl ?_; intro X2 q1 q2 q3; clear q3; have RX2 : Hid (Row X2 X1.heap.size zRL tRL) := q1; have BX2 : Hid (Below w.heap.size w X2) := BX1.out.trans (q2.mono BX1.out.size); have R12 : Hid (Row X2 w.heap.size L tRL) := Row.below R1.out q2 R1.out.lt; clear q1 q2; simp only [Act.put, List.setIfInBounds_toArray, List.set_cons_zero, List.set_cons_succ])
      | (refine wpList_stL rfl tP (.tmp 7) (.tmp 31) rfl X3.heap.size Lx zP.cells tP rfl rfl R66.out HLN.out HIX.out HOX.out ?_; intro X7 q1 q2; have R77 : Hid (Row X7 X3.heap.size Lx tP) := q1; have B7 : Hid (Below w.heap.size w X7) := gro_newL B6.out BX3.out.size q2; have R17 : Hid (Row X7 w.heap.size L tRL) := q2.row R16.out (fun e => by { have := R13.out.lt; omega }); have R27 : Hid (Row X7 X1.heap.size zRL tRL) := q2.row R26.out (fun e => by { have := R23.out.lt; omega }); have R37 : Hid (Row X7 X2.heap.size Z tP) := q2.row R36.out (fun e => by { have := R33.out.lt; omega }); have c89 := q1.cell 89 _ HDU.out; have c88 := q1.cell 88 _ HDL.out; have c66 := HC.out X7 R17.out; clear q1 q2; simp only [Act.put])
      | (refine wpList_alP rfl rfl ?_; intro X6 q1 q2 q3; clear q3; have R66 : Hid (Row X6 X3.heap.size zP.cells tP) := q1; have B6 : Hid (Below w.heap.size w X6) := BX3.out.trans (q2.mono BX3.out.size); have R16 : Hid (Row X6 w.heap.size L tRL) := Row.below R13.out q2 R13.out.lt; have R26 : Hid (Row X6 X1.heap.size zRL tRL) := Row.below R23.out q2 R23.out.lt; have R36 : Hid (Row X6 X2.heap.size Z tP) := Row.below R33.out q2 R33.out.lt; clear q1 q2 c66 c69; simp only [Act.put, List.setIfInBounds_toArray, List.set_cons_zero, List.set_cons_succ])
      | (refine wpList_alP rfl rfl ?_; intro X3 q1 q2 q3; clear q3; have RX3 : Hid (Row X3 X2.heap.size zP.cells tP) := q1; have BX3 : Hid (Below w.heap.size w X3) := BX2.out.trans (q2.mono BX2.out.size); rw [← HZ.out] at q1; have R33 : Hid (Row X3 X2.heap.size Z tP) := q1; have R13 : Hid (Row X3 w.heap.size L tRL) := Row.below R12.out q2 R12.out.lt; have R23 : Hid (Row X3 X1.heap.size zRL tRL) := Row.below RX2.out q2 RX2.out.lt; have c66 := HC.out X3 R13.out; have c69 := HCL.out X3 R13.out; rw [HZ.out] at q1; clear q1 q2; simp only [Act.put, List.setIfInBounds_toArray, List.set_cons_zero, List.set_cons_succ])
      | (refine wpList_ixL tPs tP (.tmp 29) (.const (.int .i64 0)) rfl g o n cap 0 90 rfl rfl HJ.out Try.underlying42 info_P rfl ?_; simp only [Act.put, List.setIfInBounds_toArray, List.set_cons_zero, List.set_cons_succ])
      | (refine wpList_ldS rfl tP (.tmp 30) rfl g (o + 0 * 90) rfl Lx _ (HR.out _ BX3.out) Try.underlying66 rfl HIX.out ?_; simp only [Act.put, List.setIfInBounds_toArray, List.set_cons_zero, List.set_cons_succ])
      | (refine wpList_ldS rfl tC (.tmp 43) rfl X3.heap.size 1 rfl cc.cells _ (HCX.out _ _ R77.out) Try.underlying25 rfl HICC.out ?_; simp only [Act.put, List.setIfInBounds_toArray, List.set_cons_zero, List.set_cons_succ])
      | (refine wpList_stM rfl tC (.tmp 45) (.tmp 44) rfl w.heap.size 0 cc.cells L tRL rfl rfl R17.out HLL66.out HICC.out (all_one (Cm.one cc)) ?_; intro X8 q1 q2; rw [← H8.out] at q1; have R18 : Hid (Row X8 w.heap.size L8 tRL) := q1; have B8 : Hid (Below w.heap.size w X8) := gro_newL B7.out (Nat.le_refl _) q2; have R28 : Hid (Row X8 X1.heap.size zRL tRL) := q2.row R27.out (fun e => by { have := R1.out.lt; omega }); have R38 : Hid (Row X8 X2.heap.size Z tP) := q2.row R37.out (fun e => by { have := R12.out.lt; omega }); have R78 : Hid (Row X8 X3.heap.size Lx tP) := q2.row R77.out (fun e => by { have := R13.out.lt; omega }); clear c66 c88 c89; have c66 := q1.cell 66 _ HL8.out.2; clear q1 q2; simp only [Act.put])
      | (refine wpList_cutF rfl tPs tP (.tmp 47) (.const (.int .i64 1)) (some ⟨g, o, none⟩) n cap 1 90 rfl rfl rfl HJ1.out Try.underlying42 info_P ?_; rw [HCUT.out, HM.out]; simp only [Act.put, List.setIfInBounds_toArray, List.set_cons_zero, List.set_cons_succ])
      | (go_at_call 89; refine Calls.mono (HCP.out _ B8.out) ?_; rintro e X9 ⟨g9, rfl, q0, q1, q2⟩; have G9 : Hid (w.heap.size ≤ g9) := Nat.le_trans B8.out.size q0; have N9 : Hid (X8.heap.size ≤ g9) := q0; have C9 : Hid (Row X9 g9 (pcs rest) tP) := q1; have B9 : Hid (Below w.heap.size w X9) := B8.out.trans (q2.mono B8.out.size); have R19 : Hid (Row X9 w.heap.size L8 tRL) := Row.below R18.out q2 R18.out.lt; have R29 : Hid (Row X9 X1.heap.size zRL tRL) := Row.below R28.out q2 R28.out.lt; have R39 : Hid (Row X9 X2.heap.size Z tP) := Row.below R38.out q2 R38.out.lt; have R79 : Hid (Row X9 X3.heap.size Lx tP) := Row.below R78.out q2 R78.out.lt; clear c66 q0 q1 q2)
      | (refine wpList_st1 rfl tPs (.tmp 50) (.tmp 49) rfl w.heap.size 66 (.slice (some ⟨g9, 0, none⟩) m m) L8 tRL rfl rfl rfl R19.out HL8.out.1 info_Ps rfl ?_; intro W1 q1 q2; have RA1 : Hid (Row W1 w.heap.size (L8.set 66 (.slice (some ⟨g9, 0, none⟩) m m)) tRL) := q1; have E1 : Hid (Below w.heap.size w W1) := gro_newL B9.out (Nat.le_refl _) q2; have RA2 : Hid (Row W1 X1.heap.size zRL tRL) := q2.row R29.out (fun e => by { have := R1.out.lt; omega }); have RA3 : Hid (Row W1 X2.heap.size Z tP) := q2.row R39.out (fun e => by { have := R12.out.lt; omega }); have RA7 : Hid (Row W1 X3.heap.size Lx tP) := q2.row R79.out (fun e => by { have := R13.out.lt; omega }); have CA : Hid (Row W1 g9 (pcs rest) tP) := q2.row C9.out (fun e => by { have := R18.out.lt; have := N9.out; omega }); clear q1 q2; simp only [Act.put])
      | (refine wpList_st1 rfl 3 (.tmp 52) (.tmp 51) rfl w.heap.size 69 (.int .i64 now) (L8.set 66 (.slice (some ⟨g9, 0, none⟩) m m)) tRL rfl rfl rfl RA1.out (by rw [List.length_set]; have := HL69.out; omega) info_int rfl ?_; intro W2 q1 q2; rw [HST.out] at q1; have RB1 : Hid (Row W2 w.heap.size (st'.dc (.slice (some ⟨g9, 0, none⟩) m m)) tRL) := q1; have E2 : Hid (Below w.heap.size w W2) := gro_newL E1.out (Nat.le_refl _) q2; have RB2 : Hid (Row W2 X1.heap.size zRL tRL) := q2.row RA2.out (fun e => by { have := R1.out.lt; omega }); have RB3 : Hid (Row W2 X2.heap.size Z tP) := q2.row RA3.out (fun e => by { have := R12.out.lt; omega }); have RB7 : Hid (Row W2 X3.heap.size Lx tP) := q2.row RA7.out (fun e => by { have := R13.out.lt; omega }); have CB : Hid (Row W2 g9 (pcs rest) tP) := q2.row CA.out (fun e => by { have := R18.out.lt; have := N9.out; omega }); clear q1 q2; simp only [Act.put]))
    obtain ⟨L9, hL9⟩ : ∃ M, M = st'.dc (.slice (some ⟨g9, 0, none⟩) m m) := ⟨_, rfl⟩
    rw [← hL9] at RB1
    have H9 : Hid (L9 = st'.dc (.slice (some ⟨g9, 0, none⟩) m m)) := hL9
    have h9n : L9.length = 70 := by rw [hL9, La.dlen HOK.out.cf]
    have HI9 : Hid ((Try.prog.info? tRL).map (·.size) = some L9.length) := by show _ = _; rw [h9n]; exact info_RL
    have H9J : Hid ((Try.prog.info? tRL).map (·.size) = some L9.toArray.size) := by show _ = _; rw [List.size_toArray, h9n]; exact info_RL
    have H9O : Hid (L9.toArray.all (·.oneCell') = true) := by show _ = _; rw [hL9]; exact all_one (La.done _ _ _ _)
    have H9N : Hid (0 + L9.toArray.size ≤ zRL.length) := by show _ ≤ _; rw [List.size_toArray, h9n, zRL_len]; decide
    have H9Z : Hid (L9.length = zRL.length) := by show _ = _; rw [h9n, zRL_len]
    have hxn : Lx.length = Z.length := by rw [HLN.out, HZ.out]
    have HXJ : Hid ((Try.prog.info? tP).map (·.size) = some Lx.toArray.size) := by show _ = _; rw [List.size_toArray]; exact HIX.out
    have HXN : Hid (0 + Lx.toArray.size ≤ Z.length) := by show _ ≤ _; rw [List.size_toArray, hxn]; omega
    have HXZ : Hid (Lx.length = Z.length) := hxn
    have d1 : w.heap.size < X1.heap.size := R1.out.lt
    have d2 : w.heap.size < X2.heap.size := R12.out.lt
    have d3 : w.heap.size < X3.heap.size := R13.out.lt
    have d4 : X1.heap.size < X2.heap.size := RX2.out.lt
    have d5 : X1.heap.size < X3.heap.size := R23.out.lt
    have d6 : X2.heap.size < X3.heap.size := R33.out.lt
    have d7 : X3.heap.size < g9 := Nat.lt_of_lt_of_le R78.out.lt N9.out
    obtain ⟨b, hb⟩ : ∃ b, b = w.heap.size := ⟨_, rfl⟩
    obtain ⟨b4, hb4⟩ : ∃ b, b = X1.heap.size := ⟨_, rfl⟩
    obtain ⟨b5, hb5⟩ : ∃ b, b = X2.heap.size := ⟨_, rfl⟩
    obtain ⟨b7, hb7⟩ : ∃ b, b = X3.heap.size := ⟨_, rfl⟩
    have hE2 : Below b w W2 := by rw [hb]; exact E2.out
    rw [← hb] at RB1 d1 d2 d3
    rw [← hb4] at RB2 d1 d4 d5
    rw [← hb5] at RB3 d2 d4 d6
    rw [← hb7] at RB7 d3 d5 d6 d7
    rw [← hb, ← hb4, ← hb5, ← hb7]
    have HWB : Hid (w.heap.size = b) := hb.symm
    clear hb hb4 hb5 hb7 h9n hxn hL9
    have r1 := RB1.out
    have r2 := RB2.out
    have r3 := RB3.out
    have r7 := RB7.out
    have r9 := CB.out
    obtain ⟨w9, hw9⟩ : ∃ x : World, x = w := ⟨_, rfl⟩
    have HW9 : Hid (w9 = w) := hw9
    have hw90 : w9.heap.size = b := by rw [hw9]; exact HWB.out
    have hb1 : Below w9.heap.size w9 W2 := by rw [hw90, hw9]; exact hE2
    clear RB1 RB2 RB3 RB7 CB hE2 hw9
    refine wp_named fun a0 ha0 => ?_
    have hsz : a0.tmps.size = 55 := by rw [ha0]; rfl
    have zs2 : a0.eval (.tmp 2) = .pointer (some ⟨b, 0, none⟩) := by rw [ha0]; rfl
    have zs4 : a0.eval (.tmp 4) = .pointer (some ⟨b4, 0, none⟩) := by rw [ha0]; rfl
    have zs5 : a0.eval (.tmp 5) = .pointer (some ⟨b5, 0, none⟩) := by rw [ha0]; rfl
    have zs7 : a0.eval (.tmp 7) = .pointer (some ⟨b7, 0, none⟩) := by rw [ha0]; rfl
    obtain ⟨D, hD⟩ : ∃ D : List (Tmp × SP), D = [(53, SP.is (.agg L9.toArray)), (54, SP.is (.agg Lx.toArray)), (1000, SP.any), (1000, SP.any), (6, SP.is (.int .i64 0))] := ⟨_, rfl⟩
    refine wp_region_down (by kernel_rfl) (fun listed ac W => listed.size = 5 ∧ Fp D a0 listed ac W ∧ Below w9.heap.size w9 W ∧ Row W b L9 tRL ∧ Row W b7 Lx tP ∧ Row W b4 (if listed.getD 2 false = true then L9 else zRL) tRL ∧ Row W b5 (if listed.getD 3 false = true then Lx else Z) tP ∧ Row W g9 ((pcs rest)) tP) ?_ ?_ ?_
    · exact ⟨by simp, Fp.start D a0 _ _, Below.drew hb1, Row.drew r1, Row.drew r7, (by rw [if_neg (fun h => start_no h)]; exact Row.drew r2), (by rw [if_neg (fun h => start_no h)]; exact Row.drew r3), Row.drew r9⟩
    · clear ha0 hb1 r1 r7 r2 r3 r9 
      intro listed ac W k hI hdn hk
      obtain ⟨hl, hF, hb1, r1, r7, r2, r3, r9⟩ := hI
      have hk1 : k < 5 := List.mem_range.1 (List.mem_filter.1 hk).1
      have hl2 : ∀ j, (listed.setIfInBounds j true).size = 5 := fun j => by rw [Array.size_setIfInBounds]; exact hl
      rcases (show k = 0 ∨ k = 1 ∨ k = 2 ∨ k = 3 ∨ k = 4 by omega) with rfl | rfl | rfl | rfl | rfl
      · have hk3 := hk
        exact wpOp_plain rfl rfl (wp_load_mid tRL (.tmp 2) rfl b 0 ((hF.keep 2 (by rw [hD]; rfl)).trans zs2) L9 _ r1.all Try.underlying44 rfl HI9.out ⟨hl2 0, (hF.put 0 53 (SP.is (.agg L9.toArray)) (.agg L9.toArray) (by rw [hD]; rfl) rfl (by rw [hD]; rfl) (by rw [hsz]; decide) (by rw [hl]; decide)), hb1, r1, r7, (by rw [getD_set _ _ _ (by decide)]; exact r2), (by rw [getD_set _ _ _ (by decide)]; exact r3), r9⟩)
      · have hk3 := hk
        exact wpOp_plain rfl rfl (wp_load_mid tP (.tmp 7) rfl b7 0 ((hF.keep 7 (by rw [hD]; rfl)).trans zs7) Lx _ r7.all Try.underlying66 rfl HIX.out ⟨hl2 1, (hF.put 1 54 (SP.is (.agg Lx.toArray)) (.agg Lx.toArray) (by rw [hD]; rfl) rfl (by rw [hD]; rfl) (by rw [hsz]; decide) (by rw [hl]; decide)), hb1, r1, r7, (by rw [getD_set _ _ _ (by decide)]; exact r2), (by rw [getD_set _ _ _ (by decide)]; exact r3), r9⟩)
      · have hk3 := hk
        have hno : ¬ listed.getD 2 false = true := not_yet hk
        rw [if_neg hno] at r2
        have T := r2.there 0 L9.toArray.size H9N.out
        have fin := r2.over (vs := L9) H9Z.out
        have hT : Fp D a0 listed ac (W.setCells b4 0 L9) := hF.turn (by rw [hD]; simp only [List.forall_mem_cons, List.not_mem_nil, false_implies, implies_true, and_true]; exact ⟨fun _ h => h, fun _ h => h, fun _ h => h, fun _ h => h, fun _ h => h⟩)
        exact wpOp_plain rfl rfl (wp_store_mid tRL (.tmp 4) (.tmp 53) rfl b4 0 L9.toArray ((hF.keep 4 (by rw [hD]; rfl)).trans zs4) (hF.done 0 (53, SP.is (.agg L9.toArray)) (by rw [hD]; rfl) (ready_dep hk 0 (by kernel_rfl))) T H9J.out H9O.out ⟨hl2 2, (hT.skip 2 1000 (by rw [hD]; rfl) (by rw [hl]; decide)), below_setCells hb1 (by omega) _, Row.setCells_other r1 _ _ _ (by omega), Row.setCells_other r7 _ _ _ (by omega), (by rw [if_pos (getD_same (by rw [hl]; decide))]; exact fin), (by rw [getD_set _ _ _ (by decide)]; exact Row.setCells_other r3 _ _ _ (by omega)), Row.setCells_other r9 _ _ _ (by omega)⟩)
      · have hk3 := hk
        have hno : ¬ listed.getD 3 false = true := not_yet hk
        rw [if_neg hno] at r3
        have T := r3.there 0 Lx.toArray.size HXN.out
        have fin := r3.over (vs := Lx) HXZ.out
        have hT : Fp D a0 listed ac (W.setCells b5 0 Lx) := hF.turn (by rw [hD]; simp only [List.forall_mem_cons, List.not_mem_nil, false_implies, implies_true, and_true]; exact ⟨fun _ h => h, fun _ h => h, fun _ h => h, fun _ h => h, fun _ h => h⟩)
        exact wpOp_plain rfl rfl (wp_store_mid tP (.tmp 5) (.tmp 54) rfl b5 0 Lx.toArray ((hF.keep 5 (by rw [hD]; rfl)).trans zs5) (hF.done 1 (54, SP.is (.agg Lx.toArray)) (by rw [hD]; rfl) (ready_dep hk 1 (by kernel_rfl))) T HXJ.out HOX.out ⟨hl2 3, (hT.skip 3 1000 (by rw [hD]; rfl) (by rw [hl]; decide)), below_setCells hb1 (by omega) _, Row.setCells_other r1 _ _ _ (by omega), Row.setCells_other r7 _ _ _ (by omega), (by rw [getD_set _ _ _ (by decide)]; exact Row.setCells_other r2 _ _ _ (by omega)), (by rw [if_pos (getD_same (by rw [hl]; decide))]; exact fin), Row.setCells_other r9 _ _ _ (by omega)⟩)
      · have hk3 := hk
        exact wpOp_plain rfl rfl (wp_assign_v (.int .i64 0) rfl rfl ⟨hl2 4, (hF.put 4 6 (SP.is (.int .i64 0)) (.int .i64 0) (by rw [hD]; rfl) rfl (by rw [hD]; rfl) (by rw [hsz]; decide) (by rw [hl]; decide)), hb1, r1, r7, (by rw [getD_set _ _ _ (by decide)]; exact r2), (by rw [getD_set _ _ _ (by decide)]; exact r3), r9⟩)
    · clear hb1 r1 r7 r2 r3 r9 
      intro listed ac W hI hr
      obtain ⟨hl, hF, hb1, r1, r7, r2, r3, r9⟩ := hI
      have hall := all_listed (by kernel_rfl) hl hr
      rw [if_pos (hall 2 (by decide))] at r2
      rw [if_pos (hall 3 (by decide))] at r3
      have h53 : ac.eval (.tmp 53) = .agg L9.toArray := hF.done 0 (53, SP.is (.agg L9.toArray)) (by rw [hD]; rfl) (hall 0 (by decide))
      have h54 : ac.eval (.tmp 54) = .agg Lx.toArray := hF.done 1 (54, SP.is (.agg Lx.toArray)) (by rw [hD]; rfl) (hall 1 (by decide))
      have h6 : ac.eval (.tmp 6) = .int .i64 0 := hF.done 4 (6, SP.is (.int .i64 0)) (by rw [hD]; rfl) (hall 4 (by decide))
      have ea := hF.lay [(53, .agg L9.toArray), (54, .agg Lx.toArray), (6, .int .i64 0)] (by rw [hD, hsz]; rfl) (by simp only [List.forall_mem_cons, List.not_mem_nil, false_implies, implies_true, and_true]; exact ⟨h53, h54, h6⟩)
      rw [ha0] at ea
      simp only [List.foldl_cons, List.foldl_nil, List.setIfInBounds_toArray, List.set_cons_zero, List.set_cons_succ] at ea
      clear hF hall hr hl hD  zs2 zs4 zs5 zs7 ha0 hsz h53 h54 h6
      subst ea
      have F2 : Hid (Row W b4 L9 tRL) := r2
      have F3 : Hid (Row W b5 Lx tP) := r3
      have F9 : Hid (Row W g9 (pcs rest) tP) := r9
      have FB : Hid (Below w.heap.size w W) := by have := hb1; rw [HW9.out] at this; exact this
      clear r1 r2 r3 r7 r9 hb1
      go_wp2_with fail
      exact bodyPost_ret (results_rSSt Try.results57 _ _ b4 b5 tRL tP L9 Lx (.int .i64 0) rfl rfl rfl F2.out F3.out Try.underlying44 Try.underlying66 HI9.out HIX.out) rfl ⟨.slice (some ⟨g9, 0, none⟩) m m, by rw [H9.out, HLX.out], ⟨by rw [HPE.out, HML.out]; exact lo_row F9.out HML.out HMB.out HWR.out, HOK.out⟩, .inr (fun g e => by cases e; exact G9.out), FB.out⟩

end Go.Proofs.Ytfdbjcdcfmnicaa
