/-
  the inbox: both Checks, both Nexts answer the same, whatever the entries are.
-/
import Derived.Test.YtknabkoddickaaaGreatDoorIbV
import Derived.Test.YtknabkoddickaaaGreatDoorIbF
import Derived.Test.YtknabkoddickaaaGreatDoorIbO
import Derived.Test.YtknabkoddickaaaGreatDoorIcC

namespace Go.Proofs.YtknabkoddickaaaGreatDoor
open Go Go.RowKit
open Sha

theorem rfE.pos {e : Ev} {t0 E : Int} (h : rfE e t0 E) : E = 150 ∨ E = 153 := by
  rcases h with ⟨_, h⟩ | ⟨_, _, h⟩
  · exact .inl h
  · exact .inr h
end Go.Proofs.YtknabkoddickaaaGreatDoor

namespace Go.Proofs.YtknabkoddickaaaGreatDoor
open Go Go.RowKit
open Sha

set_option maxRecDepth 100000 in
set_option maxHeartbeats 8000000 in
theorem check_noL (es : List Ev) (ho : Okr es) (A0 : Option Addr) (N c0 : Nat) (M : Nat) (hM : M = es.length) (hN : M + 1 ≤ N) (hNb : N ≤ 100000) (kk tt : List (BitVec 8)) (hk : kk.length = 32) (htt : tt.length = 32) (w : World) (hT : Tab w 1) (el : Ev) (hwl : el.Wf) (h0 : EsAt w A0 (es ++ [el])) (E : Int) (hE : rfE el (ltm es es.length) E) :
    Calls Tryz.prog 13 #[.agg (vB kk).toArray, .agg (vB tt).toArray, .slice A0 N c0] w fun r w' => r = .returned (.int .i64 E) ∧ Below w.heap.size w w' := by
  have HO : Hid (Okr es) := ho
  have HN : Hid (M = es.length) := hM
  have HNM : Hid (M + 1 ≤ N) := hN
  have HWL : Hid el.Wf := hwl
  have HT : Hid (∀ X, Below w.heap.size w X → Tab X 1) := fun X k => hT.below k hT.lt
  have HES : Hid (EsAt w A0 (es ++ [el])) := h0
  have HKK : Hid (kk.length = 32) := hk
  have HTT : Hid (tt.length = 32) := htt
  have HEE : Hid (rfE el (ltm es es.length) E) := hE
  obtain ⟨MK, hMK⟩ : ∃ M, M = vB kk := ⟨_, rfl⟩
  obtain ⟨MT, hMT⟩ : ∃ M, M = vB tt := ⟨_, rfl⟩
  have HMK : Hid (MK = vB kk) := hMK
  have HMT : Hid (MT = vB tt) := hMT
  have HIK : Hid ((Tryz.prog.info? 51).map (·.size) = some (vB kk).length) := by show _ = _; rw [vB_length, hk]; exact info_dg
  have HIT : Hid ((Tryz.prog.info? 51).map (·.size) = some (vB tt).length) := by show _ = _; rw [vB_length, htt]; exact info_dg
  obtain ⟨R0, hR0⟩ : ∃ R, R = zE ++ vB kk := ⟨_, rfl⟩
  have HR0 : Hid (R0 = zE ++ vB kk) := hR0
  have HL0 : Hid (R0.length = zR.length) := by show _ = _; rw [hR0, rw_len _ _ (by decide) hk]; rfl
  have HI0 : Hid ((Tryz.prog.info? 84).map (·.size) = some R0.length) := by show _ = _; rw [HL0.out]; exact info_row
  have HO0 : Hid (R0.toArray.all (·.oneCell') = true) := by rw [hR0]; exact rw_one _ _ zE_one
  rw [← hMK, ← hMT]
  clear ho hN hM hwl hT h0 hk htt hE hMK hMT hR0
  go_enter Tryz.func13, Tryz.ntmps13
  go_upto_region 1 with (first
    | (refine wpList_boxG 51 rfl (.tmp 0) rfl MK rfl ?_; intro X1 q1 q2 q3; have D1 : Hid (Row X1 w.heap.size (vB kk) 51) := (by rw [← HMK.out]; exact q1); have B1 : Hid (Below w.heap.size w X1) := q2; clear q1 q2 q3; simp only [Act.put, List.setIfInBounds_toArray, List.set_cons_zero, List.set_cons_succ])
    | (refine wpList_boxG 51 rfl (.tmp 1) rfl MT rfl ?_; intro X2 q1 q2 q3; have T2 : Hid (Row X2 X1.heap.size (vB tt) 51) := (by rw [← HMT.out]; exact q1); have D2 : Hid (Row X2 w.heap.size (vB kk) 51) := Row.below D1.out q2 D1.out.lt; have B2 : Hid (Below w.heap.size w X2) := B1.out.trans (q2.mono B1.out.size); clear q1 q2 q3; simp only [Act.put, List.setIfInBounds_toArray, List.set_cons_zero, List.set_cons_succ]))
  obtain ⟨bk, hbk⟩ : ∃ b, b = w.heap.size := ⟨_, rfl⟩
  obtain ⟨bt, hbt⟩ : ∃ b, b = X1.heap.size := ⟨_, rfl⟩
  have NT : Hid (bt < X2.heap.size) := by rw [hbt]; exact T2.out.lt
  rw [← hbk] at D2 ⊢
  rw [← hbt] at T2 ⊢
  clear hbk hbt D1 B1
  go_upto_region 2 with (first
    | (refine wpList_load_w rfl 51 (.tmp 3) rfl bk (0) rfl (vB kk) _ D2.out.all Tryz.underlying51 rfl HIK.out ?_; simp only [Act.put, List.setIfInBounds_toArray, List.set_cons_zero, List.set_cons_succ])
    | (refine wpList_buildR1 rfl (.tmp 12) rfl kk HKK.out rfl R0 HR0.out ?_; simp only [Act.put, List.setIfInBounds_toArray, List.set_cons_zero, List.set_cons_succ])
    | (refine wpList_allocR rfl rfl ?_; intro X3 q1 q2; have Z3 : Hid (Row X3 X2.heap.size zR 84) := q1; have B3 : Hid (Below X2.heap.size X2 X3) := q2; clear q1 q2; simp only [Act.put, List.setIfInBounds_toArray, List.set_cons_zero, List.set_cons_succ])
    | (refine wpList_storeL rfl 84 (.tmp 7) (.tmp 13) rfl X2.heap.size R0 zR 84 rfl rfl Z3.out HL0.out HI0.out HO0.out ?_; intro X4 q1 q2; have R4 : Hid (Row X4 X2.heap.size R0 84) := q2; have B4 : Hid (Below X2.heap.size X2 X4) := (by rw [q1]; exact below_setCells B3.out (Nat.le_refl _) _); clear q1 q2; simp only [Act.put]))
  obtain ⟨bl, hbl⟩ : ∃ b, b = X2.heap.size := ⟨_, rfl⟩
  have T4 : Hid (Row X4 bt (vB tt) 51) := Row.below T2.out B4.out T2.out.lt
  have C0 : Hid (Ck w X4 bl (ltm es 0) (lkf kk (es.take 0))) := ⟨⟨R0, by rw [hbl]; exact R4.out, by rw [HR0.out]; exact Irw.first kk HKK.out, by rw [HR0.out]; exact row_oneI _ _ zE_one⟩, by rw [hbl]; exact B2.out.size, B2.out.trans (B4.out.mono B2.out.size)⟩
  rw [← hbl] at R4 ⊢
  have NBT : Hid (bt ≠ bl) := by show _ ≠ _; have := NT.out; omega
  clear hbl B2 B3 B4 Z3 R4 D2 T2 HR0 HL0 HI0 HO0 HIK HMK HMT NT
  go_wp2_with fail
  go_loopw [16] (fun v16 wr => ∃ (i : Nat), i ≤ M ∧ v16 = .int .i64 (i : Int) ∧ Hid (Ck w wr bl (ltm es i) (lkf kk (es.take i))) ∧ Hid (Row wr bt (vB tt) 51)) (fun v16 _ => M - (intOf v16).toNat)
  case atStart => exact ⟨0, Nat.zero_le _, rfl, C0, T4⟩
  case round =>
    obtain ⟨i, hi, rfl, HC, HTR⟩ := hrel
    clear C0 T4
    obtain ⟨R, hRr, hRi, hRo⟩ := HC.out.r
    have HRr : Hid (Row wr bl R 84) := hRr
    have HRi : Hid (Irw R (ltm es i) (lkf kk (es.take i))) := hRi
    have HRL : Hid (R.length = 81) := hRi.len
    have HRI : Hid ((Tryz.prog.info? 84).map (·.size) = some R.length) := hRi.info
    have HBW : Hid (Below w.heap.size w wr) := HC.out.be
    have HBL : Hid (w.heap.size ≤ bl) := HC.out.b0
    clear hRr hRi hRo HC
    by_cases hlt : i < M
    · obtain ⟨e, he⟩ : ∃ e, es[i]? = some e := ⟨_, List.getElem?_eq_getElem (by have := HN.out; omega)⟩
      obtain ⟨b, o, A', c', hA0, hrg, hsl, hnil⟩ := HES.out i e (by rw [List.getElem?_append_left (by have := HN.out; omega)]; exact he)
      subst hA0
      obtain ⟨hw, hm⟩ := HO.out.wf he
      have hup := HO.out.up i e he
      obtain ⟨n, hn⟩ : ∃ n, n = e.d.length := ⟨_, rfl⟩
      rw [← hn] at hrg hsl
      obtain ⟨L, hL⟩ : ∃ L, L = e.cells (.slice A' n c') := ⟨_, rfl⟩
      rw [← hL] at hrg
      obtain ⟨q, hq⟩ : ∃ q, q = o + i * 49 := ⟨_, rfl⟩
      have HQ : Hid (o + i * 49 = q) := hq.symm
      rw [← hq] at hrg
      obtain ⟨dd, hdd⟩ : ∃ d, d = nx (lkf kk (es.take i)) e := ⟨_, rfl⟩
      have hlk : lkf kk (es.take (i + 1)) = dd := by rw [List.take_add_one, he, lkf_app, hdd]; rfl
      have hlt2 : ltm es (i + 1) = e.tm := by simp [ltm, he]
      have HDL : Hid (dd.length = 32) := by rw [hdd]; exact dig_length _
      have hNM := HNM.out
      have hlt2N : i < N := by omega
      clear hNM
      have HIN : Hid (i < N) := hlt2N
      have HI : Hid ((Tryz.prog.info? 46).map (·.size) = some L.length) := by rw [hL]; exact Ev.info hw _
      have HLZ : Hid (L.length = zE.length) := by show _ = _; rw [hL, Ev.len hw]; rfl
      have HLO : Hid (L.toArray.all (·.oneCell') = true) := by rw [hL]; exact all_oneCell_toArray (Ev.one e _ _ _)
      have HR : Hid (∀ X, Below w.heap.size w X → X.rangeAt b q L) := fun X k => range_be hrg k
      obtain ⟨R', hR'⟩ : ∃ R', R' = L ++ vB dd := ⟨_, rfl⟩
      have HRN : Hid (Irw R' (ltm es (i + 1)) (lkf kk (es.take (i + 1)))) := by rw [hlk, hlt2, hR', hL]; exact Irw.of hw _ dd HDL.out
      have HRL' : Hid (R'.length = zR.length) := by rw [HRN.out.len]; exact rfl
      have HRI' : Hid ((Tryz.prog.info? 84).map (·.size) = some R'.length) := HRN.out.info
      have HRO1 : Hid (∀ u ∈ R', u.oneCell' = true) := by rw [hR']; exact row_oneI _ _ (by rw [hL]; exact Ev.one e _ _ _)
      have HRO' : Hid (R'.toArray.all (·.oneCell') = true) := all_oneCell_toArray HRO1.out
      have HNX : Hid (∀ X, Below w.heap.size w X → Calls Tryz.prog 34 #[.agg R.toArray, .agg L.toArray] X fun r w' => r = .returned (.tuple #[.agg R'.toArray, .int .i64 0]) ∧ Below X.heap.size X w') := fun X k => by rw [hR']; exact rnext_ok e hw hm (lkf kk (es.take i)) dd hdd A' n c' hn.symm hnil L hL R _ HRi.out hup X (HT.out X k) (hsl.be k)
      clear he hrg hsl hnil hw hm hup hn hL hq hdd hlk hlt2 hR'
      go_upto_region 5 with (first
        | (refine wpList_ixO 52 46 (.tmp 14) (.tmp 16) rfl b o N c0 i 49 q HQ.out rfl rfl HIN.out Tryz.underlying52 info_ent rfl ?_; simp only [Act.put, List.setIfInBounds_toArray, List.set_cons_zero, List.set_cons_succ])
        | (refine wpList_load_w rfl 46 (.tmp 18) rfl b (q) rfl (L) _ (HR.out wr HBW.out) Tryz.underlying46 rfl HI.out ?_; simp only [Act.put, List.setIfInBounds_toArray, List.set_cons_zero, List.set_cons_succ])
        | (refine wpList_allocE rfl rfl ?_; intro Y1 q1 q2; have Z1 : Hid (Row Y1 wr.heap.size zE 46) := q1; have B1 : Hid (Below wr.heap.size wr Y1) := q2; clear q1 q2; simp only [Act.put, List.setIfInBounds_toArray, List.set_cons_zero, List.set_cons_succ])
        | (refine wpList_storeL rfl 46 (.tmp 9) (.tmp 19) rfl wr.heap.size L zE 46 rfl rfl Z1.out HLZ.out HI.out HLO.out ?_; intro Y2 q1 q2; have E2 : Hid (Row Y2 wr.heap.size L 46) := q2; have B2 : Hid (Below wr.heap.size wr Y2) := (by rw [q1]; exact below_setCells B1.out (Nat.le_refl _) _); clear q1 q2; simp only [Act.put]))
      obtain ⟨be, hbe⟩ : ∃ b, b = wr.heap.size := ⟨_, rfl⟩
      rw [← hbe] at E2 ⊢
      have RR2 : Hid (Row Y2 bl R 84) := Row.below HRr.out B2.out HRr.out.lt
      have TT2 : Hid (Row Y2 bt (vB tt) 51) := Row.below HTR.out B2.out HTR.out.lt
      have BW2 : Hid (Below w.heap.size w Y2) := HBW.out.trans (B2.out.mono HBW.out.size)
      clear hbe Z1 B1 B2 HRr HTR HBW HR HQ HIN HLZ HLO
      go_upto_region 6 with (first
        | (refine wpList_load_w rfl 84 (.tmp 7) rfl bl (0) rfl (R) _ RR2.out.all Tryz.underlying84 rfl HRI.out ?_; simp only [Act.put, List.setIfInBounds_toArray, List.set_cons_zero, List.set_cons_succ])
        | (refine wpList_load_w rfl 46 (.tmp 9) rfl be (0) rfl (L) _ E2.out.all Tryz.underlying46 rfl HI.out ?_; simp only [Act.put, List.setIfInBounds_toArray, List.set_cons_zero, List.set_cons_succ])
        | (go_at_call 34; refine Calls.mono (HNX.out Y2 BW2.out) ?_; rintro e4 Y3 ⟨rfl, q3⟩; have B3 : Hid (Below Y2.heap.size Y2 Y3) := q3; clear q3)
        | (refine wpList_allocR rfl rfl ?_; intro Y4 q1 q2; have Z4 : Hid (Row Y4 Y3.heap.size zR 84) := q1; have B4 : Hid (Below Y3.heap.size Y3 Y4) := q2; clear q1 q2; simp only [Act.put, List.setIfInBounds_toArray, List.set_cons_zero, List.set_cons_succ])
        | (refine wpList_storeL rfl 84 (.tmp 10) (.tmp 24) rfl Y3.heap.size R' zR 84 rfl rfl Z4.out HRL'.out HRI'.out HRO'.out ?_; intro Y5 q1 q2; have N5 : Hid (Row Y5 Y3.heap.size R' 84) := q2; have B5 : Hid (Below Y3.heap.size Y3 Y5) := (by rw [q1]; exact below_setCells B4.out (Nat.le_refl _) _); clear q1 q2; simp only [Act.put]))
      have B25 : Below Y2.heap.size Y2 Y5 := B3.out.trans (B5.out.mono B3.out.size)
      obtain ⟨bn, hbn⟩ : ∃ b, b = Y3.heap.size := ⟨_, rfl⟩
      rw [← hbn] at N5 ⊢
      have RR5 : Hid (Row Y5 bl R 84) := Row.below RR2.out B25 RR2.out.lt
      have TT5 : Hid (Row Y5 bt (vB tt) 51) := Row.below TT2.out B25 TT2.out.lt
      have BW5 : Hid (Below w.heap.size w Y5) := BW2.out.trans (B25.mono BW2.out.size)
      have HLR : Hid (R'.length = R.length) := by rw [HRL.out, HRL'.out]; exact rfl
      clear hbn B25 Z4 B3 B4 B5 RR2 TT2 BW2 E2 HNX
      go_upto_region 9 with (first
        | (refine wpList_load_w rfl 84 (.tmp 10) rfl bn (0) rfl (R') _ N5.out.all Tryz.underlying84 rfl HRI'.out ?_; simp only [Act.put, List.setIfInBounds_toArray, List.set_cons_zero, List.set_cons_succ])
        | (refine wpList_storeL rfl 84 (.tmp 7) (.tmp 29) rfl bl R' R 84 rfl rfl RR5.out HLR.out HRI'.out HRO'.out ?_; intro Y6 q1 q2; have R6 : Hid (Row Y6 bl R' 84) := q2; have T6 : Hid (Row Y6 bt (vB tt) 51) := (by rw [q1]; exact (gro_over (Gro.refl _ _) bl 0 R' rfl : Gro (· = bl) _ _).row TT5.out NBT.out); have B6 : Hid (Below w.heap.size w Y6) := (by rw [q1]; exact below_setCells BW5.out HBL.out _); clear q1 q2; simp only [Act.put]))
      have CN : Hid (Ck w Y6 bl (ltm es (i + 1)) (lkf kk (es.take (i + 1)))) := ⟨⟨R', R6.out, HRN.out, HRO1.out⟩, HBL.out, B6.out⟩
      clear RR5 TT5 BW5 N5 R6 B6 HRN HRO1
      go_wp2_with fail
      go_roundw
      case rel => exact ⟨i + 1, hlt, rfl, CN, T6⟩
      case measure => simp [intOf]; omega
    · obtain rfl : i = M := by omega
      obtain ⟨b, o, A', c', hA0, hrg, hsl, hnil⟩ := HES.out i el (by rw [HN.out, List.getElem?_append_right (Nat.le_refl _), Nat.sub_self]; rfl)
      subst hA0
      have hw := HWL.out
      obtain ⟨n, hn⟩ : ∃ n, n = el.d.length := ⟨_, rfl⟩
      rw [← hn] at hrg hsl
      obtain ⟨L, hL⟩ : ∃ L, L = el.cells (.slice A' n c') := ⟨_, rfl⟩
      rw [← hL] at hrg
      obtain ⟨q, hq⟩ : ∃ q, q = o + i * 49 := ⟨_, rfl⟩
      have HQ : Hid (o + i * 49 = q) := hq.symm
      rw [← hq] at hrg
      have hNM := HNM.out
      have hlt2N : i < N := by omega
      clear hNM
      have HIN : Hid (i < N) := hlt2N
      have HI : Hid ((Tryz.prog.info? 46).map (·.size) = some L.length) := by rw [hL]; exact Ev.info hw _
      have HLZ : Hid (L.length = zE.length) := by show _ = _; rw [hL, Ev.len hw]; rfl
      have HLO : Hid (L.toArray.all (·.oneCell') = true) := by rw [hL]; exact all_oneCell_toArray (Ev.one el _ _ _)
      have HR : Hid (∀ X, Below w.heap.size w X → X.rangeAt b q L) := fun X k => range_be hrg k
      obtain ⟨R', hR'⟩ : ∃ R', R' = zR := ⟨_, rfl⟩
      have HRL' : Hid (R'.length = zR.length) := by rw [hR']; exact rfl
      have HRI' : Hid ((Tryz.prog.info? 84).map (·.size) = some R'.length) := by rw [hR']; exact info_row
      have HRO' : Hid (R'.toArray.all (·.oneCell') = true) := by rw [hR']; exact zR_one
      have HNX : Hid (∀ X, Below w.heap.size w X → Calls Tryz.prog 34 #[.agg R.toArray, .agg L.toArray] X fun r w' => r = .returned (.tuple #[.agg R'.toArray, .int .i64 E]) ∧ Below X.heap.size X w') := fun X k => by rw [hR']; exact rnext_no el hw (lkf kk (es.take i)) A' n c' hn.symm hnil L hL R _ E HRi.out (by rw [HN.out]; exact HEE.out) X (HT.out X k) (hsl.be k)
      have hE0 : ¬ E = 0 := by rcases HEE.out.pos with q | q <;> omega
      clear hrg hsl hnil hw hn hL hq hR' hlt
      go_upto_region 5 with (first
        | (refine wpList_ixO 52 46 (.tmp 14) (.tmp 16) rfl b o N c0 i 49 q HQ.out rfl rfl HIN.out Tryz.underlying52 info_ent rfl ?_; simp only [Act.put, List.setIfInBounds_toArray, List.set_cons_zero, List.set_cons_succ])
        | (refine wpList_load_w rfl 46 (.tmp 18) rfl b (q) rfl (L) _ (HR.out wr HBW.out) Tryz.underlying46 rfl HI.out ?_; simp only [Act.put, List.setIfInBounds_toArray, List.set_cons_zero, List.set_cons_succ])
        | (refine wpList_allocE rfl rfl ?_; intro Y1 q1 q2; have Z1 : Hid (Row Y1 wr.heap.size zE 46) := q1; have B1 : Hid (Below wr.heap.size wr Y1) := q2; clear q1 q2; simp only [Act.put, List.setIfInBounds_toArray, List.set_cons_zero, List.set_cons_succ])
        | (refine wpList_storeL rfl 46 (.tmp 9) (.tmp 19) rfl wr.heap.size L zE 46 rfl rfl Z1.out HLZ.out HI.out HLO.out ?_; intro Y2 q1 q2; have E2 : Hid (Row Y2 wr.heap.size L 46) := q2; have B2 : Hid (Below wr.heap.size wr Y2) := (by rw [q1]; exact below_setCells B1.out (Nat.le_refl _) _); clear q1 q2; simp only [Act.put]))
      obtain ⟨be, hbe⟩ : ∃ b, b = wr.heap.size := ⟨_, rfl⟩
      rw [← hbe] at E2 ⊢
      have RR2 : Hid (Row Y2 bl R 84) := Row.below HRr.out B2.out HRr.out.lt
      have TT2 : Hid (Row Y2 bt (vB tt) 51) := Row.below HTR.out B2.out HTR.out.lt
      have BW2 : Hid (Below w.heap.size w Y2) := HBW.out.trans (B2.out.mono HBW.out.size)
      clear hbe Z1 B1 B2 HRr HTR HBW HR HQ HIN HLZ HLO
      go_upto_region 6 with (first
        | (refine wpList_load_w rfl 84 (.tmp 7) rfl bl (0) rfl (R) _ RR2.out.all Tryz.underlying84 rfl HRI.out ?_; simp only [Act.put, List.setIfInBounds_toArray, List.set_cons_zero, List.set_cons_succ])
        | (refine wpList_load_w rfl 46 (.tmp 9) rfl be (0) rfl (L) _ E2.out.all Tryz.underlying46 rfl HI.out ?_; simp only [Act.put, List.setIfInBounds_toArray, List.set_cons_zero, List.set_cons_succ])
        | (go_at_call 34; refine Calls.mono (HNX.out Y2 BW2.out) ?_; rintro e4 Y3 ⟨rfl, q3⟩; have B3 : Hid (Below Y2.heap.size Y2 Y3) := q3; clear q3)
        | (refine wpList_allocR rfl rfl ?_; intro Y4 q1 q2; have Z4 : Hid (Row Y4 Y3.heap.size zR 84) := q1; have B4 : Hid (Below Y3.heap.size Y3 Y4) := q2; clear q1 q2; simp only [Act.put, List.setIfInBounds_toArray, List.set_cons_zero, List.set_cons_succ])
        | (refine wpList_storeL rfl 84 (.tmp 10) (.tmp 24) rfl Y3.heap.size R' zR 84 rfl rfl Z4.out HRL'.out HRI'.out HRO'.out ?_; intro Y5 q1 q2; have N5 : Hid (Row Y5 Y3.heap.size R' 84) := q2; have B5 : Hid (Below Y3.heap.size Y3 Y5) := (by rw [q1]; exact below_setCells B4.out (Nat.le_refl _) _); clear q1 q2; simp only [Act.put]))
      have BW5 : Hid (Below w.heap.size w Y5) := BW2.out.trans ((B3.out.trans (B5.out.mono B3.out.size)).mono BW2.out.size)
      clear Z4 B3 B4 B5 RR2 TT2 BW2 E2 HNX N5
      go_wp2_with fail
      go_ret
      exact ⟨rfl, BW5.out⟩

end Go.Proofs.YtknabkoddickaaaGreatDoor

namespace Go.Proofs.YtknabkoddickaaaGreatDoor
open Go Go.RowKit
open Sha

theorem ltm_app (pre fs : List Ev) (i : Nat) (h : i ≤ pre.length) : ltm (pre ++ fs) i = ltm pre i := by
  cases i with
  | zero => rfl
  | succ i => simp only [ltm]; rw [List.getElem?_append_left (by omega)]
theorem Okr.snoc {pre : List Ev} {e : Ev} (h : Okr pre) (hw : e.Wf) (hm : e.May) (ht : ¬ e.tm < ltm pre pre.length) : Okr (pre ++ [e]) := by
  refine ⟨fun x hx => ?_, fun i x hx => ?_⟩
  · rcases List.mem_append.1 hx with z | z
    · exact h.ok x z
    · rw [List.mem_singleton.1 z]; exact ⟨hw, hm⟩
  · by_cases hi : i < pre.length
    · rw [List.getElem?_append_left hi] at hx
      rw [ltm_app _ _ _ (Nat.le_of_lt hi)]
      exact h.up i x hx
    · have hl := (List.getElem?_eq_some_iff.1 hx).1
      rw [List.length_append, List.length_singleton] at hl
      obtain rfl : i = pre.length := by omega
      rw [List.getElem?_append_right (Nat.le_refl _), Nat.sub_self] at hx
      cases hx
      rw [ltm_app _ _ _ (Nat.le_refl _)]
      exact ht
theorem okr_or (es : List Ev) (hw : ∀ e ∈ es, e.Wf) : Okr es ∨ ∃ pre el rest E, es = pre ++ el :: rest ∧ Okr pre ∧ rfE el (ltm pre pre.length) E := by
  have key : ∀ n, n ≤ es.length → Okr (es.take n) ∨ ∃ pre el rest E, es = pre ++ el :: rest ∧ Okr pre ∧ rfE el (ltm pre pre.length) E := by
    intro n
    induction n with
    | zero => exact fun _ => .inl ⟨fun e he => by simp at he, fun i e he => by simp at he⟩
    | succ n ih =>
      intro hn
      rcases ih (by omega) with h | h
      · have he : es[n]? = some es[n] := List.getElem?_eq_getElem (by omega)
        have hs : es = es.take n ++ es[n] :: es.drop (n + 1) := by rw [← List.drop_eq_getElem_cons (by omega), List.take_append_drop]
        have hwn := hw _ (List.mem_of_getElem? he)
        by_cases hm : es[n].May
        · by_cases ht : es[n].tm < ltm (es.take n) (es.take n).length
          · exact .inr ⟨es.take n, es[n], es.drop (n + 1), 153, hs, h, .inr ⟨hm, ht, rfl⟩⟩
          · left
            rw [show es.take (n + 1) = es.take n ++ [es[n]] by rw [List.take_add_one, he]; rfl]
            exact h.snoc hwn hm ht
        · exact .inr ⟨es.take n, es[n], es.drop (n + 1), 150, hs, h, .inl ⟨hm, rfl⟩⟩
      · exact .inr h
  have := key es.length (Nat.le_refl _)
  rwa [List.take_length] at this
/-- Both Checks. -/
theorem check_both (es : List Ev) (hw : ∀ e ∈ es, e.Wf) (hl : es.length ≤ 100000) (kk tt : List (BitVec 8)) (hk : kk.length = 32) (htt : tt.length = 32) : ∃ E : Int,
    (∀ (w : World) (A : Option Addr) (N c : Nat), N = es.length → Tab w 1 → EsAt w A es → Calls Tryz.prog 13 #[.agg (vB kk).toArray, .agg (vB tt).toArray, .slice A N c] w fun r w' => r = .returned (.int .i64 E) ∧ Below w.heap.size w w') ∧
    (∀ (w : World) (A : Option Addr) (N c : Nat), N = es.length → Given w → EsAt w A es → Calls Tryz.prog 14 #[.agg (vB kk).toArray, .agg (vB tt).toArray, .slice A N c] w fun r w' => r = .returned (.int .i64 E) ∧ Below w.heap.size w w') := by
  rcases okr_or es hw with h | ⟨pre, el, rest, E, he, h, hr⟩
  · exact ⟨if lkf kk es = tt then 0 else 154, fun w A N c hN hT hA => check_any es h A N c hN (by omega) kk tt hk htt w hT hA _ rfl, fun w A N c hN hG hA => dcheck_any es h A N c es.length rfl (by omega) kk tt hk htt w hG hA _ (.inl ⟨hN.symm, rfl⟩)⟩
  · have hlen : es.length = pre.length + (rest.length + 1) := by rw [he, List.length_append, List.length_cons]
    have hat : ∀ (w : World) (A : Option Addr), EsAt w A es → EsAt w A (pre ++ [el]) := fun w A hA i e hi => hA i e (by
      rw [he, show pre ++ el :: rest = (pre ++ [el]) ++ rest by simp, List.getElem?_append_left ((List.getElem?_eq_some_iff.1 hi).1)]
      exact hi)
    have hat2 : ∀ (w : World) (A : Option Addr), EsAt w A es → EsAt w A pre := fun w A hA i e hi => hA i e (by
      rw [he, List.getElem?_append_left ((List.getElem?_eq_some_iff.1 hi).1)]
      exact hi)
    have hwl : el.Wf := hw el (by rw [he]; exact List.mem_append_right _ List.mem_cons_self)
    exact ⟨E, fun w A N c hN hT hA => check_noL pre h A N c pre.length rfl (by omega) (by omega) kk tt hk htt w hT el hwl (hat w A hA) E hr, fun w A N c hN hG hA => dcheck_any pre h A N c pre.length rfl (by omega) kk tt hk htt w hG (hat2 w A hA) E (.inr ⟨by omega, el, hwl, hat w A hA, hr⟩)⟩
/-- The program's Next. -/
theorem inext_any (e : Ev) (hw : e.Wf) (kk dd : List (BitVec 8)) (hk : kk.length = 32) (hd : dd = nxg kk e) (E : Int) (hE : E = nxE e) (A : Option Addr) (n cap : Nat) (hn : e.d.length = n) (hnil : A = none → cap = 0) (L : List Value) (hL : L = e.cells (.slice A n cap)) (w : World) (hT : Tab w 1) (hS : SlAt w (.slice A n cap) e.d) :
    Calls Tryz.prog 15 #[.agg (vB kk).toArray, .agg L.toArray] w fun r w' => r = .returned (.tuple #[.agg (vB dd).toArray, .int .i64 E]) ∧ Below w.heap.size w w' := by
  by_cases hm : e.May
  · rw [hE, show nxE e = 0 from if_pos hm]
    exact inext_ok e hw hm kk dd hk (by rw [hd]; exact if_pos hm) A n cap hn hnil L hL w hT hS
  · rw [hE, show nxE e = 150 from if_neg hm, hd, show nxg kk e = zK from if_neg hm]
    exact inext_no e hw hm kk A n cap hn L hL w

end Go.Proofs.YtknabkoddickaaaGreatDoor
