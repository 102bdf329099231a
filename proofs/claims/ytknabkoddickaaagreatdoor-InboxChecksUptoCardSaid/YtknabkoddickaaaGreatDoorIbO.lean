/-
  the inbox: Check of entries that may be, one behind the other.
-/
import Derived.Test.YtknabkoddickaaaGreatDoorIbM
namespace Go.Proofs.YtknabkoddickaaaGreatDoor
open Go Go.RowKit
open Sha

theorem built_r1 (kk : List (BitVec 8)) (hk : kk.length = 32) : Tryz.prog.built 84 [(1, .agg (vB kk).toArray)] = some (zE ++ vB kk).toArray := by
  obtain ⟨places, p, p0, p1⟩ := built_row
  have hl : (vB kk).length = 32 := by rw [vB_length, hk]
  rw [p, fill_step _ 1 49 _ (vB kk) zR _ (by rw [hl]; exact p1) rfl (by rw [hl]; decide)]
  have z := cut_mid zE (vB zK) [] (vB kk) (by rw [hl]; rfl)
  rw [show zE.length = 49 by decide, List.append_nil, List.append_nil] at z
  show some (List.toArray _) = _
  unfold zR
  rw [z]
theorem wpList_buildR1 {ops : Array Oper} {rest : List Oper} {op : Oper} {a : Act} {w : World} {Q : Exit → Act → World → Prop} (hgd : op.guard = none) (x : Operand) (ho : op.op = .build 84 #[(1, x)]) (kk : List (BitVec 8)) (hk : kk.length = 32) (hx : a.eval x = .agg (vB kk).toArray) (R : List Value) (hR : R = zE ++ vB kk) (h : wpList Tryz.prog ops Q rest (a.put op.dst (.agg R.toArray)) w) : wpList Tryz.prog ops Q (op :: rest) a w :=
  wpList_plain hgd fun _ hK => by
    subst hR
    have hr := run_build (P := Tryz.prog) w 84 #[(1, .agg (vB kk).toArray)] _ (built_r1 kk hk)
    unfold Oper.wp execOp
    simp only [ho, List.map_toArray, List.map_cons, List.map_nil, hx, Sem.run_bind, hr, Result.andThen_ok, Sem.run_pure, Oper.upon_value]
    exact hK _ _ h
theorem Irw.first (kk : List (BitVec 8)) (hk : kk.length = 32) : Irw (zE ++ vB kk) 0 kk := ⟨rw_len _ _ (by decide) hk, by rw [List.getElem?_append_left (by decide)]; rfl, fun j u q => by
    rw [List.getElem?_append_right (by rw [show zE.length = 49 by decide]; omega), show zE.length = 49 by decide, Nat.add_sub_cancel_left]; exact q, hk⟩
theorem zE_one : ∀ v ∈ zE, v.oneCell' = true := ent_one1 _ _ _ _ _ _ _ _ _ _
theorem row_oneI (L : List Value) (kk : List (BitVec 8)) (h : ∀ v ∈ L, v.oneCell' = true) : ∀ u ∈ L ++ vB kk, u.oneCell' = true := fun u hu => by
  rcases List.mem_append.1 hu with q | q
  · exact h u q
  · exact vB_one _ u q
theorem wpList_neq_bI {ops : Array Oper} {rest : List Oper} {op : Oper} {a : Act} {w : World} {Q : Exit → Act → World → Prop} (hw : Region.wanted op (yielded ops a.tmps) = true) (x y : Operand) (yt : TypeId) (ho : op.op = .binOp .neq 51 x y yt) (l r : List (BitVec 8)) (hx : a.eval x = .agg (vB l).toArray) (hy : a.eval y = .agg (vB r).toArray) (hl : l.length = 32) (hr : r.length = 32)
    (B : Bool) (hB : (!decide (l = r)) = B) (h : wpList Tryz.prog ops Q rest (a.put op.dst (.bool B)) w) : wpList Tryz.prog ops Q (op :: rest) a w :=
  BigFrame.wpList_want hw fun _ hK => by
    have hq := run_neq_vB (P := Tryz.prog) w 51 5 32 Tryz.underlying51 Tryz.underlying5 info_u8 l r hl hr
    rw [hB] at hq
    unfold Oper.wp execOp
    simp only [ho, hx, hy, Sem.run_bind, run_eqGuard_agg w .neq 51 x y _ _ guardDE, Result.andThen_ok, hq, Sem.run_pure, Oper.upon_value]
    exact hK _ _ h
/-- The row that Check has behind some entries. -/
structure Ck (w w' : World) (bl : Nat) (t0 : Int) (kk : List (BitVec 8)) : Prop where
  r : ∃ R, Row w' bl R 84 ∧ Irw R t0 kk ∧ ∀ u ∈ R, u.oneCell' = true
  b0 : w.heap.size ≤ bl
  be : Below w.heap.size w w'
set_option maxRecDepth 100000 in
set_option maxHeartbeats 8000000 in
theorem check_any (es : List Ev) (ho : Okr es) (A0 : Option Addr) (N c0 : Nat) (hN : N = es.length) (hNb : N ≤ 100000) (kk tt : List (BitVec 8)) (hk : kk.length = 32) (htt : tt.length = 32) (w : World) (hT : Tab w 1) (h0 : EsAt w A0 es) (E : Int) (hE : E = if lkf kk es = tt then 0 else 154) :
    Calls Tryz.prog 13 #[.agg (vB kk).toArray, .agg (vB tt).toArray, .slice A0 N c0] w fun r w' => r = .returned (.int .i64 E) ∧ Below w.heap.size w w' := by
  have HO : Hid (Okr es) := ho
  have HN : Hid (N = es.length) := hN
  have HT : Hid (∀ X, Below w.heap.size w X → Tab X 1) := fun X k => hT.below k hT.lt
  have HES : Hid (EsAt w A0 es) := h0
  have HKK : Hid (kk.length = 32) := hk
  have HTT : Hid (tt.length = 32) := htt
  have HEE : Hid (E = if lkf kk es = tt then 0 else 154) := hE
  obtain ⟨MK, hMK⟩ : ∃ M, M = vB kk := ⟨_, rfl⟩
  obtain ⟨MT, hMT⟩ : ∃ M, M = vB tt := ⟨_, rfl⟩
  have HMK : Hid (MK = vB kk) := hMK
  have HMT : Hid (MT = vB tt) := hMT
  have HIK : Hid ((Tryz.prog.info? 51).map (·.size) = some (vB kk).length) := by show _ = _; rw [vB_length, hk]; exact info_dg
  have HIT : Hid ((Tryz.prog.info? 51).map (·.size) = some (vB tt).length) := by show _ = _; rw [vB_length, htt]; exact info_dg
  obtain ⟨R0, hR0⟩ : ∃ R, R = zE ++ vB kk := ⟨_, rfl⟩
  have HR0 : Hid (R0 = zE ++ vB kk) := hR0
  have HL0 : Hid (R0.length = zR.length) := by show _ = _; rw [hR0, rw_len _ _ (by decide) hk]; rfl
  have HI0 : Hid ((Tryz.prog.info? 84).map (·.size) = some R0.length) := by show _ = _; rw [HL0.out]; exact info_row
  have HO0 : Hid (R0.toArray.all (·.oneCell') = true) := by rw [hR0]; exact rw_one _ _ zE_one
  rw [← hMK, ← hMT]
  clear ho hN hT h0 hk htt hE hMK hMT hR0
  go_enter Tryz.func13, Tryz.ntmps13
  go_upto_region 1 with (first
    | (refine wpList_boxG 51 rfl (.tmp 0) rfl MK rfl ?_; intro X1 q1 q2 q3; have D1 : Hid (Row X1 w.heap.size (vB kk) 51) := (by rw [← HMK.out]; exact q1); have B1 : Hid (Below w.heap.size w X1) := q2; clear q1 q2 q3; simp only [Act.put, List.setIfInBounds_toArray, List.set_cons_zero, List.set_cons_succ])
    | (refine wpList_boxG 51 rfl (.tmp 1) rfl MT rfl ?_; intro X2 q1 q2 q3; have T2 : Hid (Row X2 X1.heap.size (vB tt) 51) := (by rw [← HMT.out]; exact q1); have D2 : Hid (Row X2 w.heap.size (vB kk) 51) := Row.below D1.out q2 D1.out.lt; have B2 : Hid (Below w.heap.size w X2) := B1.out.trans (q2.mono B1.out.size); clear q1 q2 q3; simp only [Act.put, List.setIfInBounds_toArray, List.set_cons_zero, List.set_cons_succ]))
  obtain ⟨bk, hbk⟩ : ∃ b, b = w.heap.size := ⟨_, rfl⟩
  obtain ⟨bt, hbt⟩ : ∃ b, b = X1.heap.size := ⟨_, rfl⟩
  have NT : Hid (bt < X2.heap.size) := by rw [hbt]; exact T2.out.lt
  rw [← hbk] at D2 ⊢
  rw [← hbt] at T2 ⊢
  clear hbk hbt D1 B1
  go_upto_region 2 with (first
    | (refine wpList_load_w rfl 51 (.tmp 3) rfl bk (0) rfl (vB kk) _ D2.out.all Tryz.underlying51 rfl HIK.out ?_; simp only [Act.put, List.setIfInBounds_toArray, List.set_cons_zero, List.set_cons_succ])
    | (refine wpList_buildR1 rfl (.tmp 12) rfl kk HKK.out rfl R0 HR0.out ?_; simp only [Act.put, List.setIfInBounds_toArray, List.set_cons_zero, List.set_cons_succ])
    | (refine wpList_allocR rfl rfl ?_; intro X3 q1 q2; have Z3 : Hid (Row X3 X2.heap.size zR 84) := q1; have B3 : Hid (Below X2.heap.size X2 X3) := q2; clear q1 q2; simp only [Act.put, List.setIfInBounds_toArray, List.set_cons_zero, List.set_cons_succ])
    | (refine wpList_storeL rfl 84 (.tmp 7) (.tmp 13) rfl X2.heap.size R0 zR 84 rfl rfl Z3.out HL0.out HI0.out HO0.out ?_; intro X4 q1 q2; have R4 : Hid (Row X4 X2.heap.size R0 84) := q2; have B4 : Hid (Below X2.heap.size X2 X4) := (by rw [q1]; exact below_setCells B3.out (Nat.le_refl _) _); clear q1 q2; simp only [Act.put]))
  obtain ⟨bl, hbl⟩ : ∃ b, b = X2.heap.size := ⟨_, rfl⟩
  have T4 : Hid (Row X4 bt (vB tt) 51) := Row.below T2.out B4.out T2.out.lt
  have C0 : Hid (Ck w X4 bl (ltm es 0) (lkf kk (es.take 0))) := ⟨⟨R0, by rw [hbl]; exact R4.out, by rw [HR0.out]; exact Irw.first kk HKK.out, by rw [HR0.out]; exact row_oneI _ _ zE_one⟩, by rw [hbl]; exact B2.out.size, B2.out.trans (B4.out.mono B2.out.size)⟩
  rw [← hbl] at R4 ⊢
  have NBT : Hid (bt ≠ bl) := by show _ ≠ _; have := NT.out; omega
  clear hbl B2 B3 B4 Z3 R4 D2 T2 HR0 HL0 HI0 HO0 HIK HMK HMT NT
  go_wp2_with fail
  go_loopw [16] (fun v16 wr => ∃ (i : Nat), i ≤ N ∧ v16 = .int .i64 (i : Int) ∧ Hid (Ck w wr bl (ltm es i) (lkf kk (es.take i))) ∧ Hid (Row wr bt (vB tt) 51)) (fun v16 _ => N - (intOf v16).toNat)
  case atStart => exact ⟨0, Nat.zero_le _, rfl, C0, T4⟩
  case round =>
    obtain ⟨i, hi, rfl, HC, HTR⟩ := hrel
    clear C0 T4
    obtain ⟨R, hRr, hRi, hRo⟩ := HC.out.r
    have HRr : Hid (Row wr bl R 84) := hRr
    have HRi : Hid (Irw R (ltm es i) (lkf kk (es.take i))) := hRi
    have HRL : Hid (R.length = 81) := hRi.len
    have HRI : Hid ((Tryz.prog.info? 84).map (·.size) = some R.length) := hRi.info
    have HBW : Hid (Below w.heap.size w wr) := HC.out.be
    have HBL : Hid (w.heap.size ≤ bl) := HC.out.b0
    clear hRr hRi hRo HC
    by_cases hlt : i < N
    · obtain ⟨e, he⟩ : ∃ e, es[i]? = some e := ⟨_, List.getElem?_eq_getElem (by have := HN.out; omega)⟩
      obtain ⟨b, o, A', c', hA0, hrg, hsl, hnil⟩ := HES.out i e he
      subst hA0
      obtain ⟨hw, hm⟩ := HO.out.wf he
      have hup := HO.out.up i e he
      obtain ⟨n, hn⟩ : ∃ n, n = e.d.length := ⟨_, rfl⟩
      rw [← hn] at hrg hsl
      obtain ⟨L, hL⟩ : ∃ L, L = e.cells (.slice A' n c') := ⟨_, rfl⟩
      rw [← hL] at hrg
      obtain ⟨q, hq⟩ : ∃ q, q = o + i * 49 := ⟨_, rfl⟩
      have HQ : Hid (o + i * 49 = q) := hq.symm
      rw [← hq] at hrg
      obtain ⟨dd, hdd⟩ : ∃ d, d = nx (lkf kk (es.take i)) e := ⟨_, rfl⟩
      have hlk : lkf kk (es.take (i + 1)) = dd := by rw [List.take_add_one, he, lkf_app, hdd]; rfl
      have hlt2 : ltm es (i + 1) = e.tm := by simp [ltm, he]
      have HDL : Hid (dd.length = 32) := by rw [hdd]; exact dig_length _
      have HIN : Hid (i < N) := hlt
      have HI : Hid ((Tryz.prog.info? 46).map (·.size) = some L.length) := by rw [hL]; exact Ev.info hw _
      have HLZ : Hid (L.length = zE.length) := by show _ = _; rw [hL, Ev.len hw]; rfl
      have HLO : Hid (L.toArray.all (·.oneCell') = true) := by rw [hL]; exact all_oneCell_toArray (Ev.one e _ _ _)
      have HR : Hid (∀ X, Below w.heap.size w X → X.rangeAt b q L) := fun X k => range_be hrg k
      obtain ⟨R', hR'⟩ : ∃ R', R' = L ++ vB dd := ⟨_, rfl⟩
      have HRN : Hid (Irw R' (ltm es (i + 1)) (lkf kk (es.take (i + 1)))) := by rw [hlk, hlt2, hR', hL]; exact Irw.of hw _ dd HDL.out
      have HRL' : Hid (R'.length = zR.length) := by rw [HRN.out.len]; exact rfl
      have HRI' : Hid ((Tryz.prog.info? 84).map (·.size) = some R'.length) := HRN.out.info
      have HRO1 : Hid (∀ u ∈ R', u.oneCell' = true) := by rw [hR']; exact row_oneI _ _ (by rw [hL]; exact Ev.one e _ _ _)
      have HRO' : Hid (R'.toArray.all (·.oneCell') = true) := all_oneCell_toArray HRO1.out
      have HNX : Hid (∀ X, Below w.heap.size w X → Calls Tryz.prog 34 #[.agg R.toArray, .agg L.toArray] X fun r w' => r = .returned (.tuple #[.agg R'.toArray, .int .i64 0]) ∧ Below X.heap.size X w') := fun X k => by rw [hR']; exact rnext_ok e hw hm (lkf kk (es.take i)) dd hdd A' n c' hn.symm hnil L hL R _ HRi.out hup X (HT.out X k) (hsl.be k)
      clear he hrg hsl hnil hw hm hup hn hL hq hdd hlk hlt2 hR'
      go_upto_region 5 with (first
        | (refine wpList_ixO 52 46 (.tmp 14) (.tmp 16) rfl b o N c0 i 49 q HQ.out rfl rfl HIN.out Tryz.underlying52 info_ent rfl ?_; simp only [Act.put, List.setIfInBounds_toArray, List.set_cons_zero, List.set_cons_succ])
        | (refine wpList_load_w rfl 46 (.tmp 18) rfl b (q) rfl (L) _ (HR.out wr HBW.out) Tryz.underlying46 rfl HI.out ?_; simp only [Act.put, List.setIfInBounds_toArray, List.set_cons_zero, List.set_cons_succ])
        | (refine wpList_allocE rfl rfl ?_; intro Y1 q1 q2; have Z1 : Hid (Row Y1 wr.heap.size zE 46) := q1; have B1 : Hid (Below wr.heap.size wr Y1) := q2; clear q1 q2; simp only [Act.put, List.setIfInBounds_toArray, List.set_cons_zero, List.set_cons_succ])
        | (refine wpList_storeL rfl 46 (.tmp 9) (.tmp 19) rfl wr.heap.size L zE 46 rfl rfl Z1.out HLZ.out HI.out HLO.out ?_; intro Y2 q1 q2; have E2 : Hid (Row Y2 wr.heap.size L 46) := q2; have B2 : Hid (Below wr.heap.size wr Y2) := (by rw [q1]; exact below_setCells B1.out (Nat.le_refl _) _); clear q1 q2; simp only [Act.put]))
      obtain ⟨be, hbe⟩ : ∃ b, b = wr.heap.size := ⟨_, rfl⟩
      rw [← hbe] at E2 ⊢
      have RR2 : Hid (Row Y2 bl R 84) := Row.below HRr.out B2.out HRr.out.lt
      have TT2 : Hid (Row Y2 bt (vB tt) 51) := Row.below HTR.out B2.out HTR.out.lt
      have BW2 : Hid (Below w.heap.size w Y2) := HBW.out.trans (B2.out.mono HBW.out.size)
      clear hbe Z1 B1 B2 HRr HTR HBW HR HQ HIN HLZ HLO
      go_upto_region 6 with (first
        | (refine wpList_load_w rfl 84 (.tmp 7) rfl bl (0) rfl (R) _ RR2.out.all Tryz.underlying84 rfl HRI.out ?_; simp only [Act.put, List.setIfInBounds_toArray, List.set_cons_zero, List.set_cons_succ])
        | (refine wpList_load_w rfl 46 (.tmp 9) rfl be (0) rfl (L) _ E2.out.all Tryz.underlying46 rfl HI.out ?_; simp only [Act.put, List.setIfInBounds_toArray, List.set_cons_zero, List.set_cons_succ])
        | (go_at_call 34; refine Calls.mono (HNX.out Y2 BW2.out) ?_; rintro e4 Y3 ⟨rfl, q3⟩; have B3 : Hid (Below Y2.heap.size Y2 Y3) := q3; clear q3)
        | (refine wpList_allocR rfl rfl ?_; intro Y4 q1 q2; have Z4 : Hid (Row Y4 Y3.heap.size zR 84) := q1; have B4 : Hid (Below Y3.heap.size Y3 Y4) := q2; clear q1 q2; simp only [Act.put, List.setIfInBounds_toArray, List.set_cons_zero, List.set_cons_succ])
        | (refine wpList_storeL rfl 84 (.tmp 10) (.tmp 24) rfl Y3.heap.size R' zR 84 rfl rfl Z4.out HRL'.out HRI'.out HRO'.out ?_; intro Y5 q1 q2; have N5 : Hid (Row Y5 Y3.heap.size R' 84) := q2; have B5 : Hid (Below Y3.heap.size Y3 Y5) := (by rw [q1]; exact below_setCells B4.out (Nat.le_refl _) _); clear q1 q2; simp only [Act.put]))
      have B25 : Below Y2.heap.size Y2 Y5 := B3.out.trans (B5.out.mono B3.out.size)
      obtain ⟨bn, hbn⟩ : ∃ b, b = Y3.heap.size := ⟨_, rfl⟩
      rw [← hbn] at N5 ⊢
      have RR5 : Hid (Row Y5 bl R 84) := Row.below RR2.out B25 RR2.out.lt
      have TT5 : Hid (Row Y5 bt (vB tt) 51) := Row.below TT2.out B25 TT2.out.lt
      have BW5 : Hid (Below w.heap.size w Y5) := BW2.out.trans (B25.mono BW2.out.size)
      have HLR : Hid (R'.length = R.length) := by rw [HRL.out, HRL'.out]; exact rfl
      clear hbn B25 Z4 B3 B4 B5 RR2 TT2 BW2 E2 HNX
      go_upto_region 9 with (first
        | (refine wpList_load_w rfl 84 (.tmp 10) rfl bn (0) rfl (R') _ N5.out.all Tryz.underlying84 rfl HRI'.out ?_; simp only [Act.put, List.setIfInBounds_toArray, List.set_cons_zero, List.set_cons_succ])
        | (refine wpList_storeL rfl 84 (.tmp 7) (.tmp 29) rfl bl R' R 84 rfl rfl RR5.out HLR.out HRI'.out HRO'.out ?_; intro Y6 q1 q2; have R6 : Hid (Row Y6 bl R' 84) := q2; have T6 : Hid (Row Y6 bt (vB tt) 51) := (by rw [q1]; exact (gro_over (Gro.refl _ _) bl 0 R' rfl : Gro (· = bl) _ _).row TT5.out NBT.out); have B6 : Hid (Below w.heap.size w Y6) := (by rw [q1]; exact below_setCells BW5.out HBL.out _); clear q1 q2; simp only [Act.put]))
      have CN : Hid (Ck w Y6 bl (ltm es (i + 1)) (lkf kk (es.take (i + 1)))) := ⟨⟨R', R6.out, HRN.out, HRO1.out⟩, HBL.out, B6.out⟩
      clear RR5 TT5 BW5 N5 R6 B6 HRN HRO1
      go_wp2_with fail
      go_roundw
      case rel => exact ⟨i + 1, hlt, rfl, CN, T6⟩
      case measure => simp [intOf]; omega
    · obtain rfl : i = N := by omega
      have h1 : ¬ ((i : Int) < (i : Int)) := by omega
      obtain ⟨zz, hzz⟩ : ∃ z, z = lkf kk (es.take i) := ⟨_, rfl⟩
      have hz2 : lkf kk es = zz := by rw [hzz, HN.out, List.take_length]
      have HZL : Hid (zz.length = 32) := by rw [hzz]; exact lkf_len kk HKK.out _
      have HIZ : Hid ((Tryz.prog.info? 51).map (·.size) = some (vB zz).length) := by show _ = _; rw [vB_length, HZL.out]; exact info_dg
      have HZR : Hid (wr.rangeAt bl 49 (vB zz)) := HRr.out.range 49 _ (fun j u hj => HRi.out.lk j u (by rw [← hzz]; exact hj))
      rw [hz2] at HEE
      clear hzz hz2
      by_cases hq : zz = tt
      · have HZT : Hid (zz = tt) := hq
        have HE0 : Hid (E = 0) := by have := HEE.out; rw [if_pos hq] at this; exact this
        clear hq
        go_wp2_with (first
          | (refine wpList_load_w rfl 51 (.tmp 31) rfl bl (49) rfl (vB zz) _ HZR.out Tryz.underlying51 rfl HIZ.out ?_; simp only [Act.put, List.setIfInBounds_toArray, List.set_cons_zero, List.set_cons_succ])
          | (refine wpList_load_w rfl 51 (.tmp 4) rfl bt (0) rfl (vB tt) _ HTR.out.all Tryz.underlying51 rfl HIT.out ?_; simp only [Act.put, List.setIfInBounds_toArray, List.set_cons_zero, List.set_cons_succ])
          | (refine wpList_neq_bI rfl (.tmp 32) (.tmp 33) _ rfl zz tt rfl rfl HZL.out HTT.out false (by rw [decide_eq_true HZT.out]; rfl) ?_; simp only [Act.put, List.setIfInBounds_toArray, List.set_cons_zero, List.set_cons_succ]))
        go_ret
        exact ⟨by rw [HE0.out]; rfl, HBW.out⟩
      · have HZT : Hid (¬ zz = tt) := hq
        have HE0 : Hid (E = 154) := by have := HEE.out; rw [if_neg hq] at this; exact this
        clear hq
        go_wp2_with (first
          | (refine wpList_load_w rfl 51 (.tmp 31) rfl bl (49) rfl (vB zz) _ HZR.out Tryz.underlying51 rfl HIZ.out ?_; simp only [Act.put, List.setIfInBounds_toArray, List.set_cons_zero, List.set_cons_succ])
          | (refine wpList_load_w rfl 51 (.tmp 4) rfl bt (0) rfl (vB tt) _ HTR.out.all Tryz.underlying51 rfl HIT.out ?_; simp only [Act.put, List.setIfInBounds_toArray, List.set_cons_zero, List.set_cons_succ])
          | (refine wpList_neq_bI rfl (.tmp 32) (.tmp 33) _ rfl zz tt rfl rfl HZL.out HTT.out true (by rw [decide_eq_false HZT.out]; rfl) ?_; simp only [Act.put, List.setIfInBounds_toArray, List.set_cons_zero, List.set_cons_succ]))
        go_ret
        exact ⟨by rw [HE0.out]; rfl, HBW.out⟩

end Go.Proofs.YtknabkoddickaaaGreatDoor
