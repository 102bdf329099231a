/-
  InboxOne: laws; what stands.
-/
import Derived.Test.YtfjhecmnbodkfaaGreatDoorIbM
import Derived.Test.YtfjhecmnbodkfaaGreatDoorIoA
import Derived.Test.YtfjhecmnbodkfaaGreatDoorIo0
import Derived.Laws.MakeOwn
import Derived.Test.YtfjhecmnbodkfaaGreatDoorIbL
import Derived.Test.YtfjhecmnbodkfaaGreatDoorIoC
import Derived.Test.YtfjhecmnbodkfaaGreatDoorIoF

namespace Go.Proofs.YtfjhecmnbodkfaaGreatDoor
open Go Go.RowKit
open Sha

theorem built_r1 (kk : List (BitVec 8)) (hk : kk.length = 32) : Tryz.prog.built 90 [(1, .agg (vB kk).toArray)] = some (zE ++ vB kk).toArray := by
  obtain ⟨places, p, p0, p1⟩ := built_row
  have hl : (vB kk).length = 32 := by rw [vB_length, hk]
  rw [p, fill_step _ 1 49 _ (vB kk) zR _ (by rw [hl]; exact p1) rfl (by rw [hl]; decide)]
  have z := cut_mid zE (vB zK) [] (vB kk) (by rw [hl]; rfl)
  rw [show zE.length = 49 by decide, List.append_nil, List.append_nil] at z
  show some (List.toArray _) = _
  unfold zR
  rw [z]
theorem wpList_buildR1 {ops : Array Oper} {rest : List Oper} {op : Oper} {a : Act} {w : World} {Q : Exit → Act → World → Prop} (hgd : op.guard = none) (x : Operand) (ho : op.op = .build 90 #[(1, x)]) (kk : List (BitVec 8)) (hk : kk.length = 32) (hx : a.eval x = .agg (vB kk).toArray) (R : List Value) (hR : R = zE ++ vB kk) (h : wpList Tryz.prog ops Q rest (a.put op.dst (.agg R.toArray)) w) : wpList Tryz.prog ops Q (op :: rest) a w :=
  wpList_plain hgd fun _ hK => by
    subst hR
    have hr := run_build (P := Tryz.prog) w 90 #[(1, .agg (vB kk).toArray)] _ (built_r1 kk hk)
    unfold Oper.wp execOp
    simp only [ho, List.map_toArray, List.map_cons, List.map_nil, hx, Sem.run_bind, hr, Result.andThen_ok, Sem.run_pure, Oper.upon_value]
    exact hK _ _ h
theorem Irw.first (kk : List (BitVec 8)) (hk : kk.length = 32) : Irw (zE ++ vB kk) 0 kk := ⟨rw_len _ _ (by decide) hk, by rw [List.getElem?_append_left (by decide)]; rfl, fun j u q => by
    rw [List.getElem?_append_right (by rw [show zE.length = 49 by decide]; omega), show zE.length = 49 by decide, Nat.add_sub_cancel_left]; exact q, hk⟩
theorem zE_one : ∀ v ∈ zE, v.oneCell' = true := ent_one1 _ _ _ _ _ _ _ _ _ _
theorem row_oneI (L : List Value) (kk : List (BitVec 8)) (h : ∀ v ∈ L, v.oneCell' = true) : ∀ u ∈ L ++ vB kk, u.oneCell' = true := fun u hu => by
  rcases List.mem_append.1 hu with q | q
  · exact h u q
  · exact vB_one _ u q
theorem wpList_neq_bI {ops : Array Oper} {rest : List Oper} {op : Oper} {a : Act} {w : World} {Q : Exit → Act → World → Prop} (hw : Region.wanted op (yielded ops a.tmps) = true) (x y : Operand) (yt : TypeId) (ho : op.op = .binOp .neq 51 x y yt) (l r : List (BitVec 8)) (hx : a.eval x = .agg (vB l).toArray) (hy : a.eval y = .agg (vB r).toArray) (hl : l.length = 32) (hr : r.length = 32)
    (B : Bool) (hB : (!decide (l = r)) = B) (h : wpList Tryz.prog ops Q rest (a.put op.dst (.bool B)) w) : wpList Tryz.prog ops Q (op :: rest) a w :=
  BigFrame.wpList_want hw fun _ hK => by
    have hq := run_neq_vB (P := Tryz.prog) w 51 5 32 Tryz.underlying51 Tryz.underlying5 info_u8 l r hl hr
    rw [hB] at hq
    unfold Oper.wp execOp
    simp only [ho, hx, hy, Sem.run_bind, run_eqGuard_agg w .neq 51 x y _ _ guardDE, Result.andThen_ok, hq, Sem.run_pure, Oper.upon_value]
    exact hK _ _ h
/-- The row that Check has behind some entries. -/
structure Ck (w w' : World) (bl : Nat) (t0 : Int) (kk : List (BitVec 8)) : Prop where
  r : ∃ R, Row w' bl R 90 ∧ Irw R t0 kk ∧ ∀ u ∈ R, u.oneCell' = true
  b0 : w.heap.size ≤ bl
  be : Below w.heap.size w w'
set_option maxRecDepth 100000 in
set_option maxHeartbeats 8000000 in
theorem check_any (es : List Ev) (ho : Okr es) (A0 : Option Addr) (N c0 : Nat) (hN : N = es.length) (hNb : N ≤ 100000) (kk tt : List (BitVec 8)) (hk : kk.length = 32) (htt : tt.length = 32) (w : World) (hT : Tab w 1) (h0 : EsAt w A0 es) (E : Int) (hE : E = if lkf kk es = tt then 0 else 154) :
    Calls Tryz.prog 14 #[.agg (vB kk).toArray, .agg (vB tt).toArray, .slice A0 N c0] w fun r w' => r = .returned (.int .i64 E) ∧ Below w.heap.size w w' := by
  have HO : Hid (Okr es) := ho
  have HN : Hid (N = es.length) := hN
  have HT : Hid (∀ X, Below w.heap.size w X → Tab X 1) := fun X k => hT.below k hT.lt
  have HES : Hid (EsAt w A0 es) := h0
  have HKK : Hid (kk.length = 32) := hk
  have HTT : Hid (tt.length = 32) := htt
  have HEE : Hid (E = if lkf kk es = tt then 0 else 154) := hE
  obtain ⟨MK, hMK⟩ : ∃ M, M = vB kk := ⟨_, rfl⟩
  obtain ⟨MT, hMT⟩ : ∃ M, M = vB tt := ⟨_, rfl⟩
  have HMK : Hid (MK = vB kk) := hMK
  have HMT : Hid (MT = vB tt) := hMT
  have HIK : Hid ((Tryz.prog.info? 51).map (·.size) = some (vB kk).length) := by show _ = _; rw [vB_length, hk]; exact info_dg
  have HIT : Hid ((Tryz.prog.info? 51).map (·.size) = some (vB tt).length) := by show _ = _; rw [vB_length, htt]; exact info_dg
  obtain ⟨R0, hR0⟩ : ∃ R, R = zE ++ vB kk := ⟨_, rfl⟩
  have HR0 : Hid (R0 = zE ++ vB kk) := hR0
  have HL0 : Hid (R0.length = zR.length) := by show _ = _; rw [hR0, rw_len _ _ (by decide) hk]; rfl
  have HI0 : Hid ((Tryz.prog.info? 90).map (·.size) = some R0.length) := by show _ = _; rw [HL0.out]; exact info_row
  have HO0 : Hid (R0.toArray.all (·.oneCell') = true) := by rw [hR0]; exact rw_one _ _ zE_one
  rw [← hMK, ← hMT]
  clear ho hN hT h0 hk htt hE hMK hMT hR0
  go_enter Tryz.func14, Tryz.ntmps14
  go_upto_region 1 with (first
    | (refine wpList_boxG 51 rfl (.tmp 0) rfl MK rfl ?_; intro X1 q1 q2 q3; have D1 : Hid (Row X1 w.heap.size (vB kk) 51) := (by rw [← HMK.out]; exact q1); have B1 : Hid (Below w.heap.size w X1) := q2; clear q1 q2 q3; simp only [Act.put, List.setIfInBounds_toArray, List.set_cons_zero, List.set_cons_succ])
    | (refine wpList_boxG 51 rfl (.tmp 1) rfl MT rfl ?_; intro X2 q1 q2 q3; have T2 : Hid (Row X2 X1.heap.size (vB tt) 51) := (by rw [← HMT.out]; exact q1); have D2 : Hid (Row X2 w.heap.size (vB kk) 51) := Row.below D1.out q2 D1.out.lt; have B2 : Hid (Below w.heap.size w X2) := B1.out.trans (q2.mono B1.out.size); clear q1 q2 q3; simp only [Act.put, List.setIfInBounds_toArray, List.set_cons_zero, List.set_cons_succ]))
  obtain ⟨bk, hbk⟩ : ∃ b, b = w.heap.size := ⟨_, rfl⟩
  obtain ⟨bt, hbt⟩ : ∃ b, b = X1.heap.size := ⟨_, rfl⟩
  have NT : Hid (bt < X2.heap.size) := by rw [hbt]; exact T2.out.lt
  rw [← hbk] at D2 ⊢
  rw [← hbt] at T2 ⊢
  clear hbk hbt D1 B1
  go_upto_region 2 with (first
    | (refine wpList_load_w rfl 51 (.tmp 3) rfl bk (0) rfl (vB kk) _ D2.out.all Tryz.underlying51 rfl HIK.out ?_; simp only [Act.put, List.setIfInBounds_toArray, List.set_cons_zero, List.set_cons_succ])
    | (refine wpList_buildR1 rfl (.tmp 12) rfl kk HKK.out rfl R0 HR0.out ?_; simp only [Act.put, List.setIfInBounds_toArray, List.set_cons_zero, List.set_cons_succ])
    | (refine wpList_allocR rfl rfl ?_; intro X3 q1 q2; have Z3 : Hid (Row X3 X2.heap.size zR 90) := q1; have B3 : Hid (Below X2.heap.size X2 X3) := q2; clear q1 q2; simp only [Act.put, List.setIfInBounds_toArray, List.set_cons_zero, List.set_cons_succ])
    | (refine wpList_storeL rfl 90 (.tmp 7) (.tmp 13) rfl X2.heap.size R0 zR 90 rfl rfl Z3.out HL0.out HI0.out HO0.out ?_; intro X4 q1 q2; have R4 : Hid (Row X4 X2.heap.size R0 90) := q2; have B4 : Hid (Below X2.heap.size X2 X4) := (by rw [q1]; exact below_setCells B3.out (Nat.le_refl _) _); clear q1 q2; simp only [Act.put]))
  obtain ⟨bl, hbl⟩ : ∃ b, b = X2.heap.size := ⟨_, rfl⟩
  have T4 : Hid (Row X4 bt (vB tt) 51) := Row.below T2.out B4.out T2.out.lt
  have C0 : Hid (Ck w X4 bl (ltm es 0) (lkf kk (es.take 0))) := ⟨⟨R0, by rw [hbl]; exact R4.out, by rw [HR0.out]; exact Irw.first kk HKK.out, by rw [HR0.out]; exact row_oneI _ _ zE_one⟩, by rw [hbl]; exact B2.out.size, B2.out.trans (B4.out.mono B2.out.size)⟩
  rw [← hbl] at R4 ⊢
  have NBT : Hid (bt ≠ bl) := by show _ ≠ _; have := NT.out; omega
  clear hbl B2 B3 B4 Z3 R4 D2 T2 HR0 HL0 HI0 HO0 HIK HMK HMT NT
  go_wp2_with fail
  go_loopw [16] (fun v16 wr => ∃ (i : Nat), i ≤ N ∧ v16 = .int .i64 (i : Int) ∧ Hid (Ck w wr bl (ltm es i) (lkf kk (es.take i))) ∧ Hid (Row wr bt (vB tt) 51)) (fun v16 _ => N - (intOf v16).toNat)
  case atStart => exact ⟨0, Nat.zero_le _, rfl, C0, T4⟩
  case round =>
    obtain ⟨i, hi, rfl, HC, HTR⟩ := hrel
    clear C0 T4
    obtain ⟨R, hRr, hRi, hRo⟩ := HC.out.r
    have HRr : Hid (Row wr bl R 90) := hRr
    have HRi : Hid (Irw R (ltm es i) (lkf kk (es.take i))) := hRi
    have HRL : Hid (R.length = 81) := hRi.len
    have HRI : Hid ((Tryz.prog.info? 90).map (·.size) = some R.length) := hRi.info
    have HBW : Hid (Below w.heap.size w wr) := HC.out.be
    have HBL : Hid (w.heap.size ≤ bl) := HC.out.b0
    clear hRr hRi hRo HC
    by_cases hlt : i < N
    · obtain ⟨e, he⟩ : ∃ e, es[i]? = some e := ⟨_, List.getElem?_eq_getElem (by have := HN.out; omega)⟩
      obtain ⟨b, o, A', c', hA0, hrg, hsl, hnil⟩ := HES.out i e he
      subst hA0
      obtain ⟨hw, hm⟩ := HO.out.wf he
      have hup := HO.out.up i e he
      obtain ⟨n, hn⟩ : ∃ n, n = e.d.length := ⟨_, rfl⟩
      rw [← hn] at hrg hsl
      obtain ⟨L, hL⟩ : ∃ L, L = e.cells (.slice A' n c') := ⟨_, rfl⟩
      rw [← hL] at hrg
      obtain ⟨q, hq⟩ : ∃ q, q = o + i * 49 := ⟨_, rfl⟩
      have HQ : Hid (o + i * 49 = q) := hq.symm
      rw [← hq] at hrg
      obtain ⟨dd, hdd⟩ : ∃ d, d = nx (lkf kk (es.take i)) e := ⟨_, rfl⟩
      have hlk : lkf kk (es.take (i + 1)) = dd := by rw [List.take_add_one, he, lkf_app, hdd]; rfl
      have hlt2 : ltm es (i + 1) = e.tm := by simp [ltm, he]
      have HDL : Hid (dd.length = 32) := by rw [hdd]; exact dig_length _
      have HIN : Hid (i < N) := hlt
      have HI : Hid ((Tryz.prog.info? 46).map (·.size) = some L.length) := by rw [hL]; exact Ev.info hw _
      have HLZ : Hid (L.length = zE.length) := by show _ = _; rw [hL, Ev.len hw]; rfl
      have HLO : Hid (L.toArray.all (·.oneCell') = true) := by rw [hL]; exact all_oneCell_toArray (Ev.one e _ _ _)
      have HR : Hid (∀ X, Below w.heap.size w X → X.rangeAt b q L) := fun X k => range_be hrg k
      obtain ⟨R', hR'⟩ : ∃ R', R' = L ++ vB dd := ⟨_, rfl⟩
      have HRN : Hid (Irw R' (ltm es (i + 1)) (lkf kk (es.take (i + 1)))) := by rw [hlk, hlt2, hR', hL]; exact Irw.of hw _ dd HDL.out
      have HRL' : Hid (R'.length = zR.length) := by rw [HRN.out.len]; exact rfl
      have HRI' : Hid ((Tryz.prog.info? 90).map (·.size) = some R'.length) := HRN.out.info
      have HRO1 : Hid (∀ u ∈ R', u.oneCell' = true) := by rw [hR']; exact row_oneI _ _ (by rw [hL]; exact Ev.one e _ _ _)
      have HRO' : Hid (R'.toArray.all (·.oneCell') = true) := all_oneCell_toArray HRO1.out
      have HNX : Hid (∀ X, Below w.heap.size w X → Calls Tryz.prog 39 #[.agg R.toArray, .agg L.toArray] X fun r w' => r = .returned (.tuple #[.agg R'.toArray, .int .i64 0]) ∧ Below X.heap.size X w') := fun X k => by rw [hR']; exact rnext_ok e hw hm (lkf kk (es.take i)) dd hdd A' n c' hn.symm hnil L hL R _ HRi.out hup X (HT.out X k) (hsl.be k)
      clear he hrg hsl hnil hw hm hup hn hL hq hdd hlk hlt2 hR'
      go_upto_region 5 with (first
        | (refine wpList_ixO 52 46 (.tmp 14) (.tmp 16) rfl b o N c0 i 49 q HQ.out rfl rfl HIN.out Tryz.underlying52 info_ent rfl ?_; simp only [Act.put, List.setIfInBounds_toArray, List.set_cons_zero, List.set_cons_succ])
        | (refine wpList_load_w rfl 46 (.tmp 18) rfl b (q) rfl (L) _ (HR.out wr HBW.out) Tryz.underlying46 rfl HI.out ?_; simp only [Act.put, List.setIfInBounds_toArray, List.set_cons_zero, List.set_cons_succ])
        | (refine wpList_allocE rfl rfl ?_; intro Y1 q1 q2; have Z1 : Hid (Row Y1 wr.heap.size zE 46) := q1; have B1 : Hid (Below wr.heap.size wr Y1) := q2; clear q1 q2; simp only [Act.put, List.setIfInBounds_toArray, List.set_cons_zero, List.set_cons_succ])
        | (refine wpList_storeL rfl 46 (.tmp 9) (.tmp 19) rfl wr.heap.size L zE 46 rfl rfl Z1.out HLZ.out HI.out HLO.out ?_; intro Y2 q1 q2; have E2 : Hid (Row Y2 wr.heap.size L 46) := q2; have B2 : Hid (Below wr.heap.size wr Y2) := (by rw [q1]; exact below_setCells B1.out (Nat.le_refl _) _); clear q1 q2; simp only [Act.put]))
      obtain ⟨be, hbe⟩ : ∃ b, b = wr.heap.size := ⟨_, rfl⟩
      rw [← hbe] at E2 ⊢
      have RR2 : Hid (Row Y2 bl R 90) := Row.below HRr.out B2.out HRr.out.lt
      have TT2 : Hid (Row Y2 bt (vB tt) 51) := Row.below HTR.out B2.out HTR.out.lt
      have BW2 : Hid (Below w.heap.size w Y2) := HBW.out.trans (B2.out.mono HBW.out.size)
      clear hbe Z1 B1 B2 HRr HTR HBW HR HQ HIN HLZ HLO
      go_upto_region 6 with (first
        | (refine wpList_load_w rfl 90 (.tmp 7) rfl bl (0) rfl (R) _ RR2.out.all Tryz.underlying90 rfl HRI.out ?_; simp only [Act.put, List.setIfInBounds_toArray, List.set_cons_zero, List.set_cons_succ])
        | (refine wpList_load_w rfl 46 (.tmp 9) rfl be (0) rfl (L) _ E2.out.all Tryz.underlying46 rfl HI.out ?_; simp only [Act.put, List.setIfInBounds_toArray, List.set_cons_zero, List.set_cons_succ])
        | (go_at_call 39; refine Calls.mono (HNX.out Y2 BW2.out) ?_; rintro e4 Y3 ⟨rfl, q3⟩; have B3 : Hid (Below Y2.heap.size Y2 Y3) := q3; clear q3)
        | (refine wpList_allocR rfl rfl ?_; intro Y4 q1 q2; have Z4 : Hid (Row Y4 Y3.heap.size zR 90) := q1; have B4 : Hid (Below Y3.heap.size Y3 Y4) := q2; clear q1 q2; simp only [Act.put, List.setIfInBounds_toArray, List.set_cons_zero, List.set_cons_succ])
        | (refine wpList_storeL rfl 90 (.tmp 10) (.tmp 24) rfl Y3.heap.size R' zR 90 rfl rfl Z4.out HRL'.out HRI'.out HRO'.out ?_; intro Y5 q1 q2; have N5 : Hid (Row Y5 Y3.heap.size R' 90) := q2; have B5 : Hid (Below Y3.heap.size Y3 Y5) := (by rw [q1]; exact below_setCells B4.out (Nat.le_refl _) _); clear q1 q2; simp only [Act.put]))
      have B25 : Below Y2.heap.size Y2 Y5 := B3.out.trans (B5.out.mono B3.out.size)
      obtain ⟨bn, hbn⟩ : ∃ b, b = Y3.heap.size := ⟨_, rfl⟩
      rw [← hbn] at N5 ⊢
      have RR5 : Hid (Row Y5 bl R 90) := Row.below RR2.out B25 RR2.out.lt
      have TT5 : Hid (Row Y5 bt (vB tt) 51) := Row.below TT2.out B25 TT2.out.lt
      have BW5 : Hid (Below w.heap.size w Y5) := BW2.out.trans (B25.mono BW2.out.size)
      have HLR : Hid (R'.length = R.length) := by rw [HRL.out, HRL'.out]; exact rfl
      clear hbn B25 Z4 B3 B4 B5 RR2 TT2 BW2 E2 HNX
      go_upto_region 9 with (first
        | (refine wpList_load_w rfl 90 (.tmp 10) rfl bn (0) rfl (R') _ N5.out.all Tryz.underlying90 rfl HRI'.out ?_; simp only [Act.put, List.setIfInBounds_toArray, List.set_cons_zero, List.set_cons_succ])
        | (refine wpList_storeL rfl 90 (.tmp 7) (.tmp 29) rfl bl R' R 90 rfl rfl RR5.out HLR.out HRI'.out HRO'.out ?_; intro Y6 q1 q2; have R6 : Hid (Row Y6 bl R' 90) := q2; have T6 : Hid (Row Y6 bt (vB tt) 51) := (by rw [q1]; exact (gro_over (Gro.refl _ _) bl 0 R' rfl : Gro (· = bl) _ _).row TT5.out NBT.out); have B6 : Hid (Below w.heap.size w Y6) := (by rw [q1]; exact below_setCells BW5.out HBL.out _); clear q1 q2; simp only [Act.put]))
      have CN : Hid (Ck w Y6 bl (ltm es (i + 1)) (lkf kk (es.take (i + 1)))) := ⟨⟨R', R6.out, HRN.out, HRO1.out⟩, HBL.out, B6.out⟩
      clear RR5 TT5 BW5 N5 R6 B6 HRN HRO1
      go_wp2_with fail
      go_roundw
      case rel => exact ⟨i + 1, hlt, rfl, CN, T6⟩
      case measure => simp [intOf]; omega
    · obtain rfl : i = N := by omega
      have h1 : ¬ ((i : Int) < (i : Int)) := by omega
      obtain ⟨zz, hzz⟩ : ∃ z, z = lkf kk (es.take i) := ⟨_, rfl⟩
      have hz2 : lkf kk es = zz := by rw [hzz, HN.out, List.take_length]
      have HZL : Hid (zz.length = 32) := by rw [hzz]; exact lkf_len kk HKK.out _
      have HIZ : Hid ((Tryz.prog.info? 51).map (·.size) = some (vB zz).length) := by show _ = _; rw [vB_length, HZL.out]; exact info_dg
      have HZR : Hid (wr.rangeAt bl 49 (vB zz)) := HRr.out.range 49 _ (fun j u hj => HRi.out.lk j u (by rw [← hzz]; exact hj))
      rw [hz2] at HEE
      clear hzz hz2
      by_cases hq : zz = tt
      · have HZT : Hid (zz = tt) := hq
        have HE0 : Hid (E = 0) := by have := HEE.out; rw [if_pos hq] at this; exact this
        clear hq
        go_wp2_with (first
          | (refine wpList_load_w rfl 51 (.tmp 31) rfl bl (49) rfl (vB zz) _ HZR.out Tryz.underlying51 rfl HIZ.out ?_; simp only [Act.put, List.setIfInBounds_toArray, List.set_cons_zero, List.set_cons_succ])
          | (refine wpList_load_w rfl 51 (.tmp 4) rfl bt (0) rfl (vB tt) _ HTR.out.all Tryz.underlying51 rfl HIT.out ?_; simp only [Act.put, List.setIfInBounds_toArray, List.set_cons_zero, List.set_cons_succ])
          | (refine wpList_neq_bI rfl (.tmp 32) (.tmp 33) _ rfl zz tt rfl rfl HZL.out HTT.out false (by rw [decide_eq_true HZT.out]; rfl) ?_; simp only [Act.put, List.setIfInBounds_toArray, List.set_cons_zero, List.set_cons_succ]))
        go_ret
        exact ⟨by rw [HE0.out]; rfl, HBW.out⟩
      · have HZT : Hid (¬ zz = tt) := hq
        have HE0 : Hid (E = 154) := by have := HEE.out; rw [if_neg hq] at this; exact this
        clear hq
        go_wp2_with (first
          | (refine wpList_load_w rfl 51 (.tmp 31) rfl bl (49) rfl (vB zz) _ HZR.out Tryz.underlying51 rfl HIZ.out ?_; simp only [Act.put, List.setIfInBounds_toArray, List.set_cons_zero, List.set_cons_succ])
          | (refine wpList_load_w rfl 51 (.tmp 4) rfl bt (0) rfl (vB tt) _ HTR.out.all Tryz.underlying51 rfl HIT.out ?_; simp only [Act.put, List.setIfInBounds_toArray, List.set_cons_zero, List.set_cons_succ])
          | (refine wpList_neq_bI rfl (.tmp 32) (.tmp 33) _ rfl zz tt rfl rfl HZL.out HTT.out true (by rw [decide_eq_false HZT.out]; rfl) ?_; simp only [Act.put, List.setIfInBounds_toArray, List.set_cons_zero, List.set_cons_succ]))
        go_ret
        exact ⟨by rw [HE0.out]; rfl, HBW.out⟩

end Go.Proofs.YtfjhecmnbodkfaaGreatDoor

namespace Go.Proofs.YtfjhecmnbodkfaaGreatDoor
open Go Go.RowKit
open Sha

set_option maxRecDepth 100000 in
set_option maxHeartbeats 8000000 in
theorem alike2_any (es fs : List Ev) (ho : ∀ e ∈ es, e.Wf) (ho2 : ∀ e ∈ fs, e.Wf) (A1 A2 : Option Addr) (N c1 c2 : Nat) (hN : N = es.length) (hN2 : N = fs.length) (hNb : N ≤ 100000) (w : World) (h1 : EsAt w A1 es) (h2 : EsAt w A2 fs) (T : Bool) (hT : T = decide (es = fs)) :
    Calls Tryz.prog 25 #[.slice A1 N c1, .slice A2 N c2] w fun r w' => r = .returned (.bool T) ∧ Below w.heap.size w w' := by
  have HO : Hid (∀ e ∈ es, e.Wf) := ho
  have HO2 : Hid (∀ e ∈ fs, e.Wf) := ho2
  have HN : Hid (N = es.length) := hN
  have HN2 : Hid (N = fs.length) := hN2
  have HT : Hid (T = decide (es = fs)) := hT
  have H1 : Hid (EsAt w A1 es) := h1
  have H2 : Hid (EsAt w A2 fs) := h2
  clear ho ho2 hN hN2 h1 h2 hT
  go_enter Tryz.func25, Tryz.ntmps25
  go_wp2_with fail
  go_loopw [5] (fun v5 wr => ∃ (i : Nat), i ≤ N ∧ v5 = .int .i64 (i : Int) ∧ Hid (Below w.heap.size w wr ∧ ∀ j, j < i → es[j]? = fs[j]?)) (fun v5 _ => N - (intOf v5).toNat)
  case atStart => exact ⟨0, Nat.zero_le _, rfl, Below.refl _ _, fun j hj => by omega⟩
  case round =>
    obtain ⟨i, hi, rfl, HI0⟩ := hrel
    have HB : Hid (Below w.heap.size w wr) := HI0.out.1
    have HFI : Hid (∀ j, j < i → es[j]? = fs[j]?) := HI0.out.2
    clear HI0
    by_cases hlt : i < N
    · have hlt2 : (i : Int) < (N : Int) := by omega
      obtain ⟨e, he⟩ : ∃ e, es[i]? = some e := ⟨_, List.getElem?_eq_getElem (by have := HN.out; omega)⟩
      obtain ⟨f, hf⟩ : ∃ f, fs[i]? = some f := ⟨_, List.getElem?_eq_getElem (by have := HN2.out; omega)⟩
      obtain ⟨b, o, A', c', hA1, hrg, hsl, hnil⟩ := H1.out i e he
      obtain ⟨b2, o2, A2', c2', hA2, hrg2, hsl2, hnil2⟩ := H2.out i f hf
      subst hA1 hA2
      have we := HO.out e (List.mem_of_getElem? he)
      have wf := HO2.out f (List.mem_of_getElem? hf)
      obtain ⟨n1, hn1⟩ : ∃ n, n = e.d.length := ⟨_, rfl⟩
      obtain ⟨n2, hn2⟩ : ∃ n, n = f.d.length := ⟨_, rfl⟩
      rw [← hn1] at hrg hsl
      rw [← hn2] at hrg2 hsl2
      obtain ⟨L, hL⟩ : ∃ L, L = e.cells (.slice A' n1 c') := ⟨_, rfl⟩
      obtain ⟨M, hM⟩ : ∃ L, L = f.cells (.slice A2' n2 c2') := ⟨_, rfl⟩
      rw [← hL] at hrg
      rw [← hM] at hrg2
      obtain ⟨q, hq⟩ : ∃ q, q = o + i * 49 := ⟨_, rfl⟩
      obtain ⟨q2, hq2⟩ : ∃ q, q = o2 + i * 49 := ⟨_, rfl⟩
      have HQ : Hid (o + i * 49 = q) := hq.symm
      have HQ2 : Hid (o2 + i * 49 = q2) := hq2.symm
      rw [← hq] at hrg
      rw [← hq2] at hrg2
      have HIN : Hid (i < N) := hlt
      have HI : Hid ((Tryz.prog.info? 46).map (·.size) = some L.length) := by rw [hL]; exact Ev.info we _
      have HI2 : Hid ((Tryz.prog.info? 46).map (·.size) = some M.length) := by rw [hM]; exact Ev.info wf _
      have HR : Hid (∀ X, Below w.heap.size w X → X.rangeAt b q L) := fun X k => range_be hrg k
      have HR2 : Hid (∀ X, Below w.heap.size w X → X.rangeAt b2 q2 M) := fun X k => range_be hrg2 k
      obtain ⟨E, hE⟩ : ∃ E, E = decide (e = f) := ⟨_, rfl⟩
      have HSA : Hid (∀ X, Below w.heap.size w X → Calls Tryz.prog 18 #[.agg L.toArray, .agg M.toArray] X fun r w' => r = .returned (.bool E) ∧ Below X.heap.size X w') := fun X k => rsame_any e f we wf A' A2' n1 n2 c' c2' L M hL hM X (hsl.be k) (hsl2.be k) E hE
      have HEF : Hid (es[i]? = some e ∧ fs[i]? = some f ∧ E = decide (e = f)) := ⟨he, hf, hE⟩
      clear he hf hrg hsl hnil we wf hn1 hn2 hL hq hrg2 hsl2 hnil2 hM hq2 hE
      go_upto_region 6 with fail
      have hb1 := Below.refl wr.heap.size wr
      refine wp_named fun a0 ha0 => ?_
      have hsz : a0.tmps.size = 27 := by rw [ha0]; rfl
      have zs0 : a0.eval (.tmp 0) = .slice (some ⟨b, o, none⟩) N c1 := by rw [ha0]; rfl
      have zs1 : a0.eval (.tmp 1) = .slice (some ⟨b2, o2, none⟩) N c2 := by rw [ha0]; rfl
      have zs5 : a0.eval (.tmp 5) = .int .i64 (i : Int) := by rw [ha0]; rfl
      obtain ⟨D, hD⟩ : ∃ D : List (Tmp × SP), D = [(17, SP.is (.slice (some ⟨b, o, none⟩) N c1)), (18, SP.is (.int .i64 (i : Int))), (19, SP.is (.pointer (some ⟨b, q, none⟩))), (20, SP.is (.agg L.toArray)), (21, SP.is (.slice (some ⟨b2, o2, none⟩) N c2)), (22, SP.is (.int .i64 (i : Int))), (23, SP.is (.pointer (some ⟨b2, q2, none⟩))), (24, SP.is (.agg M.toArray)), (25, SP.is (.bool E)), (26, SP.is (.bool (!E)))] := ⟨_, rfl⟩
      refine wp_region_down (by kernel_rfl) (fun listed ac W => listed.size = 10 ∧ Fp D a0 listed ac W ∧ Below wr.heap.size wr W) ?_ ?_ ?_
      · exact ⟨by simp, Fp.start D a0 _ _, Below.drew hb1⟩
      · clear ha0 hb1  
        intro listed ac W k hI hdn hk
        obtain ⟨hl, hF, hb1⟩ := hI
        have hk1 : k < 10 := List.mem_range.1 (List.mem_filter.1 hk).1
        have hl2 : ∀ j, (listed.setIfInBounds j true).size = 10 := fun j => by rw [Array.size_setIfInBounds]; exact hl
        rcases (show k = 0 ∨ k = 1 ∨ k = 2 ∨ k = 3 ∨ k = 4 ∨ k = 5 ∨ k = 6 ∨ k = 7 ∨ k = 8 ∨ k = 9 by omega) with rfl | rfl | rfl | rfl | rfl | rfl | rfl | rfl | rfl | rfl
        · have hk3 := hk
          exact wpOp_plain rfl rfl (wp_move_v (ac.eval (.tmp 0)) rfl rfl ⟨hl2 0, (hF.put 0 17 (SP.is (.slice (some ⟨b, o, none⟩) N c1)) (ac.eval (.tmp 0)) (by rw [hD]; rfl) (((hF.keep 0 (by rw [hD]; rfl)).trans zs0)) (by rw [hD]; rfl) (by rw [hsz]; decide) (by rw [hl]; decide)), hb1⟩)
        · have hk3 := hk
          exact wpOp_plain rfl rfl (wp_move_v (ac.eval (.tmp 5)) rfl rfl ⟨hl2 1, (hF.put 1 18 (SP.is (.int .i64 (i : Int))) (ac.eval (.tmp 5)) (by rw [hD]; rfl) (((hF.keep 5 (by rw [hD]; rfl)).trans zs5)) (by rw [hD]; rfl) (by rw [hsz]; decide) (by rw [hl]; decide)), hb1⟩)
        · have hk3 := hk
          have ea := (hF.done 0 (17, SP.is (.slice (some ⟨b, o, none⟩) N c1)) (by rw [hD]; rfl) (ready_dep hk 0 (by kernel_rfl)))
          have eb := (hF.done 1 (18, SP.is (.int .i64 (i : Int))) (by rw [hD]; rfl) (ready_dep hk 1 (by kernel_rfl)))
          exact wpOp_plain rfl rfl (wp_ixO 52 46 rfl b o N c1 i 49 q HQ.out ea eb HIN.out Tryz.underlying52 info_ent ⟨hl2 2, (hF.put 2 19 (SP.is (.pointer (some ⟨b, q, none⟩))) (.pointer (some ⟨b, q, none⟩)) (by rw [hD]; rfl) rfl (by rw [hD]; rfl) (by rw [hsz]; decide) (by rw [hl]; decide)), hb1⟩)
        · have hk3 := hk
          have ea := (hF.done 2 (19, SP.is (.pointer (some ⟨b, q, none⟩))) (by rw [hD]; rfl) (ready_dep hk 2 (by kernel_rfl)))
          exact wpOp_plain rfl rfl (wp_load_mid 46 (.tmp 19) rfl b q ea L _ (HR.out W (HB.out.trans (hb1.mono HB.out.size))) Tryz.underlying46 rfl HI.out ⟨hl2 3, (hF.put 3 20 (SP.is (.agg L.toArray)) (.agg L.toArray) (by rw [hD]; rfl) rfl (by rw [hD]; rfl) (by rw [hsz]; decide) (by rw [hl]; decide)), hb1⟩)
        · have hk3 := hk
          exact wpOp_plain rfl rfl (wp_move_v (ac.eval (.tmp 1)) rfl rfl ⟨hl2 4, (hF.put 4 21 (SP.is (.slice (some ⟨b2, o2, none⟩) N c2)) (ac.eval (.tmp 1)) (by rw [hD]; rfl) (((hF.keep 1 (by rw [hD]; rfl)).trans zs1)) (by rw [hD]; rfl) (by rw [hsz]; decide) (by rw [hl]; decide)), hb1⟩)
        · have hk3 := hk
          exact wpOp_plain rfl rfl (wp_move_v (ac.eval (.tmp 5)) rfl rfl ⟨hl2 5, (hF.put 5 22 (SP.is (.int .i64 (i : Int))) (ac.eval (.tmp 5)) (by rw [hD]; rfl) (((hF.keep 5 (by rw [hD]; rfl)).trans zs5)) (by rw [hD]; rfl) (by rw [hsz]; decide) (by rw [hl]; decide)), hb1⟩)
        · have hk3 := hk
          have ea := (hF.done 4 (21, SP.is (.slice (some ⟨b2, o2, none⟩) N c2)) (by rw [hD]; rfl) (ready_dep hk 4 (by kernel_rfl)))
          have eb := (hF.done 5 (22, SP.is (.int .i64 (i : Int))) (by rw [hD]; rfl) (ready_dep hk 5 (by kernel_rfl)))
          exact wpOp_plain rfl rfl (wp_ixO 52 46 rfl b2 o2 N c2 i 49 q2 HQ2.out ea eb HIN.out Tryz.underlying52 info_ent ⟨hl2 6, (hF.put 6 23 (SP.is (.pointer (some ⟨b2, q2, none⟩))) (.pointer (some ⟨b2, q2, none⟩)) (by rw [hD]; rfl) rfl (by rw [hD]; rfl) (by rw [hsz]; decide) (by rw [hl]; decide)), hb1⟩)
        · have hk3 := hk
          have ea := (hF.done 6 (23, SP.is (.pointer (some ⟨b2, q2, none⟩))) (by rw [hD]; rfl) (ready_dep hk 6 (by kernel_rfl)))
          exact wpOp_plain rfl rfl (wp_load_mid 46 (.tmp 23) rfl b2 q2 ea M _ (HR2.out W (HB.out.trans (hb1.mono HB.out.size))) Tryz.underlying46 rfl HI2.out ⟨hl2 7, (hF.put 7 24 (SP.is (.agg M.toArray)) (.agg M.toArray) (by rw [hD]; rfl) rfl (by rw [hD]; rfl) (by rw [hsz]; decide) (by rw [hl]; decide)), hb1⟩)
        · have hk3 := hk
          have e20 := (hF.done 3 (20, SP.is (.agg L.toArray)) (by rw [hD]; rfl) (ready_dep hk 3 (by kernel_rfl)))
          have e24 := (hF.done 7 (24, SP.is (.agg M.toArray)) (by rw [hD]; rfl) (ready_dep hk 7 (by kernel_rfl)))
          refine wpOp_plain rfl rfl (wp_fcall_v 18 #[.agg L.toArray, .agg M.toArray] rfl rfl (by show [ac.eval (.tmp 20), ac.eval (.tmp 24)] = _; rw [show ac.eval (.tmp 20) = _ from e20, show ac.eval (.tmp 24) = _ from e24]) (by go_simp) ((HSA.out W (HB.out.trans (hb1.mono HB.out.size))).mono ?_))
          rintro e W2 ⟨rfl, hB⟩
          exact ⟨_, rfl, hl2 8, ((hF.world hB).put 8 25 (SP.is (.bool E)) (.bool E) (by rw [hD]; rfl) rfl (by rw [hD]; rfl) (by rw [hsz]; decide) (by rw [hl]; decide)), hb1.trans (hB.mono hb1.size)⟩
        · have hk3 := hk
          have ea := (hF.done 8 (25, SP.is (.bool E)) (by rw [hD]; rfl) (ready_dep hk 8 (by kernel_rfl)))
          exact wpOp_plain rfl rfl (wp_notT E rfl ea ⟨hl2 9, (hF.put 9 26 (SP.is (.bool (!E))) (.bool (!E)) (by rw [hD]; rfl) rfl (by rw [hD]; rfl) (by rw [hsz]; decide) (by rw [hl]; decide)), hb1⟩)
      · clear hb1  
        intro listed ac W hI hr
        obtain ⟨hl, hF, hb1⟩ := hI
        have hall := all_listed (by kernel_rfl) hl hr
        have h17 : ac.eval (.tmp 17) = .slice (some ⟨b, o, none⟩) N c1 := hF.done 0 (17, SP.is (.slice (some ⟨b, o, none⟩) N c1)) (by rw [hD]; rfl) (hall 0 (by decide))
        have h18 : ac.eval (.tmp 18) = .int .i64 (i : Int) := hF.done 1 (18, SP.is (.int .i64 (i : Int))) (by rw [hD]; rfl) (hall 1 (by decide))
        have h19 : ac.eval (.tmp 19) = .pointer (some ⟨b, q, none⟩) := hF.done 2 (19, SP.is (.pointer (some ⟨b, q, none⟩))) (by rw [hD]; rfl) (hall 2 (by decide))
        have h20 : ac.eval (.tmp 20) = .agg L.toArray := hF.done 3 (20, SP.is (.agg L.toArray)) (by rw [hD]; rfl) (hall 3 (by decide))
        have h21 : ac.eval (.tmp 21) = .slice (some ⟨b2, o2, none⟩) N c2 := hF.done 4 (21, SP.is (.slice (some ⟨b2, o2, none⟩) N c2)) (by rw [hD]; rfl) (hall 4 (by decide))
        have h22 : ac.eval (.tmp 22) = .int .i64 (i : Int) := hF.done 5 (22, SP.is (.int .i64 (i : Int))) (by rw [hD]; rfl) (hall 5 (by decide))
        have h23 : ac.eval (.tmp 23) = .pointer (some ⟨b2, q2, none⟩) := hF.done 6 (23, SP.is (.pointer (some ⟨b2, q2, none⟩))) (by rw [hD]; rfl) (hall 6 (by decide))
        have h24 : ac.eval (.tmp 24) = .agg M.toArray := hF.done 7 (24, SP.is (.agg M.toArray)) (by rw [hD]; rfl) (hall 7 (by decide))
        have h25 : ac.eval (.tmp 25) = .bool E := hF.done 8 (25, SP.is (.bool E)) (by rw [hD]; rfl) (hall 8 (by decide))
        have h26 : ac.eval (.tmp 26) = .bool (!E) := hF.done 9 (26, SP.is (.bool (!E))) (by rw [hD]; rfl) (hall 9 (by decide))
        have ea := hF.lay [(17, .slice (some ⟨b, o, none⟩) N c1), (18, .int .i64 (i : Int)), (19, .pointer (some ⟨b, q, none⟩)), (20, .agg L.toArray), (21, .slice (some ⟨b2, o2, none⟩) N c2), (22, .int .i64 (i : Int)), (23, .pointer (some ⟨b2, q2, none⟩)), (24, .agg M.toArray), (25, .bool E), (26, .bool (!E))] (by rw [hD, hsz]; rfl) (by simp only [List.forall_mem_cons, List.not_mem_nil, false_implies, implies_true, and_true]; exact ⟨h17, h18, h19, h20, h21, h22, h23, h24, h25, h26⟩)
        rw [ha0] at ea
        simp only [List.foldl_cons, List.foldl_nil, List.setIfInBounds_toArray, List.set_cons_zero, List.set_cons_succ] at ea
        clear hF hall hr hl hD  zs0 zs1 zs5 ha0 hsz h17 h18 h19 h20 h21 h22 h23 h24 h25 h26
        subst ea
        have HB2 : Hid (Below w.heap.size w W) := HB.out.trans (hb1.mono HB.out.size)
        obtain ⟨h9, h8, h7⟩ := HEF.out
        clear hb1 HB HR HR2 HSA HEF
        by_cases hef : e = f
        · have HF2 : Hid (∀ j, j < i + 1 → es[j]? = fs[j]?) := fun j hj => by
            by_cases z : j = i
            · rw [z, h9, h8, hef]
            · exact HFI.out j (by omega)
          have hE : E = true := by rw [h7]; exact decide_eq_true hef
          subst hE
          clear h9 h8 h7 hef
          go_wp2_with fail
          exact ⟨⟨i + 1, hlt, by go_num, ⟨HB2.out, HF2.out⟩⟩, by simp [intOf]; omega⟩
        · have HF2 : Hid (T = false) := by
            show _ = _
            rw [HT.out]
            exact decide_eq_false (fun z => hef (by rw [z, h8] at h9; exact (Option.some.inj h9).symm))
          have hE : E = false := by rw [h7]; exact decide_eq_false hef
          subst hE
          clear h9 h8 h7 hef
          go_wp2_with fail
          go_ret
          exact ⟨by rw [HF2.out]; rfl, HB2.out⟩
    have hlt2 : ¬ ((i : Int) < (N : Int)) := by omega
    have HF2 : Hid (T = true) := by
      show _ = _
      rw [HT.out]
      refine decide_eq_true (List.ext_getElem? fun j => ?_)
      by_cases z : j < i
      · exact HFI.out j z
      · rw [List.getElem?_eq_none (by have := HN.out; omega), List.getElem?_eq_none (by have := HN2.out; omega)]
    clear hlt
    go_wp2_with fail
    go_ret
    exact ⟨by rw [HF2.out]; rfl, HB.out⟩

end Go.Proofs.YtfjhecmnbodkfaaGreatDoor

namespace Go.Proofs.YtfjhecmnbodkfaaGreatDoor
open Go Go.RowKit
open Sha

/-- Where a list that is cut lies. -/
def cutA (A : Option Addr) (cap i s : Nat) : Option Addr := if cap = i then A else A.map (·.add (i * s))
section
variable {ops : Array Oper} {rest : List Oper} {op : Oper} {a : Act} {w : World} {Q : Exit → Act → World → Prop}
end
end Go.Proofs.YtfjhecmnbodkfaaGreatDoor

namespace Go.Proofs.YtfjhecmnbodkfaaGreatDoor
open Go Go.RowKit
open Sha

theorem rowv_get (rs : List Rwi) : ∀ M, M ≤ rs.length → ∀ i r, i < M → rs[i]? = some r → (rowv rs M)[i]? = some (r.ev (tmf (rs.take (i + 1))))
  | 0, _, _, _, h, _ => by omega
  | M + 1, hM, i, r, hi, hr => by
    obtain ⟨s, hs⟩ : ∃ s, rs[M]? = some s := ⟨_, List.getElem?_eq_getElem (by omega)⟩
    rw [rowv_succ rs M s hs]
    by_cases h : i < M
    · rw [List.getElem?_append_left (by rw [rowv_len rs M (by omega)]; exact h)]
      exact rowv_get rs M (by omega) i r h hr
    · obtain rfl : i = M := by omega
      rw [List.getElem?_append_right (by rw [rowv_len rs i (by omega)]; exact Nat.le_refl _), rowv_len rs i (by omega), Nat.sub_self]
      rw [hs] at hr
      obtain rfl := Option.some.inj hr
      rfl
theorem rowv_okr {w : World} {A : Option Addr} {rs : List Rwi} (h : RsAt w A rs) (M : Nat) (hM : M ≤ rs.length) (h100 : M ≤ 100) : Okr (rowv rs M) := by
  have get : ∀ i e, (rowv rs M)[i]? = some e → ∃ r, i < M ∧ rs[i]? = some r ∧ e = r.ev (tmf (rs.take (i + 1))) := fun i e he => by
    have hi : i < M := by have := (List.getElem?_eq_some_iff.1 he).1; rwa [rowv_len rs M hM] at this
    obtain ⟨r, hr⟩ : ∃ r, rs[i]? = some r := ⟨_, List.getElem?_eq_getElem (by omega)⟩
    rw [rowv_get rs M hM i r hi hr] at he
    exact ⟨r, hi, hr, (Option.some.inj he).symm⟩
  refine ⟨fun e he => ?_, fun i e he => ?_⟩
  · obtain ⟨i, hi⟩ := List.getElem?_of_mem he
    obtain ⟨r, hiM, hr, rfl⟩ := get i e hi
    have hb := tmf_bound rs (i + 1)
    have hb2 : tmf (rs.take (i + 1)) ≤ 4611686018427387904 := by have := hb.2; omega
    exact ⟨Rwi.wf (h i r hr).1 _, Rwi.may r _ hb.1 hb2⟩
  · obtain ⟨r, hiM, hr, rfl⟩ := get i e he
    rw [Rwi.tm]
    cases i with
    | zero => show ¬ _ < (0 : Int); have := (tmf_bound rs (0 + 1)).1; omega
    | succ i =>
      obtain ⟨s, hs⟩ : ∃ s, rs[i]? = some s := ⟨_, List.getElem?_eq_getElem (by omega)⟩
      have e1 : ltm (rowv rs M) (i + 1) = tmf (rs.take (i + 1)) := by
        simp only [ltm]
        rw [rowv_get rs M hM i s (by omega) hs]
        simp [Rwi.tm]
      rw [e1, tmf_succ rs (i + 1) r hr]
      have := (pk_range r.la 1000000 (by decide)).1
      omega
/-- What InboxShows has at hand. -/
structure Sw (w X : World) (es : List Ev) (A : Option Addr) (p : Nat) (v : Value) : Prop where
  be : Below w.heap.size w X
  ea : EsAt X A es
  bx : ∃ w0, Bx w0 X p v es
end Go.Proofs.YtfjhecmnbodkfaaGreatDoor

namespace Go.Proofs.YtfjhecmnbodkfaaGreatDoor
open Go Go.RowKit
open Sha

section
variable {P : Program} {ops : Array Oper} {i : Nat} {Q : Exit → Act → World → Prop} {o : Oper} {a : Act} {w : World} {K : Act → World → Prop}
theorem wpOp_off (ho : ops[i]? = some o) (hw : Region.wanted o (yielded ops a.tmps) = false) (h : K (a.put o.dst undef) w) : wpOp P ops Q i K a w := by
  unfold wpOp
  rw [ho]
  simp only [hw]
  exact h
theorem unwanted_g {g : Nat} {b : Bool} {t : Tmp} (ho : o.guard = some (g, b)) (hg : ((ops[g]?).bind fun o => o.dst) = some t) (h : a.eval (.tmp t) = .bool (!b)) (hs : t < a.tmps.size) : Region.wanted o (yielded ops a.tmps) = false := by
  have h2 : a.tmps[t]? = some (.bool (!b)) := by
    rw [Array.getElem?_eq_getElem hs]
    have : a.tmps[t]?.getD undef = .bool (!b) := by simpa [Act.eval] using h
    rw [Array.getElem?_eq_getElem hs] at this
    simpa using this
  cases b <;> simp [Region.wanted, ho, yielded, hg, h2]
theorem unwanted_u {g : Nat} {b : Bool} {t : Tmp} (ho : o.guard = some (g, b)) (hg : ((ops[g]?).bind fun o => o.dst) = some t) (h : a.eval (.tmp t) = undef) (hs : t < a.tmps.size) : Region.wanted o (yielded ops a.tmps) = false := by
  have h2 : a.tmps[t]? = some undef := by
    rw [Array.getElem?_eq_getElem hs]
    have : a.tmps[t]?.getD undef = undef := by simpa [Act.eval] using h
    rw [Array.getElem?_eq_getElem hs] at this
    simpa using this
  simp [Region.wanted, ho, yielded, hg, h2, undef]
theorem wp_gtrJ {x y : Operand} {t yt : TypeId} (ho : o.op = .binOp .gtr t x y yt) (ht : t = 3) (u z : Int) (B : Bool) (hx : a.eval x = .int .i64 u) (hy : a.eval y = .int .i64 z) (hB : decide (z < u) = B) (h : K (a.put o.dst (.bool B)) w) : Oper.wp Tryz.prog o a w K Q := by
  subst ht hB
  unfold Oper.wp execOp
  simp only [ho, hx, hy]
  simp [go_sem]
  exact h
theorem wp_leqJ {x y : Operand} {t yt : TypeId} (ho : o.op = .binOp .leq t x y yt) (ht : t = 3) (u z : Int) (B : Bool) (hx : a.eval x = .int .i64 u) (hy : a.eval y = .int .i64 z) (hB : decide (u ≤ z) = B) (h : K (a.put o.dst (.bool B)) w) : Oper.wp Tryz.prog o a w K Q := by
  subst ht hB
  unfold Oper.wp execOp
  simp only [ho, hx, hy]
  simp [go_sem]
  exact h
theorem wp_bD0 (ho : o.op = .build 51 #[]) (h : K (a.put o.dst (.agg (vB zK).toArray)) w) : Oper.wp Tryz.prog o a w K Q := by
  have hr := run_build (P := Tryz.prog) w 51 #[] _ built_d0
  unfold Oper.wp execOp
  simp only [ho, List.map_toArray, List.map_nil, Sem.run_bind, hr, Result.andThen_ok, Sem.run_pure, Oper.upon_value]
  exact h
theorem wp_cutTo (t e : TypeId) (x z : Operand) (A : Option Addr) (n cap j s : Nat) (ho : o.op = .slice t x none (some z) none) (hx : a.eval x = .slice A n cap) (hz : a.eval z = .int .i64 (j : Int)) (hj : j ≤ cap)
    (hu : Tryz.prog.underlying t = some (.slice e)) (hs : (Tryz.prog.info? e).map (·.size) = some s) (h : K (a.put o.dst (.slice A j cap)) w) : Oper.wp Tryz.prog o a w K Q := by
  cases hq : Tryz.prog.info? e with
  | none => simp [hq] at hs
  | some ie =>
    have h1 : ie.size = s := by simpa [hq] using hs
    have hr : (Instr.sliceAt t (.slice A n cap) none (some (.int .i64 (j : Int))) none).run Tryz.prog w = .ok (.slice A j cap) w := by
      have e0 : (0 : Int) ≤ (j : Int) := by omega
      have e1 : (j : Int) ≤ (cap : Int) := by omega
      simp only [Instr.sliceAt, Instr.slice, run_underlying hu, Instr.sliceBounds, Instr.sliceBound, asIntOf, sizeOf, typeInfo, Sem.run_bind, Sem.run_pure, Result.andThen_ok, e0, e1, and_self, if_true, Int.toNat_natCast]
      simp [go_sem]
      rw [hq]
      simp [go_sem, h1]
      try (cases A <;> simp [Addr.add])
      try omega
    unfold Oper.wp execOp
    simp only [ho, hx, hz, Option.map_some, Option.map_none, Sem.run_bind, hr, Result.andThen_ok, Sem.run_pure, Oper.upon_value]
    exact h
end
theorem Eo.cap {w0 w : World} {A : Option Addr} {n c : Nat} {es : List Ev} (h : Eo w0 w (.slice A n c) es) : n ≤ c := by
  obtain ⟨cs, h1, _⟩ := h.own
  obtain ⟨A', c', e, hc, _⟩ := Lw.form h1
  simp only [Value.slice.injEq] at e
  omega
theorem EsAt.take {w : World} {A : Option Addr} {es : List Ev} (h : EsAt w A es) (n : Nat) : EsAt w A (es.take n) := fun i e he => h i e (by
  by_cases z : i < n
  · rw [List.getElem?_take_of_lt z] at he; exact he
  · rw [List.getElem?_eq_none (by rw [List.length_take]; omega)] at he; cases he)
theorem ltm_tk (es : List Ev) (n i : Nat) (h : i ≤ n) : ltm (es.take n) i = ltm es i := by
  cases i with
  | zero => rfl
  | succ i => simp only [ltm]; rw [List.getElem?_take_of_lt (by omega)]
theorem Okr.take {es : List Ev} (h : Okr es) (n : Nat) : Okr (es.take n) := ⟨fun e he => h.ok e (List.mem_of_mem_take he), fun i e he => by
  have z : i < n := by
    by_cases z : i < n
    · exact z
    · rw [List.getElem?_eq_none (by rw [List.length_take]; omega)] at he; cases he
  rw [ltm_tk es n i (Nat.le_of_lt z)]
  rw [List.getElem?_take_of_lt z] at he
  exact h.up i e he⟩
/-- What InboxOne has at hand. -/
structure S2 (w X : World) (es fs : List Ev) (A A' : Option Addr) (p p' : Nat) (v v' : Value) (b5 : Nat) (KK : List Value) : Prop where
  be : Below w.heap.size w X
  ea : EsAt X A es
  eb : EsAt X A' fs
  ba : ∃ w0, Bx w0 X p v es
  bb : ∃ w0, Bx w0 X p' v' fs
  rk : Row X b5 KK 51
theorem S2.keep {w X Y : World} {es fs : List Ev} {A A' : Option Addr} {p p' : Nat} {v v' : Value} {b5 : Nat} {KK : List Value} (h : S2 w X es fs A A' p p' v v' b5 KK) (k : Below X.heap.size X Y) : S2 w Y es fs A A' p p' v v' b5 KK :=
  ⟨h.be.trans (k.mono h.be.size), h.ea.be k, h.eb.be k, by obtain ⟨w0, hb⟩ := h.ba; exact ⟨w0, hb.keep k⟩, by obtain ⟨w0, hb⟩ := h.bb; exact ⟨w0, hb.keep k⟩, Row.below h.rk k h.rk.lt⟩
def SP.lk (n : Nat) (cells : List Value) : SP := ⟨fun W u => ∃ g c, u = .slice (some ⟨g, 0, none⟩) (n + 1) c ∧ Lw W 51 32 (.slice (some ⟨g, 0, none⟩) (n + 1) c) (n + 1) cells, fun _ _ _ hB h => by obtain ⟨g, c, e, l⟩ := h; exact ⟨g, c, e, Lw.be l hB⟩⟩
theorem dgL (k : List (BitVec 8)) (h : k.length = 32) : (vB k).length = (vB zK).length := by rw [vB_length, vB_length, h]; rfl
theorem dgI (k : List (BitVec 8)) (h : k.length = 32) : (Tryz.prog.info? 51).map (·.size) = some (vB k).length := by rw [vB_length, h]; exact info_dg

end Go.Proofs.YtfjhecmnbodkfaaGreatDoor
