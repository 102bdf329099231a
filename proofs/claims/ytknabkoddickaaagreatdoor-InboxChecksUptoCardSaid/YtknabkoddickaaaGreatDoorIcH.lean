/-
  InboxChecks: its walk.
-/
import Derived.Test.YtknabkoddickaaaGreatDoorIcG
namespace Go.Proofs.YtknabkoddickaaaGreatDoor
open Go Go.RowKit
open Sha

set_option maxRecDepth 100000 in
set_option maxHeartbeats 32000000 in
theorem checks15_walk (es : List Ev) (hw : ∀ e ∈ es, e.Wf) (A0 : Option Addr) (N c0 : Nat) (hN : N = es.length) (hNb : N ≤ 99000) (hdl : ∀ e ∈ es, e.d.length ≤ 2000000) (kk tt : List (BitVec 8)) (hk : kk.length = 32) (htt : tt.length = 32) (MK MT : List Value) (hMK : MK = vB kk) (hMT : MT = vB tt) (w : World) (hG : Given w) (h0 : EsAt w A0 es) :
    Calls Tryz.prog 4 #[.agg MK.toArray, .slice A0 N c0, .agg MT.toArray] w fun r w' => r = .returned (.bool true) ∧ Below w.heap.size w w' := by
  have HW : Hid (∀ e ∈ es, e.Wf) := hw
  have HN : Hid (N = es.length) := hN
  have HDL : Hid (∀ e ∈ es, e.d.length ≤ 2000000) := hdl
  have HKK : Hid (kk.length = 32) := hk
  have HTT : Hid (tt.length = 32) := htt
  have HMK : Hid (MK = vB kk) := hMK
  have HMT : Hid (MT = vB tt) := hMT
  have HES : Hid (EsAt w A0 es) := h0
  have HGW : Hid (∀ X, Below w.heap.size w X → Given X) := fun X k => hG.below k (Nat.le_refl _)
  have HKI : Hid ((Tryz.prog.info? 51).map (·.size) = some MK.length) := by show _ = _; rw [hMK, vB_length, hk]; exact info_dg
  have HTI : Hid ((Tryz.prog.info? 51).map (·.size) = some MT.length) := by show _ = _; rw [hMT, vB_length, htt]; exact info_dg
  clear hw hN hdl hk htt hMK hMT hG h0
  go_enter Tryz.func4, Tryz.ntmps4
  go_upto_region 3 with (first
    | (refine wpList_boxG 51 rfl (.tmp 0) rfl MK rfl ?_; intro X1 q1 q2 q3; have D1 : Hid (Row X1 w.heap.size MK 51) := q1; have B1 : Hid (Below w.heap.size w X1) := q2; clear q1 q2 q3; simp only [Act.put, List.setIfInBounds_toArray, List.set_cons_zero, List.set_cons_succ])
    | (refine wpList_boxG 51 rfl (.tmp 2) rfl MT rfl ?_; intro X2 q1 q2 q3; have T2 : Hid (Row X2 X1.heap.size MT 51) := q1; have D2 : Hid (Row X2 w.heap.size MK 51) := Row.below D1.out q2 D1.out.lt; have B2 : Hid (Below w.heap.size w X2) := B1.out.trans (q2.mono B1.out.size); clear q1 q2 q3; simp only [Act.put, List.setIfInBounds_toArray, List.set_cons_zero, List.set_cons_succ])
    | (go_at_call 6; refine Calls.mono (iknown_any X2 (HGW.out X2 B2.out)) ?_; rintro e9 X3 ⟨rfl, q⟩; have D3 : Hid (Row X3 w.heap.size MK 51) := Row.below D2.out q D2.out.lt; have T3 : Hid (Row X3 X1.heap.size MT 51) := Row.below T2.out q T2.out.lt; have B3 : Hid (Below w.heap.size w X3) := B2.out.trans (q.mono B2.out.size); clear q))
  obtain ⟨bk, hbk⟩ : ∃ b, b = w.heap.size := ⟨_, rfl⟩
  obtain ⟨bt, hbt⟩ : ∃ b, b = X1.heap.size := ⟨_, rfl⟩
  rw [← hbk] at D3 ⊢
  rw [← hbt] at T3 ⊢
  clear hbk hbt D1 B1 D2 T2 B2
  go_upto_region 4 with (refine wpList_mkE rfl (.tmp 27) (.tmp 27) rfl (N + 3) _ _ (by omega) (by omega) rfl rfl (by omega) ?_; intro X4 cs0 q1 q2 q3; have HF0 : Hid (Fu X3 X4 X3.heap.size N none 0 es cs0 [] [] 0 0) := Fu.start HW.out HN.out.symm q1 q2 q3 (Nat.le_refl _); clear q1 q2 q3; simp only [Act.put, List.setIfInBounds_toArray, List.set_cons_zero, List.set_cons_succ])
  obtain ⟨F, hF⟩ : ∃ F, F = X3.heap.size := ⟨_, rfl⟩
  rw [← hF] at HF0 ⊢
  clear hF
  go_wp2_with fail
  go_loopw [8, 9] (fun v8 v9 wr => ∃ (i : Nat) (A8 : Option Addr) (c8 : Nat) (cs : List Value) (gs : List Nat) (bs : List (List (BitVec 8))), i ≤ N ∧ v9 = .int .i64 (i : Int) ∧ v8 = .slice A8 i c8 ∧ Hid (Fu X3 wr F N A8 c8 es cs gs bs i 0 ∧ gs.length = i ∧ ∀ (j : Nat) (e : Ev), j < i → es[j]? = some e → bs[j]? = some (e.d ++ mk8))) (fun _ v9 _ => N - (intOf v9).toNat)
  case atStart => exact ⟨0, none, 0, cs0, [], [], Nat.zero_le _, rfl, rfl, HF0.out, rfl, fun j e hj => by omega⟩
  case round =>
    clear HF0
    obtain ⟨i, A8, c8, cs, gs, bs, hi, rfl, rfl, HI0⟩ := hrel
    by_cases hlt : i < N
    · have hlt2 : (i : Int) < (N : Int) := by omega
      obtain ⟨e, he⟩ : ∃ e, es[i]? = some e := ⟨_, List.getElem?_eq_getElem (by have := HN.out; omega)⟩
      have we := HW.out e (List.mem_of_getElem? he)
      obtain ⟨b, o, A', c', hA0, hrg, hsl, hnil⟩ := HES.out i e he
      subst hA0
      obtain ⟨n, hn⟩ : ∃ n, n = e.d.length := ⟨_, rfl⟩
      have hnb : n ≤ 2000000 := by rw [hn]; exact HDL.out e (List.mem_of_getElem? he)
      rw [← hn] at hrg hsl
      obtain ⟨L, hL⟩ : ∃ L, L = e.cells (.slice A' n c') := ⟨_, rfl⟩
      rw [← hL] at hrg
      obtain ⟨q, hq⟩ : ∃ q, q = o + i * 49 := ⟨_, rfl⟩
      have HQ : Hid (o + i * 49 = q) := hq.symm
      rw [← hq] at hrg
      obtain ⟨qF, hqF⟩ : ∃ q, q = 0 + i * 49 := ⟨_, rfl⟩
      have HQF : Hid (0 + i * 49 = qF) := hqF.symm
      have HIN : Hid (i < N) := hlt
      have HIN3 : Hid (i < N + 3) := by show _ < _; omega
      have HI : Hid ((Tryz.prog.info? 46).map (·.size) = some L.length) := by rw [hL]; exact Ev.info we _
      have HR : Hid (∀ X, Below X3.heap.size X3 X → X.rangeAt b q L) := fun X k => range_be hrg (B3.out.trans (k.mono B3.out.size))
      have HC48 : Hid (∀ X, Below X3.heap.size X3 X → X.cell? ⟨b, q + 48, none⟩ = some (.slice A' n c')) := fun X k => HR.out X k 48 _ (by rw [hL]; exact Ev.body we _)
      have HS0 : Hid (∀ X, Below X3.heap.size X3 X → SlAt X (.slice A' n c') e.d) := fun X k => hsl.be (B3.out.trans (k.mono B3.out.size))
      have HFu : Hid (Fu X3 wr F N A8 c8 es cs gs bs i 0) := HI0.out.1
      have HGL : Hid (gs.length = i) := HI0.out.2.1
      have HBS : Hid (∀ (j : Nat) (e : Ev), j < i → es[j]? = some e → bs[j]? = some (e.d ++ mk8)) := HI0.out.2.2
      have c48 : wr.cell? ⟨b, q + 48, none⟩ = some (.slice A' n c') := HC48.out wr HFu.out.be
      have HLE : Hid (Calls Tryz.prog 11 #[.slice A' n c'] wr fun e9 w' => e9 = .returned (.slice (some ⟨wr.heap.size, 0, none⟩) (n + 8) (n + 8)) ∧ Row w' wr.heap.size (vB (e.d ++ mk8)) 5 ∧ Below wr.heap.size wr w') := lend_any e.d n hn.symm (by omega) A' c' wr (HS0.out wr HFu.out.be)
      have HE : Hid (es[i]? = some e) := he
      have HWE : Hid e.Wf := we
      have HNE : Hid (n = e.d.length) := hn
      have HLL : Hid (L = e.cells (.slice A' n c')) := hL
      have HL49 : Hid (L.length = 49) := by show _ = _; rw [hL]; exact Ev.len we _
      have HLO : Hid (L.toArray.all (·.oneCell') = true) := by rw [hL]; exact all_oneCell_toArray (Ev.one e _ _ _)
      clear HI0 hrg hsl hnil he we hn hL hq hqF
      go_upto_region 9 with (first
        | (refine wpList_ixO 52 46 (.tmp 35) (.tmp 36) rfl b o N c0 i 49 q HQ.out rfl rfl HIN.out Tryz.underlying52 info_ent rfl ?_; simp only [Act.put, List.setIfInBounds_toArray, List.set_cons_zero, List.set_cons_succ])
        | (go_at_call 11; refine Calls.mono HLE.out ?_; rintro e9 Y1 ⟨rfl, q1, q2⟩; have HG1 : Hid (Row Y1 wr.heap.size (vB (e.d ++ mk8)) 5) := q1; have BY1 : Hid (Below wr.heap.size wr Y1) := q2; clear q1 q2))
      obtain ⟨g, hg⟩ : ∃ g, g = wr.heap.size := ⟨_, rfl⟩
      have HGB : Hid (g = wr.heap.size) := hg
      rw [← hg] at HG1 ⊢
      clear hg HLE c48
      obtain ⟨vs, hvs⟩ : ∃ vs, Lw wr 44 1 (.slice A8 gs.length c8) gs.length vs ∧ ∀ (j : Nat) (e : Ev) (g : Nat), es[j]? = some e → gs[j]? = some g → vs[j]? = some (bval e g) := HFu.out.lw
      have HVS : Hid (Lw wr 44 1 (.slice A8 gs.length c8) gs.length vs ∧ ∀ (j : Nat) (e : Ev) (g : Nat), es[j]? = some e → gs[j]? = some g → vs[j]? = some (bval e g)) := hvs
      have HLW1 : Hid (Lw Y1 44 1 (.slice A8 i c8) i vs) := by have := Lw.be hvs.1 BY1.out; rw [HGL.out] at this; exact this
      clear hvs
      go_upto_region 10 with (first
        | (refine wpList_buildOne 30 44 Tryz.underlying30 info_sl4 rfl (.tmp 42) rfl (.slice (some ⟨g, 0, none⟩) (n + 8) (n + 8)) rfl rfl ?_; intro Y2 q1 q2 q3; have R2 : Hid (Row Y2 Y1.heap.size [.slice (some ⟨g, 0, none⟩) (n + 8) (n + 8)] 44) := q1; have B2 : Hid (Below Y1.heap.size Y1 Y2) := q2; have LW2 : Hid (Lw Y2 44 1 (.slice A8 i c8) i vs) := Lw.be HLW1.out q2; clear q1 q2 q3; simp only [Act.put, List.setIfInBounds_toArray, List.set_cons_zero, List.set_cons_succ])
        | (refine wpList_appL 30 44 1 24 Tryz.underlying30 info_sl (by decide) (by decide) rfl (.tmp 41) (.tmp 43) rfl (.slice A8 i c8) i vs [.slice (some ⟨g, 0, none⟩) (n + 8) (n + 8)] rfl LW2.out Y1.heap.size rfl rfl R2.out.all (fun u hu => by obtain rfl := List.mem_singleton.1 hu; rfl) (by omega) ?_; intro v9 Y3 q1 q2 q3; obtain ⟨A9, c9, e9, _, _⟩ := Lw.form q1; subst e9; have L3 : Hid (Lw Y3 44 1 (.slice A9 (i + 1) c9) (i + 1) (vs ++ [.slice (some ⟨g, 0, none⟩) (n + 8) (n + 8)])) := q1; have G3 : Hid (Y2.grownBy Y3 (Value.slice A8 i c8).ownBlock) := q2; have O3 : Hid ((Value.slice A9 (i + 1) c9).ownBlock = (Value.slice A8 i c8).ownBlock ∨ (Value.slice A9 (i + 1) c9).ownBlock = some Y2.heap.size) := q3; clear q1 q2 q3; simp only [Act.put, List.setIfInBounds_toArray, List.set_cons_zero, List.set_cons_succ]))
      have HF3 : Hid (Fu X3 Y3 F N A9 c9 es cs (gs ++ [g]) (bs ++ [e.d ++ mk8]) i 0) := by
        have k2 := (HFu.out.below BY1.out).below B2.out
        have hgl := HGL.out
        refine k2.app (vs := vs) HVS.out.2 (by have := Lw.len HVS.out.1; omega) g e (by rw [hgl]; exact HE.out) (e.d ++ mk8) (by rw [List.length_append]; rfl) (Row.below HG1.out B2.out HG1.out.lt) (fun h hh => by rw [HGB.out]; exact HFu.out.gs_lt h hh) (by rw [HGB.out]; exact HFu.out.be.size) A9 c9 ?_ ?_ ?_
        · rw [hgl]; unfold bval; rw [← HNE.out]; exact L3.out
        · rw [hgl]; exact G3.out
        · rw [hgl]; exact O3.out
      have HGI : Hid ((gs ++ [g])[i]? = some g) := by show _ = _; rw [← HGL.out, List.getElem?_append_right (Nat.le_refl _), Nat.sub_self]; rfl
      have HGL2 : Hid ((gs ++ [g]).length = i + 1) := by show _ = _; rw [List.length_append, HGL.out]; rfl
      have HBS2 : Hid (∀ (j : Nat) (e' : Ev), j < i + 1 → es[j]? = some e' → (bs ++ [e.d ++ mk8])[j]? = some (e'.d ++ mk8)) := fun j e' hj he' => by
        have hbl : bs.length = i := by rw [HFu.out.bl]; exact HGL.out
        by_cases hji : j < i
        · rw [List.getElem?_append_left (by omega)]; exact HBS.out j e' hji he'
        · obtain rfl : j = i := by omega
          rw [HE.out] at he'; cases he'
          rw [List.getElem?_append_right (by omega), hbl, Nat.sub_self]; rfl
      clear L3 G3 O3 LW2 R2 B2 HLW1 HVS HG1 BY1 HFu HBS
      generalize gs ++ [g] = gs2 at *
      generalize bs ++ [e.d ++ mk8] = bs2 at *
      have HLC : Hid (qF + L.length ≤ cs.length) := by have h1 := HF3.out.len; have h2 := HL49.out; have h3 := HQF.out; show _ ≤ _; omega
      go_upto_region 11 with (first
        | (refine wpList_ixO 52 46 (.tmp 47) (.tmp 48) rfl b o N c0 i 49 q HQ.out rfl rfl HIN.out Tryz.underlying52 info_ent rfl ?_; simp only [Act.put, List.setIfInBounds_toArray, List.set_cons_zero, List.set_cons_succ])
        | (refine wpList_load_w rfl 46 (.tmp 49) rfl b q rfl (L) _ (HR.out Y3 HF3.out.be) Tryz.underlying46 rfl HI.out ?_; simp only [Act.put, List.setIfInBounds_toArray, List.set_cons_zero, List.set_cons_succ])
        | (refine wpList_ixO 52 46 (.tmp 45) (.tmp 46) rfl F 0 (N + 3) (N + 3) i 49 qF HQF.out rfl rfl HIN3.out Tryz.underlying52 info_ent rfl ?_; simp only [Act.put, List.setIfInBounds_toArray, List.set_cons_zero, List.set_cons_succ])
        | (refine wpList_storeM rfl 46 (.tmp 51) (.tmp 50) rfl F qF L cs 46 rfl rfl HF3.out.row HLC.out HI.out HLO.out ?_; intro Y4 q1 q2; have RY4 : Hid (Row Y4 F (ovr cs qF L) 46) := q1; have GY4 : Hid (Gro (· = F) Y3 Y4) := q2; clear q1 q2; simp only [Act.put]))
      have HF4 : Hid (Fu X3 Y4 F N A9 c9 es (ovr cs qF L) gs2 bs2 i 0) := by
        have e1 : qF = i * 49 := by have := HQF.out; omega
        have r4 := RY4.out
        rw [e1] at r4 ⊢
        exact HF3.out.over i (Nat.le_refl _) (by omega) (.inl hlt) L HL49.out r4 GY4.out
      have HA4 : Hid (At49 (ovr cs qF L) i L) := by
        have e1 : qF = i * 49 := by have := HQF.out; omega
        have h1 := HF3.out.len
        have h2 := HL49.out
        rw [e1]
        exact At49.of_ovr (by omega)
      clear HF3 RY4 GY4 HLC
      obtain ⟨cs4, hcs4⟩ : ∃ c, c = ovr cs qF L := ⟨_, rfl⟩
      rw [← hcs4] at HF4 HA4
      clear hcs4
      have c48 : Y4.cell? ⟨b, q + 48, none⟩ = some (.slice A' n c') := HC48.out Y4 HF4.out.be
      have HLC : Hid (qF + 48 < cs4.length) := by have h1 := HF4.out.len; have h3 := HQF.out; show _ < _; omega
      go_wp2_with (first
        | (refine wpList_ixO 52 46 (.tmp 55) (.tmp 56) rfl b o N c0 i 49 q HQ.out rfl rfl HIN.out Tryz.underlying52 info_ent rfl ?_; simp only [Act.put, List.setIfInBounds_toArray, List.set_cons_zero, List.set_cons_succ])
        | (refine wpList_cutTo15 rfl 44 5 (.tmp 54) (.tmp 60) (some ⟨g, 0, none⟩) (n + 8) (n + 8) n 1 rfl rfl rfl (by omega) Tryz.underlying44 info_u8 ?_; simp only [Act.put, List.setIfInBounds_toArray, List.set_cons_zero, List.set_cons_succ])
        | (refine wpList_ixO 52 46 (.tmp 52) (.tmp 53) rfl F 0 (N + 3) (N + 3) i 49 qF HQF.out rfl rfl HIN3.out Tryz.underlying52 info_ent rfl ?_; simp only [Act.put, List.setIfInBounds_toArray, List.set_cons_zero, List.set_cons_succ])
        | (refine wpList_set1 rfl 44 (.tmp 63) (.tmp 61) rfl F (qF + 48) (.slice (some ⟨g, 0, none⟩) n (n + 8)) cs4 46 rfl rfl rfl HF4.out.row HLC.out info_ts1 rfl ?_; intro Y5 q1 q2 q3; have RY5 : Hid (Row Y5 F (cs4.set (qF + 48) (.slice (some ⟨g, 0, none⟩) n (n + 8))) 46) := q1; have GY5 : Hid (Gro (· = F) Y4 Y5) := q2; clear q1 q2 q3; simp only [Act.put]))
      have HF5 : Hid (Fu X3 Y5 F N A9 c9 es (cs4.set (i * 49 + 48) (.slice (some ⟨g, 0, none⟩) e.d.length (e.d.length + 8))) gs2 bs2 (i + 1) 0) := by
        have e1 : qF = i * 49 := by have := HQF.out; omega
        have r5 := RY5.out
        rw [e1, HNE.out] at r5
        have a4 := HA4.out
        rw [HLL.out] at a4
        exact HF4.out.lay hlt (by rw [HGL2.out]; omega) e HE.out g HGI.out _ a4 r5 GY5.out
      exact ⟨⟨i + 1, A9, c9, _, gs2, bs2, hlt, by go_num, rfl, HF5.out, HGL2.out, HBS2.out⟩, by simp [intOf]; omega⟩
    have hiN : i = N := by omega
    have hlt2 : ¬ ((i : Int) < (N : Int)) := by omega
    have HFu : Hid (Fu X3 wr F N A8 c8 es cs gs bs N 0) := by have := HI0.out.1; rw [hiN] at this; exact this
    have HGL : Hid (gs.length = N) := by have := HI0.out.2.1; rw [hiN] at this; exact this
    have HBS : Hid (∀ (j : Nat) (e : Ev), j < N → es[j]? = some e → bs[j]? = some (e.d ++ mk8)) := by have := HI0.out.2.2; rw [hiN] at this; exact this
    have HIE : Hid (i = N) := hiN
    clear HI0 hlt
    rw [HIE.out]
    clear hlt2 hi hiN HIE
    have hlt2 : ¬ ((N : Int) < (N : Int)) := by omega
    go_wp2_with fail
    obtain ⟨Z0, hZ0⟩ : ∃ Z, Z = wr := ⟨_, rfl⟩
    rw [← hZ0] at HFu ⊢
    clear hZ0 hlt2
    go_loopw [11] (fun v wr => ∃ (m k : Nat) (cs : List Value), m ≤ 3 ∧ k = N + m ∧ v = .int .i64 (k : Int) ∧ Hid (Fu X3 wr F N A8 c8 es cs gs bs N m)) (fun v _ => N + 3 - (intOf v).toNat)
    case atStart => exact ⟨0, N, cs, by omega, rfl, rfl, HFu.out⟩
    case round =>
      clear HFu
      obtain ⟨m, k, cs2, hm, hk, rfl, HFu⟩ := hrel
      by_cases hm3 : m < 3
      · have hk3 : k < N + 3 := by omega
        have hk4 : (k : Int) < (N : Int) + 3 := by omega
        have HKL : Hid (k < N + 3) := hk3
        have HAD : Hid (IntKind.i64.wrap (500 + (k : Int)) = 500 + (k : Int)) := wrap64I _ (by omega) (by omega)
        obtain ⟨qF, hqF⟩ : ∃ q, q = 0 + k * 49 := ⟨_, rfl⟩
        have HQF : Hid (0 + k * 49 = qF) := hqF.symm
        obtain ⟨L, hL⟩ : ∃ L, L = kE (500 + (k : Int)) := ⟨_, rfl⟩
        have HLL : Hid (L = kE (500 + (k : Int))) := hL
        have HI : Hid ((Tryz.prog.info? 46).map (·.size) = some L.length) := by show _ = _; rw [hL, kE_len]; exact info_ent
        have HLO : Hid (L.toArray.all (·.oneCell') = true) := by rw [hL]; exact kE_one _
        have HLC : Hid (qF + L.length ≤ cs2.length) := by show _ ≤ _; rw [hL, kE_len]; have h1 := HFu.out.len; omega
        have HKE : Hid (k = N + m) := hk
        clear hL hqF hk
        go_wp2_with (first
          | (refine add_oI (.const (.int .i64 500)) (.tmp 74) _ _ rfl rfl rfl _ _ _ rfl rfl HAD.out ?_; simp only [Act.put, List.setIfInBounds_toArray, List.set_cons_zero, List.set_cons_succ])
          | (refine wpList_buildKE rfl (.tmp 75) rfl (500 + (k : Int)) rfl L HLL.out ?_; simp only [Act.put, List.setIfInBounds_toArray, List.set_cons_zero, List.set_cons_succ])
          | (refine wpList_ixO 52 46 (.tmp 72) (.tmp 73) rfl F 0 (N + 3) (N + 3) k 49 qF HQF.out rfl rfl HKL.out Tryz.underlying52 info_ent rfl ?_; simp only [Act.put, List.setIfInBounds_toArray, List.set_cons_zero, List.set_cons_succ])
          | (refine wpList_storeM rfl 46 (.tmp 77) (.tmp 76) rfl F qF L cs2 46 rfl rfl HFu.out.row HLC.out HI.out HLO.out ?_; intro Y1 q1 q2; have RY : Hid (Row Y1 F (ovr cs2 qF L) 46) := q1; have GY : Hid (Gro (· = F) wr Y1) := q2; clear q1 q2; simp only [Act.put]))
        have hk := HKE.out
        have HF1 : Hid (Fu X3 Y1 F N A8 c8 es (ovr cs2 ((N + m) * 49) (kE (500 + ((N + m : Nat) : Int)))) gs bs N (m + 1)) := by
          have e1 : qF = (N + m) * 49 := by have := HQF.out; omega
          have r := RY.out
          rw [e1, HLL.out, hk] at r
          exact HFu.out.kind rfl hm3 r GY.out
        exact ⟨⟨m + 1, k + 1, _, by omega, by omega, by go_num, HF1⟩, by simp [intOf]; omega⟩
      have hm4 : m = 3 := by omega
      have HF6 : Hid (Fu X3 wr F N A8 c8 es cs2 gs bs N 3) := by have := HFu.out; rw [hm4] at this; exact this
      have hk4 : ¬ ((k : Int) < (N : Int) + 3) := by omega
      have hk5 : ¬ (k < N + 3) := by omega
      clear HFu hm4 hm3 hm hk
      have HBw : Hid (Below w.heap.size w wr) := B3.out.trans (HF6.out.be.mono B3.out.size)
      have DR : Hid (Row wr bk MK 51) := Row.below D3.out HF6.out.be D3.out.lt
      have HLK : Hid (Calls Tryz.prog 12 #[.agg MK.toArray, .slice A0 N c0] wr fun r w' => ∃ g c, r = .returned (.slice (some ⟨g, 0, none⟩) (N + 1) c) ∧ Lw w' 51 32 (.slice (some ⟨g, 0, none⟩) (N + 1) c) (N + 1) (dcg kk es N) ∧ wr.heap.size ≤ g ∧ Below wr.heap.size wr w') := links_all kk HKK.out es HW.out A0 N c0 HN.out (by omega) wr (HGW.out wr HBw.out) (HES.out.be HBw.out) MK HMK.out
      go_upto_region 17 with (refine wpList_cutTo15 rfl 52 46 (.tmp 78) (.tmp 80) (some ⟨F, 0, none⟩) (N + 3) (N + 3) N 49 rfl rfl rfl (by omega) Tryz.underlying52 info_ent ?_; simp only [Act.put, List.setIfInBounds_toArray, List.set_cons_zero, List.set_cons_succ])
      go_upto_region 18 with (first
        | (refine wpList_load_w rfl 51 (.tmp 3) rfl bk 0 rfl (MK) _ DR.out.all Tryz.underlying51 rfl HKI.out ?_; simp only [Act.put, List.setIfInBounds_toArray, List.set_cons_zero, List.set_cons_succ])
        | (go_at_call 12; refine Calls.mono HLK.out ?_; rintro e9 Z1 ⟨gl, cl, rfl, q1, q2, q3⟩; have HG1 : Hid (Gu X3 Z1 F N A8 c8 es cs2 gs bs gl cl kk) := ⟨HF6.out.below q3, q1⟩; clear q1 q2 q3))
      have HB1 : Hid (Below w.heap.size w Z1) := B3.out.trans (HG1.out.fu.be.mono B3.out.size)
      clear DR HLK HF6 HBw
      have HAT : Hid (EsAt Z1 (some ⟨F, 0, none⟩) es) := HG1.out.fu.at rfl es HN.out.symm (fun j e b he hb => by
        have hj : j < N := by have := (List.getElem?_eq_some_iff.1 he).1; have := HN.out; omega
        rw [HBS.out j e hj he] at hb
        cases hb
        rw [List.take_left, Ev.wb_same]
        exact he)
      obtain ⟨kd, hkd⟩ : ∃ k, k = lkg kk es := ⟨_, rfl⟩
      have HKD : Hid (kd.length = 32) := by rw [hkd]; exact lkg_len kk HKK.out _
      obtain ⟨E1, p1, d1⟩ := check_both es HW.out (by have := HN.out; omega) kk kd HKK.out HKD.out
      obtain ⟨E2, p2, d2⟩ := check_both es HW.out (by have := HN.out; omega) kk tt HKK.out HTT.out
      have HC1 : Hid (∀ X, Below Z1.heap.size Z1 X → Calls Tryz.prog 13 #[.agg MK.toArray, .agg (vB kd).toArray, .slice (some ⟨F, 0, none⟩) N (N + 3)] X fun r w' => r = .returned (.int .i64 E1) ∧ Below X.heap.size X w') := fun X k => by rw [HMK.out]; exact p1 X _ N _ HN.out (HGW.out X (HB1.out.trans (k.mono HB1.out.size))).cub (HAT.out.be k)
      have HC2 : Hid (∀ X, Below Z1.heap.size Z1 X → Calls Tryz.prog 13 #[.agg MK.toArray, .agg MT.toArray, .slice (some ⟨F, 0, none⟩) N (N + 3)] X fun r w' => r = .returned (.int .i64 E2) ∧ Below X.heap.size X w') := fun X k => by rw [HMK.out, HMT.out]; exact p2 X _ N _ HN.out (HGW.out X (HB1.out.trans (k.mono HB1.out.size))).cub (HAT.out.be k)
      have HD1 : Hid (∀ X, Below Z1.heap.size Z1 X → Calls Tryz.prog 14 #[.agg MK.toArray, .agg (vB kd).toArray, .slice A0 N c0] X fun r w' => r = .returned (.int .i64 E1) ∧ Below X.heap.size X w') := fun X k => by rw [HMK.out]; exact d1 X _ N _ HN.out (HGW.out X (HB1.out.trans (k.mono HB1.out.size))) (HES.out.be (HB1.out.trans (k.mono HB1.out.size)))
      have HD2 : Hid (∀ X, Below Z1.heap.size Z1 X → Calls Tryz.prog 14 #[.agg MK.toArray, .agg MT.toArray, .slice A0 N c0] X fun r w' => r = .returned (.int .i64 E2) ∧ Below X.heap.size X w') := fun X k => by rw [HMK.out, HMT.out]; exact d2 X _ N _ HN.out (HGW.out X (HB1.out.trans (k.mono HB1.out.size))) (HES.out.be (HB1.out.trans (k.mono HB1.out.size)))
      have HRK : Hid (∀ X, Below X3.heap.size X3 X → X.rangeAt bk 0 MK) := fun X k => (Row.below D3.out k D3.out.lt).all
      have HRT : Hid (∀ X, Below X3.heap.size X3 X → X.rangeAt bt 0 MT) := fun X k => (Row.below T3.out k T3.out.lt).all
      have BX1 : Hid (Below X3.heap.size X3 Z1) := HG1.out.fu.be
      have HRK1 : Hid (∀ X, Below Z1.heap.size Z1 X → X.rangeAt bk 0 MK) := fun X k => HRK.out X (BX1.out.trans (k.mono BX1.out.size))
      have HRT1 : Hid (∀ X, Below Z1.heap.size Z1 X → X.rangeAt bt 0 MT) := fun X k => HRT.out X (BX1.out.trans (k.mono BX1.out.size))
      obtain ⟨qd, hqd⟩ : ∃ q, q = 0 + N * 32 := ⟨_, rfl⟩
      have HQD : Hid (0 + N * 32 = qd) := hqd.symm
      have HRD : Hid (∀ X, Below Z1.heap.size Z1 X → X.rangeAt gl qd (vB kd)) := fun X k => by
        have := (HG1.out.below k).link HKK.out N qd (Nat.le_refl _) HQD.out
        rwa [List.take_of_length_le (by have := HN.out; omega), ← hkd] at this
      have HID : Hid ((Tryz.prog.info? 51).map (·.size) = some (vB kd).length) := dgI15 kd HKD.out
      have HN1 : Hid (N < N + 1) := Nat.lt_succ_self _
      clear p1 d1 p2 d2 hkd hqd HAT
      have hb1 := Below.refl Z1.heap.size Z1
      refine wp_named fun a0 ha0 => ?_
      have hsz : a0.tmps.size = 236 := by rw [ha0]; rfl
      have zs1 : a0.eval (.tmp 1) = .slice A0 N c0 := by rw [ha0]; rfl
      have zs3 : a0.eval (.tmp 3) = .pointer (some ⟨bk, 0, none⟩) := by rw [ha0]; rfl
      have zs12 : a0.eval (.tmp 12) = .slice (some ⟨F, 0, none⟩) N (N + 3) := by rw [ha0]; rfl
      have zs13 : a0.eval (.tmp 13) = .slice (some ⟨gl, 0, none⟩) (N + 1) cl := by rw [ha0]; rfl
      obtain ⟨D, hD⟩ : ∃ D : List (Tmp × SP), D = [(85, SP.is (.agg MK.toArray)), (86, SP.is (.slice (some ⟨gl, 0, none⟩) (N + 1) cl)), (87, SP.is (.slice A0 N c0)), (88, SP.is (.int .i64 (N : Int))), (89, SP.is (.pointer (some ⟨gl, qd, none⟩))), (90, SP.is (.agg (vB kd).toArray)), (91, SP.is (.slice (some ⟨F, 0, none⟩) N (N + 3))), (92, SP.is (.int .i64 E1)), (14, SP.is (.int .i64 E1))] := ⟨_, rfl⟩
      refine wp_region_down (by kernel_rfl) (fun listed ac W => listed.size = 9 ∧ Fp D a0 listed ac W ∧ Below Z1.heap.size Z1 W) ?_ ?_ ?_
      · exact ⟨by simp, Fp.start D a0 _ _, Below.drew hb1⟩
      · clear ha0 hb1  
        intro listed ac W k hI hdn hk
        obtain ⟨hl, hF, hb1⟩ := hI
        have hk1 : k < 9 := List.mem_range.1 (List.mem_filter.1 hk).1
        have hl2 : ∀ j, (listed.setIfInBounds j true).size = 9 := fun j => by rw [Array.size_setIfInBounds]; exact hl
        rcases (show k = 0 ∨ k = 1 ∨ k = 2 ∨ k = 3 ∨ k = 4 ∨ k = 5 ∨ k = 6 ∨ k = 7 ∨ k = 8 by omega) with rfl | rfl | rfl | rfl | rfl | rfl | rfl | rfl | rfl
        · have hk3 := hk
          have ea := ((hF.keep 3 (by rw [hD]; rfl)).trans zs3)
          exact wpOp_plain rfl rfl (wp_load_mid 51 (.tmp 3) rfl bk 0 ea MK _ (HRK1.out W hb1) Tryz.underlying51 rfl HKI.out ⟨hl2 0, (hF.put 0 85 (SP.is (.agg MK.toArray)) (.agg MK.toArray) (by rw [hD]; rfl) rfl (by rw [hD]; rfl) (by rw [hsz]; decide) (by rw [hl]; decide)), hb1⟩)
        · have hk3 := hk
          exact wpOp_plain rfl rfl (wp_move_v (ac.eval (.tmp 13)) rfl rfl ⟨hl2 1, (hF.put 1 86 (SP.is (.slice (some ⟨gl, 0, none⟩) (N + 1) cl)) (ac.eval (.tmp 13)) (by rw [hD]; rfl) (((hF.keep 13 (by rw [hD]; rfl)).trans zs13)) (by rw [hD]; rfl) (by rw [hsz]; decide) (by rw [hl]; decide)), hb1⟩)
        · have hk3 := hk
          exact wpOp_plain rfl rfl (wp_move_v (ac.eval (.tmp 1)) rfl rfl ⟨hl2 2, (hF.put 2 87 (SP.is (.slice A0 N c0)) (ac.eval (.tmp 1)) (by rw [hD]; rfl) (((hF.keep 1 (by rw [hD]; rfl)).trans zs1)) (by rw [hD]; rfl) (by rw [hsz]; decide) (by rw [hl]; decide)), hb1⟩)
        · have hk3 := hk
          have e := (hF.done 2 (87, SP.is (.slice A0 N c0)) (by rw [hD]; rfl) (ready_dep hk 2 (by kernel_rfl)))
          exact wpOp_plain rfl rfl (wp_lenE rfl A0 N c0 e ⟨hl2 3, (hF.put 3 88 (SP.is (.int .i64 (N : Int))) (.int .i64 (N : Int)) (by rw [hD]; rfl) rfl (by rw [hD]; rfl) (by rw [hsz]; decide) (by rw [hl]; decide)), hb1⟩)
        · have hk3 := hk
          have ea := (hF.done 1 (86, SP.is (.slice (some ⟨gl, 0, none⟩) (N + 1) cl)) (by rw [hD]; rfl) (ready_dep hk 1 (by kernel_rfl)))
          have eb := (hF.done 3 (88, SP.is (.int .i64 (N : Int))) (by rw [hD]; rfl) (ready_dep hk 3 (by kernel_rfl)))
          exact wpOp_plain rfl rfl (wp_ixO 54 51 rfl gl 0 (N + 1) cl N 32 qd HQD.out ea eb HN1.out Tryz.underlying54 info_dg ⟨hl2 4, (hF.put 4 89 (SP.is (.pointer (some ⟨gl, qd, none⟩))) (.pointer (some ⟨gl, qd, none⟩)) (by rw [hD]; rfl) rfl (by rw [hD]; rfl) (by rw [hsz]; decide) (by rw [hl]; decide)), hb1⟩)
        · have hk3 := hk
          have ea := (hF.done 4 (89, SP.is (.pointer (some ⟨gl, qd, none⟩))) (by rw [hD]; rfl) (ready_dep hk 4 (by kernel_rfl)))
          exact wpOp_plain rfl rfl (wp_load_mid 51 (.tmp 89) rfl gl qd ea (vB kd) _ (HRD.out W hb1) Tryz.underlying51 rfl HID.out ⟨hl2 5, (hF.put 5 90 (SP.is (.agg (vB kd).toArray)) (.agg (vB kd).toArray) (by rw [hD]; rfl) rfl (by rw [hD]; rfl) (by rw [hsz]; decide) (by rw [hl]; decide)), hb1⟩)
        · have hk3 := hk
          exact wpOp_plain rfl rfl (wp_move_v (ac.eval (.tmp 12)) rfl rfl ⟨hl2 6, (hF.put 6 91 (SP.is (.slice (some ⟨F, 0, none⟩) N (N + 3))) (ac.eval (.tmp 12)) (by rw [hD]; rfl) (((hF.keep 12 (by rw [hD]; rfl)).trans zs12)) (by rw [hD]; rfl) (by rw [hsz]; decide) (by rw [hl]; decide)), hb1⟩)
        · have hk3 := hk
          have e85 := (hF.done 0 (85, SP.is (.agg MK.toArray)) (by rw [hD]; rfl) (ready_dep hk 0 (by kernel_rfl)))
          have e90 := (hF.done 5 (90, SP.is (.agg (vB kd).toArray)) (by rw [hD]; rfl) (ready_dep hk 5 (by kernel_rfl)))
          have e91 := (hF.done 6 (91, SP.is (.slice (some ⟨F, 0, none⟩) N (N + 3))) (by rw [hD]; rfl) (ready_dep hk 6 (by kernel_rfl)))
          refine wpOp_plain rfl rfl (wp_fcall_v 13 #[.agg MK.toArray, .agg (vB kd).toArray, .slice (some ⟨F, 0, none⟩) N (N + 3)] rfl rfl (by show [ac.eval (.tmp 85), ac.eval (.tmp 90), ac.eval (.tmp 91)] = _; rw [show ac.eval (.tmp 85) = _ from e85, show ac.eval (.tmp 90) = _ from e90, show ac.eval (.tmp 91) = _ from e91]) (by go_simp) ((HC1.out W hb1).mono ?_))
          rintro e W2 ⟨rfl, hB⟩
          exact ⟨_, rfl, hl2 7, ((hF.world hB).put 7 92 (SP.is (.int .i64 E1)) (.int .i64 E1) (by rw [hD]; rfl) rfl (by rw [hD]; rfl) (by rw [hsz]; decide) (by rw [hl]; decide)), hb1.trans (hB.mono hb1.size)⟩
        · have hk3 := hk
          exact wpOp_plain rfl rfl (wp_assign_v (ac.eval (.tmp 92)) rfl rfl ⟨hl2 8, (hF.put 8 14 (SP.is (.int .i64 E1)) (ac.eval (.tmp 92)) (by rw [hD]; rfl) ((hF.done 7 (92, SP.is (.int .i64 E1)) (by rw [hD]; rfl) (ready_dep hk 7 (by kernel_rfl)))) (by rw [hD]; rfl) (by rw [hsz]; decide) (by rw [hl]; decide)), hb1⟩)
      · clear hb1  
        intro listed ac W hI hr
        obtain ⟨hl, hF, hb1⟩ := hI
        have hall := all_listed (by kernel_rfl) hl hr
        have h85 : ac.eval (.tmp 85) = .agg MK.toArray := hF.done 0 (85, SP.is (.agg MK.toArray)) (by rw [hD]; rfl) (hall 0 (by decide))
        have h86 : ac.eval (.tmp 86) = .slice (some ⟨gl, 0, none⟩) (N + 1) cl := hF.done 1 (86, SP.is (.slice (some ⟨gl, 0, none⟩) (N + 1) cl)) (by rw [hD]; rfl) (hall 1 (by decide))
        have h87 : ac.eval (.tmp 87) = .slice A0 N c0 := hF.done 2 (87, SP.is (.slice A0 N c0)) (by rw [hD]; rfl) (hall 2 (by decide))
        have h88 : ac.eval (.tmp 88) = .int .i64 (N : Int) := hF.done 3 (88, SP.is (.int .i64 (N : Int))) (by rw [hD]; rfl) (hall 3 (by decide))
        have h89 : ac.eval (.tmp 89) = .pointer (some ⟨gl, qd, none⟩) := hF.done 4 (89, SP.is (.pointer (some ⟨gl, qd, none⟩))) (by rw [hD]; rfl) (hall 4 (by decide))
        have h90 : ac.eval (.tmp 90) = .agg (vB kd).toArray := hF.done 5 (90, SP.is (.agg (vB kd).toArray)) (by rw [hD]; rfl) (hall 5 (by decide))
        have h91 : ac.eval (.tmp 91) = .slice (some ⟨F, 0, none⟩) N (N + 3) := hF.done 6 (91, SP.is (.slice (some ⟨F, 0, none⟩) N (N + 3))) (by rw [hD]; rfl) (hall 6 (by decide))
        have h92 : ac.eval (.tmp 92) = .int .i64 E1 := hF.done 7 (92, SP.is (.int .i64 E1)) (by rw [hD]; rfl) (hall 7 (by decide))
        have h14 : ac.eval (.tmp 14) = .int .i64 E1 := hF.done 8 (14, SP.is (.int .i64 E1)) (by rw [hD]; rfl) (hall 8 (by decide))
        have ea := hF.lay [(85, .agg MK.toArray), (86, .slice (some ⟨gl, 0, none⟩) (N + 1) cl), (87, .slice A0 N c0), (88, .int .i64 (N : Int)), (89, .pointer (some ⟨gl, qd, none⟩)), (90, .agg (vB kd).toArray), (91, .slice (some ⟨F, 0, none⟩) N (N + 3)), (92, .int .i64 E1), (14, .int .i64 E1)] (by rw [hD, hsz]; rfl) (by simp only [List.forall_mem_cons, List.not_mem_nil, false_implies, implies_true, and_true]; exact ⟨h85, h86, h87, h88, h89, h90, h91, h92, h14⟩)
        rw [ha0] at ea
        simp only [List.foldl_cons, List.foldl_nil, List.setIfInBounds_toArray, List.set_cons_zero, List.set_cons_succ] at ea
        clear hF hall hr hl hD  zs1 zs3 zs12 zs13 ha0 hsz h85 h86 h87 h88 h89 h90 h91 h92 h14
        subst ea
        obtain ⟨Z2, hZ2⟩ : ∃ Y, Y = W := ⟨_, rfl⟩
        rw [← hZ2] at hb1 ⊢
        have BZ2 : Hid (Below Z1.heap.size Z1 Z2) := hb1
        clear hZ2 hb1
        go_upto_region 20 with (first
          | (refine wpList_load_w rfl 51 (.tmp 3) rfl bk 0 rfl (MK) _ (HRK1.out Z2 BZ2.out) Tryz.underlying51 rfl HKI.out ?_; simp only [Act.put, List.setIfInBounds_toArray, List.set_cons_zero, List.set_cons_succ])
          | (refine wpList_load_w rfl 51 (.tmp 5) rfl bt 0 rfl (MT) _ (HRT1.out Z2 BZ2.out) Tryz.underlying51 rfl HTI.out ?_; simp only [Act.put, List.setIfInBounds_toArray, List.set_cons_zero, List.set_cons_succ])
          | (go_at_call 13; refine Calls.mono (HC2.out Z2 BZ2.out) ?_; rintro e9 Z3 ⟨rfl, q⟩; have BZ3 : Hid (Below Z1.heap.size Z1 Z3) := BZ2.out.trans (q.mono BZ2.out.size); clear q))
        have hb1 := BZ3.out
        refine wp_named fun a0 ha0 => ?_
        have hsz : a0.tmps.size = 236 := by rw [ha0]; rfl
        have zs1 : a0.eval (.tmp 1) = .slice A0 N c0 := by rw [ha0]; rfl
        have zs3 : a0.eval (.tmp 3) = .pointer (some ⟨bk, 0, none⟩) := by rw [ha0]; rfl
        have zs5 : a0.eval (.tmp 5) = .pointer (some ⟨bt, 0, none⟩) := by rw [ha0]; rfl
        have zs13 : a0.eval (.tmp 13) = .slice (some ⟨gl, 0, none⟩) (N + 1) cl := by rw [ha0]; rfl
        have zs14 : a0.eval (.tmp 14) = .int .i64 E1 := by rw [ha0]; rfl
        have zs15 : a0.eval (.tmp 15) = .int .i64 E2 := by rw [ha0]; rfl
        obtain ⟨D, hD⟩ : ∃ D : List (Tmp × SP), D = [(97, SP.is (.int .i64 E1)), (98, SP.is (.agg MK.toArray)), (99, SP.is (.slice (some ⟨gl, 0, none⟩) (N + 1) cl)), (100, SP.is (.slice A0 N c0)), (101, SP.is (.int .i64 (N : Int))), (102, SP.is (.pointer (some ⟨gl, qd, none⟩))), (103, SP.is (.agg (vB kd).toArray)), (104, SP.is (.slice A0 N c0)), (105, SP.is (.int .i64 E1)), (106, SP.is (.bool false)), (107, SP.is (.bool false)), (108, SP.is (.int .i64 E2)), (109, SP.is (.agg MK.toArray)), (110, SP.is (.agg MT.toArray)), (111, SP.is (.slice A0 N c0)), (112, SP.is (.int .i64 E2)), (113, SP.is (.bool false)), (114, SP.is (.bool false))] := ⟨_, rfl⟩
        refine wp_region_down (by kernel_rfl) (fun listed ac W => listed.size = 18 ∧ Fp D a0 listed ac W ∧ Below Z1.heap.size Z1 W) ?_ ?_ ?_
        · exact ⟨by simp, Fp.start D a0 _ _, Below.drew hb1⟩
        · clear ha0 hb1  
          intro listed ac W k hI hdn hk
          obtain ⟨hl, hF, hb1⟩ := hI
          have hk1 : k < 18 := List.mem_range.1 (List.mem_filter.1 hk).1
          have hl2 : ∀ j, (listed.setIfInBounds j true).size = 18 := fun j => by rw [Array.size_setIfInBounds]; exact hl
          rcases (show k = 0 ∨ k = 1 ∨ k = 2 ∨ k = 3 ∨ k = 4 ∨ k = 5 ∨ k = 6 ∨ k = 7 ∨ k = 8 ∨ k = 9 ∨ k = 10 ∨ k = 11 ∨ k = 12 ∨ k = 13 ∨ k = 14 ∨ k = 15 ∨ k = 16 ∨ k = 17 by omega) with rfl | rfl | rfl | rfl | rfl | rfl | rfl | rfl | rfl | rfl | rfl | rfl | rfl | rfl | rfl | rfl | rfl | rfl
          · have hk3 := hk
            exact wpOp_plain rfl rfl (wp_move_v (ac.eval (.tmp 14)) rfl rfl ⟨hl2 0, (hF.put 0 97 (SP.is (.int .i64 E1)) (ac.eval (.tmp 14)) (by rw [hD]; rfl) (((hF.keep 14 (by rw [hD]; rfl)).trans zs14)) (by rw [hD]; rfl) (by rw [hsz]; decide) (by rw [hl]; decide)), hb1⟩)
          · have hk3 := hk
            have ea := ((hF.keep 3 (by rw [hD]; rfl)).trans zs3)
            exact wpOp_plain rfl rfl (wp_load_mid 51 (.tmp 3) rfl bk 0 ea MK _ (HRK1.out W hb1) Tryz.underlying51 rfl HKI.out ⟨hl2 1, (hF.put 1 98 (SP.is (.agg MK.toArray)) (.agg MK.toArray) (by rw [hD]; rfl) rfl (by rw [hD]; rfl) (by rw [hsz]; decide) (by rw [hl]; decide)), hb1⟩)
          · have hk3 := hk
            exact wpOp_plain rfl rfl (wp_move_v (ac.eval (.tmp 13)) rfl rfl ⟨hl2 2, (hF.put 2 99 (SP.is (.slice (some ⟨gl, 0, none⟩) (N + 1) cl)) (ac.eval (.tmp 13)) (by rw [hD]; rfl) (((hF.keep 13 (by rw [hD]; rfl)).trans zs13)) (by rw [hD]; rfl) (by rw [hsz]; decide) (by rw [hl]; decide)), hb1⟩)
          · have hk3 := hk
            exact wpOp_plain rfl rfl (wp_move_v (ac.eval (.tmp 1)) rfl rfl ⟨hl2 3, (hF.put 3 100 (SP.is (.slice A0 N c0)) (ac.eval (.tmp 1)) (by rw [hD]; rfl) (((hF.keep 1 (by rw [hD]; rfl)).trans zs1)) (by rw [hD]; rfl) (by rw [hsz]; decide) (by rw [hl]; decide)), hb1⟩)
          · have hk3 := hk
            have e := (hF.done 3 (100, SP.is (.slice A0 N c0)) (by rw [hD]; rfl) (ready_dep hk 3 (by kernel_rfl)))
            exact wpOp_plain rfl rfl (wp_lenE rfl A0 N c0 e ⟨hl2 4, (hF.put 4 101 (SP.is (.int .i64 (N : Int))) (.int .i64 (N : Int)) (by rw [hD]; rfl) rfl (by rw [hD]; rfl) (by rw [hsz]; decide) (by rw [hl]; decide)), hb1⟩)
          · have hk3 := hk
            have ea := (hF.done 2 (99, SP.is (.slice (some ⟨gl, 0, none⟩) (N + 1) cl)) (by rw [hD]; rfl) (ready_dep hk 2 (by kernel_rfl)))
            have eb := (hF.done 4 (101, SP.is (.int .i64 (N : Int))) (by rw [hD]; rfl) (ready_dep hk 4 (by kernel_rfl)))
            exact wpOp_plain rfl rfl (wp_ixO 54 51 rfl gl 0 (N + 1) cl N 32 qd HQD.out ea eb HN1.out Tryz.underlying54 info_dg ⟨hl2 5, (hF.put 5 102 (SP.is (.pointer (some ⟨gl, qd, none⟩))) (.pointer (some ⟨gl, qd, none⟩)) (by rw [hD]; rfl) rfl (by rw [hD]; rfl) (by rw [hsz]; decide) (by rw [hl]; decide)), hb1⟩)
          · have hk3 := hk
            have ea := (hF.done 5 (102, SP.is (.pointer (some ⟨gl, qd, none⟩))) (by rw [hD]; rfl) (ready_dep hk 5 (by kernel_rfl)))
            exact wpOp_plain rfl rfl (wp_load_mid 51 (.tmp 102) rfl gl qd ea (vB kd) _ (HRD.out W hb1) Tryz.underlying51 rfl HID.out ⟨hl2 6, (hF.put 6 103 (SP.is (.agg (vB kd).toArray)) (.agg (vB kd).toArray) (by rw [hD]; rfl) rfl (by rw [hD]; rfl) (by rw [hsz]; decide) (by rw [hl]; decide)), hb1⟩)
          · have hk3 := hk
            exact wpOp_plain rfl rfl (wp_move_v (ac.eval (.tmp 1)) rfl rfl ⟨hl2 7, (hF.put 7 104 (SP.is (.slice A0 N c0)) (ac.eval (.tmp 1)) (by rw [hD]; rfl) (((hF.keep 1 (by rw [hD]; rfl)).trans zs1)) (by rw [hD]; rfl) (by rw [hsz]; decide) (by rw [hl]; decide)), hb1⟩)
          · have hk3 := hk
            have e98 := (hF.done 1 (98, SP.is (.agg MK.toArray)) (by rw [hD]; rfl) (ready_dep hk 1 (by kernel_rfl)))
            have e103 := (hF.done 6 (103, SP.is (.agg (vB kd).toArray)) (by rw [hD]; rfl) (ready_dep hk 6 (by kernel_rfl)))
            have e104 := (hF.done 7 (104, SP.is (.slice A0 N c0)) (by rw [hD]; rfl) (ready_dep hk 7 (by kernel_rfl)))
            refine wpOp_plain rfl rfl (wp_fcall_v 14 #[.agg MK.toArray, .agg (vB kd).toArray, .slice A0 N c0] rfl rfl (by show [ac.eval (.tmp 98), ac.eval (.tmp 103), ac.eval (.tmp 104)] = _; rw [show ac.eval (.tmp 98) = _ from e98, show ac.eval (.tmp 103) = _ from e103, show ac.eval (.tmp 104) = _ from e104]) (by go_simp) ((HD1.out W hb1).mono ?_))
            rintro e W2 ⟨rfl, hB⟩
            exact ⟨_, rfl, hl2 8, ((hF.world hB).put 8 105 (SP.is (.int .i64 E1)) (.int .i64 E1) (by rw [hD]; rfl) rfl (by rw [hD]; rfl) (by rw [hsz]; decide) (by rw [hl]; decide)), hb1.trans (hB.mono hb1.size)⟩
          · have hk3 := hk
            have ea := (hF.done 0 (97, SP.is (.int .i64 E1)) (by rw [hD]; rfl) (ready_dep hk 0 (by kernel_rfl)))
            have eb := (hF.done 8 (105, SP.is (.int .i64 E1)) (by rw [hD]; rfl) (ready_dep hk 8 (by kernel_rfl)))
            exact wpOp_plain rfl rfl (wp_neqint_v rfl ea eb (by simp) ⟨hl2 9, (hF.put 9 106 (SP.is (.bool false)) (.bool false) (by rw [hD]; rfl) rfl (by rw [hD]; rfl) (by rw [hsz]; decide) (by rw [hl]; decide)), hb1⟩)
          · have hk3 := hk
            exact wpOp_plain rfl rfl (wp_move_v (ac.eval (.tmp 106)) rfl rfl ⟨hl2 10, (hF.put 10 107 (SP.is (.bool false)) (ac.eval (.tmp 106)) (by rw [hD]; rfl) ((hF.done 9 (106, SP.is (.bool false)) (by rw [hD]; rfl) (ready_dep hk 9 (by kernel_rfl)))) (by rw [hD]; rfl) (by rw [hsz]; decide) (by rw [hl]; decide)), hb1⟩)
          · have hk3 := hk
            exact wpOp_wanted rfl (wanted_g (g := 10) (b := false) rfl rfl (hF.done 10 (107, SP.is (.bool false)) (by rw [hD]; rfl) (ready_dep hk 10 (by kernel_rfl))) (by rw [hF.size, hsz]; decide)) (wp_move_v (ac.eval (.tmp 15)) rfl rfl ⟨hl2 11, (hF.put 11 108 (SP.is (.int .i64 E2)) (ac.eval (.tmp 15)) (by rw [hD]; rfl) (((hF.keep 15 (by rw [hD]; rfl)).trans zs15)) (by rw [hD]; rfl) (by rw [hsz]; decide) (by rw [hl]; decide)), hb1⟩)
          · have hk3 := hk
            have ea := ((hF.keep 3 (by rw [hD]; rfl)).trans zs3)
            exact wpOp_wanted rfl (wanted_g (g := 10) (b := false) rfl rfl (hF.done 10 (107, SP.is (.bool false)) (by rw [hD]; rfl) (ready_dep hk 10 (by kernel_rfl))) (by rw [hF.size, hsz]; decide)) (wp_load_mid 51 (.tmp 3) rfl bk 0 ea MK _ (HRK1.out W hb1) Tryz.underlying51 rfl HKI.out ⟨hl2 12, (hF.put 12 109 (SP.is (.agg MK.toArray)) (.agg MK.toArray) (by rw [hD]; rfl) rfl (by rw [hD]; rfl) (by rw [hsz]; decide) (by rw [hl]; decide)), hb1⟩)
          · have hk3 := hk
            have ea := ((hF.keep 5 (by rw [hD]; rfl)).trans zs5)
            exact wpOp_wanted rfl (wanted_g (g := 10) (b := false) rfl rfl (hF.done 10 (107, SP.is (.bool false)) (by rw [hD]; rfl) (ready_dep hk 10 (by kernel_rfl))) (by rw [hF.size, hsz]; decide)) (wp_load_mid 51 (.tmp 5) rfl bt 0 ea MT _ (HRT1.out W hb1) Tryz.underlying51 rfl HTI.out ⟨hl2 13, (hF.put 13 110 (SP.is (.agg MT.toArray)) (.agg MT.toArray) (by rw [hD]; rfl) rfl (by rw [hD]; rfl) (by rw [hsz]; decide) (by rw [hl]; decide)), hb1⟩)
          · have hk3 := hk
            exact wpOp_wanted rfl (wanted_g (g := 10) (b := false) rfl rfl (hF.done 10 (107, SP.is (.bool false)) (by rw [hD]; rfl) (ready_dep hk 10 (by kernel_rfl))) (by rw [hF.size, hsz]; decide)) (wp_move_v (ac.eval (.tmp 1)) rfl rfl ⟨hl2 14, (hF.put 14 111 (SP.is (.slice A0 N c0)) (ac.eval (.tmp 1)) (by rw [hD]; rfl) (((hF.keep 1 (by rw [hD]; rfl)).trans zs1)) (by rw [hD]; rfl) (by rw [hsz]; decide) (by rw [hl]; decide)), hb1⟩)
          · have hk3 := hk
            have e109 := (hF.done 12 (109, SP.is (.agg MK.toArray)) (by rw [hD]; rfl) (ready_dep hk 12 (by kernel_rfl)))
            have e110 := (hF.done 13 (110, SP.is (.agg MT.toArray)) (by rw [hD]; rfl) (ready_dep hk 13 (by kernel_rfl)))
            have e111 := (hF.done 14 (111, SP.is (.slice A0 N c0)) (by rw [hD]; rfl) (ready_dep hk 14 (by kernel_rfl)))
            refine wpOp_wanted rfl (wanted_g (g := 10) (b := false) rfl rfl (hF.done 10 (107, SP.is (.bool false)) (by rw [hD]; rfl) (ready_dep hk 10 (by kernel_rfl))) (by rw [hF.size, hsz]; decide)) (wp_fcall_v 14 #[.agg MK.toArray, .agg MT.toArray, .slice A0 N c0] rfl rfl (by show [ac.eval (.tmp 109), ac.eval (.tmp 110), ac.eval (.tmp 111)] = _; rw [show ac.eval (.tmp 109) = _ from e109, show ac.eval (.tmp 110) = _ from e110, show ac.eval (.tmp 111) = _ from e111]) (by go_simp) ((HD2.out W hb1).mono ?_))
            rintro e W2 ⟨rfl, hB⟩
            exact ⟨_, rfl, hl2 15, ((hF.world hB).put 15 112 (SP.is (.int .i64 E2)) (.int .i64 E2) (by rw [hD]; rfl) rfl (by rw [hD]; rfl) (by rw [hsz]; decide) (by rw [hl]; decide)), hb1.trans (hB.mono hb1.size)⟩
          · have hk3 := hk
            have ea := (hF.done 11 (108, SP.is (.int .i64 E2)) (by rw [hD]; rfl) (ready_dep hk 11 (by kernel_rfl)))
            have eb := (hF.done 15 (112, SP.is (.int .i64 E2)) (by rw [hD]; rfl) (ready_dep hk 15 (by kernel_rfl)))
            exact wpOp_wanted rfl (wanted_g (g := 10) (b := false) rfl rfl (hF.done 10 (107, SP.is (.bool false)) (by rw [hD]; rfl) (ready_dep hk 10 (by kernel_rfl))) (by rw [hF.size, hsz]; decide)) (wp_neqint_v rfl ea eb (by simp) ⟨hl2 16, (hF.put 16 113 (SP.is (.bool false)) (.bool false) (by rw [hD]; rfl) rfl (by rw [hD]; rfl) (by rw [hsz]; decide) (by rw [hl]; decide)), hb1⟩)
          · have hk3 := hk
            have ea := (hF.done 10 (107, SP.is (.bool false)) (by rw [hD]; rfl) (ready_dep hk 10 (by kernel_rfl)))
            have eb := (hF.done 16 (113, SP.is (.bool false)) (by rw [hD]; rfl) (ready_dep hk 16 (by kernel_rfl)))
            exact wpOp_plain rfl rfl (wp_pick_f (.bool false) rfl ea eb ⟨hl2 17, (hF.put 17 114 (SP.is (.bool false)) (.bool false) (by rw [hD]; rfl) rfl (by rw [hD]; rfl) (by rw [hsz]; decide) (by rw [hl]; decide)), hb1⟩)
        · clear hb1  
          intro listed ac W hI hr
          obtain ⟨hl, hF, hb1⟩ := hI
          have hall := all_listed (by kernel_rfl) hl hr
          have h97 : ac.eval (.tmp 97) = .int .i64 E1 := hF.done 0 (97, SP.is (.int .i64 E1)) (by rw [hD]; rfl) (hall 0 (by decide))
          have h98 : ac.eval (.tmp 98) = .agg MK.toArray := hF.done 1 (98, SP.is (.agg MK.toArray)) (by rw [hD]; rfl) (hall 1 (by decide))
          have h99 : ac.eval (.tmp 99) = .slice (some ⟨gl, 0, none⟩) (N + 1) cl := hF.done 2 (99, SP.is (.slice (some ⟨gl, 0, none⟩) (N + 1) cl)) (by rw [hD]; rfl) (hall 2 (by decide))
          have h100 : ac.eval (.tmp 100) = .slice A0 N c0 := hF.done 3 (100, SP.is (.slice A0 N c0)) (by rw [hD]; rfl) (hall 3 (by decide))
          have h101 : ac.eval (.tmp 101) = .int .i64 (N : Int) := hF.done 4 (101, SP.is (.int .i64 (N : Int))) (by rw [hD]; rfl) (hall 4 (by decide))
          have h102 : ac.eval (.tmp 102) = .pointer (some ⟨gl, qd, none⟩) := hF.done 5 (102, SP.is (.pointer (some ⟨gl, qd, none⟩))) (by rw [hD]; rfl) (hall 5 (by decide))
          have h103 : ac.eval (.tmp 103) = .agg (vB kd).toArray := hF.done 6 (103, SP.is (.agg (vB kd).toArray)) (by rw [hD]; rfl) (hall 6 (by decide))
          have h104 : ac.eval (.tmp 104) = .slice A0 N c0 := hF.done 7 (104, SP.is (.slice A0 N c0)) (by rw [hD]; rfl) (hall 7 (by decide))
          have h105 : ac.eval (.tmp 105) = .int .i64 E1 := hF.done 8 (105, SP.is (.int .i64 E1)) (by rw [hD]; rfl) (hall 8 (by decide))
          have h106 : ac.eval (.tmp 106) = .bool false := hF.done 9 (106, SP.is (.bool false)) (by rw [hD]; rfl) (hall 9 (by decide))
          have h107 : ac.eval (.tmp 107) = .bool false := hF.done 10 (107, SP.is (.bool false)) (by rw [hD]; rfl) (hall 10 (by decide))
          have h108 : ac.eval (.tmp 108) = .int .i64 E2 := hF.done 11 (108, SP.is (.int .i64 E2)) (by rw [hD]; rfl) (hall 11 (by decide))
          have h109 : ac.eval (.tmp 109) = .agg MK.toArray := hF.done 12 (109, SP.is (.agg MK.toArray)) (by rw [hD]; rfl) (hall 12 (by decide))
          have h110 : ac.eval (.tmp 110) = .agg MT.toArray := hF.done 13 (110, SP.is (.agg MT.toArray)) (by rw [hD]; rfl) (hall 13 (by decide))
          have h111 : ac.eval (.tmp 111) = .slice A0 N c0 := hF.done 14 (111, SP.is (.slice A0 N c0)) (by rw [hD]; rfl) (hall 14 (by decide))
          have h112 : ac.eval (.tmp 112) = .int .i64 E2 := hF.done 15 (112, SP.is (.int .i64 E2)) (by rw [hD]; rfl) (hall 15 (by decide))
          have h113 : ac.eval (.tmp 113) = .bool false := hF.done 16 (113, SP.is (.bool false)) (by rw [hD]; rfl) (hall 16 (by decide))
          have h114 : ac.eval (.tmp 114) = .bool false := hF.done 17 (114, SP.is (.bool false)) (by rw [hD]; rfl) (hall 17 (by decide))
          have ea := hF.lay [(97, .int .i64 E1), (98, .agg MK.toArray), (99, .slice (some ⟨gl, 0, none⟩) (N + 1) cl), (100, .slice A0 N c0), (101, .int .i64 (N : Int)), (102, .pointer (some ⟨gl, qd, none⟩)), (103, .agg (vB kd).toArray), (104, .slice A0 N c0), (105, .int .i64 E1), (106, .bool false), (107, .bool false), (108, .int .i64 E2), (109, .agg MK.toArray), (110, .agg MT.toArray), (111, .slice A0 N c0), (112, .int .i64 E2), (113, .bool false), (114, .bool false)] (by rw [hD, hsz]; rfl) (by simp only [List.forall_mem_cons, List.not_mem_nil, false_implies, implies_true, and_true]; exact ⟨h97, h98, h99, h100, h101, h102, h103, h104, h105, h106, h107, h108, h109, h110, h111, h112, h113, h114⟩)
          rw [ha0] at ea
          simp only [List.foldl_cons, List.foldl_nil, List.setIfInBounds_toArray, List.set_cons_zero, List.set_cons_succ] at ea
          clear hF hall hr hl hD  zs1 zs3 zs5 zs13 zs14 zs15 ha0 hsz h97 h98 h99 h100 h101 h102 h103 h104 h105 h106 h107 h108 h109 h110 h111 h112 h113 h114
          subst ea
          obtain ⟨Z4, hZ4⟩ : ∃ Y, Y = W := ⟨_, rfl⟩
          rw [← hZ4] at hb1 ⊢
          have BZ4 : Hid (Below Z1.heap.size Z1 Z4) := hb1
          clear hZ4 hb1
          have HG4 : Hid (Gu X3 Z4 F N A8 c8 es cs2 gs bs gl cl kk) := HG1.out.below BZ4.out
          clear HC1 HC2 HD1 HD2 HRK1 HRT1 HRD HQD HN1 HID HKD HG1 HB1 BX1 BZ2 BZ3 BZ4
          go_wp2_with fail
          go_loopw [16] (fun v wr => ∃ (i : Nat) (bs : List (List (BitVec 8))), i ≤ N ∧ v = .int .i64 (i : Int) ∧ Hid (Gu X3 wr F N A8 c8 es cs2 gs bs gl cl kk ∧ ∀ (j : Nat) (e : Ev), es[j]? = some e → bs[j]? = some (if j < i then flp (e.d ++ mk8) else e.d ++ mk8))) (fun v _ => N - (intOf v).toNat)
          case atStart => exact ⟨0, bs, Nat.zero_le _, rfl, HG4.out, fun j e he => by rw [if_neg (by omega)]; exact HBS.out j e (by have := (List.getElem?_eq_some_iff.1 he).1; have := HN.out; omega) he⟩
          case round =>
            clear HG4 HBS
            obtain ⟨i, bs, hi, rfl, HI0⟩ := hrel
            by_cases hlt : i < N
            · have hlt2 : (i : Int) < (N : Int) := by omega
              obtain ⟨e, he⟩ : ∃ e, es[i]? = some e := ⟨_, List.getElem?_eq_getElem (by have := HN.out; omega)⟩
              have we := HW.out e (List.mem_of_getElem? he)
              obtain ⟨b, o, A', c', hA0, hrg, hsl, hnil⟩ := HES.out i e he
              subst hA0
              obtain ⟨n, hn⟩ : ∃ n, n = e.d.length := ⟨_, rfl⟩
              have hnb : n ≤ 2000000 := by rw [hn]; exact HDL.out e (List.mem_of_getElem? he)
              rw [← hn] at hrg hsl
              obtain ⟨L, hL⟩ : ∃ L, L = e.cells (.slice A' n c') := ⟨_, rfl⟩
              rw [← hL] at hrg
              obtain ⟨q, hq⟩ : ∃ q, q = o + i * 49 := ⟨_, rfl⟩
              have HQ : Hid (o + i * 49 = q) := hq.symm
              rw [← hq] at hrg
              obtain ⟨qF, hqF⟩ : ∃ q, q = 0 + i * 49 := ⟨_, rfl⟩
              have HQF : Hid (0 + i * 49 = qF) := hqF.symm
              have HIN : Hid (i < N) := hlt
              have HIN3 : Hid (i < N + 3) := by show _ < _; omega
              have HI : Hid ((Tryz.prog.info? 46).map (·.size) = some L.length) := by rw [hL]; exact Ev.info we _
              have HR : Hid (∀ X, Below X3.heap.size X3 X → X.rangeAt b q L) := fun X k => range_be hrg (B3.out.trans (k.mono B3.out.size))
              have HC48 : Hid (∀ X, Below X3.heap.size X3 X → X.cell? ⟨b, q + 48, none⟩ = some (.slice A' n c')) := fun X k => HR.out X k 48 _ (by rw [hL]; exact Ev.body we _)
              have HS0 : Hid (∀ X, Below X3.heap.size X3 X → SlAt X (.slice A' n c') e.d) := fun X k => hsl.be (B3.out.trans (k.mono B3.out.size))
              have HGu : Hid (Gu X3 wr F N A8 c8 es cs2 gs bs gl cl kk) := HI0.out.1
              have HBS : Hid (∀ (j : Nat) (e : Ev), es[j]? = some e → bs[j]? = some (if j < i then flp (e.d ++ mk8) else e.d ++ mk8)) := HI0.out.2
              have hbi : bs[i]? = some (e.d ++ mk8) := by have := HI0.out.2 i e he; rwa [if_neg (Nat.lt_irrefl _)] at this
              obtain ⟨g, hg, hg0, pr, ps, _⟩ := HI0.out.1.fu.place i hlt e he (e.d ++ mk8) hbi
              rw [List.take_left, Ev.wb_same, ← hn, ← hqF] at pr
              rw [List.take_left, Ev.wb_same, ← hn] at ps
              obtain ⟨Lx, hLx⟩ : ∃ L, L = e.cells (.slice (some ⟨g, 0, none⟩) n (n + 8)) := ⟨_, rfl⟩
              rw [← hLx] at pr
              obtain ⟨kki, hkki⟩ : ∃ k, k = lkg kk (es.take i) := ⟨_, rfl⟩
              have hk32 : kki.length = 32 := by rw [hkki]; exact lkg_len kk HKK.out _
              obtain ⟨qd, hqd⟩ : ∃ q, q = 0 + i * 32 := ⟨_, rfl⟩
              have HQD : Hid (0 + i * 32 = qd) := hqd.symm
              have HIN1 : Hid (i < N + 1) := Nat.lt_succ_of_lt hlt
              obtain ⟨dd, hdd⟩ : ∃ d, d = nxg kki e := ⟨_, rfl⟩
              have hd32 : dd.length = 32 := by rw [hdd]; exact nxg_len _ _
              obtain ⟨E, hE⟩ : ∃ E, E = nxE e := ⟨_, rfl⟩
              have BXw : Hid (Below X3.heap.size X3 wr) := HGu.out.fu.be
              have BWw : Hid (Below w.heap.size w wr) := B3.out.trans (BXw.out.mono B3.out.size)
              have HRl : Hid (∀ X, Below wr.heap.size wr X → X.rangeAt b q L) := fun X k => HR.out X (BXw.out.trans (k.mono BXw.out.size))
              have HRx : Hid (∀ X, Below wr.heap.size wr X → X.rangeAt F qF Lx) := fun X k => range_be pr k
              have HRd : Hid (∀ X, Below wr.heap.size wr X → X.rangeAt gl qd (vB kki)) := fun X k => by rw [hkki]; exact (HGu.out.below k).link HKK.out i qd hi HQD.out
              have HIx : Hid ((Tryz.prog.info? 46).map (·.size) = some Lx.length) := by rw [hLx]; exact Ev.info we _
              have HIk : Hid ((Tryz.prog.info? 51).map (·.size) = some (vB kki).length) := dgI15 kki hk32
              have HID : Hid ((Tryz.prog.info? 51).map (·.size) = some (vB dd).length) := dgI15 dd hd32
              have HIJ : Hid ((Tryz.prog.info? 51).map (·.size) = some (vB dd).toArray.size) := by show _ = _; rw [List.size_toArray]; exact HID.out
              have HDL : Hid ((vB dd).length = (vB zK).length) := dgL15 dd hd32
              have HDT : Hid (0 + (vB dd).toArray.size ≤ (vB zK).length) := by show _ ≤ _; rw [List.size_toArray, HDL.out]; omega
              have HNP : Hid (∀ X, Below wr.heap.size wr X → Calls Tryz.prog 15 #[.agg (vB kki).toArray, .agg Lx.toArray] X fun r w' => r = .returned (.tuple #[.agg (vB dd).toArray, .int .i64 E]) ∧ Below X.heap.size X w') := fun X k => inext_any e we kki dd hk32 hdd E hE _ n (n + 8) hn.symm (fun q => by cases q) Lx hLx X (HGW.out X (BWw.out.trans (k.mono BWw.out.size))).cub (ps.be k)
              have HND : Hid (∀ X, Below wr.heap.size wr X → Calls Tryz.prog 16 #[.agg (vB kki).toArray, .agg L.toArray] X fun r w' => r = .returned (.tuple #[.agg (vB dd).toArray, .int .i64 E]) ∧ Below X.heap.size X w') := fun X k => dnext_any e we kki dd hk32 hdd E hE A' n c' hn.symm hnil L hL X (HGW.out X (BWw.out.trans (k.mono BWw.out.size))) ((HS0.out wr BXw.out).be k)
              have HSM : Hid (∀ X, Below X3.heap.size X3 X → SlAt X (.slice (some ⟨g, 0, none⟩) n (n + 8)) e.d → Calls Tryz.prog 17 #[.agg Lx.toArray, .agg L.toArray] X fun r w' => r = .returned (.bool true) ∧ Below X.heap.size X w') := fun X k s1 => rsame_ok e we _ A' n (n + 8) c' Lx L hLx hL X s1 (HS0.out X k)
              have HWE : Hid e.Wf := we
              have HE : Hid (es[i]? = some e) := he
              have HGG : Hid (gs[i]? = some g) := hg
              have HG0 : Hid (X3.heap.size ≤ g) := hg0
              have HNE : Hid (n = e.d.length) := hn
              have HLX : Hid (Lx = e.cells (.slice (some ⟨g, 0, none⟩) n (n + 8))) := hLx
              have HKI2 : Hid (kki = lkg kk (es.take i) ∧ kki.length = 32) := ⟨hkki, hk32⟩
              have HBI : Hid (bs[i]? = some (e.d ++ mk8)) := hbi
              have HA0 : Hid (∀ b o, A' = some ⟨b, o, none⟩ → 0 < n → b < w.heap.size) := fun b' o' q1 q2 => by
                rcases hsl with ⟨z, _⟩ | ⟨ab, ao, cc, z, _, zr⟩
                · rw [z] at hn; simp at hn; omega
                · simp only [Value.slice.injEq] at z
                  rw [q1] at z
                  obtain ⟨z1, _⟩ := z
                  cases z1
                  exact World.block_lt_of_cell? w _ (zr 0 _ (List.getElem?_eq_getElem (by rw [vB_length]; omega)))
              have HDD32 : Hid (dd.length = 32) := hd32
              have HWP : Hid (0 < wr.heap.size) := by show _ < _; have := Lw.lt HGu.out.ld gl rfl; omega
              have HGLT : Hid (gl < wr.heap.size) := Lw.lt HGu.out.ld gl rfl
              clear HI0 hrg hsl hnil he we hn hL hq hqF hbi hg hg0 pr ps hLx hkki hk32 hqd hdd hd32 hE
              go_upto_region 25 with fail
              have hb1 := Below.refl wr.heap.size wr
              refine wp_named fun a0 ha0 => ?_
              have hsz : a0.tmps.size = 236 := by rw [ha0]; rfl
              have zs12 : a0.eval (.tmp 12) = .slice (some ⟨F, 0, none⟩) N (N + 3) := by rw [ha0]; rfl
              have zs13 : a0.eval (.tmp 13) = .slice (some ⟨gl, 0, none⟩) (N + 1) cl := by rw [ha0]; rfl
              have zs16 : a0.eval (.tmp 16) = .int .i64 (i : Int) := by rw [ha0]; rfl
              obtain ⟨D, hD⟩ : ∃ D : List (Tmp × SP), D = [(122, SP.is (.slice (some ⟨gl, 0, none⟩) (N + 1) cl)), (123, SP.is (.int .i64 (i : Int))), (124, SP.is (.pointer (some ⟨gl, qd, none⟩))), (125, SP.is (.agg (vB kki).toArray)), (126, SP.is (.slice (some ⟨F, 0, none⟩) N (N + 3))), (127, SP.is (.int .i64 (i : Int))), (128, SP.is (.pointer (some ⟨F, qF, none⟩))), (129, SP.is (.agg Lx.toArray)), (130, SP.is (.tuple #[.agg (vB dd).toArray, .int .i64 E])), (121, SP.is (.tuple #[.agg (vB dd).toArray, .int .i64 E])), (131, SP.is (.agg (vB dd).toArray)), (132, SP.is (.int .i64 E)), (17, SP.any), (1000, SP.any), (18, SP.is (.int .i64 E))] := ⟨_, rfl⟩
              refine wp_region_down (by kernel_rfl) (fun listed ac W => ∃ (bA : Nat), listed.size = 15 ∧ Fp D a0 listed ac W ∧ Below wr.heap.size wr W ∧ (listed.getD 12 false = true → ac.eval (.tmp 17) = .pointer (some ⟨bA, 0, none⟩) ∧ wr.heap.size - 1 < bA ∧ Row W bA (if listed.getD 13 false = true then (vB dd) else (vB zK)) 51) ∧ (listed.getD 13 false = true → listed.getD 12 false = true)) ?_ ?_ ?_
              · exact ⟨0, by simp, Fp.start D a0 _ _, Below.drew hb1, (fun h => (start_no h).elim), (fun h => (start_no h).elim)⟩
              · clear ha0 hb1  
                intro listed ac W k hI hdn hk
                obtain ⟨bA, hl, hF, hb1, al12, as12⟩ := hI
                have hk1 : k < 15 := List.mem_range.1 (List.mem_filter.1 hk).1
                have hl2 : ∀ j, (listed.setIfInBounds j true).size = 15 := fun j => by rw [Array.size_setIfInBounds]; exact hl
                rcases (show k = 0 ∨ k = 1 ∨ k = 2 ∨ k = 3 ∨ k = 4 ∨ k = 5 ∨ k = 6 ∨ k = 7 ∨ k = 8 ∨ k = 9 ∨ k = 10 ∨ k = 11 ∨ k = 12 ∨ k = 13 ∨ k = 14 by omega) with rfl | rfl | rfl | rfl | rfl | rfl | rfl | rfl | rfl | rfl | rfl | rfl | rfl | rfl | rfl
                · have hk3 := hk
                  exact wpOp_plain rfl rfl (wp_move_v (ac.eval (.tmp 13)) rfl rfl ⟨bA, hl2 0, (hF.put 0 122 (SP.is (.slice (some ⟨gl, 0, none⟩) (N + 1) cl)) (ac.eval (.tmp 13)) (by rw [hD]; rfl) (((hF.keep 13 (by rw [hD]; rfl)).trans zs13)) (by rw [hD]; rfl) (by rw [hsz]; decide) (by rw [hl]; decide)), hb1, (fun h => ⟨(eval_put_other ac _ (by decide)).trans ((al12 (by rwa [getD_set _ _ _ (by decide)] at h)).1), (al12 (by rwa [getD_set _ _ _ (by decide)] at h)).2.1, by rw [getD_set _ _ _ (by decide)]; exact (al12 (by rwa [getD_set _ _ _ (by decide)] at h)).2.2⟩), (fun h => by rw [getD_set _ _ _ (by decide)]; exact as12 (by rwa [getD_set _ _ _ (by decide)] at h))⟩)
                · have hk3 := hk
                  exact wpOp_plain rfl rfl (wp_move_v (ac.eval (.tmp 16)) rfl rfl ⟨bA, hl2 1, (hF.put 1 123 (SP.is (.int .i64 (i : Int))) (ac.eval (.tmp 16)) (by rw [hD]; rfl) (((hF.keep 16 (by rw [hD]; rfl)).trans zs16)) (by rw [hD]; rfl) (by rw [hsz]; decide) (by rw [hl]; decide)), hb1, (fun h => ⟨(eval_put_other ac _ (by decide)).trans ((al12 (by rwa [getD_set _ _ _ (by decide)] at h)).1), (al12 (by rwa [getD_set _ _ _ (by decide)] at h)).2.1, by rw [getD_set _ _ _ (by decide)]; exact (al12 (by rwa [getD_set _ _ _ (by decide)] at h)).2.2⟩), (fun h => by rw [getD_set _ _ _ (by decide)]; exact as12 (by rwa [getD_set _ _ _ (by decide)] at h))⟩)
                · have hk3 := hk
                  have ea := (hF.done 0 (122, SP.is (.slice (some ⟨gl, 0, none⟩) (N + 1) cl)) (by rw [hD]; rfl) (ready_dep hk 0 (by kernel_rfl)))
                  have eb := (hF.done 1 (123, SP.is (.int .i64 (i : Int))) (by rw [hD]; rfl) (ready_dep hk 1 (by kernel_rfl)))
                  exact wpOp_plain rfl rfl (wp_ixO 54 51 rfl gl 0 (N + 1) cl i 32 qd HQD.out ea eb HIN1.out Tryz.underlying54 info_dg ⟨bA, hl2 2, (hF.put 2 124 (SP.is (.pointer (some ⟨gl, qd, none⟩))) (.pointer (some ⟨gl, qd, none⟩)) (by rw [hD]; rfl) rfl (by rw [hD]; rfl) (by rw [hsz]; decide) (by rw [hl]; decide)), hb1, (fun h => ⟨(eval_put_other ac _ (by decide)).trans ((al12 (by rwa [getD_set _ _ _ (by decide)] at h)).1), (al12 (by rwa [getD_set _ _ _ (by decide)] at h)).2.1, by rw [getD_set _ _ _ (by decide)]; exact (al12 (by rwa [getD_set _ _ _ (by decide)] at h)).2.2⟩), (fun h => by rw [getD_set _ _ _ (by decide)]; exact as12 (by rwa [getD_set _ _ _ (by decide)] at h))⟩)
                · have hk3 := hk
                  have ea := (hF.done 2 (124, SP.is (.pointer (some ⟨gl, qd, none⟩))) (by rw [hD]; rfl) (ready_dep hk 2 (by kernel_rfl)))
                  exact wpOp_plain rfl rfl (wp_load_mid 51 (.tmp 124) rfl gl qd ea (vB kki) _ (HRd.out W hb1) Tryz.underlying51 rfl HIk.out ⟨bA, hl2 3, (hF.put 3 125 (SP.is (.agg (vB kki).toArray)) (.agg (vB kki).toArray) (by rw [hD]; rfl) rfl (by rw [hD]; rfl) (by rw [hsz]; decide) (by rw [hl]; decide)), hb1, (fun h => ⟨(eval_put_other ac _ (by decide)).trans ((al12 (by rwa [getD_set _ _ _ (by decide)] at h)).1), (al12 (by rwa [getD_set _ _ _ (by decide)] at h)).2.1, by rw [getD_set _ _ _ (by decide)]; exact (al12 (by rwa [getD_set _ _ _ (by decide)] at h)).2.2⟩), (fun h => by rw [getD_set _ _ _ (by decide)]; exact as12 (by rwa [getD_set _ _ _ (by decide)] at h))⟩)
                · have hk3 := hk
                  exact wpOp_plain rfl rfl (wp_move_v (ac.eval (.tmp 12)) rfl rfl ⟨bA, hl2 4, (hF.put 4 126 (SP.is (.slice (some ⟨F, 0, none⟩) N (N + 3))) (ac.eval (.tmp 12)) (by rw [hD]; rfl) (((hF.keep 12 (by rw [hD]; rfl)).trans zs12)) (by rw [hD]; rfl) (by rw [hsz]; decide) (by rw [hl]; decide)), hb1, (fun h => ⟨(eval_put_other ac _ (by decide)).trans ((al12 (by rwa [getD_set _ _ _ (by decide)] at h)).1), (al12 (by rwa [getD_set _ _ _ (by decide)] at h)).2.1, by rw [getD_set _ _ _ (by decide)]; exact (al12 (by rwa [getD_set _ _ _ (by decide)] at h)).2.2⟩), (fun h => by rw [getD_set _ _ _ (by decide)]; exact as12 (by rwa [getD_set _ _ _ (by decide)] at h))⟩)
                · have hk3 := hk
                  exact wpOp_plain rfl rfl (wp_move_v (ac.eval (.tmp 16)) rfl rfl ⟨bA, hl2 5, (hF.put 5 127 (SP.is (.int .i64 (i : Int))) (ac.eval (.tmp 16)) (by rw [hD]; rfl) (((hF.keep 16 (by rw [hD]; rfl)).trans zs16)) (by rw [hD]; rfl) (by rw [hsz]; decide) (by rw [hl]; decide)), hb1, (fun h => ⟨(eval_put_other ac _ (by decide)).trans ((al12 (by rwa [getD_set _ _ _ (by decide)] at h)).1), (al12 (by rwa [getD_set _ _ _ (by decide)] at h)).2.1, by rw [getD_set _ _ _ (by decide)]; exact (al12 (by rwa [getD_set _ _ _ (by decide)] at h)).2.2⟩), (fun h => by rw [getD_set _ _ _ (by decide)]; exact as12 (by rwa [getD_set _ _ _ (by decide)] at h))⟩)
                · have hk3 := hk
                  have ea := (hF.done 4 (126, SP.is (.slice (some ⟨F, 0, none⟩) N (N + 3))) (by rw [hD]; rfl) (ready_dep hk 4 (by kernel_rfl)))
                  have eb := (hF.done 5 (127, SP.is (.int .i64 (i : Int))) (by rw [hD]; rfl) (ready_dep hk 5 (by kernel_rfl)))
                  exact wpOp_plain rfl rfl (wp_ixO 52 46 rfl F 0 N (N + 3) i 49 qF HQF.out ea eb HIN.out Tryz.underlying52 info_ent ⟨bA, hl2 6, (hF.put 6 128 (SP.is (.pointer (some ⟨F, qF, none⟩))) (.pointer (some ⟨F, qF, none⟩)) (by rw [hD]; rfl) rfl (by rw [hD]; rfl) (by rw [hsz]; decide) (by rw [hl]; decide)), hb1, (fun h => ⟨(eval_put_other ac _ (by decide)).trans ((al12 (by rwa [getD_set _ _ _ (by decide)] at h)).1), (al12 (by rwa [getD_set _ _ _ (by decide)] at h)).2.1, by rw [getD_set _ _ _ (by decide)]; exact (al12 (by rwa [getD_set _ _ _ (by decide)] at h)).2.2⟩), (fun h => by rw [getD_set _ _ _ (by decide)]; exact as12 (by rwa [getD_set _ _ _ (by decide)] at h))⟩)
                · have hk3 := hk
                  have ea := (hF.done 6 (128, SP.is (.pointer (some ⟨F, qF, none⟩))) (by rw [hD]; rfl) (ready_dep hk 6 (by kernel_rfl)))
                  exact wpOp_plain rfl rfl (wp_load_mid 46 (.tmp 128) rfl F qF ea Lx _ (HRx.out W hb1) Tryz.underlying46 rfl HIx.out ⟨bA, hl2 7, (hF.put 7 129 (SP.is (.agg Lx.toArray)) (.agg Lx.toArray) (by rw [hD]; rfl) rfl (by rw [hD]; rfl) (by rw [hsz]; decide) (by rw [hl]; decide)), hb1, (fun h => ⟨(eval_put_other ac _ (by decide)).trans ((al12 (by rwa [getD_set _ _ _ (by decide)] at h)).1), (al12 (by rwa [getD_set _ _ _ (by decide)] at h)).2.1, by rw [getD_set _ _ _ (by decide)]; exact (al12 (by rwa [getD_set _ _ _ (by decide)] at h)).2.2⟩), (fun h => by rw [getD_set _ _ _ (by decide)]; exact as12 (by rwa [getD_set _ _ _ (by decide)] at h))⟩)
                · have hk3 := hk
                  have e125 := (hF.done 3 (125, SP.is (.agg (vB kki).toArray)) (by rw [hD]; rfl) (ready_dep hk 3 (by kernel_rfl)))
                  have e129 := (hF.done 7 (129, SP.is (.agg Lx.toArray)) (by rw [hD]; rfl) (ready_dep hk 7 (by kernel_rfl)))
                  refine wpOp_plain rfl rfl (wp_fcall_v 15 #[.agg (vB kki).toArray, .agg Lx.toArray] rfl rfl (by show [ac.eval (.tmp 125), ac.eval (.tmp 129)] = _; rw [show ac.eval (.tmp 125) = _ from e125, show ac.eval (.tmp 129) = _ from e129]) (by go_simp) ((HNP.out W hb1).mono ?_))
                  rintro e W2 ⟨rfl, hB⟩
                  exact ⟨_, rfl, bA, hl2 8, ((hF.world hB).put 8 130 (SP.is (.tuple #[.agg (vB dd).toArray, .int .i64 E])) (.tuple #[.agg (vB dd).toArray, .int .i64 E]) (by rw [hD]; rfl) rfl (by rw [hD]; rfl) (by rw [hsz]; decide) (by rw [hl]; decide)), hb1.trans (hB.mono hb1.size), (fun h => ⟨(eval_put_other ac _ (by decide)).trans ((al12 (by rwa [getD_set _ _ _ (by decide)] at h)).1), (al12 (by rwa [getD_set _ _ _ (by decide)] at h)).2.1, by rw [getD_set _ _ _ (by decide)]; exact Row.below (al12 (by rwa [getD_set _ _ _ (by decide)] at h)).2.2 hB (Row.lt (al12 (by rwa [getD_set _ _ _ (by decide)] at h)).2.2)⟩), (fun h => by rw [getD_set _ _ _ (by decide)]; exact as12 (by rwa [getD_set _ _ _ (by decide)] at h))⟩
                · have hk3 := hk
                  exact wpOp_plain rfl rfl (wp_move_v (ac.eval (.tmp 130)) rfl rfl ⟨bA, hl2 9, (hF.put 9 121 (SP.is (.tuple #[.agg (vB dd).toArray, .int .i64 E])) (ac.eval (.tmp 130)) (by rw [hD]; rfl) ((hF.done 8 (130, SP.is (.tuple #[.agg (vB dd).toArray, .int .i64 E])) (by rw [hD]; rfl) (ready_dep hk 8 (by kernel_rfl)))) (by rw [hD]; rfl) (by rw [hsz]; decide) (by rw [hl]; decide)), hb1, (fun h => ⟨(eval_put_other ac _ (by decide)).trans ((al12 (by rwa [getD_set _ _ _ (by decide)] at h)).1), (al12 (by rwa [getD_set _ _ _ (by decide)] at h)).2.1, by rw [getD_set _ _ _ (by decide)]; exact (al12 (by rwa [getD_set _ _ _ (by decide)] at h)).2.2⟩), (fun h => by rw [getD_set _ _ _ (by decide)]; exact as12 (by rwa [getD_set _ _ _ (by decide)] at h))⟩)
                · have hk3 := hk
                  exact wpOp_plain rfl rfl (wp_extract (.tmp 121) 0 rfl _ (hF.done 9 (121, SP.is (.tuple #[.agg (vB dd).toArray, .int .i64 E])) (by rw [hD]; rfl) (ready_dep hk 9 (by kernel_rfl))) (.agg (vB dd).toArray) rfl ⟨bA, hl2 10, (hF.put 10 131 (SP.is (.agg (vB dd).toArray)) (.agg (vB dd).toArray) (by rw [hD]; rfl) rfl (by rw [hD]; rfl) (by rw [hsz]; decide) (by rw [hl]; decide)), hb1, (fun h => ⟨(eval_put_other ac _ (by decide)).trans ((al12 (by rwa [getD_set _ _ _ (by decide)] at h)).1), (al12 (by rwa [getD_set _ _ _ (by decide)] at h)).2.1, by rw [getD_set _ _ _ (by decide)]; exact (al12 (by rwa [getD_set _ _ _ (by decide)] at h)).2.2⟩), (fun h => by rw [getD_set _ _ _ (by decide)]; exact as12 (by rwa [getD_set _ _ _ (by decide)] at h))⟩)
                · have hk3 := hk
                  exact wpOp_plain rfl rfl (wp_extract (.tmp 121) 1 rfl _ (hF.done 9 (121, SP.is (.tuple #[.agg (vB dd).toArray, .int .i64 E])) (by rw [hD]; rfl) (ready_dep hk 9 (by kernel_rfl))) (.int .i64 E) rfl ⟨bA, hl2 11, (hF.put 11 132 (SP.is (.int .i64 E)) (.int .i64 E) (by rw [hD]; rfl) rfl (by rw [hD]; rfl) (by rw [hsz]; decide) (by rw [hl]; decide)), hb1, (fun h => ⟨(eval_put_other ac _ (by decide)).trans ((al12 (by rwa [getD_set _ _ _ (by decide)] at h)).1), (al12 (by rwa [getD_set _ _ _ (by decide)] at h)).2.1, by rw [getD_set _ _ _ (by decide)]; exact (al12 (by rwa [getD_set _ _ _ (by decide)] at h)).2.2⟩), (fun h => by rw [getD_set _ _ _ (by decide)]; exact as12 (by rwa [getD_set _ _ _ (by decide)] at h))⟩)
                · have hk3 := hk
                  have hsm : wr.heap.size - 1 < W.heap.size := (by have := hb1.size; have := HWP.out; omega)
                  have hB : Below W.heap.size W (W.alloc (.cells (vB zK).toArray 51)) := (Below.refl _ _).alloc (Nat.le_refl _) _
                  have hns : ¬ listed.getD 13 false = true := fun h => not_yet hk (as12 h)
                  exact wpOp_plain rfl rfl (wp_allocDg rfl ⟨W.heap.size, hl2 12, ((hF.world hB).put 12 17 (SP.any) (.pointer (some ⟨W.heap.size, 0, none⟩)) (by rw [hD]; rfl) trivial (by rw [hD]; rfl) (by rw [hsz]; decide) (by rw [hl]; decide)), hb1.alloc hb1.size _, (fun _ => ⟨eval_put_same ac _ (by rw [hF.size, hsz]; decide), hsm, by rw [getD_set _ _ _ (by decide), if_neg hns]; exact Row.new' rfl rfl⟩), (fun _ => getD_same (by rw [hl]; decide))⟩)
                · have hk3 := hk
                  have hal := ready_dep hk 12 (by kernel_rfl)
                  obtain ⟨e1, m1, y2⟩ := al12 hal
                  rw [if_neg (not_yet hk)] at y2
                  have T := y2.there 0 (vB dd).toArray.size HDT.out
                  have fin := y2.over (vs := (vB dd)) HDL.out
                  have hT : Fp D a0 listed ac (W.setCells bA 0 (vB dd)) := hF.turn (by rw [hD]; simp only [List.forall_mem_cons, List.not_mem_nil, false_implies, implies_true, and_true]; exact ⟨fun _ h => h, fun _ h => h, fun _ h => h, fun _ h => h, fun _ h => h, fun _ h => h, fun _ h => h, fun _ h => h, fun _ h => h, fun _ h => h, fun _ h => h, fun _ h => h, fun _ h => h, fun _ h => h, fun _ h => h⟩)
                  exact wpOp_plain rfl rfl (wp_store_mid 51 (.tmp 17) (.tmp 131) rfl bA 0 (vB dd).toArray e1 (hF.done 10 (131, SP.is (.agg (vB dd).toArray)) (by rw [hD]; rfl) (ready_dep hk 10 (by kernel_rfl))) T HIJ.out (all_oneCell_toArray (vB_one dd)) ⟨bA, hl2 13, (hT.skip 13 1000 (by rw [hD]; rfl) (by rw [hl]; decide)), below_setCells hb1 (by omega) _, (fun _ => ⟨e1, m1, by rw [if_pos (getD_same (by rw [hl]; decide))]; exact fin⟩), (fun _ => by rw [getD_set _ _ _ (by decide)]; exact hal)⟩)
                · have hk3 := hk
                  exact wpOp_plain rfl rfl (wp_assign_v (ac.eval (.tmp 132)) rfl rfl ⟨bA, hl2 14, (hF.put 14 18 (SP.is (.int .i64 E)) (ac.eval (.tmp 132)) (by rw [hD]; rfl) ((hF.done 11 (132, SP.is (.int .i64 E)) (by rw [hD]; rfl) (ready_dep hk 11 (by kernel_rfl)))) (by rw [hD]; rfl) (by rw [hsz]; decide) (by rw [hl]; decide)), hb1, (fun h => ⟨(eval_put_other ac _ (by decide)).trans ((al12 (by rwa [getD_set _ _ _ (by decide)] at h)).1), (al12 (by rwa [getD_set _ _ _ (by decide)] at h)).2.1, by rw [getD_set _ _ _ (by decide)]; exact (al12 (by rwa [getD_set _ _ _ (by decide)] at h)).2.2⟩), (fun h => by rw [getD_set _ _ _ (by decide)]; exact as12 (by rwa [getD_set _ _ _ (by decide)] at h))⟩)
              · clear hb1  
                intro listed ac W hI hr
                obtain ⟨bA, hl, hF, hb1, al12, as12⟩ := hI
                have hall := all_listed (by kernel_rfl) hl hr
                obtain ⟨ea17, m17, p17⟩ := al12 (hall 12 (by decide))
                rw [if_pos (hall 13 (by decide))] at p17
                have h122 : ac.eval (.tmp 122) = .slice (some ⟨gl, 0, none⟩) (N + 1) cl := hF.done 0 (122, SP.is (.slice (some ⟨gl, 0, none⟩) (N + 1) cl)) (by rw [hD]; rfl) (hall 0 (by decide))
                have h123 : ac.eval (.tmp 123) = .int .i64 (i : Int) := hF.done 1 (123, SP.is (.int .i64 (i : Int))) (by rw [hD]; rfl) (hall 1 (by decide))
                have h124 : ac.eval (.tmp 124) = .pointer (some ⟨gl, qd, none⟩) := hF.done 2 (124, SP.is (.pointer (some ⟨gl, qd, none⟩))) (by rw [hD]; rfl) (hall 2 (by decide))
                have h125 : ac.eval (.tmp 125) = .agg (vB kki).toArray := hF.done 3 (125, SP.is (.agg (vB kki).toArray)) (by rw [hD]; rfl) (hall 3 (by decide))
                have h126 : ac.eval (.tmp 126) = .slice (some ⟨F, 0, none⟩) N (N + 3) := hF.done 4 (126, SP.is (.slice (some ⟨F, 0, none⟩) N (N + 3))) (by rw [hD]; rfl) (hall 4 (by decide))
                have h127 : ac.eval (.tmp 127) = .int .i64 (i : Int) := hF.done 5 (127, SP.is (.int .i64 (i : Int))) (by rw [hD]; rfl) (hall 5 (by decide))
                have h128 : ac.eval (.tmp 128) = .pointer (some ⟨F, qF, none⟩) := hF.done 6 (128, SP.is (.pointer (some ⟨F, qF, none⟩))) (by rw [hD]; rfl) (hall 6 (by decide))
                have h129 : ac.eval (.tmp 129) = .agg Lx.toArray := hF.done 7 (129, SP.is (.agg Lx.toArray)) (by rw [hD]; rfl) (hall 7 (by decide))
                have h130 : ac.eval (.tmp 130) = .tuple #[.agg (vB dd).toArray, .int .i64 E] := hF.done 8 (130, SP.is (.tuple #[.agg (vB dd).toArray, .int .i64 E])) (by rw [hD]; rfl) (hall 8 (by decide))
                have h121 : ac.eval (.tmp 121) = .tuple #[.agg (vB dd).toArray, .int .i64 E] := hF.done 9 (121, SP.is (.tuple #[.agg (vB dd).toArray, .int .i64 E])) (by rw [hD]; rfl) (hall 9 (by decide))
                have h131 : ac.eval (.tmp 131) = .agg (vB dd).toArray := hF.done 10 (131, SP.is (.agg (vB dd).toArray)) (by rw [hD]; rfl) (hall 10 (by decide))
                have h132 : ac.eval (.tmp 132) = .int .i64 E := hF.done 11 (132, SP.is (.int .i64 E)) (by rw [hD]; rfl) (hall 11 (by decide))
                have h18 : ac.eval (.tmp 18) = .int .i64 E := hF.done 14 (18, SP.is (.int .i64 E)) (by rw [hD]; rfl) (hall 14 (by decide))
                have ea := hF.lay [(122, .slice (some ⟨gl, 0, none⟩) (N + 1) cl), (123, .int .i64 (i : Int)), (124, .pointer (some ⟨gl, qd, none⟩)), (125, .agg (vB kki).toArray), (126, .slice (some ⟨F, 0, none⟩) N (N + 3)), (127, .int .i64 (i : Int)), (128, .pointer (some ⟨F, qF, none⟩)), (129, .agg Lx.toArray), (130, .tuple #[.agg (vB dd).toArray, .int .i64 E]), (121, .tuple #[.agg (vB dd).toArray, .int .i64 E]), (131, .agg (vB dd).toArray), (132, .int .i64 E), (17, .pointer (some ⟨bA, 0, none⟩)), (18, .int .i64 E)] (by rw [hD, hsz]; rfl) (by simp only [List.forall_mem_cons, List.not_mem_nil, false_implies, implies_true, and_true]; exact ⟨h122, h123, h124, h125, h126, h127, h128, h129, h130, h121, h131, h132, ea17, h18⟩)
                rw [ha0] at ea
                simp only [List.foldl_cons, List.foldl_nil, List.setIfInBounds_toArray, List.set_cons_zero, List.set_cons_succ] at ea
                clear hF hall hr hl hD al12 as12 zs12 zs13 zs16 ha0 hsz h122 h123 h124 h125 h126 h127 h128 h129 h130 h121 h131 h132 ea17 h18
                subst ea
                obtain ⟨Y1, hY1⟩ : ∃ Y, Y = W := ⟨_, rfl⟩
                rw [← hY1] at hb1 p17 ⊢
                have BY1 : Hid (Below wr.heap.size wr Y1) := hb1
                have RA1 : Hid (Row Y1 bA (vB dd) 51) := p17
                have HA3 : Hid (wr.heap.size ≤ bA) := by show _ ≤ _; omega
                clear hY1 hb1 p17 m17 HWP
                have HWP : Hid (0 < Y1.heap.size) := by show _ < _; have := RA1.out.lt; omega
                have HBE : Hid (∀ X, Below Y1.heap.size Y1 X → Below wr.heap.size wr X) := fun X k => BY1.out.trans (k.mono BY1.out.size)
                have hal := RA1.out.lt
                have ra := RA1.out
                have hb1 := Below.refl Y1.heap.size Y1
                go_upto_region 26 with fail
                refine wp_named fun a0 ha0 => ?_
                have hsz : a0.tmps.size = 236 := by rw [ha0]; rfl
                have zs1 : a0.eval (.tmp 1) = .slice (some ⟨b, o, none⟩) N c0 := by rw [ha0]; rfl
                have zs13 : a0.eval (.tmp 13) = .slice (some ⟨gl, 0, none⟩) (N + 1) cl := by rw [ha0]; rfl
                have zs16 : a0.eval (.tmp 16) = .int .i64 (i : Int) := by rw [ha0]; rfl
                obtain ⟨D, hD⟩ : ∃ D : List (Tmp × SP), D = [(134, SP.is (.slice (some ⟨gl, 0, none⟩) (N + 1) cl)), (135, SP.is (.int .i64 (i : Int))), (136, SP.is (.pointer (some ⟨gl, qd, none⟩))), (137, SP.is (.agg (vB kki).toArray)), (138, SP.is (.slice (some ⟨b, o, none⟩) N c0)), (139, SP.is (.int .i64 (i : Int))), (140, SP.is (.pointer (some ⟨b, q, none⟩))), (141, SP.is (.agg L.toArray)), (142, SP.is (.tuple #[.agg (vB dd).toArray, .int .i64 E])), (133, SP.is (.tuple #[.agg (vB dd).toArray, .int .i64 E])), (143, SP.is (.agg (vB dd).toArray)), (144, SP.is (.int .i64 E)), (19, SP.any), (1000, SP.any), (20, SP.is (.int .i64 E))] := ⟨_, rfl⟩
                refine wp_region_down (by kernel_rfl) (fun listed ac W => ∃ (bB : Nat), listed.size = 15 ∧ Fp D a0 listed ac W ∧ Below Y1.heap.size Y1 W ∧ Row W bA ((vB dd)) 51 ∧ (listed.getD 12 false = true → ac.eval (.tmp 19) = .pointer (some ⟨bB, 0, none⟩) ∧ Y1.heap.size - 1 < bB ∧ Row W bB (if listed.getD 13 false = true then (vB dd) else (vB zK)) 51) ∧ (listed.getD 13 false = true → listed.getD 12 false = true)) ?_ ?_ ?_
                · exact ⟨0, by simp, Fp.start D a0 _ _, Below.drew hb1, Row.drew ra, (fun h => (start_no h).elim), (fun h => (start_no h).elim)⟩
                · clear ha0 hb1 ra 
                  intro listed ac W k hI hdn hk
                  obtain ⟨bB, hl, hF, hb1, ra, al12, as12⟩ := hI
                  have hk1 : k < 15 := List.mem_range.1 (List.mem_filter.1 hk).1
                  have hl2 : ∀ j, (listed.setIfInBounds j true).size = 15 := fun j => by rw [Array.size_setIfInBounds]; exact hl
                  rcases (show k = 0 ∨ k = 1 ∨ k = 2 ∨ k = 3 ∨ k = 4 ∨ k = 5 ∨ k = 6 ∨ k = 7 ∨ k = 8 ∨ k = 9 ∨ k = 10 ∨ k = 11 ∨ k = 12 ∨ k = 13 ∨ k = 14 by omega) with rfl | rfl | rfl | rfl | rfl | rfl | rfl | rfl | rfl | rfl | rfl | rfl | rfl | rfl | rfl
                  · have hk3 := hk
                    exact wpOp_plain rfl rfl (wp_move_v (ac.eval (.tmp 13)) rfl rfl ⟨bB, hl2 0, (hF.put 0 134 (SP.is (.slice (some ⟨gl, 0, none⟩) (N + 1) cl)) (ac.eval (.tmp 13)) (by rw [hD]; rfl) (((hF.keep 13 (by rw [hD]; rfl)).trans zs13)) (by rw [hD]; rfl) (by rw [hsz]; decide) (by rw [hl]; decide)), hb1, ra, (fun h => ⟨(eval_put_other ac _ (by decide)).trans ((al12 (by rwa [getD_set _ _ _ (by decide)] at h)).1), (al12 (by rwa [getD_set _ _ _ (by decide)] at h)).2.1, by rw [getD_set _ _ _ (by decide)]; exact (al12 (by rwa [getD_set _ _ _ (by decide)] at h)).2.2⟩), (fun h => by rw [getD_set _ _ _ (by decide)]; exact as12 (by rwa [getD_set _ _ _ (by decide)] at h))⟩)
                  · have hk3 := hk
                    exact wpOp_plain rfl rfl (wp_move_v (ac.eval (.tmp 16)) rfl rfl ⟨bB, hl2 1, (hF.put 1 135 (SP.is (.int .i64 (i : Int))) (ac.eval (.tmp 16)) (by rw [hD]; rfl) (((hF.keep 16 (by rw [hD]; rfl)).trans zs16)) (by rw [hD]; rfl) (by rw [hsz]; decide) (by rw [hl]; decide)), hb1, ra, (fun h => ⟨(eval_put_other ac _ (by decide)).trans ((al12 (by rwa [getD_set _ _ _ (by decide)] at h)).1), (al12 (by rwa [getD_set _ _ _ (by decide)] at h)).2.1, by rw [getD_set _ _ _ (by decide)]; exact (al12 (by rwa [getD_set _ _ _ (by decide)] at h)).2.2⟩), (fun h => by rw [getD_set _ _ _ (by decide)]; exact as12 (by rwa [getD_set _ _ _ (by decide)] at h))⟩)
                  · have hk3 := hk
                    have ea := (hF.done 0 (134, SP.is (.slice (some ⟨gl, 0, none⟩) (N + 1) cl)) (by rw [hD]; rfl) (ready_dep hk 0 (by kernel_rfl)))
                    have eb := (hF.done 1 (135, SP.is (.int .i64 (i : Int))) (by rw [hD]; rfl) (ready_dep hk 1 (by kernel_rfl)))
                    exact wpOp_plain rfl rfl (wp_ixO 54 51 rfl gl 0 (N + 1) cl i 32 qd HQD.out ea eb HIN1.out Tryz.underlying54 info_dg ⟨bB, hl2 2, (hF.put 2 136 (SP.is (.pointer (some ⟨gl, qd, none⟩))) (.pointer (some ⟨gl, qd, none⟩)) (by rw [hD]; rfl) rfl (by rw [hD]; rfl) (by rw [hsz]; decide) (by rw [hl]; decide)), hb1, ra, (fun h => ⟨(eval_put_other ac _ (by decide)).trans ((al12 (by rwa [getD_set _ _ _ (by decide)] at h)).1), (al12 (by rwa [getD_set _ _ _ (by decide)] at h)).2.1, by rw [getD_set _ _ _ (by decide)]; exact (al12 (by rwa [getD_set _ _ _ (by decide)] at h)).2.2⟩), (fun h => by rw [getD_set _ _ _ (by decide)]; exact as12 (by rwa [getD_set _ _ _ (by decide)] at h))⟩)
                  · have hk3 := hk
                    have ea := (hF.done 2 (136, SP.is (.pointer (some ⟨gl, qd, none⟩))) (by rw [hD]; rfl) (ready_dep hk 2 (by kernel_rfl)))
                    exact wpOp_plain rfl rfl (wp_load_mid 51 (.tmp 136) rfl gl qd ea (vB kki) _ (HRd.out W (HBE.out W hb1)) Tryz.underlying51 rfl HIk.out ⟨bB, hl2 3, (hF.put 3 137 (SP.is (.agg (vB kki).toArray)) (.agg (vB kki).toArray) (by rw [hD]; rfl) rfl (by rw [hD]; rfl) (by rw [hsz]; decide) (by rw [hl]; decide)), hb1, ra, (fun h => ⟨(eval_put_other ac _ (by decide)).trans ((al12 (by rwa [getD_set _ _ _ (by decide)] at h)).1), (al12 (by rwa [getD_set _ _ _ (by decide)] at h)).2.1, by rw [getD_set _ _ _ (by decide)]; exact (al12 (by rwa [getD_set _ _ _ (by decide)] at h)).2.2⟩), (fun h => by rw [getD_set _ _ _ (by decide)]; exact as12 (by rwa [getD_set _ _ _ (by decide)] at h))⟩)
                  · have hk3 := hk
                    exact wpOp_plain rfl rfl (wp_move_v (ac.eval (.tmp 1)) rfl rfl ⟨bB, hl2 4, (hF.put 4 138 (SP.is (.slice (some ⟨b, o, none⟩) N c0)) (ac.eval (.tmp 1)) (by rw [hD]; rfl) (((hF.keep 1 (by rw [hD]; rfl)).trans zs1)) (by rw [hD]; rfl) (by rw [hsz]; decide) (by rw [hl]; decide)), hb1, ra, (fun h => ⟨(eval_put_other ac _ (by decide)).trans ((al12 (by rwa [getD_set _ _ _ (by decide)] at h)).1), (al12 (by rwa [getD_set _ _ _ (by decide)] at h)).2.1, by rw [getD_set _ _ _ (by decide)]; exact (al12 (by rwa [getD_set _ _ _ (by decide)] at h)).2.2⟩), (fun h => by rw [getD_set _ _ _ (by decide)]; exact as12 (by rwa [getD_set _ _ _ (by decide)] at h))⟩)
                  · have hk3 := hk
                    exact wpOp_plain rfl rfl (wp_move_v (ac.eval (.tmp 16)) rfl rfl ⟨bB, hl2 5, (hF.put 5 139 (SP.is (.int .i64 (i : Int))) (ac.eval (.tmp 16)) (by rw [hD]; rfl) (((hF.keep 16 (by rw [hD]; rfl)).trans zs16)) (by rw [hD]; rfl) (by rw [hsz]; decide) (by rw [hl]; decide)), hb1, ra, (fun h => ⟨(eval_put_other ac _ (by decide)).trans ((al12 (by rwa [getD_set _ _ _ (by decide)] at h)).1), (al12 (by rwa [getD_set _ _ _ (by decide)] at h)).2.1, by rw [getD_set _ _ _ (by decide)]; exact (al12 (by rwa [getD_set _ _ _ (by decide)] at h)).2.2⟩), (fun h => by rw [getD_set _ _ _ (by decide)]; exact as12 (by rwa [getD_set _ _ _ (by decide)] at h))⟩)
                  · have hk3 := hk
                    have ea := (hF.done 4 (138, SP.is (.slice (some ⟨b, o, none⟩) N c0)) (by rw [hD]; rfl) (ready_dep hk 4 (by kernel_rfl)))
                    have eb := (hF.done 5 (139, SP.is (.int .i64 (i : Int))) (by rw [hD]; rfl) (ready_dep hk 5 (by kernel_rfl)))
                    exact wpOp_plain rfl rfl (wp_ixO 52 46 rfl b o N c0 i 49 q HQ.out ea eb HIN.out Tryz.underlying52 info_ent ⟨bB, hl2 6, (hF.put 6 140 (SP.is (.pointer (some ⟨b, q, none⟩))) (.pointer (some ⟨b, q, none⟩)) (by rw [hD]; rfl) rfl (by rw [hD]; rfl) (by rw [hsz]; decide) (by rw [hl]; decide)), hb1, ra, (fun h => ⟨(eval_put_other ac _ (by decide)).trans ((al12 (by rwa [getD_set _ _ _ (by decide)] at h)).1), (al12 (by rwa [getD_set _ _ _ (by decide)] at h)).2.1, by rw [getD_set _ _ _ (by decide)]; exact (al12 (by rwa [getD_set _ _ _ (by decide)] at h)).2.2⟩), (fun h => by rw [getD_set _ _ _ (by decide)]; exact as12 (by rwa [getD_set _ _ _ (by decide)] at h))⟩)
                  · have hk3 := hk
                    have ea := (hF.done 6 (140, SP.is (.pointer (some ⟨b, q, none⟩))) (by rw [hD]; rfl) (ready_dep hk 6 (by kernel_rfl)))
                    exact wpOp_plain rfl rfl (wp_load_mid 46 (.tmp 140) rfl b q ea L _ (HRl.out W (HBE.out W hb1)) Tryz.underlying46 rfl HI.out ⟨bB, hl2 7, (hF.put 7 141 (SP.is (.agg L.toArray)) (.agg L.toArray) (by rw [hD]; rfl) rfl (by rw [hD]; rfl) (by rw [hsz]; decide) (by rw [hl]; decide)), hb1, ra, (fun h => ⟨(eval_put_other ac _ (by decide)).trans ((al12 (by rwa [getD_set _ _ _ (by decide)] at h)).1), (al12 (by rwa [getD_set _ _ _ (by decide)] at h)).2.1, by rw [getD_set _ _ _ (by decide)]; exact (al12 (by rwa [getD_set _ _ _ (by decide)] at h)).2.2⟩), (fun h => by rw [getD_set _ _ _ (by decide)]; exact as12 (by rwa [getD_set _ _ _ (by decide)] at h))⟩)
                  · have hk3 := hk
                    have e137 := (hF.done 3 (137, SP.is (.agg (vB kki).toArray)) (by rw [hD]; rfl) (ready_dep hk 3 (by kernel_rfl)))
                    have e141 := (hF.done 7 (141, SP.is (.agg L.toArray)) (by rw [hD]; rfl) (ready_dep hk 7 (by kernel_rfl)))
                    refine wpOp_plain rfl rfl (wp_fcall_v 16 #[.agg (vB kki).toArray, .agg L.toArray] rfl rfl (by show [ac.eval (.tmp 137), ac.eval (.tmp 141)] = _; rw [show ac.eval (.tmp 137) = _ from e137, show ac.eval (.tmp 141) = _ from e141]) (by go_simp) ((HND.out W (HBE.out W hb1)).mono ?_))
                    rintro e W2 ⟨rfl, hB⟩
                    exact ⟨_, rfl, bB, hl2 8, ((hF.world hB).put 8 142 (SP.is (.tuple #[.agg (vB dd).toArray, .int .i64 E])) (.tuple #[.agg (vB dd).toArray, .int .i64 E]) (by rw [hD]; rfl) rfl (by rw [hD]; rfl) (by rw [hsz]; decide) (by rw [hl]; decide)), hb1.trans (hB.mono hb1.size), Row.below ra hB (Row.lt ra), (fun h => ⟨(eval_put_other ac _ (by decide)).trans ((al12 (by rwa [getD_set _ _ _ (by decide)] at h)).1), (al12 (by rwa [getD_set _ _ _ (by decide)] at h)).2.1, by rw [getD_set _ _ _ (by decide)]; exact Row.below (al12 (by rwa [getD_set _ _ _ (by decide)] at h)).2.2 hB (Row.lt (al12 (by rwa [getD_set _ _ _ (by decide)] at h)).2.2)⟩), (fun h => by rw [getD_set _ _ _ (by decide)]; exact as12 (by rwa [getD_set _ _ _ (by decide)] at h))⟩
                  · have hk3 := hk
                    exact wpOp_plain rfl rfl (wp_move_v (ac.eval (.tmp 142)) rfl rfl ⟨bB, hl2 9, (hF.put 9 133 (SP.is (.tuple #[.agg (vB dd).toArray, .int .i64 E])) (ac.eval (.tmp 142)) (by rw [hD]; rfl) ((hF.done 8 (142, SP.is (.tuple #[.agg (vB dd).toArray, .int .i64 E])) (by rw [hD]; rfl) (ready_dep hk 8 (by kernel_rfl)))) (by rw [hD]; rfl) (by rw [hsz]; decide) (by rw [hl]; decide)), hb1, ra, (fun h => ⟨(eval_put_other ac _ (by decide)).trans ((al12 (by rwa [getD_set _ _ _ (by decide)] at h)).1), (al12 (by rwa [getD_set _ _ _ (by decide)] at h)).2.1, by rw [getD_set _ _ _ (by decide)]; exact (al12 (by rwa [getD_set _ _ _ (by decide)] at h)).2.2⟩), (fun h => by rw [getD_set _ _ _ (by decide)]; exact as12 (by rwa [getD_set _ _ _ (by decide)] at h))⟩)
                  · have hk3 := hk
                    exact wpOp_plain rfl rfl (wp_extract (.tmp 133) 0 rfl _ (hF.done 9 (133, SP.is (.tuple #[.agg (vB dd).toArray, .int .i64 E])) (by rw [hD]; rfl) (ready_dep hk 9 (by kernel_rfl))) (.agg (vB dd).toArray) rfl ⟨bB, hl2 10, (hF.put 10 143 (SP.is (.agg (vB dd).toArray)) (.agg (vB dd).toArray) (by rw [hD]; rfl) rfl (by rw [hD]; rfl) (by rw [hsz]; decide) (by rw [hl]; decide)), hb1, ra, (fun h => ⟨(eval_put_other ac _ (by decide)).trans ((al12 (by rwa [getD_set _ _ _ (by decide)] at h)).1), (al12 (by rwa [getD_set _ _ _ (by decide)] at h)).2.1, by rw [getD_set _ _ _ (by decide)]; exact (al12 (by rwa [getD_set _ _ _ (by decide)] at h)).2.2⟩), (fun h => by rw [getD_set _ _ _ (by decide)]; exact as12 (by rwa [getD_set _ _ _ (by decide)] at h))⟩)
                  · have hk3 := hk
                    exact wpOp_plain rfl rfl (wp_extract (.tmp 133) 1 rfl _ (hF.done 9 (133, SP.is (.tuple #[.agg (vB dd).toArray, .int .i64 E])) (by rw [hD]; rfl) (ready_dep hk 9 (by kernel_rfl))) (.int .i64 E) rfl ⟨bB, hl2 11, (hF.put 11 144 (SP.is (.int .i64 E)) (.int .i64 E) (by rw [hD]; rfl) rfl (by rw [hD]; rfl) (by rw [hsz]; decide) (by rw [hl]; decide)), hb1, ra, (fun h => ⟨(eval_put_other ac _ (by decide)).trans ((al12 (by rwa [getD_set _ _ _ (by decide)] at h)).1), (al12 (by rwa [getD_set _ _ _ (by decide)] at h)).2.1, by rw [getD_set _ _ _ (by decide)]; exact (al12 (by rwa [getD_set _ _ _ (by decide)] at h)).2.2⟩), (fun h => by rw [getD_set _ _ _ (by decide)]; exact as12 (by rwa [getD_set _ _ _ (by decide)] at h))⟩)
                  · have hk3 := hk
                    have hsm : Y1.heap.size - 1 < W.heap.size := (by have := hb1.size; have := HWP.out; omega)
                    have hB : Below W.heap.size W (W.alloc (.cells (vB zK).toArray 51)) := (Below.refl _ _).alloc (Nat.le_refl _) _
                    have hns : ¬ listed.getD 13 false = true := fun h => not_yet hk (as12 h)
                    exact wpOp_plain rfl rfl (wp_allocDg rfl ⟨W.heap.size, hl2 12, ((hF.world hB).put 12 19 (SP.any) (.pointer (some ⟨W.heap.size, 0, none⟩)) (by rw [hD]; rfl) trivial (by rw [hD]; rfl) (by rw [hsz]; decide) (by rw [hl]; decide)), hb1.alloc hb1.size _, Row.alloc ra _, (fun _ => ⟨eval_put_same ac _ (by rw [hF.size, hsz]; decide), hsm, by rw [getD_set _ _ _ (by decide), if_neg hns]; exact Row.new' rfl rfl⟩), (fun _ => getD_same (by rw [hl]; decide))⟩)
                  · have hk3 := hk
                    have hal := ready_dep hk 12 (by kernel_rfl)
                    obtain ⟨e1, m1, y2⟩ := al12 hal
                    rw [if_neg (not_yet hk)] at y2
                    have T := y2.there 0 (vB dd).toArray.size HDT.out
                    have fin := y2.over (vs := (vB dd)) HDL.out
                    have hT : Fp D a0 listed ac (W.setCells bB 0 (vB dd)) := hF.turn (by rw [hD]; simp only [List.forall_mem_cons, List.not_mem_nil, false_implies, implies_true, and_true]; exact ⟨fun _ h => h, fun _ h => h, fun _ h => h, fun _ h => h, fun _ h => h, fun _ h => h, fun _ h => h, fun _ h => h, fun _ h => h, fun _ h => h, fun _ h => h, fun _ h => h, fun _ h => h, fun _ h => h, fun _ h => h⟩)
                    exact wpOp_plain rfl rfl (wp_store_mid 51 (.tmp 19) (.tmp 143) rfl bB 0 (vB dd).toArray e1 (hF.done 10 (143, SP.is (.agg (vB dd).toArray)) (by rw [hD]; rfl) (ready_dep hk 10 (by kernel_rfl))) T HIJ.out (all_oneCell_toArray (vB_one dd)) ⟨bB, hl2 13, (hT.skip 13 1000 (by rw [hD]; rfl) (by rw [hl]; decide)), below_setCells hb1 (by omega) _, Row.setCells_other ra _ _ _ (by omega), (fun _ => ⟨e1, m1, by rw [if_pos (getD_same (by rw [hl]; decide))]; exact fin⟩), (fun _ => by rw [getD_set _ _ _ (by decide)]; exact hal)⟩)
                  · have hk3 := hk
                    exact wpOp_plain rfl rfl (wp_assign_v (ac.eval (.tmp 144)) rfl rfl ⟨bB, hl2 14, (hF.put 14 20 (SP.is (.int .i64 E)) (ac.eval (.tmp 144)) (by rw [hD]; rfl) ((hF.done 11 (144, SP.is (.int .i64 E)) (by rw [hD]; rfl) (ready_dep hk 11 (by kernel_rfl)))) (by rw [hD]; rfl) (by rw [hsz]; decide) (by rw [hl]; decide)), hb1, ra, (fun h => ⟨(eval_put_other ac _ (by decide)).trans ((al12 (by rwa [getD_set _ _ _ (by decide)] at h)).1), (al12 (by rwa [getD_set _ _ _ (by decide)] at h)).2.1, by rw [getD_set _ _ _ (by decide)]; exact (al12 (by rwa [getD_set _ _ _ (by decide)] at h)).2.2⟩), (fun h => by rw [getD_set _ _ _ (by decide)]; exact as12 (by rwa [getD_set _ _ _ (by decide)] at h))⟩)
                · clear hb1 ra 
                  intro listed ac W hI hr
                  obtain ⟨bB, hl, hF, hb1, ra, al12, as12⟩ := hI
                  have hall := all_listed (by kernel_rfl) hl hr
                  obtain ⟨ea19, m19, p19⟩ := al12 (hall 12 (by decide))
                  rw [if_pos (hall 13 (by decide))] at p19
                  have h134 : ac.eval (.tmp 134) = .slice (some ⟨gl, 0, none⟩) (N + 1) cl := hF.done 0 (134, SP.is (.slice (some ⟨gl, 0, none⟩) (N + 1) cl)) (by rw [hD]; rfl) (hall 0 (by decide))
                  have h135 : ac.eval (.tmp 135) = .int .i64 (i : Int) := hF.done 1 (135, SP.is (.int .i64 (i : Int))) (by rw [hD]; rfl) (hall 1 (by decide))
                  have h136 : ac.eval (.tmp 136) = .pointer (some ⟨gl, qd, none⟩) := hF.done 2 (136, SP.is (.pointer (some ⟨gl, qd, none⟩))) (by rw [hD]; rfl) (hall 2 (by decide))
                  have h137 : ac.eval (.tmp 137) = .agg (vB kki).toArray := hF.done 3 (137, SP.is (.agg (vB kki).toArray)) (by rw [hD]; rfl) (hall 3 (by decide))
                  have h138 : ac.eval (.tmp 138) = .slice (some ⟨b, o, none⟩) N c0 := hF.done 4 (138, SP.is (.slice (some ⟨b, o, none⟩) N c0)) (by rw [hD]; rfl) (hall 4 (by decide))
                  have h139 : ac.eval (.tmp 139) = .int .i64 (i : Int) := hF.done 5 (139, SP.is (.int .i64 (i : Int))) (by rw [hD]; rfl) (hall 5 (by decide))
                  have h140 : ac.eval (.tmp 140) = .pointer (some ⟨b, q, none⟩) := hF.done 6 (140, SP.is (.pointer (some ⟨b, q, none⟩))) (by rw [hD]; rfl) (hall 6 (by decide))
                  have h141 : ac.eval (.tmp 141) = .agg L.toArray := hF.done 7 (141, SP.is (.agg L.toArray)) (by rw [hD]; rfl) (hall 7 (by decide))
                  have h142 : ac.eval (.tmp 142) = .tuple #[.agg (vB dd).toArray, .int .i64 E] := hF.done 8 (142, SP.is (.tuple #[.agg (vB dd).toArray, .int .i64 E])) (by rw [hD]; rfl) (hall 8 (by decide))
                  have h133 : ac.eval (.tmp 133) = .tuple #[.agg (vB dd).toArray, .int .i64 E] := hF.done 9 (133, SP.is (.tuple #[.agg (vB dd).toArray, .int .i64 E])) (by rw [hD]; rfl) (hall 9 (by decide))
                  have h143 : ac.eval (.tmp 143) = .agg (vB dd).toArray := hF.done 10 (143, SP.is (.agg (vB dd).toArray)) (by rw [hD]; rfl) (hall 10 (by decide))
                  have h144 : ac.eval (.tmp 144) = .int .i64 E := hF.done 11 (144, SP.is (.int .i64 E)) (by rw [hD]; rfl) (hall 11 (by decide))
                  have h20 : ac.eval (.tmp 20) = .int .i64 E := hF.done 14 (20, SP.is (.int .i64 E)) (by rw [hD]; rfl) (hall 14 (by decide))
                  have ea := hF.lay [(134, .slice (some ⟨gl, 0, none⟩) (N + 1) cl), (135, .int .i64 (i : Int)), (136, .pointer (some ⟨gl, qd, none⟩)), (137, .agg (vB kki).toArray), (138, .slice (some ⟨b, o, none⟩) N c0), (139, .int .i64 (i : Int)), (140, .pointer (some ⟨b, q, none⟩)), (141, .agg L.toArray), (142, .tuple #[.agg (vB dd).toArray, .int .i64 E]), (133, .tuple #[.agg (vB dd).toArray, .int .i64 E]), (143, .agg (vB dd).toArray), (144, .int .i64 E), (19, .pointer (some ⟨bB, 0, none⟩)), (20, .int .i64 E)] (by rw [hD, hsz]; rfl) (by simp only [List.forall_mem_cons, List.not_mem_nil, false_implies, implies_true, and_true]; exact ⟨h134, h135, h136, h137, h138, h139, h140, h141, h142, h133, h143, h144, ea19, h20⟩)
                  rw [ha0] at ea
                  simp only [List.foldl_cons, List.foldl_nil, List.setIfInBounds_toArray, List.set_cons_zero, List.set_cons_succ] at ea
                  clear hF hall hr hl hD al12 as12 zs1 zs13 zs16 ha0 hsz h134 h135 h136 h137 h138 h139 h140 h141 h142 h133 h143 h144 ea19 h20
                  subst ea
                  obtain ⟨Y2, hY2⟩ : ∃ Y, Y = W := ⟨_, rfl⟩
                  rw [← hY2] at hb1 ra p19 ⊢
                  have BY2 : Hid (Below wr.heap.size wr Y2) := HBE.out Y2 hb1
                  have RA2 : Hid (Row Y2 bA (vB dd) 51) := ra
                  have RB2 : Hid (Row Y2 bB (vB dd) 51) := p19
                  have HAB : Hid (bA < bB) := by show _ < _; omega
                  clear hY2 hb1 ra p19 m19 HWP HBE hal RA1 BY1
                  have HG2 : Hid (Gu X3 Y2 F N A8 c8 es cs2 gs bs gl cl kk) := HGu.out.below BY2.out
                  have HUN : Hid (∀ X, Gu X3 X F N A8 c8 es cs2 gs bs gl cl kk → Row X bA (vB dd) 51 → Row X bB (vB dd) 51 → Calls Tryz.prog 18 #[.slice (some ⟨g, 0, none⟩) (n + 8) (n + 8), .slice A' n c'] X fun e9 w' => e9 = .returned (.bool true) ∧ (Gu X3 w' F N A8 c8 es cs2 gs (bs.set i (flp (e.d ++ mk8))) gl cl kk ∧ Row w' bA (vB dd) 51 ∧ Row w' bB (vB dd) 51)) := fun X k1 k2 k3 => by
                    have rr := k1.fu.bd i g (e.d ++ mk8) HGG.out HBI.out
                    refine (unchanged_any e.d n HNE.out.symm (by omega) A' c' g X rr (HS0.out X k1.fu.be) (fun b' o' q1 q2 => ?_)).mono ?_
                    · have h1 := HA0.out b' o' q1 q2
                      have h2 := HG0.out
                      have h3 := B3.out.size
                      omega
                    · rintro e9 w' ⟨q0, q1, q2⟩
                      refine ⟨q0, ⟨k1.fu.turn i g HGG.out _ (by rw [flp_len, List.getD_eq_getElem?_getD, HBI.out]; rfl) q1 q2, Lw.gro k1.ld q2 (Lw.ne k1.ld rr (by decide))⟩, (q2.block bA k2.lt (row_apart2 k2 rr (by decide))).trans k2, (q2.block bB k3.lt (row_apart2 k3 rr (by decide))).trans k3⟩
                  have HSX : Hid (∀ X, Gu X3 X F N A8 c8 es cs2 gs bs gl cl kk → SlAt X (.slice (some ⟨g, 0, none⟩) n (n + 8)) e.d ∧ X.rangeAt F qF Lx) := fun X k1 => by
                    obtain ⟨g', z1, _, z2, z3, _⟩ := k1.fu.place i hlt e HE.out (e.d ++ mk8) HBI.out
                    rw [HGG.out] at z1; cases z1
                    rw [List.take_left, Ev.wb_same, ← HNE.out, HQF.out] at z2
                    rw [List.take_left, Ev.wb_same, ← HNE.out] at z3
                    rw [HLX.out]
                    exact ⟨z3, z2⟩
                  obtain ⟨vs8, hv8⟩ : ∃ vs, Lw Y2 44 1 (.slice A8 gs.length c8) gs.length vs ∧ ∀ (j : Nat) (e : Ev) (g : Nat), es[j]? = some e → gs[j]? = some g → vs[j]? = some (bval e g) := HG2.out.fu.lw
                  have hgl8 := HGL.out
                  rw [hgl8] at hv8
                  obtain ⟨g8, c9, e8, _⟩ := Lw.open hv8.1 (by omega)
                  simp only [Value.slice.injEq, true_and] at e8
                  obtain ⟨rfl, rfl⟩ := e8
                  obtain ⟨q8, hq8⟩ : ∃ q, q = 0 + i * 1 := ⟨_, rfl⟩
                  have HQ8 : Hid (0 + i * 1 = q8) := hq8.symm
                  have HV8 : Hid (∀ X, Gu X3 X F N (some ⟨g8, 0, none⟩) c8 es cs2 gs bs gl cl kk → X.cell? ⟨g8, q8, none⟩ = some (.slice (some ⟨g, 0, none⟩) (n + 8) (n + 8))) := fun X k1 => by
                    obtain ⟨vs', z1, z2⟩ := k1.fu.lw
                    rw [HGL.out] at z1
                    have z3 := z1.range i _ (z2 i e g HE.out HGG.out)
                    rw [show q8 = 0 + i by have := HQ8.out; omega]
                    unfold bval at z3
                    rw [← HNE.out] at z3
                    exact z3
                  clear hv8 hgl8 hq8
                  go_upto_region 27 with fail
                  have ra := RA2.out
                  have rb := RB2.out
                  have hGu := HG2.out
                  have hb1 := HG2.out.fu.be
                  refine wp_named fun a0 ha0 => ?_
                  have hsz : a0.tmps.size = 236 := by rw [ha0]; rfl
                  have zs1 : a0.eval (.tmp 1) = .slice (some ⟨b, o, none⟩) N c0 := by rw [ha0]; rfl
                  have zs7 : a0.eval (.tmp 7) = .slice (some ⟨F, 0, none⟩) (N + 3) (N + 3) := by rw [ha0]; rfl
                  have zs8 : a0.eval (.tmp 8) = .slice (some ⟨g8, 0, none⟩) N c8 := by rw [ha0]; rfl
                  have zs16 : a0.eval (.tmp 16) = .int .i64 (i : Int) := by rw [ha0]; rfl
                  have zs17 : a0.eval (.tmp 17) = .pointer (some ⟨bA, 0, none⟩) := by rw [ha0]; rfl
                  have zs18 : a0.eval (.tmp 18) = .int .i64 E := by rw [ha0]; rfl
                  have zs19 : a0.eval (.tmp 19) = .pointer (some ⟨bB, 0, none⟩) := by rw [ha0]; rfl
                  have zs20 : a0.eval (.tmp 20) = .int .i64 E := by rw [ha0]; rfl
                  obtain ⟨D, hD⟩ : ∃ D : List (Tmp × SP), D = [(145, SP.is (.agg (vB dd).toArray)), (146, SP.is (.agg (vB dd).toArray)), (147, SP.is (.bool false)), (148, SP.is (.bool false)), (149, SP.is (.int .i64 E)), (150, SP.is (.int .i64 E)), (151, SP.is (.bool false)), (152, SP.is (.bool false)), (153, SP.is (.bool false)), (154, SP.is (.slice (some ⟨F, 0, none⟩) (N + 3) (N + 3))), (155, SP.is (.int .i64 (i : Int))), (156, SP.is (.pointer (some ⟨F, qF, none⟩))), (157, SP.is (.agg Lx.toArray)), (158, SP.is (.slice (some ⟨b, o, none⟩) N c0)), (159, SP.is (.int .i64 (i : Int))), (160, SP.is (.pointer (some ⟨b, q, none⟩))), (161, SP.is (.agg L.toArray)), (162, SP.is (.bool true)), (163, SP.is (.bool false)), (164, SP.is (.bool false)), (165, SP.is (.bool false)), (166, SP.is (.slice (some ⟨g8, 0, none⟩) N c8)), (167, SP.is (.int .i64 (i : Int))), (168, SP.is (.pointer (some ⟨g8, q8, none⟩))), (169, SP.is (.slice (some ⟨g, 0, none⟩) (n + 8) (n + 8))), (170, SP.is (.slice (some ⟨b, o, none⟩) N c0)), (171, SP.is (.int .i64 (i : Int))), (172, SP.is (.pointer (some ⟨b, q, none⟩))), (173, SP.is (.pointer (some ⟨b, q + 48, none⟩))), (174, SP.is (.slice A' n c')), (175, SP.is (.bool true)), (176, SP.is (.bool false)), (177, SP.is (.bool false))] := ⟨_, rfl⟩
                  refine wp_region_then (by kernel_rfl) 30 (by decide) (by kernel_rfl) (fun listed ac W => Fp D a0 listed ac W ∧ Below X3.heap.size X3 W ∧ Row W bA ((vB dd)) 51 ∧ Row W bB ((vB dd)) 51 ∧ Gu X3 W F N (some ⟨g8, 0, none⟩) c8 es cs2 gs bs gl cl kk) (fun listed ac W => Fp D a0 listed ac W ∧ (Gu X3 W F N (some ⟨g8, 0, none⟩) c8 es cs2 gs (bs.set i (flp (e.d ++ mk8))) gl cl kk ∧ Row W bA (vB dd) 51 ∧ Row W bB (vB dd) 51)) ?_ ?_ ?_ ?_ ?_
                  · exact ⟨Fp.start D a0 _ _, Below.drew hb1, Row.drew ra, Row.drew rb, hGu.below (Below.drew (Below.refl _ _))⟩
                  · clear ha0 hb1 ra rb hGu
                    intro listed ac W k hl hI hdn hk hne hnl
                    replace hl : listed.size = 33 := hl
                    obtain ⟨hF, hb1, ra, rb, hGu⟩ := hI
                    have hk1 : k < 33 := List.mem_range.1 (List.mem_filter.1 hk).1
                    rcases (show k = 0 ∨ k = 1 ∨ k = 2 ∨ k = 3 ∨ k = 4 ∨ k = 5 ∨ k = 6 ∨ k = 7 ∨ k = 8 ∨ k = 9 ∨ k = 10 ∨ k = 11 ∨ k = 12 ∨ k = 13 ∨ k = 14 ∨ k = 15 ∨ k = 16 ∨ k = 17 ∨ k = 18 ∨ k = 19 ∨ k = 20 ∨ k = 21 ∨ k = 22 ∨ k = 23 ∨ k = 24 ∨ k = 25 ∨ k = 26 ∨ k = 27 ∨ k = 28 ∨ k = 29 ∨ k = 30 ∨ k = 31 ∨ k = 32 by omega) with rfl | rfl | rfl | rfl | rfl | rfl | rfl | rfl | rfl | rfl | rfl | rfl | rfl | rfl | rfl | rfl | rfl | rfl | rfl | rfl | rfl | rfl | rfl | rfl | rfl | rfl | rfl | rfl | rfl | rfl | rfl | rfl | rfl
                    · have hk3 := hk
                      exact wpOp_plain rfl rfl (wp_load_mid 51 (.tmp 17) rfl bA 0 ((hF.keep 17 (by rw [hD]; rfl)).trans zs17) ((vB dd)) _ ra.all Tryz.underlying51 rfl HID.out ⟨(hF.put 0 145 (SP.is (.agg (vB dd).toArray)) (.agg (vB dd).toArray) (by rw [hD]; rfl) rfl (by rw [hD]; rfl) (by rw [hsz]; decide) (by rw [hl]; decide)), hb1, ra, rb, hGu⟩)
                    · have hk3 := hk
                      exact wpOp_plain rfl rfl (wp_load_mid 51 (.tmp 19) rfl bB 0 ((hF.keep 19 (by rw [hD]; rfl)).trans zs19) ((vB dd)) _ rb.all Tryz.underlying51 rfl HID.out ⟨(hF.put 1 146 (SP.is (.agg (vB dd).toArray)) (.agg (vB dd).toArray) (by rw [hD]; rfl) rfl (by rw [hD]; rfl) (by rw [hsz]; decide) (by rw [hl]; decide)), hb1, ra, rb, hGu⟩)
                    · have hk3 := hk
                      have ea := (hF.done 0 (145, SP.is (.agg (vB dd).toArray)) (by rw [hD]; rfl) (ready_dep hk 0 (by kernel_rfl)))
                      have eb := (hF.done 1 (146, SP.is (.agg (vB dd).toArray)) (by rw [hD]; rfl) (ready_dep hk 1 (by kernel_rfl)))
                      exact wpOp_plain rfl rfl (wp_neD (.tmp 145) (.tmp 146) _ rfl dd dd HDD32.out HDD32.out ea eb false (by simp) ⟨(hF.put 2 147 (SP.is (.bool false)) (.bool false) (by rw [hD]; rfl) rfl (by rw [hD]; rfl) (by rw [hsz]; decide) (by rw [hl]; decide)), hb1, ra, rb, hGu⟩)
                    · have hk3 := hk
                      exact wpOp_plain rfl rfl (wp_move_v (ac.eval (.tmp 147)) rfl rfl ⟨(hF.put 3 148 (SP.is (.bool false)) (ac.eval (.tmp 147)) (by rw [hD]; rfl) ((hF.done 2 (147, SP.is (.bool false)) (by rw [hD]; rfl) (ready_dep hk 2 (by kernel_rfl)))) (by rw [hD]; rfl) (by rw [hsz]; decide) (by rw [hl]; decide)), hb1, ra, rb, hGu⟩)
                    · have hk3 := hk
                      exact wpOp_wanted rfl (wanted_g (g := 3) (b := false) rfl rfl (hF.done 3 (148, SP.is (.bool false)) (by rw [hD]; rfl) (ready_dep hk 3 (by kernel_rfl))) (by rw [hF.size, hsz]; decide)) (wp_move_v (ac.eval (.tmp 18)) rfl rfl ⟨(hF.put 4 149 (SP.is (.int .i64 E)) (ac.eval (.tmp 18)) (by rw [hD]; rfl) (((hF.keep 18 (by rw [hD]; rfl)).trans zs18)) (by rw [hD]; rfl) (by rw [hsz]; decide) (by rw [hl]; decide)), hb1, ra, rb, hGu⟩)
                    · have hk3 := hk
                      exact wpOp_wanted rfl (wanted_g (g := 3) (b := false) rfl rfl (hF.done 3 (148, SP.is (.bool false)) (by rw [hD]; rfl) (ready_dep hk 3 (by kernel_rfl))) (by rw [hF.size, hsz]; decide)) (wp_move_v (ac.eval (.tmp 20)) rfl rfl ⟨(hF.put 5 150 (SP.is (.int .i64 E)) (ac.eval (.tmp 20)) (by rw [hD]; rfl) (((hF.keep 20 (by rw [hD]; rfl)).trans zs20)) (by rw [hD]; rfl) (by rw [hsz]; decide) (by rw [hl]; decide)), hb1, ra, rb, hGu⟩)
                    · have hk3 := hk
                      have ea := (hF.done 4 (149, SP.is (.int .i64 E)) (by rw [hD]; rfl) (ready_dep hk 4 (by kernel_rfl)))
                      have eb := (hF.done 5 (150, SP.is (.int .i64 E)) (by rw [hD]; rfl) (ready_dep hk 5 (by kernel_rfl)))
                      exact wpOp_wanted rfl (wanted_g (g := 3) (b := false) rfl rfl (hF.done 3 (148, SP.is (.bool false)) (by rw [hD]; rfl) (ready_dep hk 3 (by kernel_rfl))) (by rw [hF.size, hsz]; decide)) (wp_neqint_v rfl ea eb (by simp) ⟨(hF.put 6 151 (SP.is (.bool false)) (.bool false) (by rw [hD]; rfl) rfl (by rw [hD]; rfl) (by rw [hsz]; decide) (by rw [hl]; decide)), hb1, ra, rb, hGu⟩)
                    · have hk3 := hk
                      have ea := (hF.done 3 (148, SP.is (.bool false)) (by rw [hD]; rfl) (ready_dep hk 3 (by kernel_rfl)))
                      have eb := (hF.done 6 (151, SP.is (.bool false)) (by rw [hD]; rfl) (ready_dep hk 6 (by kernel_rfl)))
                      exact wpOp_plain rfl rfl (wp_pick_f (.bool false) rfl ea eb ⟨(hF.put 7 152 (SP.is (.bool false)) (.bool false) (by rw [hD]; rfl) rfl (by rw [hD]; rfl) (by rw [hsz]; decide) (by rw [hl]; decide)), hb1, ra, rb, hGu⟩)
                    · have hk3 := hk
                      exact wpOp_plain rfl rfl (wp_move_v (ac.eval (.tmp 152)) rfl rfl ⟨(hF.put 8 153 (SP.is (.bool false)) (ac.eval (.tmp 152)) (by rw [hD]; rfl) ((hF.done 7 (152, SP.is (.bool false)) (by rw [hD]; rfl) (ready_dep hk 7 (by kernel_rfl)))) (by rw [hD]; rfl) (by rw [hsz]; decide) (by rw [hl]; decide)), hb1, ra, rb, hGu⟩)
                    · have hk3 := hk
                      exact wpOp_wanted rfl (wanted_g (g := 8) (b := false) rfl rfl (hF.done 8 (153, SP.is (.bool false)) (by rw [hD]; rfl) (ready_dep hk 8 (by kernel_rfl))) (by rw [hF.size, hsz]; decide)) (wp_move_v (ac.eval (.tmp 7)) rfl rfl ⟨(hF.put 9 154 (SP.is (.slice (some ⟨F, 0, none⟩) (N + 3) (N + 3))) (ac.eval (.tmp 7)) (by rw [hD]; rfl) (((hF.keep 7 (by rw [hD]; rfl)).trans zs7)) (by rw [hD]; rfl) (by rw [hsz]; decide) (by rw [hl]; decide)), hb1, ra, rb, hGu⟩)
                    · have hk3 := hk
                      exact wpOp_wanted rfl (wanted_g (g := 8) (b := false) rfl rfl (hF.done 8 (153, SP.is (.bool false)) (by rw [hD]; rfl) (ready_dep hk 8 (by kernel_rfl))) (by rw [hF.size, hsz]; decide)) (wp_move_v (ac.eval (.tmp 16)) rfl rfl ⟨(hF.put 10 155 (SP.is (.int .i64 (i : Int))) (ac.eval (.tmp 16)) (by rw [hD]; rfl) (((hF.keep 16 (by rw [hD]; rfl)).trans zs16)) (by rw [hD]; rfl) (by rw [hsz]; decide) (by rw [hl]; decide)), hb1, ra, rb, hGu⟩)
                    · have hk3 := hk
                      have ea := (hF.done 9 (154, SP.is (.slice (some ⟨F, 0, none⟩) (N + 3) (N + 3))) (by rw [hD]; rfl) (ready_dep hk 9 (by kernel_rfl)))
                      have eb := (hF.done 10 (155, SP.is (.int .i64 (i : Int))) (by rw [hD]; rfl) (ready_dep hk 10 (by kernel_rfl)))
                      exact wpOp_wanted rfl (wanted_g (g := 8) (b := false) rfl rfl (hF.done 8 (153, SP.is (.bool false)) (by rw [hD]; rfl) (ready_dep hk 8 (by kernel_rfl))) (by rw [hF.size, hsz]; decide)) (wp_ixO 52 46 rfl F 0 (N + 3) (N + 3) i 49 qF HQF.out ea eb HIN3.out Tryz.underlying52 info_ent ⟨(hF.put 11 156 (SP.is (.pointer (some ⟨F, qF, none⟩))) (.pointer (some ⟨F, qF, none⟩)) (by rw [hD]; rfl) rfl (by rw [hD]; rfl) (by rw [hsz]; decide) (by rw [hl]; decide)), hb1, ra, rb, hGu⟩)
                    · have hk3 := hk
                      have ea := (hF.done 11 (156, SP.is (.pointer (some ⟨F, qF, none⟩))) (by rw [hD]; rfl) (ready_dep hk 11 (by kernel_rfl)))
                      exact wpOp_wanted rfl (wanted_g (g := 8) (b := false) rfl rfl (hF.done 8 (153, SP.is (.bool false)) (by rw [hD]; rfl) (ready_dep hk 8 (by kernel_rfl))) (by rw [hF.size, hsz]; decide)) (wp_load_mid 46 (.tmp 156) rfl F qF ea Lx _ ((HSX.out W hGu).2) Tryz.underlying46 rfl HIx.out ⟨(hF.put 12 157 (SP.is (.agg Lx.toArray)) (.agg Lx.toArray) (by rw [hD]; rfl) rfl (by rw [hD]; rfl) (by rw [hsz]; decide) (by rw [hl]; decide)), hb1, ra, rb, hGu⟩)
                    · have hk3 := hk
                      exact wpOp_wanted rfl (wanted_g (g := 8) (b := false) rfl rfl (hF.done 8 (153, SP.is (.bool false)) (by rw [hD]; rfl) (ready_dep hk 8 (by kernel_rfl))) (by rw [hF.size, hsz]; decide)) (wp_move_v (ac.eval (.tmp 1)) rfl rfl ⟨(hF.put 13 158 (SP.is (.slice (some ⟨b, o, none⟩) N c0)) (ac.eval (.tmp 1)) (by rw [hD]; rfl) (((hF.keep 1 (by rw [hD]; rfl)).trans zs1)) (by rw [hD]; rfl) (by rw [hsz]; decide) (by rw [hl]; decide)), hb1, ra, rb, hGu⟩)
                    · have hk3 := hk
                      exact wpOp_wanted rfl (wanted_g (g := 8) (b := false) rfl rfl (hF.done 8 (153, SP.is (.bool false)) (by rw [hD]; rfl) (ready_dep hk 8 (by kernel_rfl))) (by rw [hF.size, hsz]; decide)) (wp_move_v (ac.eval (.tmp 16)) rfl rfl ⟨(hF.put 14 159 (SP.is (.int .i64 (i : Int))) (ac.eval (.tmp 16)) (by rw [hD]; rfl) (((hF.keep 16 (by rw [hD]; rfl)).trans zs16)) (by rw [hD]; rfl) (by rw [hsz]; decide) (by rw [hl]; decide)), hb1, ra, rb, hGu⟩)
                    · have hk3 := hk
                      have ea := (hF.done 13 (158, SP.is (.slice (some ⟨b, o, none⟩) N c0)) (by rw [hD]; rfl) (ready_dep hk 13 (by kernel_rfl)))
                      have eb := (hF.done 14 (159, SP.is (.int .i64 (i : Int))) (by rw [hD]; rfl) (ready_dep hk 14 (by kernel_rfl)))
                      exact wpOp_wanted rfl (wanted_g (g := 8) (b := false) rfl rfl (hF.done 8 (153, SP.is (.bool false)) (by rw [hD]; rfl) (ready_dep hk 8 (by kernel_rfl))) (by rw [hF.size, hsz]; decide)) (wp_ixO 52 46 rfl b o N c0 i 49 q HQ.out ea eb HIN.out Tryz.underlying52 info_ent ⟨(hF.put 15 160 (SP.is (.pointer (some ⟨b, q, none⟩))) (.pointer (some ⟨b, q, none⟩)) (by rw [hD]; rfl) rfl (by rw [hD]; rfl) (by rw [hsz]; decide) (by rw [hl]; decide)), hb1, ra, rb, hGu⟩)
                    · have hk3 := hk
                      have ea := (hF.done 15 (160, SP.is (.pointer (some ⟨b, q, none⟩))) (by rw [hD]; rfl) (ready_dep hk 15 (by kernel_rfl)))
                      exact wpOp_wanted rfl (wanted_g (g := 8) (b := false) rfl rfl (hF.done 8 (153, SP.is (.bool false)) (by rw [hD]; rfl) (ready_dep hk 8 (by kernel_rfl))) (by rw [hF.size, hsz]; decide)) (wp_load_mid 46 (.tmp 160) rfl b q ea L _ (HR.out W hb1) Tryz.underlying46 rfl HI.out ⟨(hF.put 16 161 (SP.is (.agg L.toArray)) (.agg L.toArray) (by rw [hD]; rfl) rfl (by rw [hD]; rfl) (by rw [hsz]; decide) (by rw [hl]; decide)), hb1, ra, rb, hGu⟩)
                    · have hk3 := hk
                      have e157 := (hF.done 12 (157, SP.is (.agg Lx.toArray)) (by rw [hD]; rfl) (ready_dep hk 12 (by kernel_rfl)))
                      have e161 := (hF.done 16 (161, SP.is (.agg L.toArray)) (by rw [hD]; rfl) (ready_dep hk 16 (by kernel_rfl)))
                      refine wpOp_wanted rfl (wanted_g (g := 8) (b := false) rfl rfl (hF.done 8 (153, SP.is (.bool false)) (by rw [hD]; rfl) (ready_dep hk 8 (by kernel_rfl))) (by rw [hF.size, hsz]; decide)) (wp_fcall_v 17 #[.agg Lx.toArray, .agg L.toArray] rfl rfl (by show [ac.eval (.tmp 157), ac.eval (.tmp 161)] = _; rw [show ac.eval (.tmp 157) = _ from e157, show ac.eval (.tmp 161) = _ from e161]) (by go_simp) ((HSM.out W hb1 (HSX.out W hGu).1).mono ?_))
                      rintro e W2 ⟨rfl, hB⟩
                      exact ⟨_, rfl, ((hF.world hB).put 17 162 (SP.is (.bool true)) (.bool true) (by rw [hD]; rfl) rfl (by rw [hD]; rfl) (by rw [hsz]; decide) (by rw [hl]; decide)), hb1.trans (hB.mono hb1.size), Row.below ra hB (Row.lt ra), Row.below rb hB (Row.lt rb), hGu.below hB⟩
                    · have hk3 := hk
                      have ea := (hF.done 17 (162, SP.is (.bool true)) (by rw [hD]; rfl) (ready_dep hk 17 (by kernel_rfl)))
                      exact wpOp_wanted rfl (wanted_g (g := 8) (b := false) rfl rfl (hF.done 8 (153, SP.is (.bool false)) (by rw [hD]; rfl) (ready_dep hk 8 (by kernel_rfl))) (by rw [hF.size, hsz]; decide)) (wp_notT true rfl ea ⟨(hF.put 18 163 (SP.is (.bool false)) (.bool false) (by rw [hD]; rfl) rfl (by rw [hD]; rfl) (by rw [hsz]; decide) (by rw [hl]; decide)), hb1, ra, rb, hGu⟩)
                    · have hk3 := hk
                      have ea := (hF.done 8 (153, SP.is (.bool false)) (by rw [hD]; rfl) (ready_dep hk 8 (by kernel_rfl)))
                      have eb := (hF.done 18 (163, SP.is (.bool false)) (by rw [hD]; rfl) (ready_dep hk 18 (by kernel_rfl)))
                      exact wpOp_plain rfl rfl (wp_pick_f (.bool false) rfl ea eb ⟨(hF.put 19 164 (SP.is (.bool false)) (.bool false) (by rw [hD]; rfl) rfl (by rw [hD]; rfl) (by rw [hsz]; decide) (by rw [hl]; decide)), hb1, ra, rb, hGu⟩)
                    · have hk3 := hk
                      exact wpOp_plain rfl rfl (wp_move_v (ac.eval (.tmp 164)) rfl rfl ⟨(hF.put 20 165 (SP.is (.bool false)) (ac.eval (.tmp 164)) (by rw [hD]; rfl) ((hF.done 19 (164, SP.is (.bool false)) (by rw [hD]; rfl) (ready_dep hk 19 (by kernel_rfl)))) (by rw [hD]; rfl) (by rw [hsz]; decide) (by rw [hl]; decide)), hb1, ra, rb, hGu⟩)
                    · have hk3 := hk
                      exact wpOp_wanted rfl (wanted_g (g := 20) (b := false) rfl rfl (hF.done 20 (165, SP.is (.bool false)) (by rw [hD]; rfl) (ready_dep hk 20 (by kernel_rfl))) (by rw [hF.size, hsz]; decide)) (wp_move_v (ac.eval (.tmp 8)) rfl rfl ⟨(hF.put 21 166 (SP.is (.slice (some ⟨g8, 0, none⟩) N c8)) (ac.eval (.tmp 8)) (by rw [hD]; rfl) (((hF.keep 8 (by rw [hD]; rfl)).trans zs8)) (by rw [hD]; rfl) (by rw [hsz]; decide) (by rw [hl]; decide)), hb1, ra, rb, hGu⟩)
                    · have hk3 := hk
                      exact wpOp_wanted rfl (wanted_g (g := 20) (b := false) rfl rfl (hF.done 20 (165, SP.is (.bool false)) (by rw [hD]; rfl) (ready_dep hk 20 (by kernel_rfl))) (by rw [hF.size, hsz]; decide)) (wp_move_v (ac.eval (.tmp 16)) rfl rfl ⟨(hF.put 22 167 (SP.is (.int .i64 (i : Int))) (ac.eval (.tmp 16)) (by rw [hD]; rfl) (((hF.keep 16 (by rw [hD]; rfl)).trans zs16)) (by rw [hD]; rfl) (by rw [hsz]; decide) (by rw [hl]; decide)), hb1, ra, rb, hGu⟩)
                    · have hk3 := hk
                      have ea := (hF.done 21 (166, SP.is (.slice (some ⟨g8, 0, none⟩) N c8)) (by rw [hD]; rfl) (ready_dep hk 21 (by kernel_rfl)))
                      have eb := (hF.done 22 (167, SP.is (.int .i64 (i : Int))) (by rw [hD]; rfl) (ready_dep hk 22 (by kernel_rfl)))
                      exact wpOp_wanted rfl (wanted_g (g := 20) (b := false) rfl rfl (hF.done 20 (165, SP.is (.bool false)) (by rw [hD]; rfl) (ready_dep hk 20 (by kernel_rfl))) (by rw [hF.size, hsz]; decide)) (wp_ixO 30 44 rfl g8 0 N c8 i 1 q8 HQ8.out ea eb HIN.out Tryz.underlying30 info_ts1 ⟨(hF.put 23 168 (SP.is (.pointer (some ⟨g8, q8, none⟩))) (.pointer (some ⟨g8, q8, none⟩)) (by rw [hD]; rfl) rfl (by rw [hD]; rfl) (by rw [hsz]; decide) (by rw [hl]; decide)), hb1, ra, rb, hGu⟩)
                    · have hk3 := hk
                      have ea := (hF.done 23 (168, SP.is (.pointer (some ⟨g8, q8, none⟩))) (by rw [hD]; rfl) (ready_dep hk 23 (by kernel_rfl)))
                      exact wpOp_wanted rfl (wanted_g (g := 20) (b := false) rfl rfl (hF.done 20 (165, SP.is (.bool false)) (by rw [hD]; rfl) (ready_dep hk 20 (by kernel_rfl))) (by rw [hF.size, hsz]; decide)) (wp_load_1 g8 q8 (.slice (some ⟨g, 0, none⟩) (n + 8) (n + 8)) rfl ea (ld_slI W g8 q8 _ (HV8.out W hGu)) ⟨(hF.put 24 169 (SP.is (.slice (some ⟨g, 0, none⟩) (n + 8) (n + 8))) (.slice (some ⟨g, 0, none⟩) (n + 8) (n + 8)) (by rw [hD]; rfl) rfl (by rw [hD]; rfl) (by rw [hsz]; decide) (by rw [hl]; decide)), hb1, ra, rb, hGu⟩)
                    · have hk3 := hk
                      exact wpOp_wanted rfl (wanted_g (g := 20) (b := false) rfl rfl (hF.done 20 (165, SP.is (.bool false)) (by rw [hD]; rfl) (ready_dep hk 20 (by kernel_rfl))) (by rw [hF.size, hsz]; decide)) (wp_move_v (ac.eval (.tmp 1)) rfl rfl ⟨(hF.put 25 170 (SP.is (.slice (some ⟨b, o, none⟩) N c0)) (ac.eval (.tmp 1)) (by rw [hD]; rfl) (((hF.keep 1 (by rw [hD]; rfl)).trans zs1)) (by rw [hD]; rfl) (by rw [hsz]; decide) (by rw [hl]; decide)), hb1, ra, rb, hGu⟩)
                    · have hk3 := hk
                      exact wpOp_wanted rfl (wanted_g (g := 20) (b := false) rfl rfl (hF.done 20 (165, SP.is (.bool false)) (by rw [hD]; rfl) (ready_dep hk 20 (by kernel_rfl))) (by rw [hF.size, hsz]; decide)) (wp_move_v (ac.eval (.tmp 16)) rfl rfl ⟨(hF.put 26 171 (SP.is (.int .i64 (i : Int))) (ac.eval (.tmp 16)) (by rw [hD]; rfl) (((hF.keep 16 (by rw [hD]; rfl)).trans zs16)) (by rw [hD]; rfl) (by rw [hsz]; decide) (by rw [hl]; decide)), hb1, ra, rb, hGu⟩)
                    · have hk3 := hk
                      have ea := (hF.done 25 (170, SP.is (.slice (some ⟨b, o, none⟩) N c0)) (by rw [hD]; rfl) (ready_dep hk 25 (by kernel_rfl)))
                      have eb := (hF.done 26 (171, SP.is (.int .i64 (i : Int))) (by rw [hD]; rfl) (ready_dep hk 26 (by kernel_rfl)))
                      exact wpOp_wanted rfl (wanted_g (g := 20) (b := false) rfl rfl (hF.done 20 (165, SP.is (.bool false)) (by rw [hD]; rfl) (ready_dep hk 20 (by kernel_rfl))) (by rw [hF.size, hsz]; decide)) (wp_ixO 52 46 rfl b o N c0 i 49 q HQ.out ea eb HIN.out Tryz.underlying52 info_ent ⟨(hF.put 27 172 (SP.is (.pointer (some ⟨b, q, none⟩))) (.pointer (some ⟨b, q, none⟩)) (by rw [hD]; rfl) rfl (by rw [hD]; rfl) (by rw [hsz]; decide) (by rw [hl]; decide)), hb1, ra, rb, hGu⟩)
                    · have hk3 := hk
                      have ea := (hF.done 27 (172, SP.is (.pointer (some ⟨b, q, none⟩))) (by rw [hD]; rfl) (ready_dep hk 27 (by kernel_rfl)))
                      exact wpOp_wanted rfl (wanted_g (g := 20) (b := false) rfl rfl (hF.done 20 (165, SP.is (.bool false)) (by rw [hD]; rfl) (ready_dep hk 20 (by kernel_rfl))) (by rw [hF.size, hsz]; decide)) (wp_fe7q rfl b q ea ⟨(hF.put 28 173 (SP.is (.pointer (some ⟨b, q + 48, none⟩))) (.pointer (some ⟨b, q + 48, none⟩)) (by rw [hD]; rfl) rfl (by rw [hD]; rfl) (by rw [hsz]; decide) (by rw [hl]; decide)), hb1, ra, rb, hGu⟩)
                    · have hk3 := hk
                      have ea := (hF.done 28 (173, SP.is (.pointer (some ⟨b, q + 48, none⟩))) (by rw [hD]; rfl) (ready_dep hk 28 (by kernel_rfl)))
                      exact wpOp_wanted rfl (wanted_g (g := 20) (b := false) rfl rfl (hF.done 20 (165, SP.is (.bool false)) (by rw [hD]; rfl) (ready_dep hk 20 (by kernel_rfl))) (by rw [hF.size, hsz]; decide)) (wp_load_1 b (q + 48) (.slice A' n c') rfl ea (ld_slI W b (q + 48) _ (HC48.out W hb1)) ⟨(hF.put 29 174 (SP.is (.slice A' n c')) (.slice A' n c') (by rw [hD]; rfl) rfl (by rw [hD]; rfl) (by rw [hsz]; decide) (by rw [hl]; decide)), hb1, ra, rb, hGu⟩)
                    · exact absurd rfl hne
                    · exact absurd (ready_dep hk 30 (by kernel_rfl)) hnl
                    · exact absurd (hdn 31 (ready_dep hk 31 (by kernel_rfl)) 30 (by kernel_rfl)) hnl
                  · clear ha0 hb1 ra rb hGu
                    intro listed ac W hl hI hdn hk
                    replace hl : listed.size = 33 := hl
                    obtain ⟨hF, hb1, ra, rb, hGu⟩ := hI
                    have e169 := (hF.done 24 (169, SP.is (.slice (some ⟨g, 0, none⟩) (n + 8) (n + 8))) (by rw [hD]; rfl) (ready_dep hk 24 (by kernel_rfl)))
                    have e174 := (hF.done 29 (174, SP.is (.slice A' n c')) (by rw [hD]; rfl) (ready_dep hk 29 (by kernel_rfl)))
                    refine wpOp_wanted rfl (wanted_g (g := 20) (b := false) rfl rfl (hF.done 20 (165, SP.is (.bool false)) (by rw [hD]; rfl) (ready_dep hk 20 (by kernel_rfl))) (by rw [hF.size, hsz]; decide)) (wp_fcall_v 18 #[.slice (some ⟨g, 0, none⟩) (n + 8) (n + 8), .slice A' n c'] rfl rfl (by show [ac.eval (.tmp 169), ac.eval (.tmp 174)] = _; rw [show ac.eval (.tmp 169) = _ from e169, show ac.eval (.tmp 174) = _ from e174]) (by go_simp) ((HUN.out W hGu ra rb).mono ?_))
                    rintro e W2 ⟨rfl, hU⟩
                    have hT : Fp D a0 listed ac W2 := hF.turn (by rw [hD]; simp only [List.forall_mem_cons, List.not_mem_nil, false_implies, implies_true, and_true]; exact ⟨fun _ h => h, fun _ h => h, fun _ h => h, fun _ h => h, fun _ h => h, fun _ h => h, fun _ h => h, fun _ h => h, fun _ h => h, fun _ h => h, fun _ h => h, fun _ h => h, fun _ h => h, fun _ h => h, fun _ h => h, fun _ h => h, fun _ h => h, fun _ h => h, fun _ h => h, fun _ h => h, fun _ h => h, fun _ h => h, fun _ h => h, fun _ h => h, fun _ h => h, fun _ h => h, fun _ h => h, fun _ h => h, fun _ h => h, fun _ h => h, fun _ h => h, fun _ h => h, fun _ h => h⟩)
                    exact ⟨_, rfl, (hT.put 30 175 (SP.is (.bool true)) _ (by rw [hD]; rfl) rfl (by rw [hD]; rfl) (by rw [hsz]; decide) (by rw [hl]; decide)), hU⟩
                  · clear ha0 hb1 ra rb hGu
                    intro listed ac W k hl hJ hdn hk hne hyl
                    replace hl : listed.size = 33 := hl
                    obtain ⟨hF, hU⟩ := hJ
                    have hk1 : k < 33 := List.mem_range.1 (List.mem_filter.1 hk).1
                    rcases (show k = 0 ∨ k = 1 ∨ k = 2 ∨ k = 3 ∨ k = 4 ∨ k = 5 ∨ k = 6 ∨ k = 7 ∨ k = 8 ∨ k = 9 ∨ k = 10 ∨ k = 11 ∨ k = 12 ∨ k = 13 ∨ k = 14 ∨ k = 15 ∨ k = 16 ∨ k = 17 ∨ k = 18 ∨ k = 19 ∨ k = 20 ∨ k = 21 ∨ k = 22 ∨ k = 23 ∨ k = 24 ∨ k = 25 ∨ k = 26 ∨ k = 27 ∨ k = 28 ∨ k = 29 ∨ k = 30 ∨ k = 31 ∨ k = 32 by omega) with rfl | rfl | rfl | rfl | rfl | rfl | rfl | rfl | rfl | rfl | rfl | rfl | rfl | rfl | rfl | rfl | rfl | rfl | rfl | rfl | rfl | rfl | rfl | rfl | rfl | rfl | rfl | rfl | rfl | rfl | rfl | rfl | rfl
                    · exact absurd (hdn 2 (hdn 3 (hdn 7 (hdn 8 (hdn 19 (hdn 20 (hdn 30 hyl 20 (by kernel_rfl)) 19 (by kernel_rfl)) 8 (by kernel_rfl)) 7 (by kernel_rfl)) 3 (by kernel_rfl)) 2 (by kernel_rfl)) 0 (by kernel_rfl)) (not_yet hk)
                    · exact absurd (hdn 2 (hdn 3 (hdn 7 (hdn 8 (hdn 19 (hdn 20 (hdn 30 hyl 20 (by kernel_rfl)) 19 (by kernel_rfl)) 8 (by kernel_rfl)) 7 (by kernel_rfl)) 3 (by kernel_rfl)) 2 (by kernel_rfl)) 1 (by kernel_rfl)) (not_yet hk)
                    · exact absurd (hdn 3 (hdn 7 (hdn 8 (hdn 19 (hdn 20 (hdn 30 hyl 20 (by kernel_rfl)) 19 (by kernel_rfl)) 8 (by kernel_rfl)) 7 (by kernel_rfl)) 3 (by kernel_rfl)) 2 (by kernel_rfl)) (not_yet hk)
                    · exact absurd (hdn 7 (hdn 8 (hdn 19 (hdn 20 (hdn 30 hyl 20 (by kernel_rfl)) 19 (by kernel_rfl)) 8 (by kernel_rfl)) 7 (by kernel_rfl)) 3 (by kernel_rfl)) (not_yet hk)
                    · exact absurd (hdn 6 (hdn 7 (hdn 8 (hdn 19 (hdn 20 (hdn 30 hyl 20 (by kernel_rfl)) 19 (by kernel_rfl)) 8 (by kernel_rfl)) 7 (by kernel_rfl)) 6 (by kernel_rfl)) 4 (by kernel_rfl)) (not_yet hk)
                    · exact absurd (hdn 6 (hdn 7 (hdn 8 (hdn 19 (hdn 20 (hdn 30 hyl 20 (by kernel_rfl)) 19 (by kernel_rfl)) 8 (by kernel_rfl)) 7 (by kernel_rfl)) 6 (by kernel_rfl)) 5 (by kernel_rfl)) (not_yet hk)
                    · exact absurd (hdn 7 (hdn 8 (hdn 19 (hdn 20 (hdn 30 hyl 20 (by kernel_rfl)) 19 (by kernel_rfl)) 8 (by kernel_rfl)) 7 (by kernel_rfl)) 6 (by kernel_rfl)) (not_yet hk)
                    · exact absurd (hdn 8 (hdn 19 (hdn 20 (hdn 30 hyl 20 (by kernel_rfl)) 19 (by kernel_rfl)) 8 (by kernel_rfl)) 7 (by kernel_rfl)) (not_yet hk)
                    · exact absurd (hdn 19 (hdn 20 (hdn 30 hyl 20 (by kernel_rfl)) 19 (by kernel_rfl)) 8 (by kernel_rfl)) (not_yet hk)
                    · exact absurd (hdn 11 (hdn 12 (hdn 17 (hdn 18 (hdn 19 (hdn 20 (hdn 30 hyl 20 (by kernel_rfl)) 19 (by kernel_rfl)) 18 (by kernel_rfl)) 17 (by kernel_rfl)) 12 (by kernel_rfl)) 11 (by kernel_rfl)) 9 (by kernel_rfl)) (not_yet hk)
                    · exact absurd (hdn 11 (hdn 12 (hdn 17 (hdn 18 (hdn 19 (hdn 20 (hdn 30 hyl 20 (by kernel_rfl)) 19 (by kernel_rfl)) 18 (by kernel_rfl)) 17 (by kernel_rfl)) 12 (by kernel_rfl)) 11 (by kernel_rfl)) 10 (by kernel_rfl)) (not_yet hk)
                    · exact absurd (hdn 12 (hdn 17 (hdn 18 (hdn 19 (hdn 20 (hdn 30 hyl 20 (by kernel_rfl)) 19 (by kernel_rfl)) 18 (by kernel_rfl)) 17 (by kernel_rfl)) 12 (by kernel_rfl)) 11 (by kernel_rfl)) (not_yet hk)
                    · exact absurd (hdn 17 (hdn 18 (hdn 19 (hdn 20 (hdn 30 hyl 20 (by kernel_rfl)) 19 (by kernel_rfl)) 18 (by kernel_rfl)) 17 (by kernel_rfl)) 12 (by kernel_rfl)) (not_yet hk)
                    · exact absurd (hdn 15 (hdn 16 (hdn 17 (hdn 18 (hdn 19 (hdn 20 (hdn 30 hyl 20 (by kernel_rfl)) 19 (by kernel_rfl)) 18 (by kernel_rfl)) 17 (by kernel_rfl)) 16 (by kernel_rfl)) 15 (by kernel_rfl)) 13 (by kernel_rfl)) (not_yet hk)
                    · exact absurd (hdn 15 (hdn 16 (hdn 17 (hdn 18 (hdn 19 (hdn 20 (hdn 30 hyl 20 (by kernel_rfl)) 19 (by kernel_rfl)) 18 (by kernel_rfl)) 17 (by kernel_rfl)) 16 (by kernel_rfl)) 15 (by kernel_rfl)) 14 (by kernel_rfl)) (not_yet hk)
                    · exact absurd (hdn 16 (hdn 17 (hdn 18 (hdn 19 (hdn 20 (hdn 30 hyl 20 (by kernel_rfl)) 19 (by kernel_rfl)) 18 (by kernel_rfl)) 17 (by kernel_rfl)) 16 (by kernel_rfl)) 15 (by kernel_rfl)) (not_yet hk)
                    · exact absurd (hdn 17 (hdn 18 (hdn 19 (hdn 20 (hdn 30 hyl 20 (by kernel_rfl)) 19 (by kernel_rfl)) 18 (by kernel_rfl)) 17 (by kernel_rfl)) 16 (by kernel_rfl)) (not_yet hk)
                    · exact absurd (hdn 18 (hdn 19 (hdn 20 (hdn 30 hyl 20 (by kernel_rfl)) 19 (by kernel_rfl)) 18 (by kernel_rfl)) 17 (by kernel_rfl)) (not_yet hk)
                    · exact absurd (hdn 19 (hdn 20 (hdn 30 hyl 20 (by kernel_rfl)) 19 (by kernel_rfl)) 18 (by kernel_rfl)) (not_yet hk)
                    · exact absurd (hdn 20 (hdn 30 hyl 20 (by kernel_rfl)) 19 (by kernel_rfl)) (not_yet hk)
                    · exact absurd (hdn 30 hyl 20 (by kernel_rfl)) (not_yet hk)
                    · exact absurd (hdn 23 (hdn 24 (hdn 30 hyl 24 (by kernel_rfl)) 23 (by kernel_rfl)) 21 (by kernel_rfl)) (not_yet hk)
                    · exact absurd (hdn 23 (hdn 24 (hdn 30 hyl 24 (by kernel_rfl)) 23 (by kernel_rfl)) 22 (by kernel_rfl)) (not_yet hk)
                    · exact absurd (hdn 24 (hdn 30 hyl 24 (by kernel_rfl)) 23 (by kernel_rfl)) (not_yet hk)
                    · exact absurd (hdn 30 hyl 24 (by kernel_rfl)) (not_yet hk)
                    · exact absurd (hdn 27 (hdn 28 (hdn 29 (hdn 30 hyl 29 (by kernel_rfl)) 28 (by kernel_rfl)) 27 (by kernel_rfl)) 25 (by kernel_rfl)) (not_yet hk)
                    · exact absurd (hdn 27 (hdn 28 (hdn 29 (hdn 30 hyl 29 (by kernel_rfl)) 28 (by kernel_rfl)) 27 (by kernel_rfl)) 26 (by kernel_rfl)) (not_yet hk)
                    · exact absurd (hdn 28 (hdn 29 (hdn 30 hyl 29 (by kernel_rfl)) 28 (by kernel_rfl)) 27 (by kernel_rfl)) (not_yet hk)
                    · exact absurd (hdn 29 (hdn 30 hyl 29 (by kernel_rfl)) 28 (by kernel_rfl)) (not_yet hk)
                    · exact absurd (hdn 30 hyl 29 (by kernel_rfl)) (not_yet hk)
                    · exact absurd rfl hne
                    · have hk3 := hk
                      have ea := (hF.done 30 (175, SP.is (.bool true)) (by rw [hD]; rfl) (ready_dep hk 30 (by kernel_rfl)))
                      exact wpOp_wanted rfl (wanted_g (g := 20) (b := false) rfl rfl (hF.done 20 (165, SP.is (.bool false)) (by rw [hD]; rfl) (ready_dep hk 20 (by kernel_rfl))) (by rw [hF.size, hsz]; decide)) (wp_notT true rfl ea ⟨(hF.put 31 176 (SP.is (.bool false)) (.bool false) (by rw [hD]; rfl) rfl (by rw [hD]; rfl) (by rw [hsz]; decide) (by rw [hl]; decide)), hU⟩)
                    · have hk3 := hk
                      have ea := (hF.done 20 (165, SP.is (.bool false)) (by rw [hD]; rfl) (ready_dep hk 20 (by kernel_rfl)))
                      have eb := (hF.done 31 (176, SP.is (.bool false)) (by rw [hD]; rfl) (ready_dep hk 31 (by kernel_rfl)))
                      exact wpOp_plain rfl rfl (wp_pick_f (.bool false) rfl ea eb ⟨(hF.put 32 177 (SP.is (.bool false)) (.bool false) (by rw [hD]; rfl) rfl (by rw [hD]; rfl) (by rw [hsz]; decide) (by rw [hl]; decide)), hU⟩)
                  · clear hb1 ra rb hGu
                    intro listed ac W hl hJ hr
                    replace hl : listed.size = 33 := hl
                    obtain ⟨hF, hU⟩ := hJ
                    have hall := all_listed (by kernel_rfl) hl hr
                    have h145 : ac.eval (.tmp 145) = .agg (vB dd).toArray := hF.done 0 (145, SP.is (.agg (vB dd).toArray)) (by rw [hD]; rfl) (hall 0 (by decide))
                    have h146 : ac.eval (.tmp 146) = .agg (vB dd).toArray := hF.done 1 (146, SP.is (.agg (vB dd).toArray)) (by rw [hD]; rfl) (hall 1 (by decide))
                    have h147 : ac.eval (.tmp 147) = .bool false := hF.done 2 (147, SP.is (.bool false)) (by rw [hD]; rfl) (hall 2 (by decide))
                    have h148 : ac.eval (.tmp 148) = .bool false := hF.done 3 (148, SP.is (.bool false)) (by rw [hD]; rfl) (hall 3 (by decide))
                    have h149 : ac.eval (.tmp 149) = .int .i64 E := hF.done 4 (149, SP.is (.int .i64 E)) (by rw [hD]; rfl) (hall 4 (by decide))
                    have h150 : ac.eval (.tmp 150) = .int .i64 E := hF.done 5 (150, SP.is (.int .i64 E)) (by rw [hD]; rfl) (hall 5 (by decide))
                    have h151 : ac.eval (.tmp 151) = .bool false := hF.done 6 (151, SP.is (.bool false)) (by rw [hD]; rfl) (hall 6 (by decide))
                    have h152 : ac.eval (.tmp 152) = .bool false := hF.done 7 (152, SP.is (.bool false)) (by rw [hD]; rfl) (hall 7 (by decide))
                    have h153 : ac.eval (.tmp 153) = .bool false := hF.done 8 (153, SP.is (.bool false)) (by rw [hD]; rfl) (hall 8 (by decide))
                    have h154 : ac.eval (.tmp 154) = .slice (some ⟨F, 0, none⟩) (N + 3) (N + 3) := hF.done 9 (154, SP.is (.slice (some ⟨F, 0, none⟩) (N + 3) (N + 3))) (by rw [hD]; rfl) (hall 9 (by decide))
                    have h155 : ac.eval (.tmp 155) = .int .i64 (i : Int) := hF.done 10 (155, SP.is (.int .i64 (i : Int))) (by rw [hD]; rfl) (hall 10 (by decide))
                    have h156 : ac.eval (.tmp 156) = .pointer (some ⟨F, qF, none⟩) := hF.done 11 (156, SP.is (.pointer (some ⟨F, qF, none⟩))) (by rw [hD]; rfl) (hall 11 (by decide))
                    have h157 : ac.eval (.tmp 157) = .agg Lx.toArray := hF.done 12 (157, SP.is (.agg Lx.toArray)) (by rw [hD]; rfl) (hall 12 (by decide))
                    have h158 : ac.eval (.tmp 158) = .slice (some ⟨b, o, none⟩) N c0 := hF.done 13 (158, SP.is (.slice (some ⟨b, o, none⟩) N c0)) (by rw [hD]; rfl) (hall 13 (by decide))
                    have h159 : ac.eval (.tmp 159) = .int .i64 (i : Int) := hF.done 14 (159, SP.is (.int .i64 (i : Int))) (by rw [hD]; rfl) (hall 14 (by decide))
                    have h160 : ac.eval (.tmp 160) = .pointer (some ⟨b, q, none⟩) := hF.done 15 (160, SP.is (.pointer (some ⟨b, q, none⟩))) (by rw [hD]; rfl) (hall 15 (by decide))
                    have h161 : ac.eval (.tmp 161) = .agg L.toArray := hF.done 16 (161, SP.is (.agg L.toArray)) (by rw [hD]; rfl) (hall 16 (by decide))
                    have h162 : ac.eval (.tmp 162) = .bool true := hF.done 17 (162, SP.is (.bool true)) (by rw [hD]; rfl) (hall 17 (by decide))
                    have h163 : ac.eval (.tmp 163) = .bool false := hF.done 18 (163, SP.is (.bool false)) (by rw [hD]; rfl) (hall 18 (by decide))
                    have h164 : ac.eval (.tmp 164) = .bool false := hF.done 19 (164, SP.is (.bool false)) (by rw [hD]; rfl) (hall 19 (by decide))
                    have h165 : ac.eval (.tmp 165) = .bool false := hF.done 20 (165, SP.is (.bool false)) (by rw [hD]; rfl) (hall 20 (by decide))
                    have h166 : ac.eval (.tmp 166) = .slice (some ⟨g8, 0, none⟩) N c8 := hF.done 21 (166, SP.is (.slice (some ⟨g8, 0, none⟩) N c8)) (by rw [hD]; rfl) (hall 21 (by decide))
                    have h167 : ac.eval (.tmp 167) = .int .i64 (i : Int) := hF.done 22 (167, SP.is (.int .i64 (i : Int))) (by rw [hD]; rfl) (hall 22 (by decide))
                    have h168 : ac.eval (.tmp 168) = .pointer (some ⟨g8, q8, none⟩) := hF.done 23 (168, SP.is (.pointer (some ⟨g8, q8, none⟩))) (by rw [hD]; rfl) (hall 23 (by decide))
                    have h169 : ac.eval (.tmp 169) = .slice (some ⟨g, 0, none⟩) (n + 8) (n + 8) := hF.done 24 (169, SP.is (.slice (some ⟨g, 0, none⟩) (n + 8) (n + 8))) (by rw [hD]; rfl) (hall 24 (by decide))
                    have h170 : ac.eval (.tmp 170) = .slice (some ⟨b, o, none⟩) N c0 := hF.done 25 (170, SP.is (.slice (some ⟨b, o, none⟩) N c0)) (by rw [hD]; rfl) (hall 25 (by decide))
                    have h171 : ac.eval (.tmp 171) = .int .i64 (i : Int) := hF.done 26 (171, SP.is (.int .i64 (i : Int))) (by rw [hD]; rfl) (hall 26 (by decide))
                    have h172 : ac.eval (.tmp 172) = .pointer (some ⟨b, q, none⟩) := hF.done 27 (172, SP.is (.pointer (some ⟨b, q, none⟩))) (by rw [hD]; rfl) (hall 27 (by decide))
                    have h173 : ac.eval (.tmp 173) = .pointer (some ⟨b, q + 48, none⟩) := hF.done 28 (173, SP.is (.pointer (some ⟨b, q + 48, none⟩))) (by rw [hD]; rfl) (hall 28 (by decide))
                    have h174 : ac.eval (.tmp 174) = .slice A' n c' := hF.done 29 (174, SP.is (.slice A' n c')) (by rw [hD]; rfl) (hall 29 (by decide))
                    have h175 : ac.eval (.tmp 175) = .bool true := hF.done 30 (175, SP.is (.bool true)) (by rw [hD]; rfl) (hall 30 (by decide))
                    have h176 : ac.eval (.tmp 176) = .bool false := hF.done 31 (176, SP.is (.bool false)) (by rw [hD]; rfl) (hall 31 (by decide))
                    have h177 : ac.eval (.tmp 177) = .bool false := hF.done 32 (177, SP.is (.bool false)) (by rw [hD]; rfl) (hall 32 (by decide))
                    have ea := hF.lay [(145, .agg (vB dd).toArray), (146, .agg (vB dd).toArray), (147, .bool false), (148, .bool false), (149, .int .i64 E), (150, .int .i64 E), (151, .bool false), (152, .bool false), (153, .bool false), (154, .slice (some ⟨F, 0, none⟩) (N + 3) (N + 3)), (155, .int .i64 (i : Int)), (156, .pointer (some ⟨F, qF, none⟩)), (157, .agg Lx.toArray), (158, .slice (some ⟨b, o, none⟩) N c0), (159, .int .i64 (i : Int)), (160, .pointer (some ⟨b, q, none⟩)), (161, .agg L.toArray), (162, .bool true), (163, .bool false), (164, .bool false), (165, .bool false), (166, .slice (some ⟨g8, 0, none⟩) N c8), (167, .int .i64 (i : Int)), (168, .pointer (some ⟨g8, q8, none⟩)), (169, .slice (some ⟨g, 0, none⟩) (n + 8) (n + 8)), (170, .slice (some ⟨b, o, none⟩) N c0), (171, .int .i64 (i : Int)), (172, .pointer (some ⟨b, q, none⟩)), (173, .pointer (some ⟨b, q + 48, none⟩)), (174, .slice A' n c'), (175, .bool true), (176, .bool false), (177, .bool false)] (by rw [hD, hsz]; rfl) (by simp only [List.forall_mem_cons, List.not_mem_nil, false_implies, implies_true, and_true]; exact ⟨h145, h146, h147, h148, h149, h150, h151, h152, h153, h154, h155, h156, h157, h158, h159, h160, h161, h162, h163, h164, h165, h166, h167, h168, h169, h170, h171, h172, h173, h174, h175, h176, h177⟩)
                    rw [ha0] at ea
                    simp only [List.foldl_cons, List.foldl_nil, List.setIfInBounds_toArray, List.set_cons_zero, List.set_cons_succ] at ea
                    clear hF hall hr hl hD zs1 zs7 zs8 zs16 zs17 zs18 zs19 zs20 ha0 hsz h145 h146 h147 h148 h149 h150 h151 h152 h153 h154 h155 h156 h157 h158 h159 h160 h161 h162 h163 h164 h165 h166 h167 h168 h169 h170 h171 h172 h173 h174 h175 h176 h177
                    subst ea
                    obtain ⟨Y3, hY3⟩ : ∃ Y, Y = W := ⟨_, rfl⟩
                    rw [← hY3] at hU ⊢
                    obtain ⟨bs2, hbs2⟩ : ∃ b, b = bs.set i (flp (e.d ++ mk8)) := ⟨_, rfl⟩
                    rw [← hbs2] at hU
                    have HG3 : Hid (Gu X3 Y3 F N (some ⟨g8, 0, none⟩) c8 es cs2 gs bs2 gl cl kk) := hU.1
                    have RA3 : Hid (Row Y3 bA (vB dd) 51) := hU.2.1
                    have RB3 : Hid (Row Y3 bB (vB dd) 51) := hU.2.2
                    have HBI2 : Hid (bs2[i]? = some (flp (e.d ++ mk8))) := by show _ = _; rw [hbs2, List.getElem?_set_self ((List.getElem?_eq_some_iff.1 HBI.out).1)]
                    have HBS2 : Hid (∀ (j : Nat) (e' : Ev), es[j]? = some e' → bs2[j]? = some (if j < i + 1 then flp (e'.d ++ mk8) else e'.d ++ mk8)) := fun j e' he' => by
                      by_cases hji : j = i
                      · subst hji
                        rw [HE.out] at he'; cases he'
                        rw [if_pos (by omega)]
                        exact HBI2.out
                      · rw [hbs2, List.getElem?_set_ne (Ne.symm hji), HBS.out j e' he']
                        by_cases hj2 : j < i
                        · rw [if_pos hj2, if_pos (by omega)]
                        · rw [if_neg hj2, if_neg (by omega)]
                    clear hY3 hU hbs2 HUN HSX HV8 HSM HG2 RA2 RB2 HNP HND HRl HRx HRd HBI HBS HGu HQ8
                    have HSX2 : Hid (∀ X, Gu X3 X F N (some ⟨g8, 0, none⟩) c8 es cs2 gs bs2 gl cl kk → SlAt X (.slice (some ⟨g, 0, none⟩) n (n + 8)) (flp e.d) ∧ X.rangeAt F qF Lx) := fun X k1 => by
                      obtain ⟨g', z1, _, z2, z3, _⟩ := k1.fu.place i hlt e HE.out (flp (e.d ++ mk8)) HBI2.out
                      rw [HGG.out] at z1; cases z1
                      rw [wb_flp] at z2 z3
                      have hl : (e.wb (flp e.d)).d.length = n := by show (flp e.d).length = n; rw [flp_len, HNE.out]
                      rw [hl, ← HNE.out, HQF.out] at z2
                      rw [hl, ← HNE.out] at z3
                      rw [HLX.out]
                      exact ⟨z3, z2⟩
                    obtain ⟨dd2, hdd2⟩ : ∃ d, d = nxg kki (e.wb (flp e.d)) := ⟨_, rfl⟩
                    obtain ⟨E9, hE9⟩ : ∃ E, E = nxE (e.wb (flp e.d)) := ⟨_, rfl⟩
                    have hd2 : dd2.length = 32 := by rw [hdd2]; exact nxg_len _ _
                    have HBG : Hid (∀ X, Gu X3 X F N (some ⟨g8, 0, none⟩) c8 es cs2 gs bs2 gl cl kk → Below w.heap.size w X) := fun X k1 => B3.out.trans (k1.fu.be.mono B3.out.size)
                    have HLN : Hid ((e.wb (flp e.d)).d.length = n) := by show (flp e.d).length = n; rw [flp_len, HNE.out]
                    have HNP2 : Hid (∀ X, Gu X3 X F N (some ⟨g8, 0, none⟩) c8 es cs2 gs bs2 gl cl kk → Calls Tryz.prog 15 #[.agg (vB kki).toArray, .agg Lx.toArray] X fun r w' => r = .returned (.tuple #[.agg (vB dd2).toArray, .int .i64 E9]) ∧ Below X.heap.size X w') := fun X k1 => inext_any (e.wb (flp e.d)) (Ev.wb_wf HWE.out _) kki dd2 HKI2.out.2 hdd2 E9 hE9 _ n (n + 8) HLN.out (fun q => by cases q) Lx HLX.out X (HGW.out X (HBG.out X k1)).cub (HSX2.out X k1).1
                    have HND2 : Hid (∀ X, Gu X3 X F N (some ⟨g8, 0, none⟩) c8 es cs2 gs bs2 gl cl kk → Calls Tryz.prog 16 #[.agg (vB kki).toArray, .agg Lx.toArray] X fun r w' => r = .returned (.tuple #[.agg (vB dd2).toArray, .int .i64 E9]) ∧ Below X.heap.size X w') := fun X k1 => dnext_any (e.wb (flp e.d)) (Ev.wb_wf HWE.out _) kki dd2 HKI2.out.2 hdd2 E9 hE9 _ n (n + 8) HLN.out (fun q => by cases q) Lx HLX.out X (HGW.out X (HBG.out X k1)) (HSX2.out X k1).1
                    have HRD2 : Hid (∀ X, Gu X3 X F N (some ⟨g8, 0, none⟩) c8 es cs2 gs bs2 gl cl kk → X.rangeAt gl qd (vB kki)) := fun X k1 => by rw [HKI2.out.1]; exact k1.link HKK.out i qd hi HQD.out
                    have HI2 : Hid ((Tryz.prog.info? 51).map (·.size) = some (vB dd2).length) := dgI15 dd2 hd2
                    have HIJ2 : Hid ((Tryz.prog.info? 51).map (·.size) = some (vB dd2).toArray.size) := by show _ = _; rw [List.size_toArray]; exact HI2.out
                    have HDL2 : Hid ((vB dd2).length = (vB dd).length) := by show _ = _; rw [vB_length, vB_length, hd2, HDD32.out]
                    have HDT2 : Hid (0 + (vB dd2).toArray.size ≤ (vB dd).length) := by show _ ≤ _; rw [List.size_toArray, HDL2.out]; omega
                    have HDD2 : Hid (dd2.length = 32) := hd2
                    have ha3 : X3.heap.size ≤ bA := Nat.le_trans BXw.out.size HA3.out
                    have hab : bA < bB := HAB.out
                    have hb3 : X3.heap.size ≤ bB := by omega
                    have HA13 : Hid (bA ≠ gl) := by have h1 := HGLT.out; have h2 := HA3.out; show _ ≠ _; omega
                    have HB13 : Hid (bB ≠ gl) := by have h1 := HGLT.out; have h2 := HA3.out; show _ ≠ _; omega
                    clear hdd2 hE9 hd2
                    go_upto_region 29 with fail
                    have ra := RA3.out
                    have rb := RB3.out
                    have hGu := HG3.out
                    have hb1 := HG3.out.fu.be
                    refine wp_named fun a0 ha0 => ?_
                    have hsz : a0.tmps.size = 236 := by rw [ha0]; rfl
                    have zs12 : a0.eval (.tmp 12) = .slice (some ⟨F, 0, none⟩) N (N + 3) := by rw [ha0]; rfl
                    have zs13 : a0.eval (.tmp 13) = .slice (some ⟨gl, 0, none⟩) (N + 1) cl := by rw [ha0]; rfl
                    have zs16 : a0.eval (.tmp 16) = .int .i64 (i : Int) := by rw [ha0]; rfl
                    have zs17 : a0.eval (.tmp 17) = .pointer (some ⟨bA, 0, none⟩) := by rw [ha0]; rfl
                    have zs19 : a0.eval (.tmp 19) = .pointer (some ⟨bB, 0, none⟩) := by rw [ha0]; rfl
                    obtain ⟨D, hD⟩ : ∃ D : List (Tmp × SP), D = [(179, SP.is (.slice (some ⟨gl, 0, none⟩) (N + 1) cl)), (180, SP.is (.int .i64 (i : Int))), (181, SP.is (.pointer (some ⟨gl, qd, none⟩))), (182, SP.is (.agg (vB kki).toArray)), (183, SP.is (.slice (some ⟨F, 0, none⟩) N (N + 3))), (184, SP.is (.int .i64 (i : Int))), (185, SP.is (.pointer (some ⟨F, qF, none⟩))), (186, SP.is (.agg Lx.toArray)), (187, SP.is (.tuple #[.agg (vB dd2).toArray, .int .i64 E9])), (178, SP.is (.tuple #[.agg (vB dd2).toArray, .int .i64 E9])), (188, SP.is (.agg (vB dd2).toArray)), (189, SP.is (.int .i64 E9)), (1000, SP.any), (18, SP.is (.int .i64 E9))] := ⟨_, rfl⟩
                    refine wp_region_down (by kernel_rfl) (fun listed ac W => listed.size = 14 ∧ Fp D a0 listed ac W ∧ Below X3.heap.size X3 W ∧ Row W bA (if listed.getD 12 false = true then (vB dd2) else (vB dd)) 51 ∧ Row W bB ((vB dd)) 51 ∧ Gu X3 W F N (some ⟨g8, 0, none⟩) c8 es cs2 gs bs2 gl cl kk) ?_ ?_ ?_
                    · exact ⟨by simp, Fp.start D a0 _ _, Below.drew hb1, (by rw [if_neg (fun h => start_no h)]; exact Row.drew ra), Row.drew rb, hGu.below (Below.drew (Below.refl _ _))⟩
                    · clear ha0 hb1 ra rb hGu 
                      intro listed ac W k hI hdn hk
                      obtain ⟨hl, hF, hb1, ra, rb, hGu⟩ := hI
                      have hk1 : k < 14 := List.mem_range.1 (List.mem_filter.1 hk).1
                      have hl2 : ∀ j, (listed.setIfInBounds j true).size = 14 := fun j => by rw [Array.size_setIfInBounds]; exact hl
                      rcases (show k = 0 ∨ k = 1 ∨ k = 2 ∨ k = 3 ∨ k = 4 ∨ k = 5 ∨ k = 6 ∨ k = 7 ∨ k = 8 ∨ k = 9 ∨ k = 10 ∨ k = 11 ∨ k = 12 ∨ k = 13 by omega) with rfl | rfl | rfl | rfl | rfl | rfl | rfl | rfl | rfl | rfl | rfl | rfl | rfl | rfl
                      · have hk3 := hk
                        exact wpOp_plain rfl rfl (wp_move_v (ac.eval (.tmp 13)) rfl rfl ⟨hl2 0, (hF.put 0 179 (SP.is (.slice (some ⟨gl, 0, none⟩) (N + 1) cl)) (ac.eval (.tmp 13)) (by rw [hD]; rfl) (((hF.keep 13 (by rw [hD]; rfl)).trans zs13)) (by rw [hD]; rfl) (by rw [hsz]; decide) (by rw [hl]; decide)), hb1, (by rw [getD_set _ _ _ (by decide)]; exact ra), rb, hGu⟩)
                      · have hk3 := hk
                        exact wpOp_plain rfl rfl (wp_move_v (ac.eval (.tmp 16)) rfl rfl ⟨hl2 1, (hF.put 1 180 (SP.is (.int .i64 (i : Int))) (ac.eval (.tmp 16)) (by rw [hD]; rfl) (((hF.keep 16 (by rw [hD]; rfl)).trans zs16)) (by rw [hD]; rfl) (by rw [hsz]; decide) (by rw [hl]; decide)), hb1, (by rw [getD_set _ _ _ (by decide)]; exact ra), rb, hGu⟩)
                      · have hk3 := hk
                        have ea := (hF.done 0 (179, SP.is (.slice (some ⟨gl, 0, none⟩) (N + 1) cl)) (by rw [hD]; rfl) (ready_dep hk 0 (by kernel_rfl)))
                        have eb := (hF.done 1 (180, SP.is (.int .i64 (i : Int))) (by rw [hD]; rfl) (ready_dep hk 1 (by kernel_rfl)))
                        exact wpOp_plain rfl rfl (wp_ixO 54 51 rfl gl 0 (N + 1) cl i 32 qd HQD.out ea eb HIN1.out Tryz.underlying54 info_dg ⟨hl2 2, (hF.put 2 181 (SP.is (.pointer (some ⟨gl, qd, none⟩))) (.pointer (some ⟨gl, qd, none⟩)) (by rw [hD]; rfl) rfl (by rw [hD]; rfl) (by rw [hsz]; decide) (by rw [hl]; decide)), hb1, (by rw [getD_set _ _ _ (by decide)]; exact ra), rb, hGu⟩)
                      · have hk3 := hk
                        have ea := (hF.done 2 (181, SP.is (.pointer (some ⟨gl, qd, none⟩))) (by rw [hD]; rfl) (ready_dep hk 2 (by kernel_rfl)))
                        exact wpOp_plain rfl rfl (wp_load_mid 51 (.tmp 181) rfl gl qd ea (vB kki) _ (HRD2.out W hGu) Tryz.underlying51 rfl HIk.out ⟨hl2 3, (hF.put 3 182 (SP.is (.agg (vB kki).toArray)) (.agg (vB kki).toArray) (by rw [hD]; rfl) rfl (by rw [hD]; rfl) (by rw [hsz]; decide) (by rw [hl]; decide)), hb1, (by rw [getD_set _ _ _ (by decide)]; exact ra), rb, hGu⟩)
                      · have hk3 := hk
                        exact wpOp_plain rfl rfl (wp_move_v (ac.eval (.tmp 12)) rfl rfl ⟨hl2 4, (hF.put 4 183 (SP.is (.slice (some ⟨F, 0, none⟩) N (N + 3))) (ac.eval (.tmp 12)) (by rw [hD]; rfl) (((hF.keep 12 (by rw [hD]; rfl)).trans zs12)) (by rw [hD]; rfl) (by rw [hsz]; decide) (by rw [hl]; decide)), hb1, (by rw [getD_set _ _ _ (by decide)]; exact ra), rb, hGu⟩)
                      · have hk3 := hk
                        exact wpOp_plain rfl rfl (wp_move_v (ac.eval (.tmp 16)) rfl rfl ⟨hl2 5, (hF.put 5 184 (SP.is (.int .i64 (i : Int))) (ac.eval (.tmp 16)) (by rw [hD]; rfl) (((hF.keep 16 (by rw [hD]; rfl)).trans zs16)) (by rw [hD]; rfl) (by rw [hsz]; decide) (by rw [hl]; decide)), hb1, (by rw [getD_set _ _ _ (by decide)]; exact ra), rb, hGu⟩)
                      · have hk3 := hk
                        have ea := (hF.done 4 (183, SP.is (.slice (some ⟨F, 0, none⟩) N (N + 3))) (by rw [hD]; rfl) (ready_dep hk 4 (by kernel_rfl)))
                        have eb := (hF.done 5 (184, SP.is (.int .i64 (i : Int))) (by rw [hD]; rfl) (ready_dep hk 5 (by kernel_rfl)))
                        exact wpOp_plain rfl rfl (wp_ixO 52 46 rfl F 0 N (N + 3) i 49 qF HQF.out ea eb HIN.out Tryz.underlying52 info_ent ⟨hl2 6, (hF.put 6 185 (SP.is (.pointer (some ⟨F, qF, none⟩))) (.pointer (some ⟨F, qF, none⟩)) (by rw [hD]; rfl) rfl (by rw [hD]; rfl) (by rw [hsz]; decide) (by rw [hl]; decide)), hb1, (by rw [getD_set _ _ _ (by decide)]; exact ra), rb, hGu⟩)
                      · have hk3 := hk
                        have ea := (hF.done 6 (185, SP.is (.pointer (some ⟨F, qF, none⟩))) (by rw [hD]; rfl) (ready_dep hk 6 (by kernel_rfl)))
                        exact wpOp_plain rfl rfl (wp_load_mid 46 (.tmp 185) rfl F qF ea Lx _ ((HSX2.out W hGu).2) Tryz.underlying46 rfl HIx.out ⟨hl2 7, (hF.put 7 186 (SP.is (.agg Lx.toArray)) (.agg Lx.toArray) (by rw [hD]; rfl) rfl (by rw [hD]; rfl) (by rw [hsz]; decide) (by rw [hl]; decide)), hb1, (by rw [getD_set _ _ _ (by decide)]; exact ra), rb, hGu⟩)
                      · have hk3 := hk
                        have e182 := (hF.done 3 (182, SP.is (.agg (vB kki).toArray)) (by rw [hD]; rfl) (ready_dep hk 3 (by kernel_rfl)))
                        have e186 := (hF.done 7 (186, SP.is (.agg Lx.toArray)) (by rw [hD]; rfl) (ready_dep hk 7 (by kernel_rfl)))
                        refine wpOp_plain rfl rfl (wp_fcall_v 15 #[.agg (vB kki).toArray, .agg Lx.toArray] rfl rfl (by show [ac.eval (.tmp 182), ac.eval (.tmp 186)] = _; rw [show ac.eval (.tmp 182) = _ from e182, show ac.eval (.tmp 186) = _ from e186]) (by go_simp) ((HNP2.out W hGu).mono ?_))
                        rintro e W2 ⟨rfl, hB⟩
                        exact ⟨_, rfl, hl2 8, ((hF.world hB).put 8 187 (SP.is (.tuple #[.agg (vB dd2).toArray, .int .i64 E9])) (.tuple #[.agg (vB dd2).toArray, .int .i64 E9]) (by rw [hD]; rfl) rfl (by rw [hD]; rfl) (by rw [hsz]; decide) (by rw [hl]; decide)), hb1.trans (hB.mono hb1.size), (by rw [getD_set _ _ _ (by decide)]; exact Row.below ra hB (Row.lt ra)), Row.below rb hB (Row.lt rb), hGu.below hB⟩
                      · have hk3 := hk
                        exact wpOp_plain rfl rfl (wp_move_v (ac.eval (.tmp 187)) rfl rfl ⟨hl2 9, (hF.put 9 178 (SP.is (.tuple #[.agg (vB dd2).toArray, .int .i64 E9])) (ac.eval (.tmp 187)) (by rw [hD]; rfl) ((hF.done 8 (187, SP.is (.tuple #[.agg (vB dd2).toArray, .int .i64 E9])) (by rw [hD]; rfl) (ready_dep hk 8 (by kernel_rfl)))) (by rw [hD]; rfl) (by rw [hsz]; decide) (by rw [hl]; decide)), hb1, (by rw [getD_set _ _ _ (by decide)]; exact ra), rb, hGu⟩)
                      · have hk3 := hk
                        exact wpOp_plain rfl rfl (wp_extract (.tmp 178) 0 rfl _ (hF.done 9 (178, SP.is (.tuple #[.agg (vB dd2).toArray, .int .i64 E9])) (by rw [hD]; rfl) (ready_dep hk 9 (by kernel_rfl))) (.agg (vB dd2).toArray) rfl ⟨hl2 10, (hF.put 10 188 (SP.is (.agg (vB dd2).toArray)) (.agg (vB dd2).toArray) (by rw [hD]; rfl) rfl (by rw [hD]; rfl) (by rw [hsz]; decide) (by rw [hl]; decide)), hb1, (by rw [getD_set _ _ _ (by decide)]; exact ra), rb, hGu⟩)
                      · have hk3 := hk
                        exact wpOp_plain rfl rfl (wp_extract (.tmp 178) 1 rfl _ (hF.done 9 (178, SP.is (.tuple #[.agg (vB dd2).toArray, .int .i64 E9])) (by rw [hD]; rfl) (ready_dep hk 9 (by kernel_rfl))) (.int .i64 E9) rfl ⟨hl2 11, (hF.put 11 189 (SP.is (.int .i64 E9)) (.int .i64 E9) (by rw [hD]; rfl) rfl (by rw [hD]; rfl) (by rw [hsz]; decide) (by rw [hl]; decide)), hb1, (by rw [getD_set _ _ _ (by decide)]; exact ra), rb, hGu⟩)
                      · have hk3 := hk
                        have hno : ¬ listed.getD 12 false = true := not_yet hk
                        rw [if_neg hno] at ra
                        have T := ra.there 0 (vB dd2).toArray.size HDT2.out
                        have fin := ra.over (vs := (vB dd2)) HDL2.out
                        have hT : Fp D a0 listed ac (W.setCells bA 0 (vB dd2)) := hF.turn (by rw [hD]; simp only [List.forall_mem_cons, List.not_mem_nil, false_implies, implies_true, and_true]; exact ⟨fun _ h => h, fun _ h => h, fun _ h => h, fun _ h => h, fun _ h => h, fun _ h => h, fun _ h => h, fun _ h => h, fun _ h => h, fun _ h => h, fun _ h => h, fun _ h => h, fun _ h => h, fun _ h => h⟩)
                        exact wpOp_plain rfl rfl (wp_store_mid 51 (.tmp 17) (.tmp 188) rfl bA 0 (vB dd2).toArray ((hF.keep 17 (by rw [hD]; rfl)).trans zs17) (hF.done 10 (188, SP.is (.agg (vB dd2).toArray)) (by rw [hD]; rfl) (ready_dep hk 10 (by kernel_rfl))) T HIJ2.out (all_oneCell_toArray (vB_one dd2)) ⟨hl2 12, (hT.skip 12 1000 (by rw [hD]; rfl) (by rw [hl]; decide)), below_setCells hb1 (by omega) _, (by rw [if_pos (getD_same (by rw [hl]; decide))]; exact fin), Row.setCells_other rb _ _ _ (by omega), (hGu.sets ra HA13.out ha3 0 (vB dd2))⟩)
                      · have hk3 := hk
                        exact wpOp_plain rfl rfl (wp_assign_v (ac.eval (.tmp 189)) rfl rfl ⟨hl2 13, (hF.put 13 18 (SP.is (.int .i64 E9)) (ac.eval (.tmp 189)) (by rw [hD]; rfl) ((hF.done 11 (189, SP.is (.int .i64 E9)) (by rw [hD]; rfl) (ready_dep hk 11 (by kernel_rfl)))) (by rw [hD]; rfl) (by rw [hsz]; decide) (by rw [hl]; decide)), hb1, (by rw [getD_set _ _ _ (by decide)]; exact ra), rb, hGu⟩)
                    · clear hb1 ra rb hGu 
                      intro listed ac W hI hr
                      obtain ⟨hl, hF, hb1, ra, rb, hGu⟩ := hI
                      have hall := all_listed (by kernel_rfl) hl hr
                      rw [if_pos (hall 12 (by decide))] at ra
                      have h179 : ac.eval (.tmp 179) = .slice (some ⟨gl, 0, none⟩) (N + 1) cl := hF.done 0 (179, SP.is (.slice (some ⟨gl, 0, none⟩) (N + 1) cl)) (by rw [hD]; rfl) (hall 0 (by decide))
                      have h180 : ac.eval (.tmp 180) = .int .i64 (i : Int) := hF.done 1 (180, SP.is (.int .i64 (i : Int))) (by rw [hD]; rfl) (hall 1 (by decide))
                      have h181 : ac.eval (.tmp 181) = .pointer (some ⟨gl, qd, none⟩) := hF.done 2 (181, SP.is (.pointer (some ⟨gl, qd, none⟩))) (by rw [hD]; rfl) (hall 2 (by decide))
                      have h182 : ac.eval (.tmp 182) = .agg (vB kki).toArray := hF.done 3 (182, SP.is (.agg (vB kki).toArray)) (by rw [hD]; rfl) (hall 3 (by decide))
                      have h183 : ac.eval (.tmp 183) = .slice (some ⟨F, 0, none⟩) N (N + 3) := hF.done 4 (183, SP.is (.slice (some ⟨F, 0, none⟩) N (N + 3))) (by rw [hD]; rfl) (hall 4 (by decide))
                      have h184 : ac.eval (.tmp 184) = .int .i64 (i : Int) := hF.done 5 (184, SP.is (.int .i64 (i : Int))) (by rw [hD]; rfl) (hall 5 (by decide))
                      have h185 : ac.eval (.tmp 185) = .pointer (some ⟨F, qF, none⟩) := hF.done 6 (185, SP.is (.pointer (some ⟨F, qF, none⟩))) (by rw [hD]; rfl) (hall 6 (by decide))
                      have h186 : ac.eval (.tmp 186) = .agg Lx.toArray := hF.done 7 (186, SP.is (.agg Lx.toArray)) (by rw [hD]; rfl) (hall 7 (by decide))
                      have h187 : ac.eval (.tmp 187) = .tuple #[.agg (vB dd2).toArray, .int .i64 E9] := hF.done 8 (187, SP.is (.tuple #[.agg (vB dd2).toArray, .int .i64 E9])) (by rw [hD]; rfl) (hall 8 (by decide))
                      have h178 : ac.eval (.tmp 178) = .tuple #[.agg (vB dd2).toArray, .int .i64 E9] := hF.done 9 (178, SP.is (.tuple #[.agg (vB dd2).toArray, .int .i64 E9])) (by rw [hD]; rfl) (hall 9 (by decide))
                      have h188 : ac.eval (.tmp 188) = .agg (vB dd2).toArray := hF.done 10 (188, SP.is (.agg (vB dd2).toArray)) (by rw [hD]; rfl) (hall 10 (by decide))
                      have h189 : ac.eval (.tmp 189) = .int .i64 E9 := hF.done 11 (189, SP.is (.int .i64 E9)) (by rw [hD]; rfl) (hall 11 (by decide))
                      have h18 : ac.eval (.tmp 18) = .int .i64 E9 := hF.done 13 (18, SP.is (.int .i64 E9)) (by rw [hD]; rfl) (hall 13 (by decide))
                      have ea := hF.lay [(179, .slice (some ⟨gl, 0, none⟩) (N + 1) cl), (180, .int .i64 (i : Int)), (181, .pointer (some ⟨gl, qd, none⟩)), (182, .agg (vB kki).toArray), (183, .slice (some ⟨F, 0, none⟩) N (N + 3)), (184, .int .i64 (i : Int)), (185, .pointer (some ⟨F, qF, none⟩)), (186, .agg Lx.toArray), (187, .tuple #[.agg (vB dd2).toArray, .int .i64 E9]), (178, .tuple #[.agg (vB dd2).toArray, .int .i64 E9]), (188, .agg (vB dd2).toArray), (189, .int .i64 E9), (18, .int .i64 E9)] (by rw [hD, hsz]; rfl) (by simp only [List.forall_mem_cons, List.not_mem_nil, false_implies, implies_true, and_true]; exact ⟨h179, h180, h181, h182, h183, h184, h185, h186, h187, h178, h188, h189, h18⟩)
                      rw [ha0] at ea
                      simp only [List.foldl_cons, List.foldl_nil, List.setIfInBounds_toArray, List.set_cons_zero, List.set_cons_succ] at ea
                      clear hF hall hr hl hD  zs12 zs13 zs16 zs17 zs19 ha0 hsz h179 h180 h181 h182 h183 h184 h185 h186 h187 h178 h188 h189 h18
                      subst ea
                      obtain ⟨Y4, hY4⟩ : ∃ Y, Y = W := ⟨_, rfl⟩
                      rw [← hY4] at hGu ra rb hb1 ⊢
                      clear hY4 HG3 RA3 RB3 HNP2
                      go_upto_region 30 with fail
                      refine wp_named fun a0 ha0 => ?_
                      have hsz : a0.tmps.size = 236 := by rw [ha0]; rfl
                      have zs12 : a0.eval (.tmp 12) = .slice (some ⟨F, 0, none⟩) N (N + 3) := by rw [ha0]; rfl
                      have zs13 : a0.eval (.tmp 13) = .slice (some ⟨gl, 0, none⟩) (N + 1) cl := by rw [ha0]; rfl
                      have zs16 : a0.eval (.tmp 16) = .int .i64 (i : Int) := by rw [ha0]; rfl
                      have zs17 : a0.eval (.tmp 17) = .pointer (some ⟨bA, 0, none⟩) := by rw [ha0]; rfl
                      have zs19 : a0.eval (.tmp 19) = .pointer (some ⟨bB, 0, none⟩) := by rw [ha0]; rfl
                      obtain ⟨D, hD⟩ : ∃ D : List (Tmp × SP), D = [(191, SP.is (.slice (some ⟨gl, 0, none⟩) (N + 1) cl)), (192, SP.is (.int .i64 (i : Int))), (193, SP.is (.pointer (some ⟨gl, qd, none⟩))), (194, SP.is (.agg (vB kki).toArray)), (195, SP.is (.slice (some ⟨F, 0, none⟩) N (N + 3))), (196, SP.is (.int .i64 (i : Int))), (197, SP.is (.pointer (some ⟨F, qF, none⟩))), (198, SP.is (.agg Lx.toArray)), (199, SP.is (.tuple #[.agg (vB dd2).toArray, .int .i64 E9])), (190, SP.is (.tuple #[.agg (vB dd2).toArray, .int .i64 E9])), (200, SP.is (.agg (vB dd2).toArray)), (201, SP.is (.int .i64 E9)), (1000, SP.any), (20, SP.is (.int .i64 E9))] := ⟨_, rfl⟩
                      refine wp_region_down (by kernel_rfl) (fun listed ac W => listed.size = 14 ∧ Fp D a0 listed ac W ∧ Below X3.heap.size X3 W ∧ Row W bA ((vB dd2)) 51 ∧ Row W bB (if listed.getD 12 false = true then (vB dd2) else (vB dd)) 51 ∧ Gu X3 W F N (some ⟨g8, 0, none⟩) c8 es cs2 gs bs2 gl cl kk) ?_ ?_ ?_
                      · exact ⟨by simp, Fp.start D a0 _ _, Below.drew hb1, Row.drew ra, (by rw [if_neg (fun h => start_no h)]; exact Row.drew rb), hGu.below (Below.drew (Below.refl _ _))⟩
                      · clear ha0 hb1 ra rb hGu 
                        intro listed ac W k hI hdn hk
                        obtain ⟨hl, hF, hb1, ra, rb, hGu⟩ := hI
                        have hk1 : k < 14 := List.mem_range.1 (List.mem_filter.1 hk).1
                        have hl2 : ∀ j, (listed.setIfInBounds j true).size = 14 := fun j => by rw [Array.size_setIfInBounds]; exact hl
                        rcases (show k = 0 ∨ k = 1 ∨ k = 2 ∨ k = 3 ∨ k = 4 ∨ k = 5 ∨ k = 6 ∨ k = 7 ∨ k = 8 ∨ k = 9 ∨ k = 10 ∨ k = 11 ∨ k = 12 ∨ k = 13 by omega) with rfl | rfl | rfl | rfl | rfl | rfl | rfl | rfl | rfl | rfl | rfl | rfl | rfl | rfl
                        · have hk3 := hk
                          exact wpOp_plain rfl rfl (wp_move_v (ac.eval (.tmp 13)) rfl rfl ⟨hl2 0, (hF.put 0 191 (SP.is (.slice (some ⟨gl, 0, none⟩) (N + 1) cl)) (ac.eval (.tmp 13)) (by rw [hD]; rfl) (((hF.keep 13 (by rw [hD]; rfl)).trans zs13)) (by rw [hD]; rfl) (by rw [hsz]; decide) (by rw [hl]; decide)), hb1, ra, (by rw [getD_set _ _ _ (by decide)]; exact rb), hGu⟩)
                        · have hk3 := hk
                          exact wpOp_plain rfl rfl (wp_move_v (ac.eval (.tmp 16)) rfl rfl ⟨hl2 1, (hF.put 1 192 (SP.is (.int .i64 (i : Int))) (ac.eval (.tmp 16)) (by rw [hD]; rfl) (((hF.keep 16 (by rw [hD]; rfl)).trans zs16)) (by rw [hD]; rfl) (by rw [hsz]; decide) (by rw [hl]; decide)), hb1, ra, (by rw [getD_set _ _ _ (by decide)]; exact rb), hGu⟩)
                        · have hk3 := hk
                          have ea := (hF.done 0 (191, SP.is (.slice (some ⟨gl, 0, none⟩) (N + 1) cl)) (by rw [hD]; rfl) (ready_dep hk 0 (by kernel_rfl)))
                          have eb := (hF.done 1 (192, SP.is (.int .i64 (i : Int))) (by rw [hD]; rfl) (ready_dep hk 1 (by kernel_rfl)))
                          exact wpOp_plain rfl rfl (wp_ixO 54 51 rfl gl 0 (N + 1) cl i 32 qd HQD.out ea eb HIN1.out Tryz.underlying54 info_dg ⟨hl2 2, (hF.put 2 193 (SP.is (.pointer (some ⟨gl, qd, none⟩))) (.pointer (some ⟨gl, qd, none⟩)) (by rw [hD]; rfl) rfl (by rw [hD]; rfl) (by rw [hsz]; decide) (by rw [hl]; decide)), hb1, ra, (by rw [getD_set _ _ _ (by decide)]; exact rb), hGu⟩)
                        · have hk3 := hk
                          have ea := (hF.done 2 (193, SP.is (.pointer (some ⟨gl, qd, none⟩))) (by rw [hD]; rfl) (ready_dep hk 2 (by kernel_rfl)))
                          exact wpOp_plain rfl rfl (wp_load_mid 51 (.tmp 193) rfl gl qd ea (vB kki) _ (HRD2.out W hGu) Tryz.underlying51 rfl HIk.out ⟨hl2 3, (hF.put 3 194 (SP.is (.agg (vB kki).toArray)) (.agg (vB kki).toArray) (by rw [hD]; rfl) rfl (by rw [hD]; rfl) (by rw [hsz]; decide) (by rw [hl]; decide)), hb1, ra, (by rw [getD_set _ _ _ (by decide)]; exact rb), hGu⟩)
                        · have hk3 := hk
                          exact wpOp_plain rfl rfl (wp_move_v (ac.eval (.tmp 12)) rfl rfl ⟨hl2 4, (hF.put 4 195 (SP.is (.slice (some ⟨F, 0, none⟩) N (N + 3))) (ac.eval (.tmp 12)) (by rw [hD]; rfl) (((hF.keep 12 (by rw [hD]; rfl)).trans zs12)) (by rw [hD]; rfl) (by rw [hsz]; decide) (by rw [hl]; decide)), hb1, ra, (by rw [getD_set _ _ _ (by decide)]; exact rb), hGu⟩)
                        · have hk3 := hk
                          exact wpOp_plain rfl rfl (wp_move_v (ac.eval (.tmp 16)) rfl rfl ⟨hl2 5, (hF.put 5 196 (SP.is (.int .i64 (i : Int))) (ac.eval (.tmp 16)) (by rw [hD]; rfl) (((hF.keep 16 (by rw [hD]; rfl)).trans zs16)) (by rw [hD]; rfl) (by rw [hsz]; decide) (by rw [hl]; decide)), hb1, ra, (by rw [getD_set _ _ _ (by decide)]; exact rb), hGu⟩)
                        · have hk3 := hk
                          have ea := (hF.done 4 (195, SP.is (.slice (some ⟨F, 0, none⟩) N (N + 3))) (by rw [hD]; rfl) (ready_dep hk 4 (by kernel_rfl)))
                          have eb := (hF.done 5 (196, SP.is (.int .i64 (i : Int))) (by rw [hD]; rfl) (ready_dep hk 5 (by kernel_rfl)))
                          exact wpOp_plain rfl rfl (wp_ixO 52 46 rfl F 0 N (N + 3) i 49 qF HQF.out ea eb HIN.out Tryz.underlying52 info_ent ⟨hl2 6, (hF.put 6 197 (SP.is (.pointer (some ⟨F, qF, none⟩))) (.pointer (some ⟨F, qF, none⟩)) (by rw [hD]; rfl) rfl (by rw [hD]; rfl) (by rw [hsz]; decide) (by rw [hl]; decide)), hb1, ra, (by rw [getD_set _ _ _ (by decide)]; exact rb), hGu⟩)
                        · have hk3 := hk
                          have ea := (hF.done 6 (197, SP.is (.pointer (some ⟨F, qF, none⟩))) (by rw [hD]; rfl) (ready_dep hk 6 (by kernel_rfl)))
                          exact wpOp_plain rfl rfl (wp_load_mid 46 (.tmp 197) rfl F qF ea Lx _ ((HSX2.out W hGu).2) Tryz.underlying46 rfl HIx.out ⟨hl2 7, (hF.put 7 198 (SP.is (.agg Lx.toArray)) (.agg Lx.toArray) (by rw [hD]; rfl) rfl (by rw [hD]; rfl) (by rw [hsz]; decide) (by rw [hl]; decide)), hb1, ra, (by rw [getD_set _ _ _ (by decide)]; exact rb), hGu⟩)
                        · have hk3 := hk
                          have e194 := (hF.done 3 (194, SP.is (.agg (vB kki).toArray)) (by rw [hD]; rfl) (ready_dep hk 3 (by kernel_rfl)))
                          have e198 := (hF.done 7 (198, SP.is (.agg Lx.toArray)) (by rw [hD]; rfl) (ready_dep hk 7 (by kernel_rfl)))
                          refine wpOp_plain rfl rfl (wp_fcall_v 16 #[.agg (vB kki).toArray, .agg Lx.toArray] rfl rfl (by show [ac.eval (.tmp 194), ac.eval (.tmp 198)] = _; rw [show ac.eval (.tmp 194) = _ from e194, show ac.eval (.tmp 198) = _ from e198]) (by go_simp) ((HND2.out W hGu).mono ?_))
                          rintro e W2 ⟨rfl, hB⟩
                          exact ⟨_, rfl, hl2 8, ((hF.world hB).put 8 199 (SP.is (.tuple #[.agg (vB dd2).toArray, .int .i64 E9])) (.tuple #[.agg (vB dd2).toArray, .int .i64 E9]) (by rw [hD]; rfl) rfl (by rw [hD]; rfl) (by rw [hsz]; decide) (by rw [hl]; decide)), hb1.trans (hB.mono hb1.size), Row.below ra hB (Row.lt ra), (by rw [getD_set _ _ _ (by decide)]; exact Row.below rb hB (Row.lt rb)), hGu.below hB⟩
                        · have hk3 := hk
                          exact wpOp_plain rfl rfl (wp_move_v (ac.eval (.tmp 199)) rfl rfl ⟨hl2 9, (hF.put 9 190 (SP.is (.tuple #[.agg (vB dd2).toArray, .int .i64 E9])) (ac.eval (.tmp 199)) (by rw [hD]; rfl) ((hF.done 8 (199, SP.is (.tuple #[.agg (vB dd2).toArray, .int .i64 E9])) (by rw [hD]; rfl) (ready_dep hk 8 (by kernel_rfl)))) (by rw [hD]; rfl) (by rw [hsz]; decide) (by rw [hl]; decide)), hb1, ra, (by rw [getD_set _ _ _ (by decide)]; exact rb), hGu⟩)
                        · have hk3 := hk
                          exact wpOp_plain rfl rfl (wp_extract (.tmp 190) 0 rfl _ (hF.done 9 (190, SP.is (.tuple #[.agg (vB dd2).toArray, .int .i64 E9])) (by rw [hD]; rfl) (ready_dep hk 9 (by kernel_rfl))) (.agg (vB dd2).toArray) rfl ⟨hl2 10, (hF.put 10 200 (SP.is (.agg (vB dd2).toArray)) (.agg (vB dd2).toArray) (by rw [hD]; rfl) rfl (by rw [hD]; rfl) (by rw [hsz]; decide) (by rw [hl]; decide)), hb1, ra, (by rw [getD_set _ _ _ (by decide)]; exact rb), hGu⟩)
                        · have hk3 := hk
                          exact wpOp_plain rfl rfl (wp_extract (.tmp 190) 1 rfl _ (hF.done 9 (190, SP.is (.tuple #[.agg (vB dd2).toArray, .int .i64 E9])) (by rw [hD]; rfl) (ready_dep hk 9 (by kernel_rfl))) (.int .i64 E9) rfl ⟨hl2 11, (hF.put 11 201 (SP.is (.int .i64 E9)) (.int .i64 E9) (by rw [hD]; rfl) rfl (by rw [hD]; rfl) (by rw [hsz]; decide) (by rw [hl]; decide)), hb1, ra, (by rw [getD_set _ _ _ (by decide)]; exact rb), hGu⟩)
                        · have hk3 := hk
                          have hno : ¬ listed.getD 12 false = true := not_yet hk
                          rw [if_neg hno] at rb
                          have T := rb.there 0 (vB dd2).toArray.size HDT2.out
                          have fin := rb.over (vs := (vB dd2)) HDL2.out
                          have hT : Fp D a0 listed ac (W.setCells bB 0 (vB dd2)) := hF.turn (by rw [hD]; simp only [List.forall_mem_cons, List.not_mem_nil, false_implies, implies_true, and_true]; exact ⟨fun _ h => h, fun _ h => h, fun _ h => h, fun _ h => h, fun _ h => h, fun _ h => h, fun _ h => h, fun _ h => h, fun _ h => h, fun _ h => h, fun _ h => h, fun _ h => h, fun _ h => h, fun _ h => h⟩)
                          exact wpOp_plain rfl rfl (wp_store_mid 51 (.tmp 19) (.tmp 200) rfl bB 0 (vB dd2).toArray ((hF.keep 19 (by rw [hD]; rfl)).trans zs19) (hF.done 10 (200, SP.is (.agg (vB dd2).toArray)) (by rw [hD]; rfl) (ready_dep hk 10 (by kernel_rfl))) T HIJ2.out (all_oneCell_toArray (vB_one dd2)) ⟨hl2 12, (hT.skip 12 1000 (by rw [hD]; rfl) (by rw [hl]; decide)), below_setCells hb1 (by omega) _, Row.setCells_other ra _ _ _ (by omega), (by rw [if_pos (getD_same (by rw [hl]; decide))]; exact fin), (hGu.sets rb HB13.out hb3 0 (vB dd2))⟩)
                        · have hk3 := hk
                          exact wpOp_plain rfl rfl (wp_assign_v (ac.eval (.tmp 201)) rfl rfl ⟨hl2 13, (hF.put 13 20 (SP.is (.int .i64 E9)) (ac.eval (.tmp 201)) (by rw [hD]; rfl) ((hF.done 11 (201, SP.is (.int .i64 E9)) (by rw [hD]; rfl) (ready_dep hk 11 (by kernel_rfl)))) (by rw [hD]; rfl) (by rw [hsz]; decide) (by rw [hl]; decide)), hb1, ra, (by rw [getD_set _ _ _ (by decide)]; exact rb), hGu⟩)
                      · clear hb1 ra rb hGu 
                        intro listed ac W hI hr
                        obtain ⟨hl, hF, hb1, ra, rb, hGu⟩ := hI
                        have hall := all_listed (by kernel_rfl) hl hr
                        rw [if_pos (hall 12 (by decide))] at rb
                        have h191 : ac.eval (.tmp 191) = .slice (some ⟨gl, 0, none⟩) (N + 1) cl := hF.done 0 (191, SP.is (.slice (some ⟨gl, 0, none⟩) (N + 1) cl)) (by rw [hD]; rfl) (hall 0 (by decide))
                        have h192 : ac.eval (.tmp 192) = .int .i64 (i : Int) := hF.done 1 (192, SP.is (.int .i64 (i : Int))) (by rw [hD]; rfl) (hall 1 (by decide))
                        have h193 : ac.eval (.tmp 193) = .pointer (some ⟨gl, qd, none⟩) := hF.done 2 (193, SP.is (.pointer (some ⟨gl, qd, none⟩))) (by rw [hD]; rfl) (hall 2 (by decide))
                        have h194 : ac.eval (.tmp 194) = .agg (vB kki).toArray := hF.done 3 (194, SP.is (.agg (vB kki).toArray)) (by rw [hD]; rfl) (hall 3 (by decide))
                        have h195 : ac.eval (.tmp 195) = .slice (some ⟨F, 0, none⟩) N (N + 3) := hF.done 4 (195, SP.is (.slice (some ⟨F, 0, none⟩) N (N + 3))) (by rw [hD]; rfl) (hall 4 (by decide))
                        have h196 : ac.eval (.tmp 196) = .int .i64 (i : Int) := hF.done 5 (196, SP.is (.int .i64 (i : Int))) (by rw [hD]; rfl) (hall 5 (by decide))
                        have h197 : ac.eval (.tmp 197) = .pointer (some ⟨F, qF, none⟩) := hF.done 6 (197, SP.is (.pointer (some ⟨F, qF, none⟩))) (by rw [hD]; rfl) (hall 6 (by decide))
                        have h198 : ac.eval (.tmp 198) = .agg Lx.toArray := hF.done 7 (198, SP.is (.agg Lx.toArray)) (by rw [hD]; rfl) (hall 7 (by decide))
                        have h199 : ac.eval (.tmp 199) = .tuple #[.agg (vB dd2).toArray, .int .i64 E9] := hF.done 8 (199, SP.is (.tuple #[.agg (vB dd2).toArray, .int .i64 E9])) (by rw [hD]; rfl) (hall 8 (by decide))
                        have h190 : ac.eval (.tmp 190) = .tuple #[.agg (vB dd2).toArray, .int .i64 E9] := hF.done 9 (190, SP.is (.tuple #[.agg (vB dd2).toArray, .int .i64 E9])) (by rw [hD]; rfl) (hall 9 (by decide))
                        have h200 : ac.eval (.tmp 200) = .agg (vB dd2).toArray := hF.done 10 (200, SP.is (.agg (vB dd2).toArray)) (by rw [hD]; rfl) (hall 10 (by decide))
                        have h201 : ac.eval (.tmp 201) = .int .i64 E9 := hF.done 11 (201, SP.is (.int .i64 E9)) (by rw [hD]; rfl) (hall 11 (by decide))
                        have h20 : ac.eval (.tmp 20) = .int .i64 E9 := hF.done 13 (20, SP.is (.int .i64 E9)) (by rw [hD]; rfl) (hall 13 (by decide))
                        have ea := hF.lay [(191, .slice (some ⟨gl, 0, none⟩) (N + 1) cl), (192, .int .i64 (i : Int)), (193, .pointer (some ⟨gl, qd, none⟩)), (194, .agg (vB kki).toArray), (195, .slice (some ⟨F, 0, none⟩) N (N + 3)), (196, .int .i64 (i : Int)), (197, .pointer (some ⟨F, qF, none⟩)), (198, .agg Lx.toArray), (199, .tuple #[.agg (vB dd2).toArray, .int .i64 E9]), (190, .tuple #[.agg (vB dd2).toArray, .int .i64 E9]), (200, .agg (vB dd2).toArray), (201, .int .i64 E9), (20, .int .i64 E9)] (by rw [hD, hsz]; rfl) (by simp only [List.forall_mem_cons, List.not_mem_nil, false_implies, implies_true, and_true]; exact ⟨h191, h192, h193, h194, h195, h196, h197, h198, h199, h190, h200, h201, h20⟩)
                        rw [ha0] at ea
                        simp only [List.foldl_cons, List.foldl_nil, List.setIfInBounds_toArray, List.set_cons_zero, List.set_cons_succ] at ea
                        clear hF hall hr hl hD  zs12 zs13 zs16 zs17 zs19 ha0 hsz h191 h192 h193 h194 h195 h196 h197 h198 h199 h190 h200 h201 h20
                        subst ea
                        obtain ⟨Y5, hY5⟩ : ∃ Y, Y = W := ⟨_, rfl⟩
                        rw [← hY5] at hGu ra rb ⊢
                        have HG5 : Hid (Gu X3 Y5 F N (some ⟨g8, 0, none⟩) c8 es cs2 gs bs2 gl cl kk) := hGu
                        have RA5 : Hid (Row Y5 bA (vB dd2) 51) := ra
                        have RB5 : Hid (Row Y5 bB (vB dd2) 51) := rb
                        clear hY5 hGu ra rb hb1 HND2 HSX2 HRD2 HBG ha3 hb3 hab
                        go_wp2_with (first
                          | (refine wpList_load_w rfl 51 (.tmp 17) rfl bA 0 rfl (vB dd2) _ RA5.out.all Tryz.underlying51 rfl HI2.out ?_; simp only [Act.put, List.setIfInBounds_toArray, List.set_cons_zero, List.set_cons_succ])
                          | (refine wpList_load_w rfl 51 (.tmp 19) rfl bB 0 rfl (vB dd2) _ RB5.out.all Tryz.underlying51 rfl HI2.out ?_; simp only [Act.put, List.setIfInBounds_toArray, List.set_cons_zero, List.set_cons_succ])
                          | (refine wpList_neqD15 rfl (.tmp 202) (.tmp 203) _ rfl dd2 HDD2.out rfl rfl ?_; simp only [Act.put, List.setIfInBounds_toArray, List.set_cons_zero, List.set_cons_succ]))
                        exact ⟨⟨i + 1, bs2, hlt, by go_num, HG5.out, HBS2.out⟩, by simp [intOf]; omega⟩
            have hiN : i = N := by omega
            have hlt2 : ¬ ((i : Int) < (N : Int)) := by omega
            have HG6 : Hid (Gu X3 wr F N A8 c8 es cs2 gs bs gl cl kk) := HI0.out.1
            have HBS6 : Hid (∀ (j : Nat) (e : Ev), es[j]? = some e → bs[j]? = some (flp (e.d ++ mk8))) := fun j e he => by
              have := HI0.out.2 j e he
              rwa [if_pos (by have := (List.getElem?_eq_some_iff.1 he).1; have := HN.out; omega)] at this
            clear HI0 hlt
            go_wp2_with fail
            obtain ⟨Z5, hZ5⟩ : ∃ Z, Z = wr := ⟨_, rfl⟩
            rw [← hZ5] at HG6 ⊢
            clear hZ5 hlt2 hiN hi
            go_loopw [21] (fun v wr => ∃ (m k : Nat), m ≤ 3 ∧ k = N + m ∧ v = .int .i64 (k : Int) ∧ wr = Z5) (fun v _ => N + 3 - (intOf v).toNat)
            case atStart => exact ⟨0, N, by omega, rfl, rfl, rfl⟩
            case round =>
              obtain ⟨m, k, hm, hk, rfl, hwr⟩ := hrel
              subst hwr
              by_cases hm3 : m < 3
              · have hk3 : k < N + 3 := by omega
                have hk4 : (k : Int) < (N : Int) + 3 := by omega
                have HKL : Hid (k < N + 3) := hk3
                have HAD : Hid (IntKind.i64.wrap (500 + (k : Int)) = 500 + (k : Int)) := wrap64I _ (by omega) (by omega)
                obtain ⟨qF, hqF⟩ : ∃ q, q = 0 + k * 49 := ⟨_, rfl⟩
                have HQF : Hid (0 + k * 49 = qF) := hqF.symm
                have ck : wr.cell? ⟨F, qF, none⟩ = some (.int .i64 (500 + (k : Int))) := by
                  have := HG6.out.fu.row.cell _ _ (HG6.out.fu.kin m hm3)
                  rw [show qF = (N + m) * 49 by omega, hk]
                  exact this
                have HKE : Hid (k = N + m) := hk
                clear hk hqF
                go_wp2_with (first
                  | (refine wpList_ixO 52 46 (.tmp 218) (.tmp 219) rfl F 0 (N + 3) (N + 3) k 49 qF HQF.out rfl rfl HKL.out Tryz.underlying52 info_ent rfl ?_; simp only [Act.put, List.setIfInBounds_toArray, List.set_cons_zero, List.set_cons_succ])
                  | (refine add_oI (.const (.int .i64 500)) (.tmp 223) _ _ rfl rfl rfl _ _ _ rfl rfl HAD.out ?_; simp only [Act.put, List.setIfInBounds_toArray, List.set_cons_zero, List.set_cons_succ]))
                have hk := HKE.out
                exact ⟨⟨m + 1, k + 1, by omega, by omega, by go_num, by first | rfl | trivial⟩, by simp [intOf]; omega⟩
              have hk4 : ¬ ((k : Int) < (N : Int) + 3) := by omega
              have hk5 : ¬ (k < N + 3) := by omega
              obtain ⟨fs, hfs⟩ : ∃ fs, fs = es.map (fun e => e.wb (flp e.d)) := ⟨_, rfl⟩
              have hfl : fs.length = N := by rw [hfs, List.length_map]; exact HN.out.symm
              have hfw : ∀ e ∈ fs, e.Wf := fun e he => by
                rw [hfs] at he
                obtain ⟨e', q1, rfl⟩ := List.mem_map.1 he
                exact Ev.wb_wf (HW.out e' q1) _
              have HAT : Hid (EsAt wr (some ⟨F, 0, none⟩) fs) := HG6.out.fu.at rfl fs hfl (fun j e b he hb => by
                rw [HBS6.out j e he] at hb
                cases hb
                rw [wb_flp, hfs, List.getElem?_map, he]
                rfl)
              obtain ⟨E3, p3, d3⟩ := check_both fs hfw (by omega) kk tt HKK.out HTT.out
              have BXr : Hid (Below X3.heap.size X3 wr) := HG6.out.fu.be
              have HB6 : Hid (Below w.heap.size w wr) := B3.out.trans (BXr.out.mono B3.out.size)
              have HD3 : Hid (Calls Tryz.prog 14 #[.agg MK.toArray, .agg MT.toArray, .slice (some ⟨F, 0, none⟩) N (N + 3)] wr fun r w' => r = .returned (.int .i64 E3) ∧ Below wr.heap.size wr w') := by rw [HMK.out, HMT.out]; exact d3 wr _ N _ hfl.symm (HGW.out wr HB6.out) HAT.out
              have HC3 : Hid (∀ X, Below wr.heap.size wr X → Calls Tryz.prog 13 #[.agg MK.toArray, .agg MT.toArray, .slice (some ⟨F, 0, none⟩) N (N + 3)] X fun r w' => r = .returned (.int .i64 E3) ∧ Below X.heap.size X w') := fun X k => by rw [HMK.out, HMT.out]; exact p3 X _ N _ hfl.symm (HGW.out X (HB6.out.trans (k.mono HB6.out.size))).cub (HAT.out.be k)
              clear p3 d3 hfs hfl hfw hm3 hm hk HAT HG6 HBS6
              go_upto_region 39 with (first
                | (refine wpList_load_w rfl 51 (.tmp 3) rfl bk 0 rfl (MK) _ (HRK.out wr BXr.out) Tryz.underlying51 rfl HKI.out ?_; simp only [Act.put, List.setIfInBounds_toArray, List.set_cons_zero, List.set_cons_succ])
                | (refine wpList_load_w rfl 51 (.tmp 5) rfl bt 0 rfl (MT) _ (HRT.out wr BXr.out) Tryz.underlying51 rfl HTI.out ?_; simp only [Act.put, List.setIfInBounds_toArray, List.set_cons_zero, List.set_cons_succ])
                | (go_at_call 14; refine Calls.mono HD3.out ?_; rintro e9 V1 ⟨rfl, q⟩; have BV1 : Hid (Below wr.heap.size wr V1) := q; clear q))
              have BX2 : Hid (Below X3.heap.size X3 V1) := BXr.out.trans (BV1.out.mono BXr.out.size)
              go_wp2_with (first
                | (refine wpList_load_w rfl 51 (.tmp 3) rfl bk 0 rfl (MK) _ (HRK.out V1 BX2.out) Tryz.underlying51 rfl HKI.out ?_; simp only [Act.put, List.setIfInBounds_toArray, List.set_cons_zero, List.set_cons_succ])
                | (refine wpList_load_w rfl 51 (.tmp 5) rfl bt 0 rfl (MT) _ (HRT.out V1 BX2.out) Tryz.underlying51 rfl HTI.out ?_; simp only [Act.put, List.setIfInBounds_toArray, List.set_cons_zero, List.set_cons_succ])
                | (go_at_call 13; refine Calls.mono (HC3.out V1 BV1.out) ?_; rintro e9 V2 ⟨rfl, q⟩; have BV2 : Hid (Below w.heap.size w V2) := HB6.out.trans ((BV1.out.trans (q.mono BV1.out.size)).mono HB6.out.size); clear q))
              go_ret
              exact ⟨rfl, BV2.out⟩

end Go.Proofs.YtknabkoddickaaaGreatDoor
