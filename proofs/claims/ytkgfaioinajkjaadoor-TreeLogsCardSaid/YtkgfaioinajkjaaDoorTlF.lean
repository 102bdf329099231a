/-
  the law TreeLogs: its walk.
-/
import Derived.Test.YtkgfaioinajkjaaDoorTlG
namespace Go.Proofs.YtkgfaioinajkjaaDoor
open Go Go.RowKit
open Sha

set_option maxRecDepth 100000 in
set_option maxHeartbeats 60000000 in
theorem logs_walk (l : List Opv) (A0 : Option Addr) (N c0 : Nat) (hN : N = l.length) (hNb : N < 1152921504606846976) (w : World) (hT : Tb w) (h0 : Oa w A0 l) :
    Calls Tryd.prog 3 #[.slice A0 N c0] w fun e w' => e = .returned (.bool true) ∧ Below w.heap.size w w' := by
  have HT : Hid (Tb w) := hT
  have HL : Hid (Oa w A0 l) := h0
  have HNl : Hid (N = l.length) := hN
  clear hN hT h0
  go_enter Tryd.func3, Tryd.ntmps3
  go_upto_region 2 with (go_at_call 4; refine Calls.mono (awake_any w HT.out.giv.cub) ?_; rintro e X1 ⟨rfl, p⟩; have B1 : Hid (Below w.heap.size w X1) := p; clear p)
  go_upto_region 3 with (refine wpList_allocA3 rfl rfl ?_; intro X2 q1 q2; have R2 : Hid (Row X2 X1.heap.size (pcs (fun _ => 0) 0) tA3) := q1; have B2 : Hid (Below w.heap.size w X2) := B1.out.trans (q2.mono B1.out.size); clear q1 q2; simp only [Act.put, List.setIfInBounds_toArray, List.set_cons_zero, List.set_cons_succ])
  obtain ⟨bt, hbt⟩ : ∃ b, b = X1.heap.size := ⟨_, rfl⟩
  have HB1 : Hid (w.heap.size ≤ bt) := by show _ ≤ _; rw [hbt]; exact B1.out.size
  rw [← hbt] at R2 ⊢
  clear hbt B1
  go_upto_region 4 with (refine wpList_allocD3 rfl rfl ?_; intro X3 q1 q2; have L3 : Hid (L1 w X3 bt X2.heap.size 0 (fun _ => 0)) := ⟨Row.below R2.out q2 R2.out.lt, q1, fun k hk => absurd hk (Nat.not_lt_zero _), fun j k hk => absurd hk (Nat.not_lt_zero _), fun k hk => absurd hk (Nat.not_lt_zero _), ⟨HB1.out, B2.out.size⟩, B2.out.trans (q2.mono B2.out.size)⟩; clear q1 q2; simp only [Act.put, List.setIfInBounds_toArray, List.set_cons_zero, List.set_cons_succ])
  obtain ⟨bd, hbd⟩ : ∃ b, b = X2.heap.size := ⟨_, rfl⟩
  rw [← hbd] at L3 ⊢
  clear hbd R2 B2 HB1
  go_wp2_with fail
  go_loopw [6] (fun v6 wr => ∃ (i : Nat) (p : Nat → Nat), i ≤ 3 ∧ v6 = .int .i64 (i : Int) ∧ Hid (L1 w wr bt bd i p)) (fun v6 _ => 3 - (intOf v6).toNat)
  case atStart => exact ⟨0, _, by omega, rfl, L3⟩
  case round =>
    obtain ⟨i, p, hi, rfl, Lw⟩ := hrel
    clear L3
    by_cases hi3 : i < 3
    · have HI3 : Hid (i < 3) := hi3
      obtain ⟨n1, hn1⟩ : ∃ n1, n1 = i + 1 := ⟨_, rfl⟩
      have HN1 : Hid (n1 = i + 1) := hn1
      have e1 : (i : Int) + 1 = (n1 : Int) := by omega
      have hnb : n1 ≤ 3 := by omega
      clear hn1
      go_upto_region 8 with (first
        | (go_at_call 5; refine Calls.mono (lnew_any wr) ?_; rintro e Y1 ⟨rfl, q1, q2⟩; have Q1 : Hid _ := q1; have Q2 : Hid _ := q2; have L9 : Hid _ := Lw.out.step HI3.out q1 q2; have R9 : Hid (Row Y1 bt (pcs p i) tA3) := Row.below Lw.out.rt q2 Lw.out.rt.lt; clear q1 q2)
        | (refine wpList_ixA rfl tA3 24 (.tmp 4) (.tmp 46) rfl bt 3 i 1 i rfl rfl HI3.out und_A3 info_pl (Nat.mul_one i) ?_; simp only [Act.put, List.setIfInBounds_toArray, List.set_cons_zero, List.set_cons_succ])
        | (refine wpList_setP rfl (.tmp 48) (.tmp 47) rfl bt i _ (pcs p i) tA3 rfl rfl R9.out HI3.out ?_; intro Y2 q1; have L2 : Hid (L1 w Y2 bt bd n1 (up p i wr.heap.size)) := (by rw [q1, HN1.out]; exact L9.out); clear q1; simp only [Act.put]))
      clear Q1 Q2 L9 R9 Lw
      have cT : Y2.cell? ⟨bt, i, none⟩ = some (.pointer (some ⟨wr.heap.size, 0, none⟩)) := L2.out.rt.cell i _ (by rw [HN1.out]; exact pcs_at p i _ HI3.out)
      go_wp2_with (refine wpList_ixA rfl tA3 24 (.tmp 4) (.tmp 49) rfl bt 3 i 1 i rfl rfl HI3.out und_A3 info_pl (Nat.mul_one i) ?_; simp only [Act.put, List.setIfInBounds_toArray, List.set_cons_zero, List.set_cons_succ])
      go_roundw
      case rel => exact ⟨n1, _, hnb, rfl, L2⟩
      case measure => have := HN1.out; simp [intOf]; omega
    · have hi9 : i = 3 := by omega
      have T4 : Hid (T3 w wr bt bd (s0 p)) := by obtain rfl := hi9; exact Lw.out.fin
      clear Lw hi hi9
      go_wp2_with fail
      clear hi3
      go_loopw [7] (fun v7 wr => ∃ (i : Nat) (s : S3), i ≤ N ∧ v7 = .int .i64 (i : Int) ∧ Hid (E3 s) ∧ Hid (T3 w wr bt bd s)) (fun v7 _ => N - (intOf v7).toNat)
      case atStart => exact ⟨0, s0 p, Nat.zero_le _, rfl, s0_e p, T4⟩
      case round =>
        obtain ⟨i, s, hi, rfl, HE, Twr⟩ := hrel
        clear T4
        by_cases hiN : i < N
        · obtain ⟨r, hr⟩ : ∃ r, l[i]? = some r := ⟨_, List.getElem?_eq_getElem (by rw [← HNl.out]; exact hiN)⟩
          obtain ⟨hok, b, o, hA0, hrg0⟩ := HL.out i r hr
          subst hA0
          obtain ⟨n1, hn1⟩ : ∃ n1, n1 = i + 1 := ⟨_, rfl⟩
          have e1 : (i : Int) + 1 = (n1 : Int) := by omega
          have HN1 : Hid (n1 = i + 1) := hn1
          have HN1L : Hid (n1 ≤ N) := by show _ ≤ _; omega
          obtain ⟨R, hR⟩ : ∃ R, R = r.cells := ⟨_, rfl⟩
          have HG : Hid (wr.rangeAt b (o + i * 5) R) := by rw [hR]; exact range_be5 hrg0 Twr.out.be
          have HI : Hid ((Tryd.prog.info? 33).map (·.size) = some R.length) := by show _ = _; rw [hR]; exact info_op
          have HZ : Hid (R.length = zOp.length) := by show _ = _; rw [hR]; rfl
          have HO : Hid (R.toArray.all (·.oneCell') = true) := by show _ = _; rw [hR]; exact one_op r
          obtain ⟨k, hk3, hpk⟩ := pick3 r.on hok.o0.1 hok.o0.2
          have HPK : Hid (∀ X, _) := hpk
          have HK3 : Hid (k < 3) := hk3
          have hC0 : R[0]? = some (.int .i64 r.kd) := by rw [hR]; rfl
          have HC1 : Hid (R[1]? = some (.int .i64 r.on)) := by show _ = _; rw [hR]; rfl
          have HC2 : Hid (R[2]? = some (.int .i64 r.sz)) := by show _ = _; rw [hR]; rfl
          have HC3 : Hid (R[3]? = some (.slice r.Al r.d.length r.cl)) := by show _ = _; rw [hR]; rfl
          have HC4 : Hid (R[4]? = some (.slice r.Af r.ds.length r.cf)) := by show _ = _; rw [hR]; rfl
          have HOK : Hid (r.Ok w) := hok
          have hkd := hok.k0
          obtain ⟨kd, ekd⟩ : ∃ z, z = r.kd := ⟨_, rfl⟩
          obtain ⟨on, eon⟩ : ∃ z, z = r.on := ⟨_, rfl⟩
          have hon := hok.o0
          rw [← ekd] at hC0 hkd
          rw [← eon] at HC1 HPK hon
          have HC0 : Hid (R[0]? = some (.int .i64 kd)) := hC0
          clear ekd eon
          obtain ⟨q, hq⟩ : ∃ q, q = s.p k := ⟨_, rfl⟩
          obtain ⟨n, hn⟩ : ∃ n, n = s.n k := ⟨_, rfl⟩
          obtain ⟨L, hL⟩ : ∃ L, L = (s.F k).length := ⟨_, rfl⟩
          obtain ⟨Au, cu, hu⟩ := Twr.out.uform HE.out k hk3
          rw [← hL] at hu
          have hE := HE.out k hk3
          obtain ⟨LG, hLG⟩ : ∃ LG : List Value, LG = [.int .i64 (n : Int), .slice Au L cu] := ⟨_, rfl⟩
          obtain ⟨dd, h32, hrt, hdr⟩ := t_roots HT.out HE.out k hk3 ⟨wr, Twr.out⟩
          have HCP : Hid (∀ X, T3 w X bt bd s → X.cell? ⟨bt, k, none⟩ = some (.pointer (some ⟨q, 0, none⟩))) := fun X h => by rw [hq]; exact h.cp k hk3
          have HCM : Hid (∀ X, T3 w X bt bd s → X.cell? ⟨bd, k * 2, none⟩ = some (.int .i64 (n : Int))) := fun X h => by rw [hn, ← hE.1]; exact h.cm k hk3
          have HCU : Hid (∀ X, T3 w X bt bd s → X.cell? ⟨bd, k * 2 + 1, none⟩ = some (.slice Au L cu)) := fun X h => by rw [← hu]; exact h.cu k hk3
          have HRG : Hid (∀ X, T3 w X bt bd s → X.rangeAt bd (k * 2) LG) := fun X h => by rw [hLG, ← hu, hn, ← hE.1]; exact h.rg k hk3
          have HSZ : Hid (∀ X, T3 w X bt bd s → Calls Tryd.prog 11 #[.pointer (some ⟨q, 0, none⟩)] X fun e w' => e = .returned (.int .i64 (n : Int)) ∧ w' = X) := fun X h => by rw [hq, hn]; exact t_size k hk3 X h
          have HRT : Hid (∀ X, T3 w X bt bd s → Calls Tryd.prog 12 #[.pointer (some ⟨q, 0, none⟩)] X fun e w' => e = .returned (.agg (vB dd).toArray) ∧ Below X.heap.size X w') := fun X h => by rw [hq]; exact hrt X h
          have HDR : Hid (∀ X, T3 w X bt bd s → Calls Tryd.prog 13 #[.agg LG.toArray] X fun e w' => e = .returned (.agg (vB dd).toArray) ∧ Below X.heap.size X w') := fun X h => hdr X LG (by rw [hLG, ← hu, hn, ← hE.1]) h
          have HFR : Hid (∀ X, T3 w X bt bd s → Calls Tryd.prog 14 #[.pointer (some ⟨q, 0, none⟩)] X fun e w' => ∃ A c, e = .returned (.slice A L c) ∧ Ow w' (.slice A L c) L (vB (s.F k).flatten) ∧ Fresh X.heap.size (.slice A L c) ∧ Below X.heap.size X w') := fun X h => by rw [hq]; exact t_front HE.out k hk3 L hL X h
          have HSM : Hid (∀ X A ca, T3 w X bt bd s → Ow X (.slice A L ca) L (vB (s.F k).flatten) → Calls Tryd.prog 15 #[.slice A L ca, .slice Au L cu] X fun e w' => e = .returned (.bool true) ∧ Below X.heap.size X w') := fun X A ca h ho => t_same HE.out k hk3 L hL A Au ca cu hu X h ho
          have HRS : Hid (∀ X A c, T3 w X bt bd s → Ow X (.slice A L c) L (vB (s.F k).flatten) → Calls Tryd.prog 18 #[.int .i64 (n : Int), .slice A L c] X fun e w' => ∃ P v', e = .returned (.tuple #[.pointer (some ⟨P, 0, none⟩), .int .i64 0]) ∧ Lg w' P n v' (s.F k) ∧ X.heap.size ≤ P ∧ Fresh X.heap.size v' ∧ Below X.heap.size X w') := fun X A c h ho => lresume_g n (by rw [hn]; exact hE.2.2.2) A L c (s.F k) hL (by rw [hn]; exact hE.2.2.1) (h.lg k hk3).dl X (dclone_any L (by have := HE.out.len k hk3; omega) _ _ (vB_one _) X ho)
          have HID : Hid ((Tryd.prog.info? 42).map (·.size) = some (vB dd).length) := dl_info h32
          have HLD : Hid ((vB dd).length = (vB (List.replicate 32 0#8)).length) := by show _ = _; rw [vB_length, vB_length, h32]; rfl
          have HDD : Hid (dd.length = 32) := h32
          have HIL : Hid ((Tryd.prog.info? tRL).map (·.size) = some LG.length) := by show _ = _; rw [hLG]; exact info_rl
          have HUU : Hid (s.u k = .slice Au L cu) := hu
          have HQQ : Hid (q = s.p k ∧ n = s.n k ∧ L = (s.F k).length ∧ LG = [.int .i64 (n : Int), .slice Au L cu]) := ⟨hq, hn, hL, hLG⟩
          have hnb2 : n ≤ 1099511627776 := by rw [hn]; exact hE.2.2.2
          have hLb : L ≤ 41 := by rw [hL]; exact HE.out.len k hk3
          clear hr hok hrg0 hR hpk hC0 hq hn hL hu hE hLG h32 hrt hdr hn1 hk3
          go_upto_if 56 with fail
          go_step
          go_step
          go_step
          go_step
          go_step
          refine wp_cutW [false, false, true, false, false, false, false, false, true, true, true, true, true, true, true, true, true, true, true, true, true, true, true, true, true, true, true, true, true, true, true, true, true, true, true, false, false, false, false, false, false, false, false, false, false, false, false, false, false, false, false, false, false, false, false, false, false, false, false, true, true, true, true, true, true, true, true, true, true, true, true, true, true, true, true, true, true, true, true, true, true, true, true, true, true, true, true, true, true, true, true, true, true, true, true, true, true, true, true, true, true, true, true, true, true, true, true, true, true, true, true, true, true, true, true, true, true, true, true, true, true, true, true, true, true, true, true, true, true, true, true, true, true, true, true, true, true, true, true, true, true, true, true, true, true, true, true, true, true, true, true, true, true, true, true, true, true, true, true, true, true, true, true, true, true, true, true, true, true, true, true, true, true, true, true, true, true, true, true, true, true, true, true, true, true, true, true, true, true, true, true, true, true, true, true, true, true, true, true, true, true, true, true, true, true, true, true, true, true, true, true, true, true, true, true, true, true, true, true, true, true, true, true, true, true, true, true, true, true, true, true, true, true, true, true, true, true, true, true, true, true, true, true, true, true, true, true, true, true, true, true, true, true, true, true, true, true, true, true, true, true] (fun wz => ∃ s' : S3, Hid (E3 s') ∧ Hid (T3 w wz bt bd s')) ?_ ?_
          · rintro f9 wc ⟨s9, HE9, T9⟩
            clear Twr HG HE
            simp only [overL, cond_true, cond_false, Nat.reduceAdd]
            go_wp2_with fail
            go_roundw
            case rel => exact ⟨n1, s9, HN1L.out, rfl, HE9, T9⟩
            case measure => have := HN1.out; simp [intOf]; omega
          intro K9 hK9
          have HKW : Hid (∀ (l' : List Value) (w' : World), _) := hK9
          clear hK9
          go_upto_region 14 with (first
            | (refine wpList_load_w rfl 33 (.tmp 61) rfl b (o + i * 5) rfl R _ HG.out Tryd.underlying33 rfl HI.out ?_; simp only [Act.put, List.setIfInBounds_toArray, List.set_cons_zero, List.set_cons_succ])
            | (refine wpList_allocOp rfl rfl ?_; intro Y2 q1 q2; have RZ : Hid (Row Y2 wr.heap.size zOp 33) := q1; have BZ : Hid (Below wr.heap.size wr Y2) := q2; clear q1 q2; simp only [Act.put, List.setIfInBounds_toArray, List.set_cons_zero, List.set_cons_succ])
            | (refine wpList_storeL rfl 33 (.tmp 8) (.tmp 62) rfl wr.heap.size R zOp 33 rfl rfl RZ.out HZ.out HI.out HO.out ?_; intro Y3 q1 q2; have p : Below wr.heap.size wr Y3 := (by rw [q1]; exact below_setCells BZ.out (Nat.le_refl _) _); have TY3 : Hid (T3 w Y3 bt bd s) := Twr.out.keep p; have ROY3 : Hid (Row Y3 wr.heap.size R 33) := q2; clear p q1 q2; simp only [Act.put]))
          clear RZ BZ Twr HG
          obtain ⟨y8, hy8⟩ : ∃ y, y = wr.heap.size := ⟨_, rfl⟩
          rw [← hy8] at ROY3 ⊢
          clear hy8
          have c1 := ROY3.out.cell 1 _ HC1.out
          have c0 := ROY3.out.cell 0 _ HC0.out
          go_upto_region 16 with (go_at_call 6; refine Calls.mono (HPK.out Y3) ?_; rintro e X ⟨rfl, hqq⟩; obtain rfl := hqq.symm)
          clear c1 c0
          have hkk : kd = 1 ∨ kd = 2 ∨ kd = 3 ∨ kd = 4 ∨ kd = 5 ∨ kd = 6 ∨ kd = 7 ∨ (¬ kd = 1 ∧ ¬ kd = 2 ∧ ¬ kd = 3 ∧ ¬ kd = 4 ∧ ¬ kd = 5 ∧ ¬ kd = 6 ∧ ¬ kd = 7) := by omega
          rcases hkk with hkk | hkk | hkk | hkk | hkk | hkk | hkk | ⟨g1, g2, g3, g4, g5, g6, g7⟩
          · subst hkk
            obtain ⟨nl, hnl⟩ : ∃ n, n = r.d.length := ⟨_, rfl⟩
            rw [← hnl] at HC3
            obtain ⟨p0, hp0⟩ : ∃ p, p = dig ([0#8] ++ r.d) := ⟨_, rfl⟩
            obtain ⟨nn, FN, rr, hNx⟩ := nx_is n hnb2 (s.F k) p0
            obtain ⟨LN, hLN⟩ : ∃ x, x = FN.length := ⟨_, rfl⟩
            have hFn : (s.F k).length = pc n := by rw [HQQ.out.2.1]; exact (HE.out k HK3.out).2.2.1
            have HNO : Hid (FN.length = pc nn ∧ nn ≤ 1099511627776) := hNx.ok hFn
            have HLT : Hid (∀ X, Below w.heap.size w X → Calls Tryd.prog 7 #[.slice r.Al nl r.cl] X fun e w' => e = .returned (.slice (some ⟨X.heap.size, 0, none⟩) (nl + 70) (nl + 70)) ∧ Row w' X.heap.size (vB (r.d ++ marks70)) 5 ∧ Below X.heap.size X w') := fun X h => lent_any r.d nl hnl.symm (by rw [hnl]; exact HOK.out.dl) r.Al r.cl X (by rw [hnl]; exact HOK.out.da.below h (Nat.le_refl _))
            have HKP : Hid (∀ X y, Below w.heap.size w X → Row X y (vB (r.d ++ marks70)) 5 → Calls Tryd.prog 9 #[.slice (some ⟨y, 0, none⟩) (nl + 70) (nl + 70), .slice r.Al nl r.cl] X fun e w' => e = .returned (.bool true) ∧ Below X.heap.size X w') := fun X y h hr => kept_any r.d nl hnl.symm (by rw [hnl]; exact HOK.out.dl) y r.Al r.cl X hr (by rw [hnl]; exact HOK.out.da.below h (Nat.le_refl _))
            have HAD : Hid (∀ X y, T3 w X bt bd s → Row X y (vB (r.d ++ marks70)) 5 → Calls Tryd.prog 8 #[.pointer (some ⟨q, 0, none⟩), .slice (some ⟨y, 0, none⟩) nl (nl + 70)] X fun e w' => ∃ v1, e = .returned (.int .i64 rr) ∧ T3 w w' bt bd (s.upL k nn v1 FN) ∧ Kq X w') := fun X y h hr => by
              rw [HQQ.out.1]
              exact t_add HT.out HE.out k HK3.out r.d p0 hp0 (by have := HOK.out.dl; omega) nn FN rr (by rw [← HQQ.out.2.1]; exact hNx) _ X h (slat_lent hnl hr)
            have HDA : Hid (∀ X v1, T3 w X bt bd (s.upL k nn v1 FN) → Calls Tryd.prog 10 #[.agg LG.toArray, .slice r.Al nl r.cl] X fun e w' => ∃ A' c', e = .returned (.tuple #[.agg #[.int .i64 (nn : Int), .slice A' LN c'], .int .i64 rr]) ∧ Ow w' (.slice A' LN c') LN (vB FN.flatten) ∧ (∀ d ∈ FN, d.length = 32) ∧ (Fresh X.heap.size (.slice A' LN c') ∨ .slice A' LN c' = s.u k) ∧ Below X.heap.size X w') := fun X v1 h => t_dadd (s := s.upL k nn v1 FN) HT.out k HK3.out n L Au cu (s.F k) (by show s.m k = n; rw [HQQ.out.2.1]; exact (HE.out k HK3.out).1) HUU.out (HE.out k HK3.out).2.1 HQQ.out.2.2.1 hFn hnb2 r.d p0 hp0 r.Al nl r.cl hnl.symm (by rw [hnl]; have := HOK.out.dl; omega) HOK.out.dn nn LN FN rr hNx hLN LG HQQ.out.2.2.2 X h (by rw [hnl]; exact HOK.out.da.below h.be (Nat.le_refl _))
            have HR2 : Hid (∀ X v1, T3 w X bt bd (s.upL k nn v1 FN) → X.rangeAt bd (k * 2) LG) := fun X v1 h => by
              have h9 := h.rg k HK3.out
              change X.rangeAt bd (k * 2) [.int .i64 (s.m k : Int), s.u k] at h9
              rw [HUU.out, (HE.out k HK3.out).1, ← HQQ.out.2.1, ← HQQ.out.2.2.2] at h9
              exact h9
            have HLN : Hid (LN = FN.length) := hLN
            clear hnl hp0 hNx hFn hLN
            have c3 := ROY3.out.cell 3 _ HC3.out
            go_upto_region 18 with (go_at_call 7; refine Calls.mono (HLT.out Y3 TY3.out.be) ?_; rintro e Y4 ⟨rfl, hrow, p⟩; have TY4 : Hid (T3 w Y4 bt bd s) := TY3.out.keep p; have ROY4 : Hid (Row Y4 y8 R 33) := Row.below ROY3.out p ROY3.out.lt; have RWY4 : Hid (Row Y4 Y3.heap.size (vB (r.d ++ marks70)) 5) := hrow; clear hrow; clear p)
            clear c3 TY3 ROY3
            obtain ⟨y10, hy10⟩ : ∃ y, y = Y3.heap.size := ⟨_, rfl⟩
            rw [← hy10] at RWY4 ⊢
            clear hy10
            go_wp2_with fail
            have hb1 := Below.refl Y4.heap.size Y4
            have hT0 := TY4.out
            have r8 := ROY4.out
            have r10 := RWY4.out
            clear TY4 ROY4 RWY4
            refine wp_named fun a0 ha0 => ?_
            have hsz : a0.tmps.size = 303 := by rw [ha0]; rfl
            have zs4 : a0.eval (.tmp 4) = .pointer (some ⟨bt, 0, none⟩) := by rw [ha0]; rfl
            have zs8 : a0.eval (.tmp 8) = .pointer (some ⟨y8, 0, none⟩) := by rw [ha0]; rfl
            have zs9 : a0.eval (.tmp 9) = .int .i64 (k : Int) := by rw [ha0]; rfl
            have zs10 : a0.eval (.tmp 10) = .slice (some ⟨y10, 0, none⟩) (nl + 70) (nl + 70) := by rw [ha0]; rfl
            obtain ⟨D, hD⟩ : ∃ D : List (Tmp × SP), D = [(73, SP.is (.int .i64 (k : Int))), (74, SP.is (.pointer (some ⟨bt, k, none⟩))), (75, SP.is (.pointer (some ⟨q, 0, none⟩))), (76, SP.is (.slice (some ⟨y10, 0, none⟩) (nl + 70) (nl + 70))), (77, SP.is (.pointer (some ⟨y8, 3, none⟩))), (78, SP.is (.slice r.Al nl r.cl)), (79, SP.is (.int .i64 (nl : Int))), (80, SP.is (.slice (some ⟨y10, 0, none⟩) nl (nl + 70))), (81, SP.is (.int .i64 rr)), (11, SP.is (.int .i64 rr))] := ⟨_, rfl⟩
            refine wp_region_then (by kernel_rfl) 8 (by decide) (by kernel_rfl) (fun listed ac W => Fp D a0 listed ac W ∧ Below Y4.heap.size Y4 W ∧ Row W y8 R 33 ∧ Row W y10 ((vB (r.d ++ marks70))) 5 ∧ T3 w W bt bd s) (fun listed ac W => Fp D a0 listed ac W ∧ (∃ v1, T3 w W bt bd (s.upL k nn v1 FN)) ∧ Row W y8 R 33 ∧ Row W y10 (vB (r.d ++ marks70)) 5) ?_ ?_ ?_ ?_ ?_
            · exact ⟨Fp.start D a0 _ _, Below.drew hb1, Row.drew r8, Row.drew r10, hT0.below (Below.drew (Below.refl _ _))⟩
            · clear ha0 hb1 r8 r10 hT0
              intro listed ac W k hl hI hdn hk hne hnl
              replace hl : listed.size = 10 := hl
              obtain ⟨hF, hb1, r8, r10, hT0⟩ := hI
              have hk1 : k < 10 := List.mem_range.1 (List.mem_filter.1 hk).1
              rcases (show k = 0 ∨ k = 1 ∨ k = 2 ∨ k = 3 ∨ k = 4 ∨ k = 5 ∨ k = 6 ∨ k = 7 ∨ k = 8 ∨ k = 9 by omega) with rfl | rfl | rfl | rfl | rfl | rfl | rfl | rfl | rfl | rfl
              · have hk3 := hk
                exact wpOp_plain rfl rfl (wp_move_v (ac.eval (.tmp 9)) rfl rfl ⟨(hF.put 0 73 (SP.is (.int .i64 (k : Int))) (ac.eval (.tmp 9)) (by rw [hD]; rfl) (((hF.keep 9 (by rw [hD]; rfl)).trans zs9)) (by rw [hD]; rfl) (by rw [hsz]; decide) (by rw [hl]; decide)), hb1, r8, r10, hT0⟩)
              · have hk3 := hk
                have ea := ((hF.keep 4 (by rw [hD]; rfl)).trans zs4)
                have eb := (hF.done 0 (73, SP.is (.int .i64 (k : Int))) (by rw [hD]; rfl) (ready_dep hk 0 (by kernel_rfl)))
                exact wpOp_plain rfl rfl (wp_ixA tA3 24 rfl bt 3 k 1 k ea eb HK3.out und_A3 info_pl (Nat.mul_one k) ⟨(hF.put 1 74 (SP.is (.pointer (some ⟨bt, k, none⟩))) (.pointer (some ⟨bt, k, none⟩)) (by rw [hD]; rfl) rfl (by rw [hD]; rfl) (by rw [hsz]; decide) (by rw [hl]; decide)), hb1, r8, r10, hT0⟩)
              · have hk3 := hk
                have ea := (hF.done 1 (74, SP.is (.pointer (some ⟨bt, k, none⟩))) (by rw [hD]; rfl) (ready_dep hk 1 (by kernel_rfl)))
                exact wpOp_plain rfl rfl (wp_load_1 bt k (.pointer (some ⟨q, 0, none⟩)) rfl ea (run_load_pl W bt k _ (HCP.out W hT0)) ⟨(hF.put 2 75 (SP.is (.pointer (some ⟨q, 0, none⟩))) (.pointer (some ⟨q, 0, none⟩)) (by rw [hD]; rfl) rfl (by rw [hD]; rfl) (by rw [hsz]; decide) (by rw [hl]; decide)), hb1, r8, r10, hT0⟩)
              · have hk3 := hk
                exact wpOp_plain rfl rfl (wp_move_v (ac.eval (.tmp 10)) rfl rfl ⟨(hF.put 3 76 (SP.is (.slice (some ⟨y10, 0, none⟩) (nl + 70) (nl + 70))) (ac.eval (.tmp 10)) (by rw [hD]; rfl) (((hF.keep 10 (by rw [hD]; rfl)).trans zs10)) (by rw [hD]; rfl) (by rw [hsz]; decide) (by rw [hl]; decide)), hb1, r8, r10, hT0⟩)
              · have hk3 := hk
                have ea := ((hF.keep 8 (by rw [hD]; rfl)).trans zs8)
                exact wpOp_plain rfl rfl (wp_opf3 y8 rfl ea ⟨(hF.put 4 77 (SP.is (.pointer (some ⟨y8, 3, none⟩))) (.pointer (some ⟨y8, 3, none⟩)) (by rw [hD]; rfl) rfl (by rw [hD]; rfl) (by rw [hsz]; decide) (by rw [hl]; decide)), hb1, r8, r10, hT0⟩)
              · have hk3 := hk
                have ea := (hF.done 4 (77, SP.is (.pointer (some ⟨y8, 3, none⟩))) (by rw [hD]; rfl) (ready_dep hk 4 (by kernel_rfl)))
                exact wpOp_plain rfl rfl (wp_load_1 y8 3 (.slice r.Al nl r.cl) rfl ea (run_load_by W y8 3 _ (r8.cell 3 _ HC3.out)) ⟨(hF.put 5 78 (SP.is (.slice r.Al nl r.cl)) (.slice r.Al nl r.cl) (by rw [hD]; rfl) rfl (by rw [hD]; rfl) (by rw [hsz]; decide) (by rw [hl]; decide)), hb1, r8, r10, hT0⟩)
              · have hk3 := hk
                have ea := (hF.done 5 (78, SP.is (.slice r.Al nl r.cl)) (by rw [hD]; rfl) (ready_dep hk 5 (by kernel_rfl)))
                exact wpOp_plain rfl rfl (wp_len_s 31 5 r.Al nl r.cl rfl Tryd.underlying31 ea ⟨(hF.put 6 79 (SP.is (.int .i64 (nl : Int))) (.int .i64 (nl : Int)) (by rw [hD]; rfl) rfl (by rw [hD]; rfl) (by rw [hsz]; decide) (by rw [hl]; decide)), hb1, r8, r10, hT0⟩)
              · have hk3 := hk
                have ea := (hF.done 3 (76, SP.is (.slice (some ⟨y10, 0, none⟩) (nl + 70) (nl + 70))) (by rw [hD]; rfl) (ready_dep hk 3 (by kernel_rfl)))
                have eb := (hF.done 6 (79, SP.is (.int .i64 (nl : Int))) (by rw [hD]; rfl) (ready_dep hk 6 (by kernel_rfl)))
                exact wpOp_plain rfl rfl (wp_slice_to 31 5 (.tmp 76) (.tmp 79) y10 0 (nl + 70) (nl + 70) nl rfl ea eb (Nat.le_add_right nl 70) Tryd.underlying31 info_u8 ⟨(hF.put 7 80 (SP.is (.slice (some ⟨y10, 0, none⟩) nl (nl + 70))) (.slice (some ⟨y10, 0, none⟩) nl (nl + 70)) (by rw [hD]; rfl) rfl (by rw [hD]; rfl) (by rw [hsz]; decide) (by rw [hl]; decide)), hb1, r8, r10, hT0⟩)
              · exact absurd rfl hne
              · exact absurd (ready_dep hk 8 (by kernel_rfl)) hnl
            · clear ha0 hb1 r8 r10 hT0
              intro listed ac W hl hI hdn hk
              replace hl : listed.size = 10 := hl
              obtain ⟨hF, hb1, r8, r10, hT0⟩ := hI
              have ea := (hF.done 2 (75, SP.is (.pointer (some ⟨q, 0, none⟩))) (by rw [hD]; rfl) (ready_dep hk 2 (by kernel_rfl)))
              have eb := (hF.done 7 (80, SP.is (.slice (some ⟨y10, 0, none⟩) nl (nl + 70))) (by rw [hD]; rfl) (ready_dep hk 7 (by kernel_rfl)))
              refine wpOp_plain rfl rfl (wp_fcall_v 8 #[.pointer (some ⟨q, 0, none⟩), .slice (some ⟨y10, 0, none⟩) nl (nl + 70)] rfl rfl (by show [ac.eval (.tmp 75), ac.eval (.tmp 80)] = _; rw [show ac.eval (.tmp 75) = _ from ea, show ac.eval (.tmp 80) = _ from eb]) (by go_simp) ((HAD.out W y10 hT0 r10).mono ?_))
              rintro e W2 ⟨v1, rfl, hT1, hK1⟩
              have hT : Fp D a0 listed ac W2 := hF.turn (by rw [hD]; simp only [List.forall_mem_cons, List.not_mem_nil, false_implies, implies_true, and_true]; exact ⟨fun _ h => h, fun _ h => h, fun _ h => h, fun _ h => h, fun _ h => h, fun _ h => h, fun _ h => h, fun _ h => h, fun _ h => h, fun _ h => h⟩)
              exact ⟨_, rfl, (hT.put 8 81 (SP.is (.int .i64 rr)) _ (by rw [hD]; rfl) rfl (by rw [hD]; rfl) (by rw [hsz]; decide) (by rw [hl]; decide)), ⟨v1, hT1⟩, hK1 _ _ _ (by decide) (by decide) r8, hK1 _ _ _ (by decide) (by decide) r10⟩
            · clear ha0 hb1 r8 r10 hT0
              intro listed ac W k hl hJ hdn hk hne hyl
              replace hl : listed.size = 10 := hl
              obtain ⟨hF, hT1, r8, r10⟩ := hJ
              have hk1 : k < 10 := List.mem_range.1 (List.mem_filter.1 hk).1
              rcases (show k = 0 ∨ k = 1 ∨ k = 2 ∨ k = 3 ∨ k = 4 ∨ k = 5 ∨ k = 6 ∨ k = 7 ∨ k = 8 ∨ k = 9 by omega) with rfl | rfl | rfl | rfl | rfl | rfl | rfl | rfl | rfl | rfl
              · exact absurd (hdn 1 (hdn 2 (hdn 8 hyl 2 (by kernel_rfl)) 1 (by kernel_rfl)) 0 (by kernel_rfl)) (not_yet hk)
              · exact absurd (hdn 2 (hdn 8 hyl 2 (by kernel_rfl)) 1 (by kernel_rfl)) (not_yet hk)
              · exact absurd (hdn 8 hyl 2 (by kernel_rfl)) (not_yet hk)
              · exact absurd (hdn 7 (hdn 8 hyl 7 (by kernel_rfl)) 3 (by kernel_rfl)) (not_yet hk)
              · exact absurd (hdn 5 (hdn 6 (hdn 7 (hdn 8 hyl 7 (by kernel_rfl)) 6 (by kernel_rfl)) 5 (by kernel_rfl)) 4 (by kernel_rfl)) (not_yet hk)
              · exact absurd (hdn 6 (hdn 7 (hdn 8 hyl 7 (by kernel_rfl)) 6 (by kernel_rfl)) 5 (by kernel_rfl)) (not_yet hk)
              · exact absurd (hdn 7 (hdn 8 hyl 7 (by kernel_rfl)) 6 (by kernel_rfl)) (not_yet hk)
              · exact absurd (hdn 8 hyl 7 (by kernel_rfl)) (not_yet hk)
              · exact absurd rfl hne
              · exact wpOp_plain rfl rfl (wp_assign_v (ac.eval (.tmp 81)) rfl rfl ⟨(hF.put 9 11 (SP.is (.int .i64 rr)) _ (by rw [hD]; rfl) (hF.done 8 (81, SP.is (.int .i64 rr)) (by rw [hD]; rfl) (ready_dep hk 8 (by kernel_rfl))) (by rw [hD]; rfl) (by rw [hsz]; decide) (by rw [hl]; decide)), hT1, r8, r10⟩)
            · clear hb1 r8 r10 hT0
              intro listed ac W hl hJ hr
              replace hl : listed.size = 10 := hl
              obtain ⟨hF, hT1, r8, r10⟩ := hJ
              have hall := all_listed (by kernel_rfl) hl hr
              have h73 : ac.eval (.tmp 73) = .int .i64 (k : Int) := hF.done 0 (73, SP.is (.int .i64 (k : Int))) (by rw [hD]; rfl) (hall 0 (by decide))
              have h74 : ac.eval (.tmp 74) = .pointer (some ⟨bt, k, none⟩) := hF.done 1 (74, SP.is (.pointer (some ⟨bt, k, none⟩))) (by rw [hD]; rfl) (hall 1 (by decide))
              have h75 : ac.eval (.tmp 75) = .pointer (some ⟨q, 0, none⟩) := hF.done 2 (75, SP.is (.pointer (some ⟨q, 0, none⟩))) (by rw [hD]; rfl) (hall 2 (by decide))
              have h76 : ac.eval (.tmp 76) = .slice (some ⟨y10, 0, none⟩) (nl + 70) (nl + 70) := hF.done 3 (76, SP.is (.slice (some ⟨y10, 0, none⟩) (nl + 70) (nl + 70))) (by rw [hD]; rfl) (hall 3 (by decide))
              have h77 : ac.eval (.tmp 77) = .pointer (some ⟨y8, 3, none⟩) := hF.done 4 (77, SP.is (.pointer (some ⟨y8, 3, none⟩))) (by rw [hD]; rfl) (hall 4 (by decide))
              have h78 : ac.eval (.tmp 78) = .slice r.Al nl r.cl := hF.done 5 (78, SP.is (.slice r.Al nl r.cl)) (by rw [hD]; rfl) (hall 5 (by decide))
              have h79 : ac.eval (.tmp 79) = .int .i64 (nl : Int) := hF.done 6 (79, SP.is (.int .i64 (nl : Int))) (by rw [hD]; rfl) (hall 6 (by decide))
              have h80 : ac.eval (.tmp 80) = .slice (some ⟨y10, 0, none⟩) nl (nl + 70) := hF.done 7 (80, SP.is (.slice (some ⟨y10, 0, none⟩) nl (nl + 70))) (by rw [hD]; rfl) (hall 7 (by decide))
              have h81 : ac.eval (.tmp 81) = .int .i64 rr := hF.done 8 (81, SP.is (.int .i64 rr)) (by rw [hD]; rfl) (hall 8 (by decide))
              have h11 : ac.eval (.tmp 11) = .int .i64 rr := hF.done 9 (11, SP.is (.int .i64 rr)) (by rw [hD]; rfl) (hall 9 (by decide))
              have ea := hF.lay [(73, .int .i64 (k : Int)), (74, .pointer (some ⟨bt, k, none⟩)), (75, .pointer (some ⟨q, 0, none⟩)), (76, .slice (some ⟨y10, 0, none⟩) (nl + 70) (nl + 70)), (77, .pointer (some ⟨y8, 3, none⟩)), (78, .slice r.Al nl r.cl), (79, .int .i64 (nl : Int)), (80, .slice (some ⟨y10, 0, none⟩) nl (nl + 70)), (81, .int .i64 rr), (11, .int .i64 rr)] (by rw [hD, hsz]; rfl) (by simp only [List.forall_mem_cons, List.not_mem_nil, false_implies, implies_true, and_true]; exact ⟨h73, h74, h75, h76, h77, h78, h79, h80, h81, h11⟩)
              rw [ha0] at ea
              simp only [List.foldl_cons, List.foldl_nil, List.setIfInBounds_toArray, List.set_cons_zero, List.set_cons_succ] at ea
              clear hF hall hr hl hD zs4 zs8 zs9 zs10 ha0 hsz h73 h74 h75 h76 h77 h78 h79 h80 h81 h11
              subst ea
              obtain ⟨v1, hT1⟩ := hT1
              have TW : Hid (T3 w W bt bd (s.upL k nn v1 FN)) := hT1
              have ROW : Hid (Row W y8 R 33) := r8
              have RWW : Hid (Row W y10 (vB (r.d ++ marks70)) 5) := r10
              clear hT1 r8 r10
              have c3 := ROW.out.cell 3 _ HC3.out
              go_upto_region 20 with (go_at_call 9; refine Calls.mono (HKP.out W y10 TW.out.be RWW.out) ?_; rintro e V1 ⟨rfl, p⟩; have TV1 : Hid (T3 w V1 bt bd (s.upL k nn v1 FN)) := TW.out.keep p; have ROV1 : Hid (Row V1 y8 R 33) := Row.below ROW.out p ROW.out.lt; clear p)
              clear c3 TW ROW RWW
              go_wp2_with fail
              have hb1 := Below.refl V1.heap.size V1
              have r8 := ROV1.out
              have hy8V := r8.lt
              clear ROV1
              refine wp_named fun a0 ha0 => ?_
              have hsz : a0.tmps.size = 303 := by rw [ha0]; rfl
              have zs5 : a0.eval (.tmp 5) = .pointer (some ⟨bd, 0, none⟩) := by rw [ha0]; rfl
              have zs8 : a0.eval (.tmp 8) = .pointer (some ⟨y8, 0, none⟩) := by rw [ha0]; rfl
              have zs9 : a0.eval (.tmp 9) = .int .i64 (k : Int) := by rw [ha0]; rfl
              obtain ⟨D, hD⟩ : ∃ D : List (Tmp × SP), D = [(87, SP.is (.int .i64 (k : Int))), (88, SP.is (.pointer (some ⟨bd, k * 2, none⟩))), (89, SP.is (.agg LG.toArray)), (90, SP.is (.pointer (some ⟨y8, 3, none⟩))), (91, SP.is (.slice r.Al nl r.cl)), (92, SP.rl V1.heap.size nn LN rr FN (s.u k)), (86, SP.rl V1.heap.size nn LN rr FN (s.u k)), (93, SP.ra V1.heap.size nn LN FN (s.u k)), (94, SP.is (.int .i64 rr)), (13, SP.any), (1000, SP.any), (14, SP.is (.int .i64 rr))] := ⟨_, rfl⟩
              refine wp_region_down (by kernel_rfl) (fun listed ac W => ∃ (N13 : Nat), listed.size = 12 ∧ Fp D a0 listed ac W ∧ Below V1.heap.size V1 W ∧ Row W y8 R 33 ∧ (listed.getD 9 false = true → ¬ listed.getD 10 false = true → ac.eval (.tmp 13) = .pointer (some ⟨N13, 0, none⟩) ∧ V1.heap.size - 1 < N13 ∧ Row W N13 zLg tRL) ∧ (listed.getD 10 false = true → ac.eval (.tmp 13) = .pointer (some ⟨N13, 0, none⟩) ∧ V1.heap.size - 1 < N13 ∧ ∃ A c, Row W N13 [.int .i64 (nn : Int), .slice A LN c] tRL ∧ Ra V1.heap.size LN FN (s.u k) W A c)) ?_ ?_ ?_
              · exact ⟨0, by simp, Fp.start D a0 _ _, Below.drew hb1, Row.drew r8, (fun h _ => (start_no h).elim), (fun h => (start_no h).elim)⟩
              · clear ha0 hb1 r8 
                intro listed ac W k hI hdn hk
                obtain ⟨N13, hl, hF, hb1, r8, ax9, ay9⟩ := hI
                have hk1 : k < 12 := List.mem_range.1 (List.mem_filter.1 hk).1
                have hl2 : ∀ j, (listed.setIfInBounds j true).size = 12 := fun j => by rw [Array.size_setIfInBounds]; exact hl
                rcases (show k = 0 ∨ k = 1 ∨ k = 2 ∨ k = 3 ∨ k = 4 ∨ k = 5 ∨ k = 6 ∨ k = 7 ∨ k = 8 ∨ k = 9 ∨ k = 10 ∨ k = 11 by omega) with rfl | rfl | rfl | rfl | rfl | rfl | rfl | rfl | rfl | rfl | rfl | rfl
                · have hk3 := hk
                  have hnsx : ¬ listed.getD 10 false = true := fun h => not_yet hk (hdn 10 h 0 (by kernel_rfl))
                  exact wpOp_plain rfl rfl (wp_move_v (ac.eval (.tmp 9)) rfl rfl ⟨N13, hl2 0, (hF.put 0 87 (SP.is (.int .i64 (k : Int))) (ac.eval (.tmp 9)) (by rw [hD]; rfl) (((hF.keep 9 (by rw [hD]; rfl)).trans zs9)) (by rw [hD]; rfl) (by rw [hsz]; decide) (by rw [hl]; decide)), hb1, r8, (fun h1 h2 => ⟨(eval_put_other ac _ (by decide)).trans ((ax9 (by rwa [getD_set _ _ _ (by decide)] at h1) (by rwa [getD_set _ _ _ (by decide)] at h2)).1), (ax9 (by rwa [getD_set _ _ _ (by decide)] at h1) (by rwa [getD_set _ _ _ (by decide)] at h2)).2.1, (ax9 (by rwa [getD_set _ _ _ (by decide)] at h1) (by rwa [getD_set _ _ _ (by decide)] at h2)).2.2⟩), (fun h => absurd (by rwa [getD_set _ _ _ (by decide)] at h) hnsx)⟩)
                · have hk3 := hk
                  have hnsx : ¬ listed.getD 10 false = true := fun h => not_yet hk (hdn 10 h 1 (by kernel_rfl))
                  have ea := ((hF.keep 5 (by rw [hD]; rfl)).trans zs5)
                  have eb := (hF.done 0 (87, SP.is (.int .i64 (k : Int))) (by rw [hD]; rfl) (ready_dep hk 0 (by kernel_rfl)))
                  exact wpOp_plain rfl rfl (wp_ixA tD3 tRL rfl bd 3 k 2 (k * 2) ea eb HK3.out und_D3 info_rl rfl ⟨N13, hl2 1, (hF.put 1 88 (SP.is (.pointer (some ⟨bd, k * 2, none⟩))) (.pointer (some ⟨bd, k * 2, none⟩)) (by rw [hD]; rfl) rfl (by rw [hD]; rfl) (by rw [hsz]; decide) (by rw [hl]; decide)), hb1, r8, (fun h1 h2 => ⟨(eval_put_other ac _ (by decide)).trans ((ax9 (by rwa [getD_set _ _ _ (by decide)] at h1) (by rwa [getD_set _ _ _ (by decide)] at h2)).1), (ax9 (by rwa [getD_set _ _ _ (by decide)] at h1) (by rwa [getD_set _ _ _ (by decide)] at h2)).2.1, (ax9 (by rwa [getD_set _ _ _ (by decide)] at h1) (by rwa [getD_set _ _ _ (by decide)] at h2)).2.2⟩), (fun h => absurd (by rwa [getD_set _ _ _ (by decide)] at h) hnsx)⟩)
                · have hk3 := hk
                  have hnsx : ¬ listed.getD 10 false = true := fun h => not_yet hk (hdn 10 h 2 (by kernel_rfl))
                  have ea := (hF.done 1 (88, SP.is (.pointer (some ⟨bd, k * 2, none⟩))) (by rw [hD]; rfl) (ready_dep hk 1 (by kernel_rfl)))
                  exact wpOp_plain rfl rfl (wp_load_mid tRL (.tmp 88) rfl bd (k * 2) ea LG _ (HR2.out W v1 (TV1.out.keep hb1)) Tryd.underlying28 rfl HIL.out ⟨N13, hl2 2, (hF.put 2 89 (SP.is (.agg LG.toArray)) (.agg LG.toArray) (by rw [hD]; rfl) rfl (by rw [hD]; rfl) (by rw [hsz]; decide) (by rw [hl]; decide)), hb1, r8, (fun h1 h2 => ⟨(eval_put_other ac _ (by decide)).trans ((ax9 (by rwa [getD_set _ _ _ (by decide)] at h1) (by rwa [getD_set _ _ _ (by decide)] at h2)).1), (ax9 (by rwa [getD_set _ _ _ (by decide)] at h1) (by rwa [getD_set _ _ _ (by decide)] at h2)).2.1, (ax9 (by rwa [getD_set _ _ _ (by decide)] at h1) (by rwa [getD_set _ _ _ (by decide)] at h2)).2.2⟩), (fun h => absurd (by rwa [getD_set _ _ _ (by decide)] at h) hnsx)⟩)
                · have hk3 := hk
                  have hnsx : ¬ listed.getD 10 false = true := fun h => not_yet hk (hdn 10 h 3 (by kernel_rfl))
                  have ea := ((hF.keep 8 (by rw [hD]; rfl)).trans zs8)
                  exact wpOp_plain rfl rfl (wp_opf3 y8 rfl ea ⟨N13, hl2 3, (hF.put 3 90 (SP.is (.pointer (some ⟨y8, 3, none⟩))) (.pointer (some ⟨y8, 3, none⟩)) (by rw [hD]; rfl) rfl (by rw [hD]; rfl) (by rw [hsz]; decide) (by rw [hl]; decide)), hb1, r8, (fun h1 h2 => ⟨(eval_put_other ac _ (by decide)).trans ((ax9 (by rwa [getD_set _ _ _ (by decide)] at h1) (by rwa [getD_set _ _ _ (by decide)] at h2)).1), (ax9 (by rwa [getD_set _ _ _ (by decide)] at h1) (by rwa [getD_set _ _ _ (by decide)] at h2)).2.1, (ax9 (by rwa [getD_set _ _ _ (by decide)] at h1) (by rwa [getD_set _ _ _ (by decide)] at h2)).2.2⟩), (fun h => absurd (by rwa [getD_set _ _ _ (by decide)] at h) hnsx)⟩)
                · have hk3 := hk
                  have hnsx : ¬ listed.getD 10 false = true := fun h => not_yet hk (hdn 10 h 4 (by kernel_rfl))
                  have ea := (hF.done 3 (90, SP.is (.pointer (some ⟨y8, 3, none⟩))) (by rw [hD]; rfl) (ready_dep hk 3 (by kernel_rfl)))
                  exact wpOp_plain rfl rfl (wp_load_1 y8 3 (.slice r.Al nl r.cl) rfl ea (run_load_by W y8 3 _ (r8.cell 3 _ HC3.out)) ⟨N13, hl2 4, (hF.put 4 91 (SP.is (.slice r.Al nl r.cl)) (.slice r.Al nl r.cl) (by rw [hD]; rfl) rfl (by rw [hD]; rfl) (by rw [hsz]; decide) (by rw [hl]; decide)), hb1, r8, (fun h1 h2 => ⟨(eval_put_other ac _ (by decide)).trans ((ax9 (by rwa [getD_set _ _ _ (by decide)] at h1) (by rwa [getD_set _ _ _ (by decide)] at h2)).1), (ax9 (by rwa [getD_set _ _ _ (by decide)] at h1) (by rwa [getD_set _ _ _ (by decide)] at h2)).2.1, (ax9 (by rwa [getD_set _ _ _ (by decide)] at h1) (by rwa [getD_set _ _ _ (by decide)] at h2)).2.2⟩), (fun h => absurd (by rwa [getD_set _ _ _ (by decide)] at h) hnsx)⟩)
                · have hk3 := hk
                  have hnsx : ¬ listed.getD 10 false = true := fun h => not_yet hk (hdn 10 h 5 (by kernel_rfl))
                  have ea := (hF.done 2 (89, SP.is (.agg LG.toArray)) (by rw [hD]; rfl) (ready_dep hk 2 (by kernel_rfl)))
                  have eb := (hF.done 4 (91, SP.is (.slice r.Al nl r.cl)) (by rw [hD]; rfl) (ready_dep hk 4 (by kernel_rfl)))
                  refine wpOp_plain rfl rfl (wp_fcall_v 10 #[.agg LG.toArray, .slice r.Al nl r.cl] rfl rfl (by show [ac.eval (.tmp 89), ac.eval (.tmp 91)] = _; rw [show ac.eval (.tmp 89) = _ from ea, show ac.eval (.tmp 91) = _ from eb]) (by go_simp) ((HDA.out W v1 (TV1.out.keep hb1)).mono ?_))
                  rintro e W2 ⟨A', c', rfl, hO, h9, hZ, hB⟩
                  exact ⟨_, rfl, N13, hl2 5, ((hF.world hB).put 5 92 (SP.rl V1.heap.size nn LN rr FN (s.u k)) (.tuple #[.agg #[.int .i64 (nn : Int), .slice A' LN c'], .int .i64 rr]) (by rw [hD]; rfl) (⟨A', c', rfl, hO, h9, hZ.imp (fun f => f.more hb1.size) id⟩) (by rw [hD]; rfl) (by rw [hsz]; decide) (by rw [hl]; decide)), hb1.trans (hB.mono hb1.size), Row.below r8 hB (Row.lt r8), (fun h1 h2 => ⟨(eval_put_other ac _ (by decide)).trans ((ax9 (by rwa [getD_set _ _ _ (by decide)] at h1) (by rwa [getD_set _ _ _ (by decide)] at h2)).1), (ax9 (by rwa [getD_set _ _ _ (by decide)] at h1) (by rwa [getD_set _ _ _ (by decide)] at h2)).2.1, Row.below (ax9 (by rwa [getD_set _ _ _ (by decide)] at h1) (by rwa [getD_set _ _ _ (by decide)] at h2)).2.2 hB (Row.lt (ax9 (by rwa [getD_set _ _ _ (by decide)] at h1) (by rwa [getD_set _ _ _ (by decide)] at h2)).2.2)⟩), (fun h => absurd (by rwa [getD_set _ _ _ (by decide)] at h) hnsx)⟩
                · have hk3 := hk
                  have hnsx : ¬ listed.getD 10 false = true := fun h => not_yet hk (hdn 10 h 6 (by kernel_rfl))
                  exact wpOp_plain rfl rfl (wp_move_v (ac.eval (.tmp 92)) rfl rfl ⟨N13, hl2 6, (hF.put 6 86 (SP.rl V1.heap.size nn LN rr FN (s.u k)) (ac.eval (.tmp 92)) (by rw [hD]; rfl) ((hF.done 5 (92, SP.rl V1.heap.size nn LN rr FN (s.u k)) (by rw [hD]; rfl) (ready_dep hk 5 (by kernel_rfl)))) (by rw [hD]; rfl) (by rw [hsz]; decide) (by rw [hl]; decide)), hb1, r8, (fun h1 h2 => ⟨(eval_put_other ac _ (by decide)).trans ((ax9 (by rwa [getD_set _ _ _ (by decide)] at h1) (by rwa [getD_set _ _ _ (by decide)] at h2)).1), (ax9 (by rwa [getD_set _ _ _ (by decide)] at h1) (by rwa [getD_set _ _ _ (by decide)] at h2)).2.1, (ax9 (by rwa [getD_set _ _ _ (by decide)] at h1) (by rwa [getD_set _ _ _ (by decide)] at h2)).2.2⟩), (fun h => absurd (by rwa [getD_set _ _ _ (by decide)] at h) hnsx)⟩)
                · have hk3 := hk
                  have hnsx : ¬ listed.getD 10 false = true := fun h => not_yet hk (hdn 10 h 7 (by kernel_rfl))
                  obtain ⟨A, c, e9, hR⟩ := (hF.done 6 (86, SP.rl V1.heap.size nn LN rr FN (s.u k)) (by rw [hD]; rfl) (ready_dep hk 6 (by kernel_rfl)))
                  exact wpOp_plain rfl rfl (wp_extract (.tmp 86) 0 rfl _ e9 (.agg #[.int .i64 (nn : Int), .slice A LN c]) rfl ⟨N13, hl2 7, (hF.put 7 93 (SP.ra V1.heap.size nn LN FN (s.u k)) (.agg #[.int .i64 (nn : Int), .slice A LN c]) (by rw [hD]; rfl) (⟨A, c, rfl, hR⟩) (by rw [hD]; rfl) (by rw [hsz]; decide) (by rw [hl]; decide)), hb1, r8, (fun h1 h2 => ⟨(eval_put_other ac _ (by decide)).trans ((ax9 (by rwa [getD_set _ _ _ (by decide)] at h1) (by rwa [getD_set _ _ _ (by decide)] at h2)).1), (ax9 (by rwa [getD_set _ _ _ (by decide)] at h1) (by rwa [getD_set _ _ _ (by decide)] at h2)).2.1, (ax9 (by rwa [getD_set _ _ _ (by decide)] at h1) (by rwa [getD_set _ _ _ (by decide)] at h2)).2.2⟩), (fun h => absurd (by rwa [getD_set _ _ _ (by decide)] at h) hnsx)⟩)
                · have hk3 := hk
                  obtain ⟨A, c, e9, hR⟩ := (hF.done 6 (86, SP.rl V1.heap.size nn LN rr FN (s.u k)) (by rw [hD]; rfl) (ready_dep hk 6 (by kernel_rfl)))
                  exact wpOp_plain rfl rfl (wp_extract (.tmp 86) 1 rfl _ e9 (.int .i64 rr) rfl ⟨N13, hl2 8, (hF.put 8 94 (SP.is (.int .i64 rr)) (.int .i64 rr) (by rw [hD]; rfl) rfl (by rw [hD]; rfl) (by rw [hsz]; decide) (by rw [hl]; decide)), hb1, r8, (fun h1 h2 => ⟨(eval_put_other ac _ (by decide)).trans ((ax9 (by rwa [getD_set _ _ _ (by decide)] at h1) (by rwa [getD_set _ _ _ (by decide)] at h2)).1), (ax9 (by rwa [getD_set _ _ _ (by decide)] at h1) (by rwa [getD_set _ _ _ (by decide)] at h2)).2.1, (ax9 (by rwa [getD_set _ _ _ (by decide)] at h1) (by rwa [getD_set _ _ _ (by decide)] at h2)).2.2⟩), (fun h => ⟨(eval_put_other ac _ (by decide)).trans ((ay9 (by rwa [getD_set _ _ _ (by decide)] at h)).1), (ay9 (by rwa [getD_set _ _ _ (by decide)] at h)).2⟩)⟩)
                · have hk3 := hk
                  have hnsx : ¬ listed.getD 10 false = true := fun h => not_yet hk (hdn 10 h 9 (by kernel_rfl))
                  have hsm : V1.heap.size - 1 < W.heap.size := (by have := hb1.size; have := Row.lt r8; omega)
                  have hB : Below W.heap.size W (W.alloc (.cells zLg.toArray tRL)) := (Below.refl _ _).alloc (Nat.le_refl _) _
                  exact wpOp_plain rfl rfl (wp_allocRL rfl ⟨W.heap.size, hl2 9, ((hF.world hB).put 9 13 (SP.any) (.pointer (some ⟨W.heap.size, 0, none⟩)) (by rw [hD]; rfl) trivial (by rw [hD]; rfl) (by rw [hsz]; decide) (by rw [hl]; decide)), hb1.alloc hb1.size _, Row.alloc r8 _, (fun _ _ => ⟨eval_put_same ac _ (by rw [hF.size, hsz]; decide), hsm, Row.new' rfl rfl⟩), (fun h => absurd (by rwa [getD_set _ _ _ (by decide)] at h) hnsx)⟩)
                · have hk3 := hk
                  obtain ⟨A, c, e9, hR⟩ := (hF.done 7 (93, SP.ra V1.heap.size nn LN FN (s.u k)) (by rw [hD]; rfl) (ready_dep hk 7 (by kernel_rfl)))
                  have hal := ready_dep hk 9 (by kernel_rfl)
                  obtain ⟨e1, m1, y2⟩ := ax9 hal (not_yet hk)
                  have T := y2.there 0 ([.int .i64 (nn : Int), .slice A LN c] : List Value).toArray.size (by show 0 + 2 ≤ 2; omega)
                  have hT : Fp D a0 listed ac (W.setCells N13 0 ([.int .i64 (nn : Int), .slice A LN c] : List Value)) := hF.turn (by rw [hD]; simp only [List.forall_mem_cons, List.not_mem_nil, false_implies, implies_true, and_true]; exact ⟨fun _ h => h, fun _ h => h, fun _ h => h, fun _ h => h, fun _ h => h, fun _ h => by obtain ⟨A, c, e, h9⟩ := h; exact ⟨A, c, e, h9.set y2 _⟩, fun _ h => by obtain ⟨A, c, e, h9⟩ := h; exact ⟨A, c, e, h9.set y2 _⟩, fun _ h => by obtain ⟨A, c, e, h9⟩ := h; exact ⟨A, c, e, h9.set y2 _⟩, fun _ h => h, fun _ h => h, fun _ h => h, fun _ h => h⟩)
                  exact wpOp_plain rfl rfl (wp_store_mid tRL (.tmp 13) (.tmp 93) rfl N13 0 ([.int .i64 (nn : Int), .slice A LN c] : List Value).toArray e1 e9 T info_rl (one_rl _ _ _ _) ⟨N13, hl2 10, (hT.skip 10 1000 (by rw [hD]; rfl) (by rw [hl]; decide)), below_setCells hb1 (by omega) _, Row.setCells_other r8 _ _ _ (by omega), (fun _ h => absurd (getD_same (by rw [hl]; decide)) h), (fun _ => ⟨e1, m1, ⟨A, c, y2.over rfl, hR.set y2 _⟩⟩)⟩)
                · have hk3 := hk
                  exact wpOp_plain rfl rfl (wp_assign_v (ac.eval (.tmp 94)) rfl rfl ⟨N13, hl2 11, (hF.put 11 14 (SP.is (.int .i64 rr)) (ac.eval (.tmp 94)) (by rw [hD]; rfl) ((hF.done 8 (94, SP.is (.int .i64 rr)) (by rw [hD]; rfl) (ready_dep hk 8 (by kernel_rfl)))) (by rw [hD]; rfl) (by rw [hsz]; decide) (by rw [hl]; decide)), hb1, r8, (fun h1 h2 => ⟨(eval_put_other ac _ (by decide)).trans ((ax9 (by rwa [getD_set _ _ _ (by decide)] at h1) (by rwa [getD_set _ _ _ (by decide)] at h2)).1), (ax9 (by rwa [getD_set _ _ _ (by decide)] at h1) (by rwa [getD_set _ _ _ (by decide)] at h2)).2.1, (ax9 (by rwa [getD_set _ _ _ (by decide)] at h1) (by rwa [getD_set _ _ _ (by decide)] at h2)).2.2⟩), (fun h => ⟨(eval_put_other ac _ (by decide)).trans ((ay9 (by rwa [getD_set _ _ _ (by decide)] at h)).1), (ay9 (by rwa [getD_set _ _ _ (by decide)] at h)).2⟩)⟩)
              · clear hb1 r8 
                intro listed ac W hI hr
                obtain ⟨N13, hl, hF, hb1, r8, ax9, ay9⟩ := hI
                have hall := all_listed (by kernel_rfl) hl hr
                obtain ⟨ea13, m13, p13⟩ := ay9 (hall 10 (by decide))
                have h87 : ac.eval (.tmp 87) = .int .i64 (k : Int) := hF.done 0 (87, SP.is (.int .i64 (k : Int))) (by rw [hD]; rfl) (hall 0 (by decide))
                have h88 : ac.eval (.tmp 88) = .pointer (some ⟨bd, k * 2, none⟩) := hF.done 1 (88, SP.is (.pointer (some ⟨bd, k * 2, none⟩))) (by rw [hD]; rfl) (hall 1 (by decide))
                have h89 : ac.eval (.tmp 89) = .agg LG.toArray := hF.done 2 (89, SP.is (.agg LG.toArray)) (by rw [hD]; rfl) (hall 2 (by decide))
                have h90 : ac.eval (.tmp 90) = .pointer (some ⟨y8, 3, none⟩) := hF.done 3 (90, SP.is (.pointer (some ⟨y8, 3, none⟩))) (by rw [hD]; rfl) (hall 3 (by decide))
                have h91 : ac.eval (.tmp 91) = .slice r.Al nl r.cl := hF.done 4 (91, SP.is (.slice r.Al nl r.cl)) (by rw [hD]; rfl) (hall 4 (by decide))
                obtain ⟨x92, h92⟩ : ∃ x, ac.eval (.tmp 92) = x := ⟨_, rfl⟩
                obtain ⟨x86, h86⟩ : ∃ x, ac.eval (.tmp 86) = x := ⟨_, rfl⟩
                obtain ⟨x93, h93⟩ : ∃ x, ac.eval (.tmp 93) = x := ⟨_, rfl⟩
                have h94 : ac.eval (.tmp 94) = .int .i64 rr := hF.done 8 (94, SP.is (.int .i64 rr)) (by rw [hD]; rfl) (hall 8 (by decide))
                have h14 : ac.eval (.tmp 14) = .int .i64 rr := hF.done 11 (14, SP.is (.int .i64 rr)) (by rw [hD]; rfl) (hall 11 (by decide))
                have ea := hF.lay [(87, .int .i64 (k : Int)), (88, .pointer (some ⟨bd, k * 2, none⟩)), (89, .agg LG.toArray), (90, .pointer (some ⟨y8, 3, none⟩)), (91, .slice r.Al nl r.cl), (92, x92), (86, x86), (93, x93), (94, .int .i64 rr), (13, .pointer (some ⟨N13, 0, none⟩)), (14, .int .i64 rr)] (by rw [hD, hsz]; rfl) (by simp only [List.forall_mem_cons, List.not_mem_nil, false_implies, implies_true, and_true]; exact ⟨h87, h88, h89, h90, h91, h92, h86, h93, h94, ea13, h14⟩)
                rw [ha0] at ea
                simp only [List.foldl_cons, List.foldl_nil, List.setIfInBounds_toArray, List.set_cons_zero, List.set_cons_succ] at ea
                clear hF hall hr hl hD ax9 ay9 zs5 zs8 zs9 ha0 hsz h87 h88 h89 h90 h91 h92 h86 h93 h94 ea13 h14
                subst ea
                obtain ⟨A9, c9, r13, hR⟩ := p13
                have TW : Hid (T3 w W bt bd (s.upL k nn v1 FN)) := TV1.out.keep hb1
                have B1W : Hid (Below V1.heap.size V1 W) := hb1
                have R13 : Hid (Row W N13 [.int .i64 (nn : Int), .slice A9 LN c9] tRL) := r13
                have RA9 : Hid (Ra V1.heap.size LN FN (s.u k) W A9 c9) := hR
                clear r13 hR r8 hb1 m13
                go_wp2_with (first
                  | (refine wpList_load_w rfl tRL (.tmp 13) rfl N13 (0) rfl [.int .i64 (nn : Int), .slice A9 LN c9] _ R13.out.all Tryd.underlying28 rfl info_rl ?_; simp only [Act.put, List.setIfInBounds_toArray, List.set_cons_zero, List.set_cons_succ])
                  | (refine wpList_ixA rfl tD3 tRL (.tmp 5) (.tmp 95) rfl bd 3 k 2 (k * 2) rfl rfl HK3.out und_D3 info_rl rfl ?_; simp only [Act.put, List.setIfInBounds_toArray, List.set_cons_zero, List.set_cons_succ])
                  | (refine wpList_storeM2 rfl tRL (.tmp 97) (.tmp 96) rfl bd (k * 2) [.int .i64 (nn : Int), .slice A9 LN c9] _ tD3 rfl rfl TW.out.rd (by have := HK3.out; show k * 2 + 2 ≤ 6; omega) info_rl (one_rl _ _ _ _) ?_; intro Z6 q1; have TZ6 : Hid (T3 w Z6 bt bd (S3.upD (s.upL k nn v1 FN) k nn (.slice A9 LN c9) FN)) := (by rw [q1]; exact T3.setD TV1.out B1W.out k HK3.out nn (.slice A9 LN c9) FN (by rw [← HLN.out]; exact RA9.out.1) RA9.out.2.1 RA9.out.2.2); clear q1; simp only [Act.put]))
                exact HKW.out _ _ (by kernel_rfl) (by kernel_rfl) ⟨_, HE.out.upLD k nn v1 _ FN HNO.out.1 HNO.out.2, TZ6⟩
          · subst hkk
            have cT := HCP.out Y3 TY3.out
            have cM := HCM.out Y3 TY3.out
            clear ROY3
            go_upto_region 26 with (first
              | (refine wpList_ixA rfl tA3 24 (.tmp 4) (.tmp 107) rfl bt 3 k 1 k rfl rfl HK3.out und_A3 info_pl (Nat.mul_one k) ?_; simp only [Act.put, List.setIfInBounds_toArray, List.set_cons_zero, List.set_cons_succ])
              | (go_at_call 11; refine Calls.mono (HSZ.out Y3 TY3.out) ?_; rintro e X ⟨rfl, hqq⟩; obtain rfl := hqq.symm))
            go_wp2_with (refine wpList_ixA rfl tD3 tRL (.tmp 5) (.tmp 112) rfl bd 3 k 2 (k * 2) rfl rfl HK3.out und_D3 info_rl rfl ?_; simp only [Act.put, List.setIfInBounds_toArray, List.set_cons_zero, List.set_cons_succ])
            go_wp2_with fail
            exact HKW.out _ _ (by kernel_rfl) (by kernel_rfl) ⟨s, HE, TY3⟩
          · subst hkk
            have cT := HCP.out Y3 TY3.out
            clear ROY3
            go_upto_region 30 with (first
              | (refine wpList_ixA rfl tA3 24 (.tmp 4) (.tmp 119) rfl bt 3 k 1 k rfl rfl HK3.out und_A3 info_pl (Nat.mul_one k) ?_; simp only [Act.put, List.setIfInBounds_toArray, List.set_cons_zero, List.set_cons_succ])
              | (go_at_call 12; refine Calls.mono (HRT.out Y3 TY3.out) ?_; rintro e Y4 ⟨rfl, p⟩; have TY4 : Hid (T3 w Y4 bt bd s) := TY3.out.keep p; clear p)
              | (refine wpList_allocD rfl rfl ?_; intro Y4z q1 q2 q3; have RZ : Hid (Row Y4z Y4.heap.size (vB (List.replicate 32 0#8)) 42) := q1; have BZ : Hid (Below Y4.heap.size Y4 Y4z) := q2; clear q1 q2 q3; simp only [Act.put, List.setIfInBounds_toArray, List.set_cons_zero, List.set_cons_succ])
              | (refine wpList_storeL rfl 42 (.tmp 16) (.tmp 122) rfl Y4.heap.size (vB dd) (vB (List.replicate 32 0#8)) 42 rfl rfl RZ.out HLD.out HID.out (all_oneCell_toArray (vB_one dd)) ?_; intro Y5 q1 q2; have p : Below Y4.heap.size Y4 Y5 := (by rw [q1]; exact below_setCells BZ.out (Nat.le_refl _) _); have TY5 : Hid (T3 w Y5 bt bd s) := TY4.out.keep p; have RPY5 : Hid (Row Y5 Y4.heap.size (vB dd) 42) := q2; clear p q1 q2; simp only [Act.put]))
            clear RZ BZ cT TY3 TY4
            obtain ⟨y16, hy16⟩ : ∃ y, y = Y4.heap.size := ⟨_, rfl⟩
            rw [← hy16] at RPY5 ⊢
            clear hy16
            go_upto_region 31 with (first
              | (refine wpList_ixA rfl tD3 tRL (.tmp 5) (.tmp 123) rfl bd 3 k 2 (k * 2) rfl rfl HK3.out und_D3 info_rl rfl ?_; simp only [Act.put, List.setIfInBounds_toArray, List.set_cons_zero, List.set_cons_succ])
              | (refine wpList_load_w rfl tRL (.tmp 124) rfl bd (k * 2) rfl LG _ (HRG.out Y5 TY5.out) Tryd.underlying28 rfl HIL.out ?_; simp only [Act.put, List.setIfInBounds_toArray, List.set_cons_zero, List.set_cons_succ])
              | (go_at_call 13; refine Calls.mono (HDR.out Y5 TY5.out) ?_; rintro e Y6 ⟨rfl, p⟩; have TY6 : Hid (T3 w Y6 bt bd s) := TY5.out.keep p; have RPY6 : Hid (Row Y6 y16 (vB dd) 42) := Row.below RPY5.out p RPY5.out.lt; clear p)
              | (refine wpList_allocD rfl rfl ?_; intro Y6z q1 q2 q3; have RZ : Hid (Row Y6z Y6.heap.size (vB (List.replicate 32 0#8)) 42) := q1; have BZ : Hid (Below Y6.heap.size Y6 Y6z) := q2; clear q1 q2 q3; simp only [Act.put, List.setIfInBounds_toArray, List.set_cons_zero, List.set_cons_succ])
              | (refine wpList_storeL rfl 42 (.tmp 17) (.tmp 126) rfl Y6.heap.size (vB dd) (vB (List.replicate 32 0#8)) 42 rfl rfl RZ.out HLD.out HID.out (all_oneCell_toArray (vB_one dd)) ?_; intro Y7 q1 q2; have p : Below Y6.heap.size Y6 Y7 := (by rw [q1]; exact below_setCells BZ.out (Nat.le_refl _) _); have TY7 : Hid (T3 w Y7 bt bd s) := TY6.out.keep p; have RPY7 : Hid (Row Y7 y16 (vB dd) 42) := Row.below RPY6.out p RPY6.out.lt; have RQY7 : Hid (Row Y7 Y6.heap.size (vB dd) 42) := q2; clear p q1 q2; simp only [Act.put]))
            clear RZ BZ TY5 TY6 RPY5 RPY6
            obtain ⟨y17, hy17⟩ : ∃ y, y = Y6.heap.size := ⟨_, rfl⟩
            rw [← hy17] at RQY7 ⊢
            clear hy17
            go_wp2_with (first
              | (refine wpList_load_w rfl 42 (.tmp 16) rfl y16 (0) rfl (vB dd) _ RPY7.out.all Tryd.underlying42 rfl HID.out ?_; simp only [Act.put, List.setIfInBounds_toArray, List.set_cons_zero, List.set_cons_succ])
              | (refine wpList_load_w rfl 42 (.tmp 17) rfl y17 (0) rfl (vB dd) _ RQY7.out.all Tryd.underlying42 rfl HID.out ?_; simp only [Act.put, List.setIfInBounds_toArray, List.set_cons_zero, List.set_cons_succ])
              | (refine wpList_neqD rfl (.tmp 127) (.tmp 128) _ rfl dd HDD.out rfl rfl ?_; simp only [Act.put, List.setIfInBounds_toArray, List.set_cons_zero, List.set_cons_succ]))
            go_wp2_with fail
            exact HKW.out _ _ (by kernel_rfl) (by kernel_rfl) ⟨s, HE, TY7⟩
          · subst hkk
            have cT := HCP.out Y3 TY3.out
            have BCY3 : Hid (Below Y3.heap.size Y3 Y3) := Below.refl _ _
            clear ROY3
            go_upto_region 35 with (first
              | (refine wpList_ixA rfl tA3 24 (.tmp 4) (.tmp 132) rfl bt 3 k 1 k rfl rfl HK3.out und_A3 info_pl (Nat.mul_one k) ?_; simp only [Act.put, List.setIfInBounds_toArray, List.set_cons_zero, List.set_cons_succ])
              | (go_at_call 14; refine Calls.mono (HFR.out Y3 TY3.out) ?_; rintro e Y4 ⟨A18, c18, rfl, ho, hf, p⟩; have TY4 : Hid (T3 w Y4 bt bd s) := TY3.out.keep p; have BCY4 : Hid (Below Y3.heap.size Y3 Y4) := BCY3.out.trans (p.mono BCY3.out.size); have O18Y4 : Hid (Ow Y4 (.slice A18 L c18) L (vB (s.F k).flatten)) := ho; have F18 : Hid (Fresh Y3.heap.size (.slice A18 L c18)) := hf; clear ho hf; clear p))
            clear cT
            have cT := HCP.out Y4 TY4.out
            go_upto_region 36 with (first
              | (refine wpList_ixA rfl tA3 24 (.tmp 4) (.tmp 136) rfl bt 3 k 1 k rfl rfl HK3.out und_A3 info_pl (Nat.mul_one k) ?_; simp only [Act.put, List.setIfInBounds_toArray, List.set_cons_zero, List.set_cons_succ])
              | (go_at_call 14; refine Calls.mono (HFR.out Y4 TY4.out) ?_; rintro e Y5 ⟨A19, c19, rfl, ho, hf, p⟩; have TY5 : Hid (T3 w Y5 bt bd s) := TY4.out.keep p; have O18Y5 : Hid (Ow Y5 (.slice A18 L c18) L (vB (s.F k).flatten)) := O18Y4.out.be p; have BCY5 : Hid (Below Y3.heap.size Y3 Y5) := BCY4.out.trans (p.mono BCY4.out.size); have O19Y5 : Hid (Ow Y5 (.slice A19 L c19) L (vB (s.F k).flatten)) := ho; have F19 : Hid (Fresh Y4.heap.size (.slice A19 L c19)) := hf; clear ho hf; clear p))
            have HAP : Hid (Ap (.slice A18 L c18) (.slice A19 L c19)) := fun g e1 e2 => by have := Ow.lt O18Y4.out g e1; have := F19.out g e2; omega
            have F19b : Hid (Fresh Y3.heap.size (.slice A19 L c19)) := F19.out.more BCY4.out.size
            clear cT TY4 O18Y4 BCY4 F19
            have cU := HCU.out Y5 TY5.out
            go_upto_region 37 with (first
              | (refine wpList_ixA rfl tD3 tRL (.tmp 5) (.tmp 141) rfl bd 3 k 2 (k * 2) rfl rfl HK3.out und_D3 info_rl rfl ?_; simp only [Act.put, List.setIfInBounds_toArray, List.set_cons_zero, List.set_cons_succ])
              | (go_at_call 15; refine Calls.mono (HSM.out Y5 A18 c18 TY5.out O18Y5.out) ?_; rintro e Y6 ⟨rfl, p⟩; have TY6 : Hid (T3 w Y6 bt bd s) := TY5.out.keep p; have O18Y6 : Hid (Ow Y6 (.slice A18 L c18) L (vB (s.F k).flatten)) := O18Y5.out.be p; have O19Y6 : Hid (Ow Y6 (.slice A19 L c19) L (vB (s.F k).flatten)) := O19Y5.out.be p; have BCY6 : Hid (Below Y3.heap.size Y3 Y6) := BCY5.out.trans (p.mono BCY5.out.size); clear p))
            clear cU TY5 O18Y5 O19Y5 BCY5
            have cU := HCU.out Y6 TY6.out
            go_upto_region 38 with (first
              | (refine wpList_ixA rfl tD3 tRL (.tmp 5) (.tmp 147) rfl bd 3 k 2 (k * 2) rfl rfl HK3.out und_D3 info_rl rfl ?_; simp only [Act.put, List.setIfInBounds_toArray, List.set_cons_zero, List.set_cons_succ])
              | (go_at_call 15; refine Calls.mono (HSM.out Y6 A19 c19 TY6.out O19Y6.out) ?_; rintro e Y7 ⟨rfl, p⟩; have TY7 : Hid (T3 w Y7 bt bd s) := TY6.out.keep p; have O18Y7 : Hid (Ow Y7 (.slice A18 L c18) L (vB (s.F k).flatten)) := O18Y6.out.be p; have O19Y7 : Hid (Ow Y7 (.slice A19 L c19) L (vB (s.F k).flatten)) := O19Y6.out.be p; have BCY7 : Hid (Below Y3.heap.size Y3 Y7) := BCY6.out.trans (p.mono BCY6.out.size); clear p))
            clear cU TY6 O18Y6 O19Y6 BCY6
            go_upto_region 39 with (go_at_call 16; refine Calls.mono (t_owned HE.out k HK3.out L HQQ.out.2.2.1 A18 A19 c18 c19 _ _ Y3 Y7 TY3.out BCY7.out O18Y7.out O19Y7.out F18.out F19b.out HAP.out) ?_; rintro e Y8 ⟨rfl, pt⟩; have TY8 : Hid (T3 w Y8 bt bd s) := pt; clear pt)
            clear TY3 TY7 O18Y7 O19Y7 BCY7 F18 F19b HAP
            go_wp2_with fail
            exact HKW.out _ _ (by kernel_rfl) (by kernel_rfl) ⟨s, HE, TY8⟩
          · subst hkk
            obtain ⟨nf, hnf⟩ : ∃ n, n = r.ds.length := ⟨_, rfl⟩
            rw [← hnf] at HC4
            obtain ⟨sz, hsz0⟩ : ∃ z, z = r.sz := ⟨_, rfl⟩
            have hszr := HOK.out.s0
            rw [← hsz0] at HC2 hszr
            have hfl := HOK.out.fl
            rw [← hnf] at hfl
            have HLP : Hid (∀ X, Below w.heap.size w X → Calls Tryd.prog 17 #[.slice r.Af nf r.cf] X fun e w' => e = .returned (.slice (some ⟨X.heap.size, 0, none⟩) (nf + 9) (nf + 9)) ∧ Row w' X.heap.size (vB (r.ds ++ List.replicate 9 m77).flatten) 42 ∧ Below X.heap.size X w') := fun X h => by
              rw [hnf]
              exact lentPath_any r.ds HOK.out.fl r.Af r.cf X (HOK.out.fa.below h)
            have HKP : Hid (∀ X y, Below w.heap.size w X → Row X y (vB (r.ds ++ List.replicate 9 m77).flatten) 42 → Calls Tryd.prog 19 #[.slice (some ⟨y, 0, none⟩) (nf + 9) (nf + 9), .slice r.Af nf r.cf] X fun e w' => e = .returned (.bool true) ∧ Below X.heap.size X w') := fun X y h hr => keptPath_any r.ds nf hnf.symm (by omega) y r.Af r.cf X hr (by rw [hnf]; exact HOK.out.fa.below h)
            have hVL : (vB (r.ds ++ List.replicate 9 m77).flatten).length = (nf + 9) * 32 := by
              rw [vB_length, flatten_len _ (fun d hd => by
                rcases List.mem_append.1 hd with q | q
                · exact HOK.out.fa.1 d q
                · rw [(List.mem_replicate.1 q).2]; rfl), List.length_append, List.length_replicate, ← hnf]
            have HVL : Hid ((vB (r.ds ++ List.replicate 9 m77).flatten).length = (nf + 9) * 32) := hVL
            have HNF : Hid (nf = r.ds.length) := hnf
            have HFA : Hid (∀ X, Below w.heap.size w X → PAt X (.slice r.Af nf r.cf) r.ds) := fun X h => by rw [hnf]; exact HOK.out.fa.below h
            have hnfb : nf ≤ 4398046510976 := by omega
            clear hVL hsz0 hfl
            have hcs := t_res sz nf
            clear hnf
            rcases hcs with ⟨ee, hee, hra, hrb⟩ | ⟨m, hm, hmb, hpc⟩
            · have HRA : Hid _ := hra
              have HRB : Hid _ := hrb
              have hee2 : (ee != 0) = true := by simpa using hee
              clear hra hrb
              have BCY3 : Hid (Below Y3.heap.size Y3 Y3) := Below.refl _ _
              have c4 := ROY3.out.cell 4 _ HC4.out
              go_upto_region 43 with (go_at_call 17; refine Calls.mono (HLP.out Y3 TY3.out.be) ?_; rintro e Y4 ⟨rfl, hrow, p⟩; have TY4 : Hid (T3 w Y4 bt bd s) := TY3.out.keep p; have ROY4 : Hid (Row Y4 y8 R 33) := Row.below ROY3.out p ROY3.out.lt; have BCY4 : Hid (Below Y3.heap.size Y3 Y4) := BCY3.out.trans (p.mono BCY3.out.size); have RWY4 : Hid (Row Y4 Y3.heap.size (vB (r.ds ++ List.replicate 9 m77).flatten) 42) := hrow; clear hrow; clear p)
              clear c4 ROY3 BCY3
              obtain ⟨y23, hy23⟩ : ∃ y, y = Y3.heap.size := ⟨_, rfl⟩
              have HY23 : Hid (Y3.heap.size ≤ y23) := by rw [hy23]; exact Nat.le_refl _
              rw [← hy23] at RWY4 ⊢
              clear hy23
              go_wp2_with fail
              have hb1 := Below.refl Y4.heap.size Y4
              have r8 := ROY4.out
              have r23 := RWY4.out
              have HLT : Hid (y23 < Y4.heap.size) := r23.lt
              clear ROY4 RWY4
              refine wp_named fun a0 ha0 => ?_
              have hsz : a0.tmps.size = 303 := by rw [ha0]; rfl
              have zs8 : a0.eval (.tmp 8) = .pointer (some ⟨y8, 0, none⟩) := by rw [ha0]; rfl
              have zs23 : a0.eval (.tmp 23) = .slice (some ⟨y23, 0, none⟩) (nf + 9) (nf + 9) := by rw [ha0]; rfl
              obtain ⟨D, hD⟩ : ∃ D : List (Tmp × SP), D = [(171, SP.is (.pointer (some ⟨y8, 2, none⟩))), (172, SP.is (.int .i64 sz)), (173, SP.is (.slice (some ⟨y23, 0, none⟩) (nf + 9) (nf + 9))), (174, SP.is (.pointer (some ⟨y8, 4, none⟩))), (175, SP.is (.slice r.Af nf r.cf)), (176, SP.is (.int .i64 (nf : Int))), (177, SP.is (.slice (some ⟨y23, 0, none⟩) nf (nf + 9))), (178, SP.is (.tuple #[.pointer none, .int .i64 ee])), (170, SP.is (.tuple #[.pointer none, .int .i64 ee])), (179, SP.is (.pointer none)), (180, SP.is (.int .i64 ee)), (24, SP.is (.pointer none)), (25, SP.is (.int .i64 ee))] := ⟨_, rfl⟩
              refine wp_region_down (by kernel_rfl) (fun listed ac W => listed.size = 13 ∧ Fp D a0 listed ac W ∧ Below Y4.heap.size Y4 W ∧ Row W y8 R 33 ∧ Row W y23 ((vB (r.ds ++ List.replicate 9 m77).flatten)) 42) ?_ ?_ ?_
              · exact ⟨by simp, Fp.start D a0 _ _, Below.drew hb1, Row.drew r8, Row.drew r23⟩
              · clear ha0 hb1 r8 r23 
                intro listed ac W k hI hdn hk
                obtain ⟨hl, hF, hb1, r8, r23⟩ := hI
                have hk1 : k < 13 := List.mem_range.1 (List.mem_filter.1 hk).1
                have hl2 : ∀ j, (listed.setIfInBounds j true).size = 13 := fun j => by rw [Array.size_setIfInBounds]; exact hl
                rcases (show k = 0 ∨ k = 1 ∨ k = 2 ∨ k = 3 ∨ k = 4 ∨ k = 5 ∨ k = 6 ∨ k = 7 ∨ k = 8 ∨ k = 9 ∨ k = 10 ∨ k = 11 ∨ k = 12 by omega) with rfl | rfl | rfl | rfl | rfl | rfl | rfl | rfl | rfl | rfl | rfl | rfl | rfl
                · have hk3 := hk
                  have ea := ((hF.keep 8 (by rw [hD]; rfl)).trans zs8)
                  exact wpOp_plain rfl rfl (wp_opf2 y8 rfl ea ⟨hl2 0, (hF.put 0 171 (SP.is (.pointer (some ⟨y8, 2, none⟩))) (.pointer (some ⟨y8, 2, none⟩)) (by rw [hD]; rfl) rfl (by rw [hD]; rfl) (by rw [hsz]; decide) (by rw [hl]; decide)), hb1, r8, r23⟩)
                · have hk3 := hk
                  have ea := (hF.done 0 (171, SP.is (.pointer (some ⟨y8, 2, none⟩))) (by rw [hD]; rfl) (ready_dep hk 0 (by kernel_rfl)))
                  exact wpOp_plain rfl rfl (wp_load_1 y8 2 (.int .i64 sz) rfl ea (run_load_in W y8 2 _ (r8.cell 2 _ HC2.out)) ⟨hl2 1, (hF.put 1 172 (SP.is (.int .i64 sz)) (.int .i64 sz) (by rw [hD]; rfl) rfl (by rw [hD]; rfl) (by rw [hsz]; decide) (by rw [hl]; decide)), hb1, r8, r23⟩)
                · have hk3 := hk
                  exact wpOp_plain rfl rfl (wp_move_v (ac.eval (.tmp 23)) rfl rfl ⟨hl2 2, (hF.put 2 173 (SP.is (.slice (some ⟨y23, 0, none⟩) (nf + 9) (nf + 9))) (ac.eval (.tmp 23)) (by rw [hD]; rfl) (((hF.keep 23 (by rw [hD]; rfl)).trans zs23)) (by rw [hD]; rfl) (by rw [hsz]; decide) (by rw [hl]; decide)), hb1, r8, r23⟩)
                · have hk3 := hk
                  have ea := ((hF.keep 8 (by rw [hD]; rfl)).trans zs8)
                  exact wpOp_plain rfl rfl (wp_opf4 y8 rfl ea ⟨hl2 3, (hF.put 3 174 (SP.is (.pointer (some ⟨y8, 4, none⟩))) (.pointer (some ⟨y8, 4, none⟩)) (by rw [hD]; rfl) rfl (by rw [hD]; rfl) (by rw [hsz]; decide) (by rw [hl]; decide)), hb1, r8, r23⟩)
                · have hk3 := hk
                  have ea := (hF.done 3 (174, SP.is (.pointer (some ⟨y8, 4, none⟩))) (by rw [hD]; rfl) (ready_dep hk 3 (by kernel_rfl)))
                  exact wpOp_plain rfl rfl (wp_load_1 y8 4 (.slice r.Af nf r.cf) rfl ea (run_load_df W y8 4 _ (r8.cell 4 _ HC4.out)) ⟨hl2 4, (hF.put 4 175 (SP.is (.slice r.Af nf r.cf)) (.slice r.Af nf r.cf) (by rw [hD]; rfl) rfl (by rw [hD]; rfl) (by rw [hsz]; decide) (by rw [hl]; decide)), hb1, r8, r23⟩)
                · have hk3 := hk
                  have ea := (hF.done 4 (175, SP.is (.slice r.Af nf r.cf)) (by rw [hD]; rfl) (ready_dep hk 4 (by kernel_rfl)))
                  exact wpOp_plain rfl rfl (wp_len_s 26 42 r.Af nf r.cf rfl Tryd.underlying26 ea ⟨hl2 5, (hF.put 5 176 (SP.is (.int .i64 (nf : Int))) (.int .i64 (nf : Int)) (by rw [hD]; rfl) rfl (by rw [hD]; rfl) (by rw [hsz]; decide) (by rw [hl]; decide)), hb1, r8, r23⟩)
                · have hk3 := hk
                  have ea := (hF.done 2 (173, SP.is (.slice (some ⟨y23, 0, none⟩) (nf + 9) (nf + 9))) (by rw [hD]; rfl) (ready_dep hk 2 (by kernel_rfl)))
                  have eb := (hF.done 5 (176, SP.is (.int .i64 (nf : Int))) (by rw [hD]; rfl) (ready_dep hk 5 (by kernel_rfl)))
                  exact wpOp_plain rfl rfl (wp_slice_upto 26 42 (.tmp 173) (.tmp 176) y23 0 (nf + 9) (nf + 9) nf 32 rfl ea eb (Nat.le_add_right nf 9) Tryd.underlying26 info_dig ⟨hl2 6, (hF.put 6 177 (SP.is (.slice (some ⟨y23, 0, none⟩) nf (nf + 9))) (.slice (some ⟨y23, 0, none⟩) nf (nf + 9)) (by rw [hD]; rfl) rfl (by rw [hD]; rfl) (by rw [hsz]; decide) (by rw [hl]; decide)), hb1, r8, r23⟩)
                · have hk3 := hk
                  have ea := (hF.done 1 (172, SP.is (.int .i64 sz)) (by rw [hD]; rfl) (ready_dep hk 1 (by kernel_rfl)))
                  have eb := (hF.done 6 (177, SP.is (.slice (some ⟨y23, 0, none⟩) nf (nf + 9))) (by rw [hD]; rfl) (ready_dep hk 6 (by kernel_rfl)))
                  refine wpOp_plain rfl rfl (wp_fcall_v 18 #[.int .i64 sz, .slice (some ⟨y23, 0, none⟩) nf (nf + 9)] rfl rfl (by show [ac.eval (.tmp 172), ac.eval (.tmp 177)] = _; rw [show ac.eval (.tmp 172) = _ from ea, show ac.eval (.tmp 177) = _ from eb]) (by go_simp) ((HRA.out W _ _).mono ?_))
                  rintro e W2 ⟨rfl, hB⟩
                  exact ⟨_, rfl, hl2 7, ((hF.world hB).put 7 178 (SP.is (.tuple #[.pointer none, .int .i64 ee])) (.tuple #[.pointer none, .int .i64 ee]) (by rw [hD]; rfl) rfl (by rw [hD]; rfl) (by rw [hsz]; decide) (by rw [hl]; decide)), hb1.trans (hB.mono hb1.size), Row.below r8 hB (Row.lt r8), Row.below r23 hB (Row.lt r23)⟩
                · have hk3 := hk
                  exact wpOp_plain rfl rfl (wp_move_v (ac.eval (.tmp 178)) rfl rfl ⟨hl2 8, (hF.put 8 170 (SP.is (.tuple #[.pointer none, .int .i64 ee])) (ac.eval (.tmp 178)) (by rw [hD]; rfl) ((hF.done 7 (178, SP.is (.tuple #[.pointer none, .int .i64 ee])) (by rw [hD]; rfl) (ready_dep hk 7 (by kernel_rfl)))) (by rw [hD]; rfl) (by rw [hsz]; decide) (by rw [hl]; decide)), hb1, r8, r23⟩)
                · have hk3 := hk
                  exact wpOp_plain rfl rfl (wp_extract (.tmp 170) 0 rfl _ (hF.done 8 (170, SP.is (.tuple #[.pointer none, .int .i64 ee])) (by rw [hD]; rfl) (ready_dep hk 8 (by kernel_rfl))) (.pointer none) rfl ⟨hl2 9, (hF.put 9 179 (SP.is (.pointer none)) (.pointer none) (by rw [hD]; rfl) rfl (by rw [hD]; rfl) (by rw [hsz]; decide) (by rw [hl]; decide)), hb1, r8, r23⟩)
                · have hk3 := hk
                  exact wpOp_plain rfl rfl (wp_extract (.tmp 170) 1 rfl _ (hF.done 8 (170, SP.is (.tuple #[.pointer none, .int .i64 ee])) (by rw [hD]; rfl) (ready_dep hk 8 (by kernel_rfl))) (.int .i64 ee) rfl ⟨hl2 10, (hF.put 10 180 (SP.is (.int .i64 ee)) (.int .i64 ee) (by rw [hD]; rfl) rfl (by rw [hD]; rfl) (by rw [hsz]; decide) (by rw [hl]; decide)), hb1, r8, r23⟩)
                · have hk3 := hk
                  exact wpOp_plain rfl rfl (wp_assign_v (ac.eval (.tmp 179)) rfl rfl ⟨hl2 11, (hF.put 11 24 (SP.is (.pointer none)) (ac.eval (.tmp 179)) (by rw [hD]; rfl) ((hF.done 9 (179, SP.is (.pointer none)) (by rw [hD]; rfl) (ready_dep hk 9 (by kernel_rfl)))) (by rw [hD]; rfl) (by rw [hsz]; decide) (by rw [hl]; decide)), hb1, r8, r23⟩)
                · have hk3 := hk
                  exact wpOp_plain rfl rfl (wp_assign_v (ac.eval (.tmp 180)) rfl rfl ⟨hl2 12, (hF.put 12 25 (SP.is (.int .i64 ee)) (ac.eval (.tmp 180)) (by rw [hD]; rfl) ((hF.done 10 (180, SP.is (.int .i64 ee)) (by rw [hD]; rfl) (ready_dep hk 10 (by kernel_rfl)))) (by rw [hD]; rfl) (by rw [hsz]; decide) (by rw [hl]; decide)), hb1, r8, r23⟩)
              · clear hb1 r8 r23 
                intro listed ac W hI hr
                obtain ⟨hl, hF, hb1, r8, r23⟩ := hI
                have hall := all_listed (by kernel_rfl) hl hr
                have h171 : ac.eval (.tmp 171) = .pointer (some ⟨y8, 2, none⟩) := hF.done 0 (171, SP.is (.pointer (some ⟨y8, 2, none⟩))) (by rw [hD]; rfl) (hall 0 (by decide))
                have h172 : ac.eval (.tmp 172) = .int .i64 sz := hF.done 1 (172, SP.is (.int .i64 sz)) (by rw [hD]; rfl) (hall 1 (by decide))
                have h173 : ac.eval (.tmp 173) = .slice (some ⟨y23, 0, none⟩) (nf + 9) (nf + 9) := hF.done 2 (173, SP.is (.slice (some ⟨y23, 0, none⟩) (nf + 9) (nf + 9))) (by rw [hD]; rfl) (hall 2 (by decide))
                have h174 : ac.eval (.tmp 174) = .pointer (some ⟨y8, 4, none⟩) := hF.done 3 (174, SP.is (.pointer (some ⟨y8, 4, none⟩))) (by rw [hD]; rfl) (hall 3 (by decide))
                have h175 : ac.eval (.tmp 175) = .slice r.Af nf r.cf := hF.done 4 (175, SP.is (.slice r.Af nf r.cf)) (by rw [hD]; rfl) (hall 4 (by decide))
                have h176 : ac.eval (.tmp 176) = .int .i64 (nf : Int) := hF.done 5 (176, SP.is (.int .i64 (nf : Int))) (by rw [hD]; rfl) (hall 5 (by decide))
                have h177 : ac.eval (.tmp 177) = .slice (some ⟨y23, 0, none⟩) nf (nf + 9) := hF.done 6 (177, SP.is (.slice (some ⟨y23, 0, none⟩) nf (nf + 9))) (by rw [hD]; rfl) (hall 6 (by decide))
                have h178 : ac.eval (.tmp 178) = .tuple #[.pointer none, .int .i64 ee] := hF.done 7 (178, SP.is (.tuple #[.pointer none, .int .i64 ee])) (by rw [hD]; rfl) (hall 7 (by decide))
                have h170 : ac.eval (.tmp 170) = .tuple #[.pointer none, .int .i64 ee] := hF.done 8 (170, SP.is (.tuple #[.pointer none, .int .i64 ee])) (by rw [hD]; rfl) (hall 8 (by decide))
                have h179 : ac.eval (.tmp 179) = .pointer none := hF.done 9 (179, SP.is (.pointer none)) (by rw [hD]; rfl) (hall 9 (by decide))
                have h180 : ac.eval (.tmp 180) = .int .i64 ee := hF.done 10 (180, SP.is (.int .i64 ee)) (by rw [hD]; rfl) (hall 10 (by decide))
                have h24 : ac.eval (.tmp 24) = .pointer none := hF.done 11 (24, SP.is (.pointer none)) (by rw [hD]; rfl) (hall 11 (by decide))
                have h25 : ac.eval (.tmp 25) = .int .i64 ee := hF.done 12 (25, SP.is (.int .i64 ee)) (by rw [hD]; rfl) (hall 12 (by decide))
                have ea := hF.lay [(171, .pointer (some ⟨y8, 2, none⟩)), (172, .int .i64 sz), (173, .slice (some ⟨y23, 0, none⟩) (nf + 9) (nf + 9)), (174, .pointer (some ⟨y8, 4, none⟩)), (175, .slice r.Af nf r.cf), (176, .int .i64 (nf : Int)), (177, .slice (some ⟨y23, 0, none⟩) nf (nf + 9)), (178, .tuple #[.pointer none, .int .i64 ee]), (170, .tuple #[.pointer none, .int .i64 ee]), (179, .pointer none), (180, .int .i64 ee), (24, .pointer none), (25, .int .i64 ee)] (by rw [hD, hsz]; rfl) (by simp only [List.forall_mem_cons, List.not_mem_nil, false_implies, implies_true, and_true]; exact ⟨h171, h172, h173, h174, h175, h176, h177, h178, h170, h179, h180, h24, h25⟩)
                rw [ha0] at ea
                simp only [List.foldl_cons, List.foldl_nil, List.setIfInBounds_toArray, List.set_cons_zero, List.set_cons_succ] at ea
                clear hF hall hr hl hD  zs8 zs23 ha0 hsz h171 h172 h173 h174 h175 h176 h177 h178 h170 h179 h180 h24 h25
                subst ea
                have BCW : Hid (Below Y3.heap.size Y3 W) := BCY4.out.trans (hb1.mono BCY4.out.size)
                have TW : Hid (T3 w W bt bd s) := TY4.out.keep hb1
                have ROW : Hid (Row W y8 R 33) := r8
                have RWW : Hid (Row W y23 (vB (r.ds ++ List.replicate 9 m77).flatten) 42) := r23
                clear r8 r23 hb1 TY4 BCY4
                have c4 := ROW.out.cell 4 _ HC4.out
                go_upto_region 45 with (go_at_call 19; refine Calls.mono (HKP.out W y23 TW.out.be RWW.out) ?_; rintro e V1 ⟨rfl, p⟩; have TV1 : Hid (T3 w V1 bt bd s) := TW.out.keep p; have ROV1 : Hid (Row V1 y8 R 33) := Row.below ROW.out p ROW.out.lt; have RWV1 : Hid (Row V1 y23 (vB (r.ds ++ List.replicate 9 m77).flatten) 42) := Row.below RWW.out p RWW.out.lt; have BCV1 : Hid (Below Y3.heap.size Y3 V1) := BCW.out.trans (p.mono BCW.out.size); clear p)
                clear c4 TW ROW RWW BCW
                have c4 := ROV1.out.cell 4 _ HC4.out
                have c2 := ROV1.out.cell 2 _ HC2.out
                go_upto_region 46 with (first
                  | (go_at_call 20; refine Calls.mono (HRB.out V1 _ _) ?_; rintro e V2 ⟨rfl, p⟩; have TV2 : Hid (T3 w V2 bt bd s) := TV1.out.keep p; have ROV2 : Hid (Row V2 y8 R 33) := Row.below ROV1.out p ROV1.out.lt; have RWV2 : Hid (Row V2 y23 (vB (r.ds ++ List.replicate 9 m77).flatten) 42) := Row.below RWV1.out p RWV1.out.lt; have BCV2 : Hid (Below Y3.heap.size Y3 V2) := BCV1.out.trans (p.mono BCV1.out.size); clear p)
                  | (refine wpList_allocRL rfl rfl ?_; intro V3 q1 q2; have RZ : Hid (Row V3 V2.heap.size zLg tRL) := q1; have BZ : Hid (Below V2.heap.size V2 V3) := q2; clear q1 q2; simp only [Act.put, List.setIfInBounds_toArray, List.set_cons_zero, List.set_cons_succ])
                  | (refine wpList_storeL rfl tRL (.tmp 27) (.tmp 191) rfl V2.heap.size zLg zLg tRL rfl rfl RZ.out rfl info_rl (one_rl _ _ _ _) ?_; intro V4 q1 q2; have p : Below V2.heap.size V2 V4 := (by rw [q1]; exact below_setCells BZ.out (Nat.le_refl _) _); have TV4 : Hid (T3 w V4 bt bd s) := TV2.out.keep p; have ROV4 : Hid (Row V4 y8 R 33) := Row.below ROV2.out p ROV2.out.lt; have RWV4 : Hid (Row V4 y23 (vB (r.ds ++ List.replicate 9 m77).flatten) 42) := Row.below RWV2.out p RWV2.out.lt; have BCV4 : Hid (Below Y3.heap.size Y3 V4) := BCV2.out.trans (p.mono BCV2.out.size); have RLV4 : Hid (Row V4 V2.heap.size zLg tRL) := q2; clear p q1 q2; simp only [Act.put]))
                have HY27 : Hid (y23 < V2.heap.size) := RWV2.out.lt
                clear c4 c2 RZ BZ ROV1 RWV1 TV1 BCV1 ROV2 RWV2 TV2 BCV2 ROV4 TV4
                obtain ⟨y27, hy27⟩ : ∃ y, y = V2.heap.size := ⟨_, rfl⟩
                rw [← hy27] at RLV4 HY27 ⊢
                clear hy27
                go_wp2_with fail
                go_loopw [29] (fun v29 wr => ∃ j : Nat, j ≤ nf + 9 ∧ v29 = .int .i64 (j : Int) ∧ Hid (Ov V4 wr y23 nf)) (fun v29 _ => nf + 9 - (intOf v29).toNat)
                case atStart => exact ⟨0, Nat.zero_le _, rfl, ⟨⟨_, RWV4.out, HVL.out⟩, Gro.refl _ _⟩⟩
                case round =>
                  obtain ⟨j, hj, rfl, OV⟩ := hrel
                  by_cases hjn : j < nf + 9
                  · have HJN : Hid (j < nf + 9) := hjn
                    obtain ⟨j1, hj1⟩ : ∃ j1, j1 = j + 1 := ⟨_, rfl⟩
                    have HJ1 : Hid (j1 = j + 1) := hj1
                    have e2 : (j : Int) + 1 = (j1 : Int) := by omega
                    have hjb : j1 ≤ nf + 9 := by omega
                    obtain ⟨cs, rcs, hcl⟩ := OV.out.row
                    have RC : Hid (Row wr y23 cs 42) := rcs
                    have HCL : Hid (cs.length = (nf + 9) * 32) := hcl
                    clear rcs hcl hj1
                    go_wp2_with (first
                      | (refine wpList_b88 rfl rfl ?_; simp only [Act.put, List.setIfInBounds_toArray, List.set_cons_zero, List.set_cons_succ])
                      | (refine wpList_index_s rfl 26 42 (.tmp 213) (.tmp 214) rfl y23 0 (nf + 9) (nf + 9) j 32 rfl rfl HJN.out Tryd.underlying26 info_dig ?_; simp only [Act.put, List.setIfInBounds_toArray, List.set_cons_zero, List.set_cons_succ])
                      | (refine wpList_storeM2 rfl 42 (.tmp 216) (.tmp 215) rfl y23 (0 + j * 32) (vB (md 88#8)) cs 42 rfl rfl RC.out (by rw [HCL.out]; have := HJN.out; show 0 + j * 32 + 32 ≤ _; omega) info_dig (all_oneCell_toArray (vB_one _)) ?_; intro U1 q1; have OU1 : Hid (Ov V4 U1 y23 nf) := (by rw [q1]; exact OV.out.step _ _ (by have := HJN.out; show 0 + j * 32 + 32 ≤ _; omega)); clear q1; simp only [Act.put]))
                    go_roundw
                    case rel => exact ⟨j1, hjb, rfl, OU1⟩
                    case measure => have := HJ1.out; simp [intOf]; omega
                  · have BW : Hid (Below Y3.heap.size Y3 wr) := OV.out.t3 BCV4.out HY23.out
                    clear hj
                    have TE : Hid (T3 w wr bt bd s) := TY3.out.keep BW.out
                    go_wp2_with fail
                    exact HKW.out _ _ (by kernel_rfl) (by kernel_rfl) ⟨s, HE, TE⟩
            · subst hm
              have HPC : Hid (nf = pc m) := hpc
              have HRA : Hid (∀ X y, Row X y (vB (r.ds ++ List.replicate 9 m77).flatten) 42 → Calls Tryd.prog 18 #[.int .i64 (m : Int), .slice (some ⟨y, 0, none⟩) nf (nf + 9)] X fun e w' => ∃ P v', e = .returned (.tuple #[.pointer (some ⟨P, 0, none⟩), .int .i64 0]) ∧ Lg w' P m v' r.ds ∧ X.heap.size ≤ P ∧ Fresh X.heap.size v' ∧ Below X.heap.size X w') := fun X y hr => t_resume m nf y hmb r.ds HNF.out hpc HOK.out.fa.1 X hr
              have HRB : Hid (∀ X, Below w.heap.size w X → Calls Tryd.prog 20 #[.int .i64 (m : Int), .slice r.Af nf r.cf] X fun e w' => ∃ A' c', e = .returned (.tuple #[.agg #[.int .i64 (m : Int), .slice A' nf c'], .int .i64 0]) ∧ Ow w' (.slice A' nf c') nf (vB r.ds.flatten) ∧ Fresh X.heap.size (.slice A' nf c') ∧ Below X.heap.size X w') := fun X h => rresume_ok m hmb r.Af nf r.cf r.ds HNF.out hpc X (HFA.out X h)
              have HMB : Hid (m ≤ 1099511627776) := hmb
              clear hpc
              have BCY3 : Hid (Below Y3.heap.size Y3 Y3) := Below.refl _ _
              have c4 := ROY3.out.cell 4 _ HC4.out
              go_upto_region 43 with (go_at_call 17; refine Calls.mono (HLP.out Y3 TY3.out.be) ?_; rintro e Y4 ⟨rfl, hrow, p⟩; have TY4 : Hid (T3 w Y4 bt bd s) := TY3.out.keep p; have ROY4 : Hid (Row Y4 y8 R 33) := Row.below ROY3.out p ROY3.out.lt; have BCY4 : Hid (Below Y3.heap.size Y3 Y4) := BCY3.out.trans (p.mono BCY3.out.size); have RWY4 : Hid (Row Y4 Y3.heap.size (vB (r.ds ++ List.replicate 9 m77).flatten) 42) := hrow; clear hrow; clear p)
              clear c4 ROY3 BCY3
              obtain ⟨y23, hy23⟩ : ∃ y, y = Y3.heap.size := ⟨_, rfl⟩
              have HY23 : Hid (Y3.heap.size ≤ y23) := by rw [hy23]; exact Nat.le_refl _
              rw [← hy23] at RWY4 ⊢
              clear hy23
              go_wp2_with fail
              have hb1 := Below.refl Y4.heap.size Y4
              have r8 := ROY4.out
              have r23 := RWY4.out
              have HLT : Hid (y23 < Y4.heap.size) := r23.lt
              clear ROY4 RWY4
              refine wp_named fun a0 ha0 => ?_
              have hsz : a0.tmps.size = 303 := by rw [ha0]; rfl
              have zs8 : a0.eval (.tmp 8) = .pointer (some ⟨y8, 0, none⟩) := by rw [ha0]; rfl
              have zs23 : a0.eval (.tmp 23) = .slice (some ⟨y23, 0, none⟩) (nf + 9) (nf + 9) := by rw [ha0]; rfl
              obtain ⟨D, hD⟩ : ∃ D : List (Tmp × SP), D = [(171, SP.is (.pointer (some ⟨y8, 2, none⟩))), (172, SP.is (.int .i64 (m : Int))), (173, SP.is (.slice (some ⟨y23, 0, none⟩) (nf + 9) (nf + 9))), (174, SP.is (.pointer (some ⟨y8, 4, none⟩))), (175, SP.is (.slice r.Af nf r.cf)), (176, SP.is (.int .i64 (nf : Int))), (177, SP.is (.slice (some ⟨y23, 0, none⟩) nf (nf + 9))), (178, SP.rs Y4.heap.size m r.ds), (170, SP.rs Y4.heap.size m r.ds), (179, SP.rp Y4.heap.size m r.ds), (180, SP.is (.int .i64 0)), (24, SP.rp Y4.heap.size m r.ds), (25, SP.is (.int .i64 0))] := ⟨_, rfl⟩
              refine wp_region_down (by kernel_rfl) (fun listed ac W => listed.size = 13 ∧ Fp D a0 listed ac W ∧ Below Y4.heap.size Y4 W ∧ Row W y8 R 33 ∧ Row W y23 ((vB (r.ds ++ List.replicate 9 m77).flatten)) 42) ?_ ?_ ?_
              · exact ⟨by simp, Fp.start D a0 _ _, Below.drew hb1, Row.drew r8, Row.drew r23⟩
              · clear ha0 hb1 r8 r23 
                intro listed ac W k hI hdn hk
                obtain ⟨hl, hF, hb1, r8, r23⟩ := hI
                have hk1 : k < 13 := List.mem_range.1 (List.mem_filter.1 hk).1
                have hl2 : ∀ j, (listed.setIfInBounds j true).size = 13 := fun j => by rw [Array.size_setIfInBounds]; exact hl
                rcases (show k = 0 ∨ k = 1 ∨ k = 2 ∨ k = 3 ∨ k = 4 ∨ k = 5 ∨ k = 6 ∨ k = 7 ∨ k = 8 ∨ k = 9 ∨ k = 10 ∨ k = 11 ∨ k = 12 by omega) with rfl | rfl | rfl | rfl | rfl | rfl | rfl | rfl | rfl | rfl | rfl | rfl | rfl
                · have hk3 := hk
                  have ea := ((hF.keep 8 (by rw [hD]; rfl)).trans zs8)
                  exact wpOp_plain rfl rfl (wp_opf2 y8 rfl ea ⟨hl2 0, (hF.put 0 171 (SP.is (.pointer (some ⟨y8, 2, none⟩))) (.pointer (some ⟨y8, 2, none⟩)) (by rw [hD]; rfl) rfl (by rw [hD]; rfl) (by rw [hsz]; decide) (by rw [hl]; decide)), hb1, r8, r23⟩)
                · have hk3 := hk
                  have ea := (hF.done 0 (171, SP.is (.pointer (some ⟨y8, 2, none⟩))) (by rw [hD]; rfl) (ready_dep hk 0 (by kernel_rfl)))
                  exact wpOp_plain rfl rfl (wp_load_1 y8 2 (.int .i64 (m : Int)) rfl ea (run_load_in W y8 2 _ (r8.cell 2 _ HC2.out)) ⟨hl2 1, (hF.put 1 172 (SP.is (.int .i64 (m : Int))) (.int .i64 (m : Int)) (by rw [hD]; rfl) rfl (by rw [hD]; rfl) (by rw [hsz]; decide) (by rw [hl]; decide)), hb1, r8, r23⟩)
                · have hk3 := hk
                  exact wpOp_plain rfl rfl (wp_move_v (ac.eval (.tmp 23)) rfl rfl ⟨hl2 2, (hF.put 2 173 (SP.is (.slice (some ⟨y23, 0, none⟩) (nf + 9) (nf + 9))) (ac.eval (.tmp 23)) (by rw [hD]; rfl) (((hF.keep 23 (by rw [hD]; rfl)).trans zs23)) (by rw [hD]; rfl) (by rw [hsz]; decide) (by rw [hl]; decide)), hb1, r8, r23⟩)
                · have hk3 := hk
                  have ea := ((hF.keep 8 (by rw [hD]; rfl)).trans zs8)
                  exact wpOp_plain rfl rfl (wp_opf4 y8 rfl ea ⟨hl2 3, (hF.put 3 174 (SP.is (.pointer (some ⟨y8, 4, none⟩))) (.pointer (some ⟨y8, 4, none⟩)) (by rw [hD]; rfl) rfl (by rw [hD]; rfl) (by rw [hsz]; decide) (by rw [hl]; decide)), hb1, r8, r23⟩)
                · have hk3 := hk
                  have ea := (hF.done 3 (174, SP.is (.pointer (some ⟨y8, 4, none⟩))) (by rw [hD]; rfl) (ready_dep hk 3 (by kernel_rfl)))
                  exact wpOp_plain rfl rfl (wp_load_1 y8 4 (.slice r.Af nf r.cf) rfl ea (run_load_df W y8 4 _ (r8.cell 4 _ HC4.out)) ⟨hl2 4, (hF.put 4 175 (SP.is (.slice r.Af nf r.cf)) (.slice r.Af nf r.cf) (by rw [hD]; rfl) rfl (by rw [hD]; rfl) (by rw [hsz]; decide) (by rw [hl]; decide)), hb1, r8, r23⟩)
                · have hk3 := hk
                  have ea := (hF.done 4 (175, SP.is (.slice r.Af nf r.cf)) (by rw [hD]; rfl) (ready_dep hk 4 (by kernel_rfl)))
                  exact wpOp_plain rfl rfl (wp_len_s 26 42 r.Af nf r.cf rfl Tryd.underlying26 ea ⟨hl2 5, (hF.put 5 176 (SP.is (.int .i64 (nf : Int))) (.int .i64 (nf : Int)) (by rw [hD]; rfl) rfl (by rw [hD]; rfl) (by rw [hsz]; decide) (by rw [hl]; decide)), hb1, r8, r23⟩)
                · have hk3 := hk
                  have ea := (hF.done 2 (173, SP.is (.slice (some ⟨y23, 0, none⟩) (nf + 9) (nf + 9))) (by rw [hD]; rfl) (ready_dep hk 2 (by kernel_rfl)))
                  have eb := (hF.done 5 (176, SP.is (.int .i64 (nf : Int))) (by rw [hD]; rfl) (ready_dep hk 5 (by kernel_rfl)))
                  exact wpOp_plain rfl rfl (wp_slice_upto 26 42 (.tmp 173) (.tmp 176) y23 0 (nf + 9) (nf + 9) nf 32 rfl ea eb (Nat.le_add_right nf 9) Tryd.underlying26 info_dig ⟨hl2 6, (hF.put 6 177 (SP.is (.slice (some ⟨y23, 0, none⟩) nf (nf + 9))) (.slice (some ⟨y23, 0, none⟩) nf (nf + 9)) (by rw [hD]; rfl) rfl (by rw [hD]; rfl) (by rw [hsz]; decide) (by rw [hl]; decide)), hb1, r8, r23⟩)
                · have hk3 := hk
                  have ea := (hF.done 1 (172, SP.is (.int .i64 (m : Int))) (by rw [hD]; rfl) (ready_dep hk 1 (by kernel_rfl)))
                  have eb := (hF.done 6 (177, SP.is (.slice (some ⟨y23, 0, none⟩) nf (nf + 9))) (by rw [hD]; rfl) (ready_dep hk 6 (by kernel_rfl)))
                  refine wpOp_plain rfl rfl (wp_fcall_v 18 #[.int .i64 (m : Int), .slice (some ⟨y23, 0, none⟩) nf (nf + 9)] rfl rfl (by show [ac.eval (.tmp 172), ac.eval (.tmp 177)] = _; rw [show ac.eval (.tmp 172) = _ from ea, show ac.eval (.tmp 177) = _ from eb]) (by go_simp) ((HRA.out W y23 r23).mono ?_))
                  rintro e W2 ⟨P', v', rfl, hlg, hp, hf, hB⟩
                  exact ⟨_, rfl, hl2 7, ((hF.world hB).put 7 178 (SP.rs Y4.heap.size m r.ds) (.tuple #[.pointer (some ⟨P', 0, none⟩), .int .i64 0]) (by rw [hD]; rfl) (⟨P', v', rfl, hlg, Nat.le_trans hb1.size hp, hf.more hb1.size⟩) (by rw [hD]; rfl) (by rw [hsz]; decide) (by rw [hl]; decide)), hb1.trans (hB.mono hb1.size), Row.below r8 hB (Row.lt r8), Row.below r23 hB (Row.lt r23)⟩
                · have hk3 := hk
                  exact wpOp_plain rfl rfl (wp_move_v (ac.eval (.tmp 178)) rfl rfl ⟨hl2 8, (hF.put 8 170 (SP.rs Y4.heap.size m r.ds) (ac.eval (.tmp 178)) (by rw [hD]; rfl) ((hF.done 7 (178, SP.rs Y4.heap.size m r.ds) (by rw [hD]; rfl) (ready_dep hk 7 (by kernel_rfl)))) (by rw [hD]; rfl) (by rw [hsz]; decide) (by rw [hl]; decide)), hb1, r8, r23⟩)
                · have hk3 := hk
                  obtain ⟨P', v', e9, hR⟩ := (hF.done 8 (170, SP.rs Y4.heap.size m r.ds) (by rw [hD]; rfl) (ready_dep hk 8 (by kernel_rfl)))
                  exact wpOp_plain rfl rfl (wp_extract (.tmp 170) 0 rfl _ e9 (.pointer (some ⟨P', 0, none⟩)) rfl ⟨hl2 9, (hF.put 9 179 (SP.rp Y4.heap.size m r.ds) (.pointer (some ⟨P', 0, none⟩)) (by rw [hD]; rfl) (⟨P', v', rfl, hR⟩) (by rw [hD]; rfl) (by rw [hsz]; decide) (by rw [hl]; decide)), hb1, r8, r23⟩)
                · have hk3 := hk
                  obtain ⟨P', v', e9, hR⟩ := (hF.done 8 (170, SP.rs Y4.heap.size m r.ds) (by rw [hD]; rfl) (ready_dep hk 8 (by kernel_rfl)))
                  exact wpOp_plain rfl rfl (wp_extract (.tmp 170) 1 rfl _ e9 (.int .i64 0) rfl ⟨hl2 10, (hF.put 10 180 (SP.is (.int .i64 0)) (.int .i64 0) (by rw [hD]; rfl) rfl (by rw [hD]; rfl) (by rw [hsz]; decide) (by rw [hl]; decide)), hb1, r8, r23⟩)
                · have hk3 := hk
                  exact wpOp_plain rfl rfl (wp_assign_v (ac.eval (.tmp 179)) rfl rfl ⟨hl2 11, (hF.put 11 24 (SP.rp Y4.heap.size m r.ds) (ac.eval (.tmp 179)) (by rw [hD]; rfl) ((hF.done 9 (179, SP.rp Y4.heap.size m r.ds) (by rw [hD]; rfl) (ready_dep hk 9 (by kernel_rfl)))) (by rw [hD]; rfl) (by rw [hsz]; decide) (by rw [hl]; decide)), hb1, r8, r23⟩)
                · have hk3 := hk
                  exact wpOp_plain rfl rfl (wp_assign_v (ac.eval (.tmp 180)) rfl rfl ⟨hl2 12, (hF.put 12 25 (SP.is (.int .i64 0)) (ac.eval (.tmp 180)) (by rw [hD]; rfl) ((hF.done 10 (180, SP.is (.int .i64 0)) (by rw [hD]; rfl) (ready_dep hk 10 (by kernel_rfl)))) (by rw [hD]; rfl) (by rw [hsz]; decide) (by rw [hl]; decide)), hb1, r8, r23⟩)
              · clear hb1 r8 r23 
                intro listed ac W hI hr
                obtain ⟨hl, hF, hb1, r8, r23⟩ := hI
                have hall := all_listed (by kernel_rfl) hl hr
                have h171 : ac.eval (.tmp 171) = .pointer (some ⟨y8, 2, none⟩) := hF.done 0 (171, SP.is (.pointer (some ⟨y8, 2, none⟩))) (by rw [hD]; rfl) (hall 0 (by decide))
                have h172 : ac.eval (.tmp 172) = .int .i64 (m : Int) := hF.done 1 (172, SP.is (.int .i64 (m : Int))) (by rw [hD]; rfl) (hall 1 (by decide))
                have h173 : ac.eval (.tmp 173) = .slice (some ⟨y23, 0, none⟩) (nf + 9) (nf + 9) := hF.done 2 (173, SP.is (.slice (some ⟨y23, 0, none⟩) (nf + 9) (nf + 9))) (by rw [hD]; rfl) (hall 2 (by decide))
                have h174 : ac.eval (.tmp 174) = .pointer (some ⟨y8, 4, none⟩) := hF.done 3 (174, SP.is (.pointer (some ⟨y8, 4, none⟩))) (by rw [hD]; rfl) (hall 3 (by decide))
                have h175 : ac.eval (.tmp 175) = .slice r.Af nf r.cf := hF.done 4 (175, SP.is (.slice r.Af nf r.cf)) (by rw [hD]; rfl) (hall 4 (by decide))
                have h176 : ac.eval (.tmp 176) = .int .i64 (nf : Int) := hF.done 5 (176, SP.is (.int .i64 (nf : Int))) (by rw [hD]; rfl) (hall 5 (by decide))
                have h177 : ac.eval (.tmp 177) = .slice (some ⟨y23, 0, none⟩) nf (nf + 9) := hF.done 6 (177, SP.is (.slice (some ⟨y23, 0, none⟩) nf (nf + 9))) (by rw [hD]; rfl) (hall 6 (by decide))
                obtain ⟨x178, h178⟩ : ∃ x, ac.eval (.tmp 178) = x := ⟨_, rfl⟩
                obtain ⟨x170, h170⟩ : ∃ x, ac.eval (.tmp 170) = x := ⟨_, rfl⟩
                obtain ⟨x179, h179⟩ : ∃ x, ac.eval (.tmp 179) = x := ⟨_, rfl⟩
                have h180 : ac.eval (.tmp 180) = .int .i64 0 := hF.done 10 (180, SP.is (.int .i64 0)) (by rw [hD]; rfl) (hall 10 (by decide))
                have f24 := hF.done 11 (24, SP.rp Y4.heap.size m r.ds) (by rw [hD]; rfl) (hall 11 (by decide))
                obtain ⟨x24, h24⟩ : ∃ x, ac.eval (.tmp 24) = x := ⟨_, rfl⟩
                replace f24 : (SP.rp Y4.heap.size m r.ds).P W x24 := by rw [← h24]; exact f24
                have h25 : ac.eval (.tmp 25) = .int .i64 0 := hF.done 12 (25, SP.is (.int .i64 0)) (by rw [hD]; rfl) (hall 12 (by decide))
                have ea := hF.lay [(171, .pointer (some ⟨y8, 2, none⟩)), (172, .int .i64 (m : Int)), (173, .slice (some ⟨y23, 0, none⟩) (nf + 9) (nf + 9)), (174, .pointer (some ⟨y8, 4, none⟩)), (175, .slice r.Af nf r.cf), (176, .int .i64 (nf : Int)), (177, .slice (some ⟨y23, 0, none⟩) nf (nf + 9)), (178, x178), (170, x170), (179, x179), (180, .int .i64 0), (24, x24), (25, .int .i64 0)] (by rw [hD, hsz]; rfl) (by simp only [List.forall_mem_cons, List.not_mem_nil, false_implies, implies_true, and_true]; exact ⟨h171, h172, h173, h174, h175, h176, h177, h178, h170, h179, h180, h24, h25⟩)
                rw [ha0] at ea
                simp only [List.foldl_cons, List.foldl_nil, List.setIfInBounds_toArray, List.set_cons_zero, List.set_cons_succ] at ea
                clear hF hall hr hl hD  zs8 zs23 ha0 hsz h171 h172 h173 h174 h175 h176 h177 h178 h170 h179 h180 h24 h25
                subst ea
                obtain ⟨P', v', e24, hL, hP, hV⟩ := f24
                subst e24
                have LGW : Hid (Lg W P' m v' r.ds) := hL
                have HPV : Hid (Y4.heap.size ≤ P' ∧ Fresh Y4.heap.size v') := ⟨hP, hV⟩
                clear hL hP hV
                have BCW : Hid (Below Y3.heap.size Y3 W) := BCY4.out.trans (hb1.mono BCY4.out.size)
                have TW : Hid (T3 w W bt bd s) := TY4.out.keep hb1
                have ROW : Hid (Row W y8 R 33) := r8
                have RWW : Hid (Row W y23 (vB (r.ds ++ List.replicate 9 m77).flatten) 42) := r23
                clear r8 r23 hb1 TY4 BCY4
                have c4 := ROW.out.cell 4 _ HC4.out
                go_upto_region 45 with (go_at_call 19; refine Calls.mono (HKP.out W y23 TW.out.be RWW.out) ?_; rintro e V1 ⟨rfl, p⟩; have TV1 : Hid (T3 w V1 bt bd s) := TW.out.keep p; have ROV1 : Hid (Row V1 y8 R 33) := Row.below ROW.out p ROW.out.lt; have RWV1 : Hid (Row V1 y23 (vB (r.ds ++ List.replicate 9 m77).flatten) 42) := Row.below RWW.out p RWW.out.lt; have BCV1 : Hid (Below Y3.heap.size Y3 V1) := BCW.out.trans (p.mono BCW.out.size); have LGV1 : Hid (Lg V1 P' m v' r.ds) := LGW.out.be p; clear p)
                clear c4 TW ROW RWW BCW LGW
                have c4 := ROV1.out.cell 4 _ HC4.out
                have c2 := ROV1.out.cell 2 _ HC2.out
                go_upto_region 46 with (first
                  | (go_at_call 20; refine Calls.mono (HRB.out V1 TV1.out.be) ?_; rintro e V2 ⟨A27, c27, rfl, ho, hf, p⟩; have TV2 : Hid (T3 w V2 bt bd s) := TV1.out.keep p; have ROV2 : Hid (Row V2 y8 R 33) := Row.below ROV1.out p ROV1.out.lt; have RWV2 : Hid (Row V2 y23 (vB (r.ds ++ List.replicate 9 m77).flatten) 42) := Row.below RWV1.out p RWV1.out.lt; have BCV2 : Hid (Below Y3.heap.size Y3 V2) := BCV1.out.trans (p.mono BCV1.out.size); have LGV2 : Hid (Lg V2 P' m v' r.ds) := LGV1.out.be p; have OAV2 : Hid (Ow V2 (.slice A27 nf c27) nf (vB r.ds.flatten)) := ho; have FA : Hid (Fresh V1.heap.size (.slice A27 nf c27)) := hf; clear ho hf; clear p)
                  | (refine wpList_allocRL rfl rfl ?_; intro V3 q1 q2; have RZ : Hid (Row V3 V2.heap.size zLg tRL) := q1; have BZ : Hid (Below V2.heap.size V2 V3) := q2; clear q1 q2; simp only [Act.put, List.setIfInBounds_toArray, List.set_cons_zero, List.set_cons_succ])
                  | (refine wpList_storeL rfl tRL (.tmp 27) (.tmp 191) rfl V2.heap.size [.int .i64 (m : Int), .slice A27 nf c27] zLg tRL rfl rfl RZ.out rfl info_rl (one_rl _ _ _ _) ?_; intro V4 q1 q2; have p : Below V2.heap.size V2 V4 := (by rw [q1]; exact below_setCells BZ.out (Nat.le_refl _) _); have TV4 : Hid (T3 w V4 bt bd s) := TV2.out.keep p; have ROV4 : Hid (Row V4 y8 R 33) := Row.below ROV2.out p ROV2.out.lt; have RWV4 : Hid (Row V4 y23 (vB (r.ds ++ List.replicate 9 m77).flatten) 42) := Row.below RWV2.out p RWV2.out.lt; have OAV4 : Hid (Ow V4 (.slice A27 nf c27) nf (vB r.ds.flatten)) := OAV2.out.be p; have BCV4 : Hid (Below Y3.heap.size Y3 V4) := BCV2.out.trans (p.mono BCV2.out.size); have RLV4 : Hid (Row V4 V2.heap.size [.int .i64 (m : Int), .slice A27 nf c27] tRL) := q2; have LGV4 : Hid (Lg V4 P' m v' r.ds) := LGV2.out.be p; clear p q1 q2; simp only [Act.put]))
                have HY27 : Hid (y23 < V2.heap.size) := RWV2.out.lt
                have HAV : Hid (∀ g, v'.ownBlock = some g → (Value.slice A27 nf c27).ownBlock ≠ some g) := fun g e1 e2 => by have := Ow.lt LGV1.out.own g e1; have := FA.out g e2; omega
                have HVV : Hid (∀ g, v'.ownBlock = some g → y23 < g) := fun g e => by have := HPV.out.2 g e; have := HLT.out; omega
                have HUV : Hid (∀ g, (Value.slice A27 nf c27).ownBlock = some g → y23 < g) := fun g e => by have := FA.out g e; have := RWV1.out.lt; omega
                have HFF : Hid (Y3.heap.size ≤ P' ∧ Fresh Y3.heap.size v' ∧ Fresh Y3.heap.size (.slice A27 nf c27)) := ⟨by have := HPV.out.1; have := HLT.out; have := HY23.out; omega, HPV.out.2.more (by have := HLT.out; have := HY23.out; omega), FA.out.more BCV1.out.size⟩
                clear c4 c2 RZ BZ ROV1 RWV1 TV1 BCV1 ROV2 RWV2 TV2 BCV2 ROV4 TV4 LGV1 LGV2 OAV2 FA HPV
                obtain ⟨y27, hy27⟩ : ∃ y, y = V2.heap.size := ⟨_, rfl⟩
                rw [← hy27] at RLV4 HY27 ⊢
                clear hy27
                go_wp2_with fail
                go_loopw [29] (fun v29 wr => ∃ j : Nat, j ≤ nf + 9 ∧ v29 = .int .i64 (j : Int) ∧ Hid (Ov V4 wr y23 nf)) (fun v29 _ => nf + 9 - (intOf v29).toNat)
                case atStart => exact ⟨0, Nat.zero_le _, rfl, ⟨⟨_, RWV4.out, HVL.out⟩, Gro.refl _ _⟩⟩
                case round =>
                  obtain ⟨j, hj, rfl, OV⟩ := hrel
                  by_cases hjn : j < nf + 9
                  · have HJN : Hid (j < nf + 9) := hjn
                    obtain ⟨j1, hj1⟩ : ∃ j1, j1 = j + 1 := ⟨_, rfl⟩
                    have HJ1 : Hid (j1 = j + 1) := hj1
                    have e2 : (j : Int) + 1 = (j1 : Int) := by omega
                    have hjb : j1 ≤ nf + 9 := by omega
                    obtain ⟨cs, rcs, hcl⟩ := OV.out.row
                    have RC : Hid (Row wr y23 cs 42) := rcs
                    have HCL : Hid (cs.length = (nf + 9) * 32) := hcl
                    clear rcs hcl hj1
                    go_wp2_with (first
                      | (refine wpList_b88 rfl rfl ?_; simp only [Act.put, List.setIfInBounds_toArray, List.set_cons_zero, List.set_cons_succ])
                      | (refine wpList_index_s rfl 26 42 (.tmp 213) (.tmp 214) rfl y23 0 (nf + 9) (nf + 9) j 32 rfl rfl HJN.out Tryd.underlying26 info_dig ?_; simp only [Act.put, List.setIfInBounds_toArray, List.set_cons_zero, List.set_cons_succ])
                      | (refine wpList_storeM2 rfl 42 (.tmp 216) (.tmp 215) rfl y23 (0 + j * 32) (vB (md 88#8)) cs 42 rfl rfl RC.out (by rw [HCL.out]; have := HJN.out; show 0 + j * 32 + 32 ≤ _; omega) info_dig (all_oneCell_toArray (vB_one _)) ?_; intro U1 q1; have OU1 : Hid (Ov V4 U1 y23 nf) := (by rw [q1]; exact OV.out.step _ _ (by have := HJN.out; show 0 + j * 32 + 32 ≤ _; omega)); clear q1; simp only [Act.put]))
                    go_roundw
                    case rel => exact ⟨j1, hjb, rfl, OU1⟩
                    case measure => have := HJ1.out; simp [intOf]; omega
                  · have BW : Hid (Below Y3.heap.size Y3 wr) := OV.out.t3 BCV4.out HY23.out
                    clear hj
                    have RT : Hid (Row wr bt (tcs s.p) tA3) := (TY3.out.keep BW.out).rt
                    have RLW : Hid (Row wr y27 [.int .i64 (m : Int), .slice A27 nf c27] tRL) := OV.out.keep RLV4.out HY27.out
                    have LGE : Hid (Lg wr P' m v' r.ds) := OV.out.lg ⟨_, RWV4.out⟩ LGV4.out HVV.out
                    have OWE : Hid (Ow wr (.slice A27 nf c27) nf (vB r.ds.flatten)) := OV.out.ow OAV4.out HUV.out
                    have HTE : Hid (T3 w _ bt bd _) := T3.both TY3.out BW.out k HK3.out P' m v' r.ds LGE.out HFF.out.1 HFF.out.2.1 (.slice A27 nf c27) (by rw [← HNF.out]; exact OWE.out) HFF.out.2.2 HAV.out
                    go_upto_region 54 with (first
                      | (refine wpList_ixA rfl tA3 24 (.tmp 4) (.tmp 219) rfl bt 3 k 1 k rfl rfl HK3.out und_A3 info_pl (Nat.mul_one k) ?_; simp only [Act.put, List.setIfInBounds_toArray, List.set_cons_zero, List.set_cons_succ])
                      | (refine wpList_setP rfl (.tmp 221) (.tmp 220) rfl bt k _ (tcs s.p) tA3 rfl rfl RT.out HK3.out ?_; intro U2 q1; have EU2 : Hid (U2 = wr.setCell ⟨bt, k, none⟩ (.pointer (some ⟨P', 0, none⟩))) := q1; have RLU : Hid (Row U2 y27 [.int .i64 (m : Int), .slice A27 nf c27] tRL) := (by rw [q1]; exact Row.set_other RLW.out _ _ _ (fun e => by have := RLW.out; rw [e] at this; exact absurd (lrow_ty this RT.out) (by decide))); have RDU : Hid (Row U2 bd (dcs s.m s.u) tD3) := (by rw [q1]; exact Row.set_other (TY3.out.keep BW.out).rd _ _ _ (fun e => by have := (TY3.out.keep BW.out).rd; rw [e] at this; exact absurd (lrow_ty this RT.out) (by decide))); clear q1; simp only [Act.put]))
                    go_wp2_with (first
                      | (refine wpList_load_w rfl tRL (.tmp 27) rfl y27 (0) rfl [.int .i64 (m : Int), .slice A27 nf c27] _ RLU.out.all Tryd.underlying28 rfl info_rl ?_; simp only [Act.put, List.setIfInBounds_toArray, List.set_cons_zero, List.set_cons_succ])
                      | (refine wpList_ixA rfl tD3 tRL (.tmp 5) (.tmp 222) rfl bd 3 k 2 (k * 2) rfl rfl HK3.out und_D3 info_rl rfl ?_; simp only [Act.put, List.setIfInBounds_toArray, List.set_cons_zero, List.set_cons_succ])
                      | (refine wpList_storeM2 rfl tRL (.tmp 224) (.tmp 223) rfl bd (k * 2) [.int .i64 (m : Int), .slice A27 nf c27] _ tD3 rfl rfl RDU.out (by have := HK3.out; show k * 2 + 2 ≤ 6; omega) info_rl (one_rl _ _ _ _) ?_; intro U3 q1; have TU3 : Hid (T3 w U3 bt bd _) := (by rw [q1, EU2.out]; exact HTE.out); clear q1; simp only [Act.put]))
                    exact HKW.out _ _ (by kernel_rfl) (by kernel_rfl) ⟨_, HE.out.upPD k P' m v' _ r.ds (by rw [← HNF.out]; exact HPC.out) HMB.out, TU3⟩
          · subst hkk
            have cT := HCP.out Y3 TY3.out
            clear ROY3
            go_upto_region 57 with (first
              | (refine wpList_ixA rfl tA3 24 (.tmp 4) (.tmp 227) rfl bt 3 k 1 k rfl rfl HK3.out und_A3 info_pl (Nat.mul_one k) ?_; simp only [Act.put, List.setIfInBounds_toArray, List.set_cons_zero, List.set_cons_succ])
              | (go_at_call 14; refine Calls.mono (HFR.out Y3 TY3.out) ?_; rintro e Y4 ⟨A30, c30, rfl, ho, hf, p⟩; have TY4 : Hid (T3 w Y4 bt bd s) := TY3.out.keep p; have O30Y4 : Hid (Ow Y4 (.slice A30 L c30) L (vB (s.F k).flatten)) := ho; have F30 : Hid (Fresh Y3.heap.size (.slice A30 L c30)) := hf; clear ho hf; clear p))
            clear cT TY3 F30
            have cT := HCP.out Y4 TY4.out
            go_upto_region 58 with (first
              | (refine wpList_ixA rfl tA3 24 (.tmp 4) (.tmp 231) rfl bt 3 k 1 k rfl rfl HK3.out und_A3 info_pl (Nat.mul_one k) ?_; simp only [Act.put, List.setIfInBounds_toArray, List.set_cons_zero, List.set_cons_succ])
              | (go_at_call 11; refine Calls.mono (HSZ.out Y4 TY4.out) ?_; rintro e X ⟨rfl, hqq⟩; obtain rfl := hqq.symm))
            clear cT
            go_upto_region 59 with (go_at_call 18; refine Calls.mono (HRS.out Y4 A30 c30 TY4.out O30Y4.out) ?_; rintro e Y5 ⟨P32, v32, rfl, hl, hp, hf, p⟩; have TY5 : Hid (T3 w Y5 bt bd s) := TY4.out.keep p; have L32 : Hid (Lg Y5 P32 n v32 (s.F k)) := hl; have G32 : Hid (Y4.heap.size ≤ P32 ∧ Fresh Y4.heap.size v32) := ⟨hp, hf⟩; have B45 : Hid (Below Y4.heap.size Y4 Y5) := p; clear hl hp hf; clear p)
            go_wp2_with (first
              | (refine wpList_ixA rfl tA3 24 (.tmp 4) (.tmp 247) rfl bt 3 k 1 k rfl rfl HK3.out und_A3 info_pl (Nat.mul_one k) ?_; simp only [Act.put, List.setIfInBounds_toArray, List.set_cons_zero, List.set_cons_succ])
              | (refine wpList_setP rfl (.tmp 249) (.tmp 248) rfl bt k _ (tcs s.p) tA3 rfl rfl TY5.out.rt HK3.out ?_; intro Y6 q1; have TY6 : Hid (T3 w Y6 bt bd (s.upP k P32 n v32 (s.F k))) := (by rw [q1]; exact T3.setP TY4.out B45.out k HK3.out P32 n v32 _ L32.out G32.out.1 G32.out.2); clear q1; simp only [Act.put]))
            go_wp2_with fail
            exact HKW.out _ _ (by kernel_rfl) (by kernel_rfl) ⟨_, by rw [HQQ.out.2.1]; exact HE.out.upP k P32 v32, TY6⟩
          · subst hkk
            clear ROY3
            go_upto_region 64 with (go_at_call 5; refine Calls.mono (lnew_any Y3) ?_; rintro e Y4 ⟨rfl, hl, p⟩; have TY4 : Hid (T3 w Y4 bt bd s) := TY3.out.keep p; have L34 : Hid (Lg Y4 Y3.heap.size 0 (.slice none 0 0) []) := hl; have B34 : Hid (Below Y3.heap.size Y3 Y4) := p; clear hl; clear p)
            obtain ⟨y34, hy34⟩ : ∃ y, y = Y3.heap.size := ⟨_, rfl⟩
            have HY : Hid (Y3.heap.size ≤ y34) := by rw [hy34]; exact Nat.le_refl _
            rw [← hy34] at L34 ⊢
            clear hy34
            go_upto_region 67 with (first
              | (refine wpList_ixA rfl tA3 24 (.tmp 4) (.tmp 255) rfl bt 3 k 1 k rfl rfl HK3.out und_A3 info_pl (Nat.mul_one k) ?_; simp only [Act.put, List.setIfInBounds_toArray, List.set_cons_zero, List.set_cons_succ])
              | (refine wpList_setP rfl (.tmp 257) (.tmp 256) rfl bt k _ (tcs s.p) tA3 rfl rfl TY4.out.rt HK3.out ?_; intro Y5 q1; have TY5 : Hid (T3 w Y5 bt bd (s.upP k y34 0 (.slice none 0 0) [])) := (by rw [q1]; exact T3.setP TY3.out B34.out k HK3.out y34 0 (.slice none 0 0) [] L34.out HY.out (fun g e => by simp [Value.ownBlock] at e)); clear q1; simp only [Act.put]))
            clear TY3 TY4 L34 B34 HY
            go_wp2_with (first
              | (refine wpList_ixA rfl tD3 tRL (.tmp 5) (.tmp 258) rfl bd 3 k 2 (k * 2) rfl rfl HK3.out und_D3 info_rl rfl ?_; simp only [Act.put, List.setIfInBounds_toArray, List.set_cons_zero, List.set_cons_succ])
              | (refine wpList_storeM2 rfl tRL (.tmp 260) (.tmp 259) rfl bd (k * 2) zLg _ tD3 rfl rfl TY5.out.rd (by have := HK3.out; show k * 2 + 2 ≤ 6; omega) info_rl (one_rl _ _ _ _) ?_; intro Y6 q1; have TY6 : Hid (T3 w Y6 bt bd ((s.upP k y34 0 (.slice none 0 0) []).upD k 0 (.slice none 0 0) [])) := (by rw [q1]; exact T3.setD TY5.out (Below.refl _ _) k HK3.out 0 (.slice none 0 0) [] ⟨rfl, .inl ⟨rfl, rfl⟩⟩ (fun d hd => nomatch hd) (.inl (fun g e => by simp [Value.ownBlock] at e))); clear q1; simp only [Act.put]))
            go_wp2_with fail
            exact HKW.out _ _ (by kernel_rfl) (by kernel_rfl) ⟨_, HE.out.upPD k y34 0 _ _ [] (by show 0 = pc 0; rw [pc_zero]) (by omega), TY6⟩
          · clear ROY3
            go_wp2_with fail
            exact HKW.out _ _ (by kernel_rfl) (by kernel_rfl) ⟨s, HE, TY3⟩
        · clear hi
          go_wp2_with fail
          clear hiN
          go_loopw [35] (fun v35 wr => ∃ k : Nat, k ≤ 3 ∧ v35 = .int .i64 (k : Int) ∧ Hid (T3 w wr bt bd s)) (fun v35 _ => 3 - (intOf v35).toNat)
          case atStart => exact ⟨0, by omega, rfl, Twr⟩
          case round =>
            obtain ⟨k, hk4, rfl, Twr⟩ := hrel
            by_cases hk3 : k < 3
            · have HK3 : Hid (k < 3) := hk3
              obtain ⟨n1, hn1⟩ : ∃ n1, n1 = k + 1 := ⟨_, rfl⟩
              have HN1 : Hid (n1 = k + 1) := hn1
              have e1 : (k : Int) + 1 = (n1 : Int) := by omega
              have hnb : n1 ≤ 3 := by omega
              obtain ⟨q, hq⟩ : ∃ q, q = s.p k := ⟨_, rfl⟩
              obtain ⟨n, hn⟩ : ∃ n, n = s.n k := ⟨_, rfl⟩
              obtain ⟨L, hL⟩ : ∃ L, L = (s.F k).length := ⟨_, rfl⟩
              obtain ⟨Au, cu, hu⟩ := Twr.out.uform HE.out k hk3
              rw [← hL] at hu
              have hE := HE.out k hk3
              obtain ⟨LG, hLG⟩ : ∃ LG : List Value, LG = [.int .i64 (n : Int), .slice Au L cu] := ⟨_, rfl⟩
              obtain ⟨dd, h32, hrt, hdr⟩ := t_roots HT.out HE.out k hk3 ⟨wr, Twr.out⟩
              have HCP : Hid (∀ X, T3 w X bt bd s → X.cell? ⟨bt, k, none⟩ = some (.pointer (some ⟨q, 0, none⟩))) := fun X h => by rw [hq]; exact h.cp k hk3
              have HCM : Hid (∀ X, T3 w X bt bd s → X.cell? ⟨bd, k * 2, none⟩ = some (.int .i64 (n : Int))) := fun X h => by rw [hn, ← hE.1]; exact h.cm k hk3
              have HCU : Hid (∀ X, T3 w X bt bd s → X.cell? ⟨bd, k * 2 + 1, none⟩ = some (.slice Au L cu)) := fun X h => by rw [← hu]; exact h.cu k hk3
              have HRG : Hid (∀ X, T3 w X bt bd s → X.rangeAt bd (k * 2) LG) := fun X h => by rw [hLG, ← hu, hn, ← hE.1]; exact h.rg k hk3
              have HSZ : Hid (∀ X, T3 w X bt bd s → Calls Tryd.prog 11 #[.pointer (some ⟨q, 0, none⟩)] X fun e w' => e = .returned (.int .i64 (n : Int)) ∧ w' = X) := fun X h => by rw [hq, hn]; exact t_size k hk3 X h
              have HRT : Hid (∀ X, T3 w X bt bd s → Calls Tryd.prog 12 #[.pointer (some ⟨q, 0, none⟩)] X fun e w' => e = .returned (.agg (vB dd).toArray) ∧ Below X.heap.size X w') := fun X h => by rw [hq]; exact hrt X h
              have HDR : Hid (∀ X, T3 w X bt bd s → Calls Tryd.prog 13 #[.agg LG.toArray] X fun e w' => e = .returned (.agg (vB dd).toArray) ∧ Below X.heap.size X w') := fun X h => hdr X LG (by rw [hLG, ← hu, hn, ← hE.1]) h
              have HFR : Hid (∀ X, T3 w X bt bd s → Calls Tryd.prog 14 #[.pointer (some ⟨q, 0, none⟩)] X fun e w' => ∃ A c, e = .returned (.slice A L c) ∧ Ow w' (.slice A L c) L (vB (s.F k).flatten) ∧ Fresh X.heap.size (.slice A L c) ∧ Below X.heap.size X w') := fun X h => by rw [hq]; exact t_front HE.out k hk3 L hL X h
              have HSM : Hid (∀ X A ca, T3 w X bt bd s → Ow X (.slice A L ca) L (vB (s.F k).flatten) → Calls Tryd.prog 15 #[.slice A L ca, .slice Au L cu] X fun e w' => e = .returned (.bool true) ∧ Below X.heap.size X w') := fun X A ca h ho => t_same HE.out k hk3 L hL A Au ca cu hu X h ho
              have HRS : Hid (∀ X A c, T3 w X bt bd s → Ow X (.slice A L c) L (vB (s.F k).flatten) → Calls Tryd.prog 18 #[.int .i64 (n : Int), .slice A L c] X fun e w' => ∃ P v', e = .returned (.tuple #[.pointer (some ⟨P, 0, none⟩), .int .i64 0]) ∧ Lg w' P n v' (s.F k) ∧ X.heap.size ≤ P ∧ Fresh X.heap.size v' ∧ Below X.heap.size X w') := fun X A c h ho => lresume_g n (by rw [hn]; exact hE.2.2.2) A L c (s.F k) hL (by rw [hn]; exact hE.2.2.1) (h.lg k hk3).dl X (dclone_any L (by have := HE.out.len k hk3; omega) _ _ (vB_one _) X ho)
              have HID : Hid ((Tryd.prog.info? 42).map (·.size) = some (vB dd).length) := dl_info h32
              have HLD : Hid ((vB dd).length = (vB (List.replicate 32 0#8)).length) := by show _ = _; rw [vB_length, vB_length, h32]; rfl
              have HDD : Hid (dd.length = 32) := h32
              have HIL : Hid ((Tryd.prog.info? tRL).map (·.size) = some LG.length) := by show _ = _; rw [hLG]; exact info_rl
              have HUU : Hid (s.u k = .slice Au L cu) := hu
              have HQQ : Hid (q = s.p k ∧ n = s.n k ∧ L = (s.F k).length ∧ LG = [.int .i64 (n : Int), .slice Au L cu]) := ⟨hq, hn, hL, hLG⟩
              have hnb2 : n ≤ 1099511627776 := by rw [hn]; exact hE.2.2.2
              have hLb : L ≤ 41 := by rw [hL]; exact HE.out.len k hk3
              clear hq hn hL hu hE hLG h32 hrt hdr hn1
              have cT := HCP.out wr Twr.out
              go_upto_region 72 with (first
                | (refine wpList_ixA rfl tA3 24 (.tmp 4) (.tmp 265) rfl bt 3 k 1 k rfl rfl HK3.out und_A3 info_pl (Nat.mul_one k) ?_; simp only [Act.put, List.setIfInBounds_toArray, List.set_cons_zero, List.set_cons_succ])
                | (go_at_call 11; refine Calls.mono (HSZ.out wr Twr.out) ?_; rintro e X ⟨rfl, hqq⟩; obtain rfl := hqq.symm))
              go_upto_region 73 with (first
                | (refine wpList_ixA rfl tA3 24 (.tmp 4) (.tmp 269) rfl bt 3 k 1 k rfl rfl HK3.out und_A3 info_pl (Nat.mul_one k) ?_; simp only [Act.put, List.setIfInBounds_toArray, List.set_cons_zero, List.set_cons_succ])
                | (go_at_call 12; refine Calls.mono (HRT.out wr Twr.out) ?_; rintro e Y4 ⟨rfl, p⟩; have TY4 : Hid (T3 w Y4 bt bd s) := Twr.out.keep p; clear p)
                | (refine wpList_allocD rfl rfl ?_; intro Y4z q1 q2 q3; have RZ : Hid (Row Y4z Y4.heap.size (vB (List.replicate 32 0#8)) 42) := q1; have BZ : Hid (Below Y4.heap.size Y4 Y4z) := q2; clear q1 q2 q3; simp only [Act.put, List.setIfInBounds_toArray, List.set_cons_zero, List.set_cons_succ])
                | (refine wpList_storeL rfl 42 (.tmp 37) (.tmp 272) rfl Y4.heap.size (vB dd) (vB (List.replicate 32 0#8)) 42 rfl rfl RZ.out HLD.out HID.out (all_oneCell_toArray (vB_one dd)) ?_; intro Y5 q1 q2; have p : Below Y4.heap.size Y4 Y5 := (by rw [q1]; exact below_setCells BZ.out (Nat.le_refl _) _); have TY5 : Hid (T3 w Y5 bt bd s) := TY4.out.keep p; have RPY5 : Hid (Row Y5 Y4.heap.size (vB dd) 42) := q2; clear p q1 q2; simp only [Act.put]))
              clear RZ BZ cT Twr TY4
              obtain ⟨y37, hy37⟩ : ∃ y, y = Y4.heap.size := ⟨_, rfl⟩
              rw [← hy37] at RPY5 ⊢
              clear hy37
              have cT := HCP.out Y5 TY5.out
              go_upto_region 74 with (first
                | (refine wpList_ixA rfl tA3 24 (.tmp 4) (.tmp 273) rfl bt 3 k 1 k rfl rfl HK3.out und_A3 info_pl (Nat.mul_one k) ?_; simp only [Act.put, List.setIfInBounds_toArray, List.set_cons_zero, List.set_cons_succ])
                | (go_at_call 14; refine Calls.mono (HFR.out Y5 TY5.out) ?_; rintro e Y6 ⟨A38, c38, rfl, ho, hf, p⟩; have TY6 : Hid (T3 w Y6 bt bd s) := TY5.out.keep p; have RPY6 : Hid (Row Y6 y37 (vB dd) 42) := Row.below RPY5.out p RPY5.out.lt; have O38Y6 : Hid (Ow Y6 (.slice A38 L c38) L (vB (s.F k).flatten)) := ho; have F38 : Hid (Fresh Y5.heap.size (.slice A38 L c38)) := hf; clear ho hf; clear p))
              clear cT TY5 RPY5 F38
              go_upto_region 75 with (first
                | (refine wpList_ixA rfl tD3 tRL (.tmp 5) (.tmp 277) rfl bd 3 k 2 (k * 2) rfl rfl HK3.out und_D3 info_rl rfl ?_; simp only [Act.put, List.setIfInBounds_toArray, List.set_cons_zero, List.set_cons_succ])
                | (refine wpList_load_w rfl tRL (.tmp 278) rfl bd (k * 2) rfl LG _ (HRG.out Y6 TY6.out) Tryd.underlying28 rfl HIL.out ?_; simp only [Act.put, List.setIfInBounds_toArray, List.set_cons_zero, List.set_cons_succ])
                | (go_at_call 13; refine Calls.mono (HDR.out Y6 TY6.out) ?_; rintro e Y7 ⟨rfl, p⟩; have TY7 : Hid (T3 w Y7 bt bd s) := TY6.out.keep p; have RPY7 : Hid (Row Y7 y37 (vB dd) 42) := Row.below RPY6.out p RPY6.out.lt; have O38Y7 : Hid (Ow Y7 (.slice A38 L c38) L (vB (s.F k).flatten)) := O38Y6.out.be p; clear p)
                | (refine wpList_allocD rfl rfl ?_; intro Y7z q1 q2 q3; have RZ : Hid (Row Y7z Y7.heap.size (vB (List.replicate 32 0#8)) 42) := q1; have BZ : Hid (Below Y7.heap.size Y7 Y7z) := q2; clear q1 q2 q3; simp only [Act.put, List.setIfInBounds_toArray, List.set_cons_zero, List.set_cons_succ])
                | (refine wpList_storeL rfl 42 (.tmp 39) (.tmp 280) rfl Y7.heap.size (vB dd) (vB (List.replicate 32 0#8)) 42 rfl rfl RZ.out HLD.out HID.out (all_oneCell_toArray (vB_one dd)) ?_; intro Y8 q1 q2; have p : Below Y7.heap.size Y7 Y8 := (by rw [q1]; exact below_setCells BZ.out (Nat.le_refl _) _); have TY8 : Hid (T3 w Y8 bt bd s) := TY7.out.keep p; have RPY8 : Hid (Row Y8 y37 (vB dd) 42) := Row.below RPY7.out p RPY7.out.lt; have O38Y8 : Hid (Ow Y8 (.slice A38 L c38) L (vB (s.F k).flatten)) := O38Y7.out.be p; have RQY8 : Hid (Row Y8 Y7.heap.size (vB dd) 42) := q2; clear p q1 q2; simp only [Act.put]))
              clear RZ BZ TY6 TY7 RPY6 RPY7 O38Y6 O38Y7
              obtain ⟨y39, hy39⟩ : ∃ y, y = Y7.heap.size := ⟨_, rfl⟩
              rw [← hy39] at RQY8 ⊢
              clear hy39
              have cU := HCU.out Y8 TY8.out
              go_upto_region 76 with (first
                | (refine wpList_ixA rfl tD3 tRL (.tmp 5) (.tmp 282) rfl bd 3 k 2 (k * 2) rfl rfl HK3.out und_D3 info_rl rfl ?_; simp only [Act.put, List.setIfInBounds_toArray, List.set_cons_zero, List.set_cons_succ])
                | (go_at_call 15; refine Calls.mono (HSM.out Y8 A38 c38 TY8.out O38Y8.out) ?_; rintro e Y9 ⟨rfl, p⟩; have TY9 : Hid (T3 w Y9 bt bd s) := TY8.out.keep p; have RPY9 : Hid (Row Y9 y37 (vB dd) 42) := Row.below RPY8.out p RPY8.out.lt; have RQY9 : Hid (Row Y9 y39 (vB dd) 42) := Row.below RQY8.out p RQY8.out.lt; have O38Y9 : Hid (Ow Y9 (.slice A38 L c38) L (vB (s.F k).flatten)) := O38Y8.out.be p; clear p))
              clear cU TY8 RPY8 RQY8 O38Y8 O38Y9
              have cM := HCM.out Y9 TY9.out
              go_wp2_with (first
                | (refine wpList_ixA rfl tD3 tRL (.tmp 5) (.tmp 288) rfl bd 3 k 2 (k * 2) rfl rfl HK3.out und_D3 info_rl rfl ?_; simp only [Act.put, List.setIfInBounds_toArray, List.set_cons_zero, List.set_cons_succ])
                | (refine wpList_load_w rfl 42 (.tmp 37) rfl y37 (0) rfl (vB dd) _ RPY9.out.all Tryd.underlying42 rfl HID.out ?_; simp only [Act.put, List.setIfInBounds_toArray, List.set_cons_zero, List.set_cons_succ])
                | (refine wpList_load_w rfl 42 (.tmp 39) rfl y39 (0) rfl (vB dd) _ RQY9.out.all Tryd.underlying42 rfl HID.out ?_; simp only [Act.put, List.setIfInBounds_toArray, List.set_cons_zero, List.set_cons_succ])
                | (refine wpList_neqD rfl (.tmp 294) (.tmp 295) _ rfl dd HDD.out rfl rfl ?_; simp only [Act.put, List.setIfInBounds_toArray, List.set_cons_zero, List.set_cons_succ]))
              go_roundw
              case rel => exact ⟨n1, hnb, rfl, TY9⟩
              case measure => have := HN1.out; simp [intOf]; omega
            · go_wp2_with fail
              go_ret
              exact ⟨rfl, Twr.out.be⟩

end Go.Proofs.YtkgfaioinajkjaaDoor
