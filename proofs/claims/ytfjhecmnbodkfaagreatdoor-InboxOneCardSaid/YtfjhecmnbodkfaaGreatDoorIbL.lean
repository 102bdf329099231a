/-
  the walk of the law's row.
-/
import Derived.Test.YtfjhecmnbodkfaaGreatDoorIbK
import Derived.Test.YtfjhecmnbodkfaaGreatDoorTRl
namespace Go.Proofs.YtfjhecmnbodkfaaGreatDoor
open Go Go.RowKit
open Sha

theorem Wb.below {w0 w w' : World} {be k c : Nat} {sd d : List (BitVec 8)} {t : Int} {A : Option Addr} (h : Wb w0 w be sd t A k c d) (q : Below w.heap.size w w') : Wb w0 w' be sd t A k c d :=
  ⟨Row.below h.row q h.row.lt, Bw.be h.bw q, h.nil, h.fr, h.b0, h.be.trans (q.mono h.be.size)⟩
theorem vQ_oneI (l : List Nat) : ∀ v ∈ vQ l, v.oneCell' = true := fun v h => by simp only [vQ, List.mem_map] at h; obtain ⟨x, _, rfl⟩ := h; rfl
set_option maxRecDepth 100000 in
set_option maxHeartbeats 8000000 in
theorem row_any (rs : List Rwi) (A0 : Option Addr) (N c0 M : Nat) (hN : N = rs.length) (hM : M = min N 100) (hNb : N < 140737488355328) (w : World) (h0 : RsAt w A0 rs) :
    Calls Tryz.prog 20 #[.slice A0 N c0] w fun r w' => ∃ A c, r = .returned (.slice A M c) ∧ Eo w w' (.slice A M c) (rowv rs M) := by
  have HRS : Hid (RsAt w A0 rs) := h0
  have HN : Hid (N = rs.length) := hN
  have hM1 : M ≤ N := by omega
  have hM2 : M ≤ 100 := by omega
  have HM3 : Hid (M < N → M = 100) := by show _ → _; omega
  clear h0 hN hM
  go_enter Tryz.func20, Tryz.ntmps20
  go_wp2_with fail
  go_loopw [3, 4, 5] (fun v3 v4 v5 wr => ∃ (i : Nat) (t : Int) (A : Option Addr) (c : Nat), i ≤ M ∧ v5 = .int .i64 (i : Int) ∧ v4 = .int .i64 t ∧ 0 ≤ t ∧ t ≤ 1000000 * (i : Int) ∧ v3 = .slice A i c ∧ Hid (t = tmf (rs.take i)) ∧ Hid (Eo w wr (.slice A i c) (rowv rs i))) (fun _ _ v5 _ => M - (intOf v5).toNat)
  case atStart => exact ⟨0, 0, none, 0, Nat.zero_le _, rfl, rfl, by decide, by decide, rfl, rfl, Eo.nil (Below.refl _ _)⟩
  case round =>
    obtain ⟨Z, hZ⟩ : ∃ Z, Z = wr := ⟨_, rfl⟩
    subst hZ
    obtain ⟨i, t, A, c, hi, rfl, rfl, ht0, ht1, rfl, HT, HE⟩ := hrel
    by_cases hlt : i < M
    · have hiN : i < rs.length := by have := HN.out; omega
      obtain ⟨r, hr⟩ : ∃ r, rs[i]? = some r := ⟨_, List.getElem?_eq_getElem hiN⟩
      obtain ⟨hok, hdl, b, o, A', c', hA0, hrg, hsl⟩ := HRS.out i r hr
      subst hA0
      have HT2 := tmf_succ rs i r hr
      have HRV0 := rowv_succ rs i r hr
      obtain ⟨dp, sd, la, tk, rc, am, gs, d⟩ := r
      obtain ⟨p1, hp1⟩ : ∃ p, p = pk la 1000000 := ⟨_, rfl⟩
      obtain ⟨p2, hp2⟩ : ∃ p, p = pk tk 64 := ⟨_, rfl⟩
      obtain ⟨p3, hp3⟩ : ∃ p, p = pk gs 1099511627777 := ⟨_, rfl⟩
      simp only at HT2 hdl hrg hsl
      rw [← HT.out, ← hp1] at HT2
      rw [HT2] at HRV0
      have HT1 : Hid (t + p1 = tmf (rs.take (i + 1))) := HT2.symm
      have HRV : Hid _ := HRV0
      have HRL : Hid ((rowv rs i).length = i) := rowv_len rs i (by omega)
      have HOK : Hid (Rwi.Ok ⟨dp, sd, la, tk, rc, am, gs, d⟩) := hok
      have HP1 : Hid (∀ X, Calls Tryz.prog 29 #[.int .i64 la, .int .i64 1000000] X fun e w' => e = .returned (.int .i64 p1) ∧ w' = X) := fun X => by rw [hp1]; exact ipick_any la 1000000 (by decide) hok.l0.1 hok.l0.2 (by decide) X
      have HP2 : Hid (∀ X, Calls Tryz.prog 29 #[.int .i64 tk, .int .i64 64] X fun e w' => e = .returned (.int .i64 p2) ∧ w' = X) := fun X => by rw [hp2]; exact ipick_any tk 64 (by decide) hok.t0.1 hok.t0.2 (by decide) X
      have HP3 : Hid (∀ X, Calls Tryz.prog 29 #[.int .i64 gs, .int .i64 1099511627777] X fun e w' => e = .returned (.int .i64 p3) ∧ w' = X) := fun X => by rw [hp3]; exact ipick_any gs 1099511627777 (by decide) hok.g0.1 hok.g0.2 (by decide) X
      have hpr1 : 0 ≤ p1 ∧ p1 < 1000000 := by rw [hp1]; exact pk_range la 1000000 (by decide)
      obtain ⟨hpa, hpb⟩ := hpr1
      have HPE : Hid (p2 = pk tk 64 ∧ p3 = pk gs 1099511627777) := ⟨hp2, hp3⟩
      obtain ⟨n, hn⟩ : ∃ n, n = d.length := ⟨_, rfl⟩
      have HND : Hid (n = d.length) := hn
      rw [← hn] at hrg hsl hdl
      obtain ⟨q, hq⟩ : ∃ q, q = o + i * 49 := ⟨_, rfl⟩
      have HQ : Hid (o + i * 49 = q) := hq.symm
      rw [← hq] at hrg
      have HIN : Hid (i < N) := by show _ < _; omega
      have hiN2 : i < N := HIN.out
      have HC0 : Hid (∀ X, Below w.heap.size w X → X.cell? ⟨b, q, none⟩ = some (.bool dp)) := fun X k => range_be hrg k 0 _ rfl
      have HC21 : Hid (∀ X, Below w.heap.size w X → X.cell? ⟨b, q + 21, none⟩ = some (.int .i64 la)) := fun X k => range_be hrg k 21 _ ((Rwi.tail _ _ 20).trans (ent_mid hok.ls 0))
      have HC22 : Hid (∀ X, Below w.heap.size w X → X.cell? ⟨b, q + 22, none⟩ = some (.int .i64 tk)) := fun X k => range_be hrg k 22 _ ((Rwi.tail _ _ 21).trans (ent_mid hok.ls 1))
      have HC47 : Hid (∀ X, Below w.heap.size w X → X.cell? ⟨b, q + 47, none⟩ = some (.int .i64 gs)) := fun X k => range_be hrg k 47 _ ((Rwi.tail _ _ 46).trans (ent_gs hok.ls hok.lt hok.la 0))
      have HC48 : Hid (∀ X, Below w.heap.size w X → X.cell? ⟨b, q + 48, none⟩ = some (.slice A' n c')) := fun X k => range_be hrg k 48 _ ((Rwi.tail _ _ 47).trans (ent_gs hok.ls hok.lt hok.la 1))
      have HR1 : Hid (∀ X, Below w.heap.size w X → X.rangeAt b (q + 1) (vB sd)) := fun X k j u hj => by
        rw [Nat.add_assoc]
        refine range_be hrg k (1 + j) u ?_
        rw [Nat.add_comm 1 j]
        show (vB sd ++ _)[j]? = _
        rw [List.getElem?_append_left ((List.getElem?_eq_some_iff.1 hj).1)]
        exact hj
      have HR23 : Hid (∀ X, Below w.heap.size w X → X.rangeAt b (q + 23) (vB rc)) := fun X k j u hj => by
        rw [Nat.add_assoc]
        refine range_be hrg k (23 + j) u ?_
        rw [show 23 + j = (22 + j) + 1 by omega, Rwi.tail, show 22 + j + 1 = 23 + j by omega, ent_to hok.ls, List.getElem?_append_left ((List.getElem?_eq_some_iff.1 hj).1)]
        exact hj
      have HR43 : Hid (∀ X, Below w.heap.size w X → X.rangeAt b (q + 43) (vQ am)) := fun X k j u hj => by
        rw [Nat.add_assoc]
        refine range_be hrg k (43 + j) u ?_
        rw [show 43 + j = (42 + j) + 1 by omega, Rwi.tail, show 42 + j + 1 = 43 + j by omega, ent_am hok.ls hok.lt, List.getElem?_append_left ((List.getElem?_eq_some_iff.1 hj).1)]
        exact hj
      have HSL : Hid (∀ X, Below w.heap.size w X → SlAt X (.slice A' n c') d) := fun X k => hsl.be k
      have HI1 : Hid _ := info_adE sd hok.ls
      have HI2 : Hid _ := info_adE rc hok.lt
      have HI3 : Hid _ := info_wdE am hok.la
      have H1 : Hid (sd.length = 20) := hok.ls
      have H2 : Hid (rc.length = 20) := hok.lt
      have H3 : Hid (am.length = 4) := hok.la
      obtain ⟨LL, hLL⟩ : ∃ L, L = L2 sd (t + p1) := ⟨_, rfl⟩
      have HLE2 : Hid (LL = L2 sd (t + p1)) := hLL
      have HLL2 : Hid (LL.length = zE.length) := by show _ = _; rw [hLL]; unfold L2; rw [ent_len hok.ls rfl rfl]; rfl
      have HLI2 : Hid ((Tryz.prog.info? 46).map (·.size) = some LL.length) := by show _ = _; rw [HLL2.out]; exact info_ent
      have HLO2 : Hid (LL.toArray.all (·.oneCell') = true) := by rw [hLL]; exact all_oneCell_toArray (ent_one1 _ _ _ _ _ _ _ _ _ _)
      clear hr hok hrg hsl HT2 HRV0 hp1 hp2 hp3 hn hq hLL hiN
      have c21 := HC21.out Z HE.out.be
      go_upto_region 7 with (first
        | (refine wpList_ixO 64 100 (.tmp 19) (.tmp 20) rfl b o N c0 i 49 q HQ.out rfl rfl HIN.out Tryz.underlying64 info_raw rfl ?_; simp only [Act.put, List.setIfInBounds_toArray, List.set_cons_zero, List.set_cons_succ])
        | (go_at_call 29; refine Calls.mono (HP1.out Z) ?_; rintro e1 Y ⟨rfl, hqq⟩; obtain rfl := hqq.symm))
      clear c21 HC21 HP1
      go_upto_region 8 with (first
        | (refine wpList_ixO 64 100 (.tmp 26) (.tmp 27) rfl b o N c0 i 49 q HQ.out rfl rfl HIN.out Tryz.underlying64 info_raw rfl ?_; simp only [Act.put, List.setIfInBounds_toArray, List.set_cons_zero, List.set_cons_succ])
        | (refine wpList_load_w rfl 40 (.tmp 29) rfl b (q + 1) rfl (vB sd) _ (HR1.out Z HE.out.be) Tryz.underlying40 rfl HI1.out ?_; simp only [Act.put, List.setIfInBounds_toArray, List.set_cons_zero, List.set_cons_succ])
        | (refine wpList_buildE2 rfl (.tmp 30) (.tmp 31) rfl sd H1.out (t + p1) rfl rfl LL HLE2.out ?_; simp only [Act.put, List.setIfInBounds_toArray, List.set_cons_zero, List.set_cons_succ])
        | (refine wpList_allocE rfl rfl ?_; intro X1 q1 q2; have Z1 : Hid (Row X1 Z.heap.size zE 46) := q1; have B1 : Hid (Below Z.heap.size Z X1) := q2; clear q1 q2; simp only [Act.put, List.setIfInBounds_toArray, List.set_cons_zero, List.set_cons_succ])
        | (refine wpList_storeL rfl 46 (.tmp 6) (.tmp 32) rfl Z.heap.size LL zE 46 rfl rfl Z1.out HLL2.out HLI2.out HLO2.out ?_; intro X2 q1 q2; have B2 : Hid (Below Z.heap.size Z X2) := (by rw [q1]; exact below_setCells B1.out (Nat.le_refl _) _); have E2 : Hid (Row X2 Z.heap.size (L2 sd (t + p1)) 46) := (by rw [← HLE2.out]; exact q2); clear q1 q2; simp only [Act.put]))
      obtain ⟨be, hbe⟩ : ∃ b, b = Z.heap.size := ⟨_, rfl⟩
      have NB : Hid (Z.heap.size ≤ be) := by rw [hbe]; exact Nat.le_refl _
      rw [← hbe] at E2 ⊢
      clear hbe Z1 B1 HLE2 HLL2 HLI2 HLO2 HR1
      have cdp := HC0.out X2 (HE.out.be.trans (B2.out.mono HE.out.be.size))
      clear HC0
      cases dp
      · obtain ⟨m, hm⟩ : ∃ m, m = min n 4096 := ⟨_, rfl⟩
        have hm1 : m ≤ n := by omega
        have hm2 : m ≤ 4096 := by omega
        have HM4 : Hid (m < n → m = 4096) := by show _ → _; omega
        have HMD : Hid (d.take 4096 = d.take m ∧ (d.take m).length = m) := by
          have := HND.out
          refine ⟨?_, by rw [List.length_take]; omega⟩
          by_cases h : n ≤ 4096
          · rw [List.take_of_length_le (by omega), List.take_of_length_le (by omega)]
          · rw [show m = 4096 by omega]
        have HS1 : Hid (sd.length = 20) := H1.out
        have W0 : Hid (Wb Z X2 be sd (t + p1) none 0 0 (d.take 0)) := ⟨E2.out, Bw.nil _, fun _ => rfl, (fun g eg => by cases eg), NB.out, B2.out⟩
        clear hm E2 B2 HP2 HP3 HR23 HR43 HC22 HC47 HPE HI1 HI2 HI3 H2 H3 HRS H1 HN HM3
        go_upto_region 17 with (first
          | (refine wpList_ixO 64 100 (.tmp 33) (.tmp 34) rfl b o N c0 i 49 q HQ.out rfl rfl HIN.out Tryz.underlying64 info_raw rfl ?_; simp only [Act.put, List.setIfInBounds_toArray, List.set_cons_zero, List.set_cons_succ]))
        clear cdp
        go_loopw [7] (fun v7 wz => ∃ (k : Nat) (Ab : Option Addr) (cb : Nat), k ≤ m ∧ v7 = .int .i64 (k : Int) ∧ Hid (Wb Z wz be sd (t + p1) Ab k cb (d.take k))) (fun v7 _ => m - (intOf v7).toNat)
        case atStart => exact ⟨0, none, 0, Nat.zero_le _, rfl, W0⟩
        case round =>
          obtain ⟨V, hV⟩ : ∃ V, V = wr := ⟨_, rfl⟩
          subst hV
          obtain ⟨k, Ab, cb, hk, rfl, HWB⟩ := hrel
          clear W0
          have c48 := HC48.out V (HE.out.be.trans (HWB.out.be.mono HE.out.be.size))
          by_cases hkm : k < m
          · have hkn : k < n := by omega
            obtain ⟨y, hy⟩ : ∃ y, d[k]? = some y := ⟨_, List.getElem?_eq_getElem (by have := HND.out; omega)⟩
            obtain ⟨b', o', hA'⟩ : ∃ b' o', A' = some ⟨b', o', none⟩ := by
              rcases HSL.out V (HE.out.be.trans (HWB.out.be.mono HE.out.be.size)) with ⟨h0, _⟩ | ⟨ab, ao, c9, hv, _, _⟩
              · have := HND.out; rw [h0] at this; simp at this; omega
              · simp only [Value.slice.injEq] at hv
                exact ⟨ab, ao, hv.1⟩
            subst hA'
            have HBW : Hid (∀ W, Wb Z W be sd (t + p1) Ab k cb (d.take k) → Below w.heap.size w W) := fun W h => HE.out.be.trans (h.be.mono HE.out.be.size)
            have HY : Hid (∀ X, Below w.heap.size w X → X.cell? ⟨b', o' + k, none⟩ = some (.int .u8 (Sha.c y))) := fun X kk => by
              rcases HSL.out X kk with ⟨h0, _⟩ | ⟨ab, ao, c9, hv, _, hr⟩
              · rw [h0] at hy; simp at hy
              · simp only [Value.slice.injEq, Option.some.injEq, Addr.mk.injEq] at hv
                obtain ⟨⟨rfl, rfl, _⟩, _, _⟩ := hv
                exact hr k _ (by rw [vB_get d k ((List.getElem?_eq_some_iff.1 hy).1)]; simp [hy])
            have HKN : Hid (k < n) := hkn
            have HKL : Hid ((d.take k).length + 1 ≤ 140737488355328) := by show _ ≤ _; rw [List.length_take]; omega
            have HTL : Hid ((d.take k ++ [y]).length = k + 1) := by show _ = _; rw [List.length_append, List.length_take]; have := HND.out; simp; omega
            have HTK : Hid (d.take k ++ [y] = d.take (k + 1)) := by show _ = _; rw [List.take_add_one, hy]; rfl
            clear hy
            go_upto_region 19 with (first
              | (refine wpList_ixO 64 100 (.tmp 72) (.tmp 73) rfl b o N c0 i 49 q HQ.out rfl rfl HIN.out Tryz.underlying64 info_raw rfl ?_; simp only [Act.put, List.setIfInBounds_toArray, List.set_cons_zero, List.set_cons_succ]))
            have hb1 := Below.refl V.heap.size V
            have hWb := HWB.out
            clear HWB c48
            refine wp_named fun a0 ha0 => ?_
            have hsz : a0.tmps.size = 103 := by rw [ha0]; rfl
            have zs0 : a0.eval (.tmp 0) = .slice (some ⟨b, o, none⟩) N c0 := by rw [ha0]; rfl
            have zs5 : a0.eval (.tmp 5) = .int .i64 (i : Int) := by rw [ha0]; rfl
            have zs6 : a0.eval (.tmp 6) = .pointer (some ⟨be, 0, none⟩) := by rw [ha0]; rfl
            have zs7 : a0.eval (.tmp 7) = .int .i64 (k : Int) := by rw [ha0]; rfl
            obtain ⟨D, hD⟩ : ∃ D : List (Tmp × SP), D = [(85, SP.is (.pointer (some ⟨be, 48, none⟩))), (86, SP.is (.slice Ab k cb)), (87, SP.is (.slice (some ⟨b, o, none⟩) N c0)), (88, SP.is (.int .i64 (i : Int))), (89, SP.is (.pointer (some ⟨b, q, none⟩))), (90, SP.is (.pointer (some ⟨b, q + 48, none⟩))), (91, SP.is (.slice (some ⟨b', o', none⟩) n c')), (92, SP.is (.int .i64 (k : Int))), (93, SP.is (.pointer (some ⟨b', o' + k, none⟩))), (94, SP.is (.int .u8 (Sha.c y))), (95, SP.any), (96, SP.any), (97, SP.is (.pointer (some ⟨be, 48, none⟩))), (1000, SP.any)] := ⟨_, rfl⟩
            refine wp_region_then (by kernel_rfl) 11 (by decide) (by kernel_rfl) (fun listed ac W => Fp D a0 listed ac W ∧ Below V.heap.size V W ∧ Wb Z W be sd (t + p1) Ab k cb (d.take k) ∧ (listed.getD 10 false = true → (SP.new 1 1 (vB [y]) 5).P W (ac.eval (.tmp 95)))) (fun listed ac W => ∃ A7 c7, Fp D a0 listed ac W ∧ ac.eval (.tmp 96) = .slice A7 (k + 1) c7 ∧ Row W be (ent 2 sd (t + p1) 0 (List.replicate 20 0#8) (List.replicate 4 0) 0 (if listed.getD 13 false = true then .slice A7 (k + 1) c7 else .slice Ab k cb)) 46 ∧ Bw W (.slice A7 (k + 1) c7) (d.take k ++ [y]) ∧ (A7 = none → c7 = 0) ∧ Fresh Z.heap.size (.slice A7 (k + 1) c7) ∧ Below Z.heap.size Z W) ?_ ?_ ?_ ?_ ?_
            · exact ⟨Fp.start D a0 _ _, Below.drew hb1, hWb.below (Below.drew (Below.refl _ _)), (fun h => (start_no h).elim)⟩
            · clear ha0 hb1 hWb
              intro listed ac W k hl hI hdn hk hne hnl
              replace hl : listed.size = 14 := hl
              obtain ⟨hF, hb1, hWb, ti10⟩ := hI
              have hk1 : k < 14 := List.mem_range.1 (List.mem_filter.1 hk).1
              rcases (show k = 0 ∨ k = 1 ∨ k = 2 ∨ k = 3 ∨ k = 4 ∨ k = 5 ∨ k = 6 ∨ k = 7 ∨ k = 8 ∨ k = 9 ∨ k = 10 ∨ k = 11 ∨ k = 12 ∨ k = 13 by omega) with rfl | rfl | rfl | rfl | rfl | rfl | rfl | rfl | rfl | rfl | rfl | rfl | rfl | rfl
              · have hk3 := hk
                have e0 := ((hF.keep 6 (by rw [hD]; rfl)).trans zs6)
                exact wpOp_plain rfl rfl (wp_fe7 rfl be e0 ⟨(hF.put 0 85 (SP.is (.pointer (some ⟨be, 48, none⟩))) (.pointer (some ⟨be, 48, none⟩)) (by rw [hD]; rfl) rfl (by rw [hD]; rfl) (by rw [hsz]; decide) (by rw [hl]; decide)), hb1, hWb, (fun h1 => by change (SP.new 1 1 (vB [y]) 5).P _ ((ac.put (some 85) _).eval (.tmp 95)); rw [eval_put_other ac _ (by decide)]; exact ti10 (by rwa [getD_set _ _ _ (by decide)] at h1))⟩)
              · have hk3 := hk
                have e0 := (hF.done 0 (85, SP.is (.pointer (some ⟨be, 48, none⟩))) (by rw [hD]; rfl) (ready_dep hk 0 (by kernel_rfl)))
                exact wpOp_plain rfl rfl (wp_load_1I be 48 (.slice Ab k cb) rfl e0 (ld_slI W be 48 _ (hWb.row.cell 48 _ (ent_gs HS1.out rfl rfl 1))) ⟨(hF.put 1 86 (SP.is (.slice Ab k cb)) (.slice Ab k cb) (by rw [hD]; rfl) rfl (by rw [hD]; rfl) (by rw [hsz]; decide) (by rw [hl]; decide)), hb1, hWb, (fun h1 => by change (SP.new 1 1 (vB [y]) 5).P _ ((ac.put (some 86) _).eval (.tmp 95)); rw [eval_put_other ac _ (by decide)]; exact ti10 (by rwa [getD_set _ _ _ (by decide)] at h1))⟩)
              · have hk3 := hk
                exact wpOp_plain rfl rfl (wp_move_v (ac.eval (.tmp 0)) rfl rfl ⟨(hF.put 2 87 (SP.is (.slice (some ⟨b, o, none⟩) N c0)) (ac.eval (.tmp 0)) (by rw [hD]; rfl) (((hF.keep 0 (by rw [hD]; rfl)).trans zs0)) (by rw [hD]; rfl) (by rw [hsz]; decide) (by rw [hl]; decide)), hb1, hWb, (fun h1 => by change (SP.new 1 1 (vB [y]) 5).P _ ((ac.put (some 87) _).eval (.tmp 95)); rw [eval_put_other ac _ (by decide)]; exact ti10 (by rwa [getD_set _ _ _ (by decide)] at h1))⟩)
              · have hk3 := hk
                exact wpOp_plain rfl rfl (wp_move_v (ac.eval (.tmp 5)) rfl rfl ⟨(hF.put 3 88 (SP.is (.int .i64 (i : Int))) (ac.eval (.tmp 5)) (by rw [hD]; rfl) (((hF.keep 5 (by rw [hD]; rfl)).trans zs5)) (by rw [hD]; rfl) (by rw [hsz]; decide) (by rw [hl]; decide)), hb1, hWb, (fun h1 => by change (SP.new 1 1 (vB [y]) 5).P _ ((ac.put (some 88) _).eval (.tmp 95)); rw [eval_put_other ac _ (by decide)]; exact ti10 (by rwa [getD_set _ _ _ (by decide)] at h1))⟩)
              · have hk3 := hk
                have e0 := (hF.done 2 (87, SP.is (.slice (some ⟨b, o, none⟩) N c0)) (by rw [hD]; rfl) (ready_dep hk 2 (by kernel_rfl)))
                have e1 := (hF.done 3 (88, SP.is (.int .i64 (i : Int))) (by rw [hD]; rfl) (ready_dep hk 3 (by kernel_rfl)))
                exact wpOp_plain rfl rfl (wp_ixO 64 100 rfl b o N c0 i 49 q HQ.out e0 e1 HIN.out Tryz.underlying64 info_raw ⟨(hF.put 4 89 (SP.is (.pointer (some ⟨b, q, none⟩))) (.pointer (some ⟨b, q, none⟩)) (by rw [hD]; rfl) rfl (by rw [hD]; rfl) (by rw [hsz]; decide) (by rw [hl]; decide)), hb1, hWb, (fun h1 => by change (SP.new 1 1 (vB [y]) 5).P _ ((ac.put (some 89) _).eval (.tmp 95)); rw [eval_put_other ac _ (by decide)]; exact ti10 (by rwa [getD_set _ _ _ (by decide)] at h1))⟩)
              · have hk3 := hk
                have e0 := (hF.done 4 (89, SP.is (.pointer (some ⟨b, q, none⟩))) (by rw [hD]; rfl) (ready_dep hk 4 (by kernel_rfl)))
                exact wpOp_plain rfl rfl (wp_fr7 rfl b q e0 ⟨(hF.put 5 90 (SP.is (.pointer (some ⟨b, q + 48, none⟩))) (.pointer (some ⟨b, q + 48, none⟩)) (by rw [hD]; rfl) rfl (by rw [hD]; rfl) (by rw [hsz]; decide) (by rw [hl]; decide)), hb1, hWb, (fun h1 => by change (SP.new 1 1 (vB [y]) 5).P _ ((ac.put (some 90) _).eval (.tmp 95)); rw [eval_put_other ac _ (by decide)]; exact ti10 (by rwa [getD_set _ _ _ (by decide)] at h1))⟩)
              · have hk3 := hk
                have e0 := (hF.done 5 (90, SP.is (.pointer (some ⟨b, q + 48, none⟩))) (by rw [hD]; rfl) (ready_dep hk 5 (by kernel_rfl)))
                exact wpOp_plain rfl rfl (wp_load_1I b (q + 48) (.slice (some ⟨b', o', none⟩) n c') rfl e0 (ld_slI W b (q + 48) _ (HC48.out W (HBW.out W hWb))) ⟨(hF.put 6 91 (SP.is (.slice (some ⟨b', o', none⟩) n c')) ((.slice (some ⟨b', o', none⟩) n c')) (by rw [hD]; rfl) rfl (by rw [hD]; rfl) (by rw [hsz]; decide) (by rw [hl]; decide)), hb1, hWb, (fun h1 => by change (SP.new 1 1 (vB [y]) 5).P _ ((ac.put (some 91) _).eval (.tmp 95)); rw [eval_put_other ac _ (by decide)]; exact ti10 (by rwa [getD_set _ _ _ (by decide)] at h1))⟩)
              · have hk3 := hk
                exact wpOp_plain rfl rfl (wp_move_v (ac.eval (.tmp 7)) rfl rfl ⟨(hF.put 7 92 (SP.is (.int .i64 (k : Int))) (ac.eval (.tmp 7)) (by rw [hD]; rfl) (((hF.keep 7 (by rw [hD]; rfl)).trans zs7)) (by rw [hD]; rfl) (by rw [hsz]; decide) (by rw [hl]; decide)), hb1, hWb, (fun h1 => by change (SP.new 1 1 (vB [y]) 5).P _ ((ac.put (some 92) _).eval (.tmp 95)); rw [eval_put_other ac _ (by decide)]; exact ti10 (by rwa [getD_set _ _ _ (by decide)] at h1))⟩)
              · have hk3 := hk
                have e0 := (hF.done 6 (91, SP.is (.slice (some ⟨b', o', none⟩) n c')) (by rw [hD]; rfl) (ready_dep hk 6 (by kernel_rfl)))
                have e1 := (hF.done 7 (92, SP.is (.int .i64 (k : Int))) (by rw [hD]; rfl) (ready_dep hk 7 (by kernel_rfl)))
                exact wpOp_plain rfl rfl (wp_ixO 44 5 rfl b' o' n c' k 1 (o' + k) (by rw [Nat.mul_one]) e0 e1 HKN.out Tryz.underlying44 info_u8 ⟨(hF.put 8 93 (SP.is (.pointer (some ⟨b', o' + k, none⟩))) (.pointer (some ⟨b', o' + k, none⟩)) (by rw [hD]; rfl) rfl (by rw [hD]; rfl) (by rw [hsz]; decide) (by rw [hl]; decide)), hb1, hWb, (fun h1 => by change (SP.new 1 1 (vB [y]) 5).P _ ((ac.put (some 93) _).eval (.tmp 95)); rw [eval_put_other ac _ (by decide)]; exact ti10 (by rwa [getD_set _ _ _ (by decide)] at h1))⟩)
              · have hk3 := hk
                have e0 := (hF.done 8 (93, SP.is (.pointer (some ⟨b', o' + k, none⟩))) (by rw [hD]; rfl) (ready_dep hk 8 (by kernel_rfl)))
                exact wpOp_plain rfl rfl (wp_load_1I b' (o' + k) (.int .u8 (Sha.c y)) rfl e0 (ld_u8I W b' (o' + k) _ (HY.out W (HBW.out W hWb))) ⟨(hF.put 9 94 (SP.is (.int .u8 (Sha.c y))) (.int .u8 (Sha.c y)) (by rw [hD]; rfl) rfl (by rw [hD]; rfl) (by rw [hsz]; decide) (by rw [hl]; decide)), hb1, hWb, (fun h1 => by change (SP.new 1 1 (vB [y]) 5).P _ ((ac.put (some 94) _).eval (.tmp 95)); rw [eval_put_other ac _ (by decide)]; exact ti10 (by rwa [getD_set _ _ _ (by decide)] at h1))⟩)
              · have hk3 := hk
                have e94 := (hF.done 9 (94, SP.is (.int .u8 (Sha.c y))) (by rw [hD]; rfl) (ready_dep hk 9 (by kernel_rfl)))
                refine wpOp_plain rfl rfl (wp_bByte (.tmp 94) rfl y e94 ?_)
                intro W2 q hB
                exact ⟨((hF.world hB).put 10 95 (SP.any) (.slice (some ⟨W.heap.size, 0, none⟩) 1 1) (by rw [hD]; rfl) trivial (by rw [hD]; rfl) (by rw [hsz]; decide) (by rw [hl]; decide)), hb1.trans (hB.mono hb1.size), hWb.below hB, (fun _ => by change (SP.new 1 1 (vB [y]) 5).P _ ((ac.put (some 95) _).eval (.tmp 95)); rw [eval_put_same ac _ (by rw [hF.size, hsz]; decide)]; exact ⟨_, rfl, q⟩)⟩
              · exact absurd rfl hne
              · have hk3 := hk
                have e0 := ((hF.keep 6 (by rw [hD]; rfl)).trans zs6)
                exact wpOp_plain rfl rfl (wp_fe7 rfl be e0 ⟨(hF.put 12 97 (SP.is (.pointer (some ⟨be, 48, none⟩))) (.pointer (some ⟨be, 48, none⟩)) (by rw [hD]; rfl) rfl (by rw [hD]; rfl) (by rw [hsz]; decide) (by rw [hl]; decide)), hb1, hWb, (fun h1 => by change (SP.new 1 1 (vB [y]) 5).P _ ((ac.put (some 97) _).eval (.tmp 95)); rw [eval_put_other ac _ (by decide)]; exact ti10 (by rwa [getD_set _ _ _ (by decide)] at h1))⟩)
              · exact absurd (ready_dep hk 11 (by kernel_rfl)) hnl
            · clear ha0 hb1 hWb
              intro listed ac W hl hI hdn hk
              replace hl : listed.size = 14 := hl
              obtain ⟨hF, hb1, hWb, ti10⟩ := hI
              have e86 := (hF.done 1 (86, SP.is (.slice Ab k cb)) (by rw [hD]; rfl) (ready_dep hk 1 (by kernel_rfl)))
              obtain ⟨M9, e95, q1⟩ := (ti10 (ready_dep hk 10 (by kernel_rfl)))
              have hno13 : ¬ listed.getD 13 false = true := fun h => not_yet hk (hdn 13 h 11 (by kernel_rfl))
              refine wpOp_plain rfl rfl (wp_app (.tmp 86) (.tmp 95) rfl (.slice Ab k cb) (d.take k) [y] e86 hWb.bw (some ⟨M9, 0, none⟩) 1 1 rfl e95 (.inr ⟨M9, 0, 1, rfl, Nat.le_refl _, q1.all⟩) (fun h => by cases h) HKL.out ?_)
              intro v5 W2 p1 p2 p3
              obtain ⟨A7, c7, e7, _, n7⟩ := Bw.form p1
              rw [HTL.out] at e7
              subst e7
              have hT : Fp D a0 listed ac W2 := hF.turn (by rw [hD]; simp only [List.forall_mem_cons, List.not_mem_nil, false_implies, implies_true, and_true]; exact ⟨fun _ h => h, fun _ h => h, fun _ h => h, fun _ h => h, fun _ h => h, fun _ h => h, fun _ h => h, fun _ h => h, fun _ h => h, fun _ h => h, fun _ h => h, fun _ h => h, fun _ h => h, fun _ h => h⟩)
              exact ⟨A7, c7, (hT.put 11 96 SP.any _ (by rw [hD]; rfl) trivial (by rw [hD]; rfl) (by rw [hsz]; decide) (by rw [hl]; decide)), (eval_put_same ac _ (by rw [hF.size, hsz]; decide)), (by rw [getD_set _ _ _ (by decide), if_neg hno13]; exact row_gb hWb.row p2 (some_ne (Bw.ne hWb.bw hWb.row (by decide)))), p1, n7, (fun g eg => by rcases p3 with q | q; (exact hWb.fr g (by rw [← q]; exact eg)); (rw [q] at eg; cases eg; exact hWb.be.size)), (below_gb hWb.be p2 hWb.fr)⟩
            · clear ha0 hb1 hWb
              intro listed ac W k hl hJ hdn hk hne hyl
              replace hl : listed.size = 14 := hl
              obtain ⟨A7, c7, hF, hJ1, hJ2, hJ3, hJ4, hJ5, hJ6⟩ := hJ
              have hk1 : k < 14 := List.mem_range.1 (List.mem_filter.1 hk).1
              rcases (show k = 0 ∨ k = 1 ∨ k = 2 ∨ k = 3 ∨ k = 4 ∨ k = 5 ∨ k = 6 ∨ k = 7 ∨ k = 8 ∨ k = 9 ∨ k = 10 ∨ k = 11 ∨ k = 12 ∨ k = 13 by omega) with rfl | rfl | rfl | rfl | rfl | rfl | rfl | rfl | rfl | rfl | rfl | rfl | rfl | rfl
              · exact absurd (hdn 1 (hdn 11 hyl 1 (by kernel_rfl)) 0 (by kernel_rfl)) (not_yet hk)
              · exact absurd (hdn 11 hyl 1 (by kernel_rfl)) (not_yet hk)
              · exact absurd (hdn 4 (hdn 5 (hdn 6 (hdn 8 (hdn 9 (hdn 10 (hdn 11 hyl 10 (by kernel_rfl)) 9 (by kernel_rfl)) 8 (by kernel_rfl)) 6 (by kernel_rfl)) 5 (by kernel_rfl)) 4 (by kernel_rfl)) 2 (by kernel_rfl)) (not_yet hk)
              · exact absurd (hdn 4 (hdn 5 (hdn 6 (hdn 8 (hdn 9 (hdn 10 (hdn 11 hyl 10 (by kernel_rfl)) 9 (by kernel_rfl)) 8 (by kernel_rfl)) 6 (by kernel_rfl)) 5 (by kernel_rfl)) 4 (by kernel_rfl)) 3 (by kernel_rfl)) (not_yet hk)
              · exact absurd (hdn 5 (hdn 6 (hdn 8 (hdn 9 (hdn 10 (hdn 11 hyl 10 (by kernel_rfl)) 9 (by kernel_rfl)) 8 (by kernel_rfl)) 6 (by kernel_rfl)) 5 (by kernel_rfl)) 4 (by kernel_rfl)) (not_yet hk)
              · exact absurd (hdn 6 (hdn 8 (hdn 9 (hdn 10 (hdn 11 hyl 10 (by kernel_rfl)) 9 (by kernel_rfl)) 8 (by kernel_rfl)) 6 (by kernel_rfl)) 5 (by kernel_rfl)) (not_yet hk)
              · exact absurd (hdn 8 (hdn 9 (hdn 10 (hdn 11 hyl 10 (by kernel_rfl)) 9 (by kernel_rfl)) 8 (by kernel_rfl)) 6 (by kernel_rfl)) (not_yet hk)
              · exact absurd (hdn 8 (hdn 9 (hdn 10 (hdn 11 hyl 10 (by kernel_rfl)) 9 (by kernel_rfl)) 8 (by kernel_rfl)) 7 (by kernel_rfl)) (not_yet hk)
              · exact absurd (hdn 9 (hdn 10 (hdn 11 hyl 10 (by kernel_rfl)) 9 (by kernel_rfl)) 8 (by kernel_rfl)) (not_yet hk)
              · exact absurd (hdn 10 (hdn 11 hyl 10 (by kernel_rfl)) 9 (by kernel_rfl)) (not_yet hk)
              · exact absurd (hdn 11 hyl 10 (by kernel_rfl)) (not_yet hk)
              · exact absurd rfl hne
              · have hk3 := hk
                have e0 := ((hF.keep 6 (by rw [hD]; rfl)).trans zs6)
                exact wpOp_plain rfl rfl (wp_fe7 rfl be e0 ⟨A7, c7, (hF.put 12 97 (SP.is (.pointer (some ⟨be, 48, none⟩))) (.pointer (some ⟨be, 48, none⟩)) (by rw [hD]; rfl) rfl (by rw [hD]; rfl) (by rw [hsz]; decide) (by rw [hl]; decide)), (eval_put_other ac _ (by decide)).trans (hJ1), (by rw [getD_set _ _ _ (by decide)]; exact hJ2), hJ3, hJ4, hJ5, hJ6⟩)
              · have hk3 := hk
                have e97 := (hF.done 12 (97, SP.is (.pointer (some ⟨be, 48, none⟩))) (by rw [hD]; rfl) (ready_dep hk 12 (by kernel_rfl)))
                rw [if_neg (not_yet hk)] at hJ2
                refine wpOp_plain rfl rfl (wp_set1I 44 (.tmp 97) (.tmp 96) rfl be 48 (.slice A7 (k + 1) c7) (ent 2 sd (t + p1) 0 (List.replicate 20 0#8) (List.replicate 4 0) 0 (.slice Ab k cb)) 46 e97 hJ1 rfl hJ2 (by rw [ent_len HS1.out rfl rfl]; decide) info_slE rfl ?_)
                intro W2 z1 z2
                have hT : Fp D a0 listed ac W2 := hF.turn (by rw [hD]; simp only [List.forall_mem_cons, List.not_mem_nil, false_implies, implies_true, and_true]; exact ⟨fun _ h => h, fun _ h => h, fun _ h => h, fun _ h => h, fun _ h => h, fun _ h => h, fun _ h => h, fun _ h => h, fun _ h => h, fun _ h => h, fun _ h => h, fun _ h => h, fun _ h => h, fun _ h => h⟩)
                exact ⟨A7, c7, (hT.skip 13 1000 (by rw [hD]; rfl) (by rw [hl]; decide)), hJ1, (by rw [if_pos (getD_same (by rw [hl]; decide))]; rw [show (ent 2 sd (t + p1) 0 (List.replicate 20 0#8) (List.replicate 4 0) 0 (.slice Ab k cb)).set 48 (.slice A7 (k + 1) c7) = _ from Ev.set (e := ⟨2, sd, t + p1, 0, List.replicate 20 0#8, List.replicate 4 0, 0, []⟩) ⟨HS1.out, rfl, rfl, fun x hx => by have hx2 : x ∈ [0, 0, 0, 0] := hx; simp at hx2; omega⟩ _ _] at z1; exact z1), (Bw.gro hJ3 z2 (Bw.ne hJ3 hJ2 (by decide))), hJ4, hJ5, (hJ6.trans (z2.to_below hJ6.size (fun g eg => by rw [eg]; exact NB.out)))⟩
            · clear hb1 hWb
              intro listed ac W hl hJ hr
              replace hl : listed.size = 14 := hl
              obtain ⟨A7, c7, hF, hJ1, hJ2, hJ3, hJ4, hJ5, hJ6⟩ := hJ
              have hall := all_listed (by kernel_rfl) hl hr
              rw [if_pos (hall 13 (by decide))] at hJ2
              have h85 : ac.eval (.tmp 85) = .pointer (some ⟨be, 48, none⟩) := hF.done 0 (85, SP.is (.pointer (some ⟨be, 48, none⟩))) (by rw [hD]; rfl) (hall 0 (by decide))
              have h86 : ac.eval (.tmp 86) = .slice Ab k cb := hF.done 1 (86, SP.is (.slice Ab k cb)) (by rw [hD]; rfl) (hall 1 (by decide))
              have h87 : ac.eval (.tmp 87) = .slice (some ⟨b, o, none⟩) N c0 := hF.done 2 (87, SP.is (.slice (some ⟨b, o, none⟩) N c0)) (by rw [hD]; rfl) (hall 2 (by decide))
              have h88 : ac.eval (.tmp 88) = .int .i64 (i : Int) := hF.done 3 (88, SP.is (.int .i64 (i : Int))) (by rw [hD]; rfl) (hall 3 (by decide))
              have h89 : ac.eval (.tmp 89) = .pointer (some ⟨b, q, none⟩) := hF.done 4 (89, SP.is (.pointer (some ⟨b, q, none⟩))) (by rw [hD]; rfl) (hall 4 (by decide))
              have h90 : ac.eval (.tmp 90) = .pointer (some ⟨b, q + 48, none⟩) := hF.done 5 (90, SP.is (.pointer (some ⟨b, q + 48, none⟩))) (by rw [hD]; rfl) (hall 5 (by decide))
              have h91 : ac.eval (.tmp 91) = .slice (some ⟨b', o', none⟩) n c' := hF.done 6 (91, SP.is (.slice (some ⟨b', o', none⟩) n c')) (by rw [hD]; rfl) (hall 6 (by decide))
              have h92 : ac.eval (.tmp 92) = .int .i64 (k : Int) := hF.done 7 (92, SP.is (.int .i64 (k : Int))) (by rw [hD]; rfl) (hall 7 (by decide))
              have h93 : ac.eval (.tmp 93) = .pointer (some ⟨b', o' + k, none⟩) := hF.done 8 (93, SP.is (.pointer (some ⟨b', o' + k, none⟩))) (by rw [hD]; rfl) (hall 8 (by decide))
              have h94 : ac.eval (.tmp 94) = .int .u8 (Sha.c y) := hF.done 9 (94, SP.is (.int .u8 (Sha.c y))) (by rw [hD]; rfl) (hall 9 (by decide))
              obtain ⟨x95, h95⟩ : ∃ x, ac.eval (.tmp 95) = x := ⟨_, rfl⟩
              have h97 : ac.eval (.tmp 97) = .pointer (some ⟨be, 48, none⟩) := hF.done 12 (97, SP.is (.pointer (some ⟨be, 48, none⟩))) (by rw [hD]; rfl) (hall 12 (by decide))
              have ea := hF.lay [(85, .pointer (some ⟨be, 48, none⟩)), (86, .slice Ab k cb), (87, .slice (some ⟨b, o, none⟩) N c0), (88, .int .i64 (i : Int)), (89, .pointer (some ⟨b, q, none⟩)), (90, .pointer (some ⟨b, q + 48, none⟩)), (91, .slice (some ⟨b', o', none⟩) n c'), (92, .int .i64 (k : Int)), (93, .pointer (some ⟨b', o' + k, none⟩)), (94, .int .u8 (Sha.c y)), (95, x95), (96, .slice A7 (k + 1) c7), (97, .pointer (some ⟨be, 48, none⟩))] (by rw [hD, hsz]; rfl) (by simp only [List.forall_mem_cons, List.not_mem_nil, false_implies, implies_true, and_true]; exact ⟨h85, h86, h87, h88, h89, h90, h91, h92, h93, h94, h95, hJ1, h97⟩)
              rw [ha0] at ea
              simp only [List.foldl_cons, List.foldl_nil, List.setIfInBounds_toArray, List.set_cons_zero, List.set_cons_succ] at ea
              clear hF hall hr hl hD zs0 zs5 zs6 zs7 ha0 hsz h85 h86 h87 h88 h89 h90 h91 h92 h93 h94 h95 hJ1 h97
              subst ea
              have WN : Hid (Wb Z W be sd (t + p1) A7 (k + 1) c7 (d.take (k + 1))) := ⟨hJ2, by rw [← HTK.out]; exact hJ3, hJ4, hJ5, NB.out, hJ6⟩
              clear hJ2 hJ3 hJ4 hJ5 hJ6 HY HKN HKL HTL HTK HBW
              go_wp2_with fail
              go_roundw
              case rel => exact ⟨k + 1, A7, c7, hkm, rfl, WN⟩
              case measure => simp [intOf]; omega
          · obtain rfl : k = m := by omega
            have BW : Hid (Below Z.heap.size Z V) := HWB.out.be
            by_cases hMN : k < n
            · have h1 : ¬ ((k : Int) < 4096) := by have e100 := HM4.out hMN; omega
              go_upto_region 20 with (first
                | (refine wpList_ixO 64 100 (.tmp 72) (.tmp 73) rfl b o N c0 i 49 q HQ.out rfl rfl HIN.out Tryz.underlying64 info_raw rfl ?_; simp only [Act.put, List.setIfInBounds_toArray, List.set_cons_zero, List.set_cons_succ]))
              clear c48
              obtain ⟨LF, hLF⟩ : ∃ L, L = (ent 2 sd (t + p1) 0 (List.replicate 20 0#8) (List.replicate 4 0) 0 (.slice Ab k cb)) := ⟨_, rfl⟩
              have HLE : Hid (LF = (Rwi.ev ⟨false, sd, la, tk, rc, am, gs, d⟩ (t + p1)).cells (.slice Ab (Rwi.ev ⟨false, sd, la, tk, rc, am, gs, d⟩ (t + p1)).d.length cb)) := by show _ = _; rw [hLF]; exact (by show _ = ent 2 sd (t + p1) 0 _ _ 0 (.slice Ab (d.take 4096).length cb); rw [HMD.out.1, HMD.out.2]; rfl)
              have HLL : Hid (LF.length = 49) := by show _ = _; rw [HLE.out]; exact Ev.len (Rwi.wf HOK.out _) _
              have HLI : Hid ((Tryz.prog.info? 46).map (·.size) = some LF.length) := by show _ = _; rw [HLL.out]; exact info_ent
              have HLO : Hid (∀ u ∈ LF, u.oneCell' = true) := by rw [HLE.out]; exact Ev.one _ _ _ _
              have RF : Hid (Row V be LF 46) := by rw [hLF]; exact HWB.out.row
              have BF : Hid (Bw V (.slice Ab (Rwi.ev ⟨false, sd, la, tk, rc, am, gs, d⟩ (t + p1)).d.length cb) (Rwi.ev ⟨false, sd, la, tk, rc, am, gs, d⟩ (t + p1)).d) := (by show Bw _ (.slice Ab (d.take 4096).length cb) (d.take 4096); rw [HMD.out.1, HMD.out.2]; exact HWB.out.bw)
              have NF : Hid (Ab = none → cb = 0) := HWB.out.nil
              have EO : Hid (Eo w V (.slice A i c) (rowv rs i)) := HE.out.keep BW.out
              obtain ⟨cs, hlw, hcs⟩ := EO.out.own
              have HCS : Hid _ := hcs
              have HLW : Hid (Lw V 46 49 (.slice A i c) (rowv rs i).length cs) := hlw
              have HLN : Hid ((rowv rs i).length = i) := HRL.out
              clear hLF hlw hcs
              go_wp2_with (first
                | (refine wpList_load_w rfl 46 (.tmp 6) rfl be (0) rfl (LF) _ RF.out.all Tryz.underlying46 rfl HLI.out ?_; simp only [Act.put, List.setIfInBounds_toArray, List.set_cons_zero, List.set_cons_succ])
                | (refine wpList_bEnt rfl (.tmp 99) rfl LF HLL.out rfl ?_; intro Y1 q1 q2; have RY : Hid (Row Y1 V.heap.size LF 46) := q1; have DY : Hid (Below V.heap.size V Y1) := q2; clear q1 q2; simp only [Act.put, List.setIfInBounds_toArray, List.set_cons_zero, List.set_cons_succ])
                | (refine wpList_appL 52 46 49 136 Tryz.underlying52 info_entO (by decide) (by decide) rfl (.tmp 98) (.tmp 100) rfl (.slice A i c) i cs LF rfl (by have := Lw.be HLW.out DY.out; rw [HLN.out] at this; exact this) V.heap.size HLL.out rfl RY.out.all HLO.out (by omega) ?_; intro v9 Y2 q1 q2 q3; have EG : Hid (Eo w Y2 v9 (rowv rs (i + 1))) := (by rw [HRV.out]; exact Eo.grow (EO.out.keep DY.out) (Lw.be HLW.out DY.out) (fun j e he => by obtain ⟨A1, c1, z1, z2, z3⟩ := HCS.out j e he; exact ⟨A1, c1, z1, Bw.be z2 DY.out, z3⟩) HLN.out.symm (Bw.be BF.out DY.out) NF.out HLE.out q1 q2 q3); obtain ⟨A9, c9, e9, _, _⟩ := Lw.form q1; subst e9; clear q1 q2 q3; simp only [Act.put, List.setIfInBounds_toArray, List.set_cons_zero, List.set_cons_succ]))
              go_roundw
              case rel => exact ⟨i + 1, t + p1, A9, c9, hlt, rfl, rfl, by omega, by omega, rfl, HT1, EG⟩
              case measure => simp [intOf]; omega
            · have h1 : ¬ ((k : Int) < (n : Int)) := by omega
              go_upto_region 20 with (first
                | (refine wpList_ixO 64 100 (.tmp 72) (.tmp 73) rfl b o N c0 i 49 q HQ.out rfl rfl HIN.out Tryz.underlying64 info_raw rfl ?_; simp only [Act.put, List.setIfInBounds_toArray, List.set_cons_zero, List.set_cons_succ]))
              clear c48
              obtain ⟨LF, hLF⟩ : ∃ L, L = (ent 2 sd (t + p1) 0 (List.replicate 20 0#8) (List.replicate 4 0) 0 (.slice Ab k cb)) := ⟨_, rfl⟩
              have HLE : Hid (LF = (Rwi.ev ⟨false, sd, la, tk, rc, am, gs, d⟩ (t + p1)).cells (.slice Ab (Rwi.ev ⟨false, sd, la, tk, rc, am, gs, d⟩ (t + p1)).d.length cb)) := by show _ = _; rw [hLF]; exact (by show _ = ent 2 sd (t + p1) 0 _ _ 0 (.slice Ab (d.take 4096).length cb); rw [HMD.out.1, HMD.out.2]; rfl)
              have HLL : Hid (LF.length = 49) := by show _ = _; rw [HLE.out]; exact Ev.len (Rwi.wf HOK.out _) _
              have HLI : Hid ((Tryz.prog.info? 46).map (·.size) = some LF.length) := by show _ = _; rw [HLL.out]; exact info_ent
              have HLO : Hid (∀ u ∈ LF, u.oneCell' = true) := by rw [HLE.out]; exact Ev.one _ _ _ _
              have RF : Hid (Row V be LF 46) := by rw [hLF]; exact HWB.out.row
              have BF : Hid (Bw V (.slice Ab (Rwi.ev ⟨false, sd, la, tk, rc, am, gs, d⟩ (t + p1)).d.length cb) (Rwi.ev ⟨false, sd, la, tk, rc, am, gs, d⟩ (t + p1)).d) := (by show Bw _ (.slice Ab (d.take 4096).length cb) (d.take 4096); rw [HMD.out.1, HMD.out.2]; exact HWB.out.bw)
              have NF : Hid (Ab = none → cb = 0) := HWB.out.nil
              have EO : Hid (Eo w V (.slice A i c) (rowv rs i)) := HE.out.keep BW.out
              obtain ⟨cs, hlw, hcs⟩ := EO.out.own
              have HCS : Hid _ := hcs
              have HLW : Hid (Lw V 46 49 (.slice A i c) (rowv rs i).length cs) := hlw
              have HLN : Hid ((rowv rs i).length = i) := HRL.out
              clear hLF hlw hcs
              go_wp2_with (first
                | (refine wpList_load_w rfl 46 (.tmp 6) rfl be (0) rfl (LF) _ RF.out.all Tryz.underlying46 rfl HLI.out ?_; simp only [Act.put, List.setIfInBounds_toArray, List.set_cons_zero, List.set_cons_succ])
                | (refine wpList_bEnt rfl (.tmp 99) rfl LF HLL.out rfl ?_; intro Y1 q1 q2; have RY : Hid (Row Y1 V.heap.size LF 46) := q1; have DY : Hid (Below V.heap.size V Y1) := q2; clear q1 q2; simp only [Act.put, List.setIfInBounds_toArray, List.set_cons_zero, List.set_cons_succ])
                | (refine wpList_appL 52 46 49 136 Tryz.underlying52 info_entO (by decide) (by decide) rfl (.tmp 98) (.tmp 100) rfl (.slice A i c) i cs LF rfl (by have := Lw.be HLW.out DY.out; rw [HLN.out] at this; exact this) V.heap.size HLL.out rfl RY.out.all HLO.out (by omega) ?_; intro v9 Y2 q1 q2 q3; have EG : Hid (Eo w Y2 v9 (rowv rs (i + 1))) := (by rw [HRV.out]; exact Eo.grow (EO.out.keep DY.out) (Lw.be HLW.out DY.out) (fun j e he => by obtain ⟨A1, c1, z1, z2, z3⟩ := HCS.out j e he; exact ⟨A1, c1, z1, Bw.be z2 DY.out, z3⟩) HLN.out.symm (Bw.be BF.out DY.out) NF.out HLE.out q1 q2 q3); obtain ⟨A9, c9, e9, _, _⟩ := Lw.form q1; subst e9; clear q1 q2 q3; simp only [Act.put, List.setIfInBounds_toArray, List.set_cons_zero, List.set_cons_succ]))
              go_roundw
              case rel => exact ⟨i + 1, t + p1, A9, c9, hlt, rfl, rfl, by omega, by omega, rfl, HT1, EG⟩
              case measure => simp [intOf]; omega
      · go_upto_region 10 with (first
          | (refine wpList_ixO 64 100 (.tmp 33) (.tmp 34) rfl b o N c0 i 49 q HQ.out rfl rfl HIN.out Tryz.underlying64 info_raw rfl ?_; simp only [Act.put, List.setIfInBounds_toArray, List.set_cons_zero, List.set_cons_succ])
          | (refine wpList_set1 rfl 3 (.tmp 38) (.const (.int .i64 1)) rfl be 0 (.int .i64 1) (L2 sd (t + p1)) 46 rfl rfl rfl E2.out (by unfold L2; rw [ent_len H1.out rfl rfl]; decide) info_int1 rfl ?_; intro X3 q1 q2 q3; have B3 : Hid (Below Z.heap.size Z X3) := B2.out.trans (q2.to_below B2.out.size (fun g eg => by rw [eg]; exact NB.out)); have E3 : Hid (Row X3 be (ent 1 sd (t + p1) 0 (List.replicate 20 0#8) (List.replicate 4 0) 0 (.slice none 0 0)) 46) := (by rw [show (L2 sd (t + p1)).set 0 (.int .i64 1) = (ent 1 sd (t + p1) 0 (List.replicate 20 0#8) (List.replicate 4 0) 0 (.slice none 0 0)) from rfl] at q1; exact q1); clear q1 q2 q3; simp only [Act.put]))
        clear E2 B2 cdp HC48 HSL HND HRS HN HM3
        have c22 := HC22.out X3 (HE.out.be.trans (B3.out.mono HE.out.be.size))
        go_upto_region 11 with (first
          | (refine wpList_ixO 64 100 (.tmp 39) (.tmp 40) rfl b o N c0 i 49 q HQ.out rfl rfl HIN.out Tryz.underlying64 info_raw rfl ?_; simp only [Act.put, List.setIfInBounds_toArray, List.set_cons_zero, List.set_cons_succ])
          | (go_at_call 29; refine Calls.mono (HP2.out X3) ?_; rintro e1 Y ⟨rfl, hqq⟩; obtain rfl := hqq.symm)
          | (refine wpList_set1 rfl 3 (.tmp 45) (.tmp 44) rfl be 22 (.int .i64 p2) (ent 1 sd (t + p1) 0 (List.replicate 20 0#8) (List.replicate 4 0) 0 (.slice none 0 0)) 46 rfl rfl rfl E3.out (by rw [ent_len H1.out rfl rfl]; decide) info_int1 rfl ?_; intro X4 q1 q2 q3; have B4 : Hid (Below Z.heap.size Z X4) := B3.out.trans (q2.to_below B3.out.size (fun g eg => by rw [eg]; exact NB.out)); have E4 : Hid (Row X4 be (ent 1 sd (t + p1) p2 (List.replicate 20 0#8) (List.replicate 4 0) 0 (.slice none 0 0)) 46) := (by rw [ent_set_tk H1.out] at q1; exact q1); clear q1 q2 q3; simp only [Act.put]))
        clear E3 B3 c22 HP2
        go_upto_region 12 with (first
          | (refine wpList_ixO 64 100 (.tmp 46) (.tmp 47) rfl b o N c0 i 49 q HQ.out rfl rfl HIN.out Tryz.underlying64 info_raw rfl ?_; simp only [Act.put, List.setIfInBounds_toArray, List.set_cons_zero, List.set_cons_succ])
          | (refine wpList_load_w rfl 40 (.tmp 49) rfl b (q + 23) rfl (vB rc) _ (HR23.out X4 (HE.out.be.trans (B4.out.mono HE.out.be.size))) Tryz.underlying40 rfl HI2.out ?_; simp only [Act.put, List.setIfInBounds_toArray, List.set_cons_zero, List.set_cons_succ])
          | (refine wpList_storeM rfl 40 (.tmp 51) (.tmp 50) rfl be 23 (vB rc) (ent 1 sd (t + p1) p2 (List.replicate 20 0#8) (List.replicate 4 0) 0 (.slice none 0 0)) 46 rfl rfl E4.out (by rw [ent_len H1.out rfl rfl]; rw [vB_length, H2.out]; decide) HI2.out (all_oneCell_toArray (vB_one rc)) ?_; intro X5 q1 q2; have B5 : Hid (Below Z.heap.size Z X5) := B4.out.trans (q2.to_below B4.out.size (fun g eg => by rw [eg]; exact NB.out)); have E5 : Hid (Row X5 be (ent 1 sd (t + p1) p2 rc (List.replicate 4 0) 0 (.slice none 0 0)) 46) := (by rw [ent_put_rc H1.out rfl rc H2.out] at q1; exact q1); clear q1 q2; simp only [Act.put]))
        clear E4 B4
        go_upto_region 13 with (first
          | (refine wpList_ixO 64 100 (.tmp 52) (.tmp 53) rfl b o N c0 i 49 q HQ.out rfl rfl HIN.out Tryz.underlying64 info_raw rfl ?_; simp only [Act.put, List.setIfInBounds_toArray, List.set_cons_zero, List.set_cons_succ])
          | (refine wpList_load_w rfl 43 (.tmp 55) rfl b (q + 43) rfl (vQ am) _ (HR43.out X5 (HE.out.be.trans (B5.out.mono HE.out.be.size))) Tryz.underlying43 rfl HI3.out ?_; simp only [Act.put, List.setIfInBounds_toArray, List.set_cons_zero, List.set_cons_succ])
          | (refine wpList_storeM rfl 43 (.tmp 57) (.tmp 56) rfl be 43 (vQ am) (ent 1 sd (t + p1) p2 rc (List.replicate 4 0) 0 (.slice none 0 0)) 46 rfl rfl E5.out (by rw [ent_len H1.out H2.out rfl]; rw [vQ_len, H3.out]; decide) HI3.out (all_oneCell_toArray (vQ_oneI am)) ?_; intro X6 q1 q2; have B6 : Hid (Below Z.heap.size Z X6) := B5.out.trans (q2.to_below B5.out.size (fun g eg => by rw [eg]; exact NB.out)); have E6 : Hid (Row X6 be (ent 1 sd (t + p1) p2 rc am 0 (.slice none 0 0)) 46) := (by rw [ent_put_am H1.out H2.out rfl am H3.out] at q1; exact q1); clear q1 q2; simp only [Act.put]))
        clear E5 B5
        have c47 := HC47.out X6 (HE.out.be.trans (B6.out.mono HE.out.be.size))
        go_upto_region 14 with (first
          | (refine wpList_ixO 64 100 (.tmp 58) (.tmp 59) rfl b o N c0 i 49 q HQ.out rfl rfl HIN.out Tryz.underlying64 info_raw rfl ?_; simp only [Act.put, List.setIfInBounds_toArray, List.set_cons_zero, List.set_cons_succ])
          | (go_at_call 29; refine Calls.mono (HP3.out X6) ?_; rintro e1 Y ⟨rfl, hqq⟩; obtain rfl := hqq.symm)
          | (refine wpList_set1 rfl 3 (.tmp 64) (.tmp 63) rfl be 47 (.int .i64 p3) (ent 1 sd (t + p1) p2 rc am 0 (.slice none 0 0)) 46 rfl rfl rfl E6.out (by rw [ent_len H1.out H2.out H3.out]; decide) info_int1 rfl ?_; intro X7 q1 q2 q3; have B7 : Hid (Below Z.heap.size Z X7) := B6.out.trans (q2.to_below B6.out.size (fun g eg => by rw [eg]; exact NB.out)); have E7 : Hid (Row X7 be (ent 1 sd (t + p1) p2 rc am p3 (.slice none 0 0)) 46) := (by rw [ent_set_gs H1.out H2.out H3.out] at q1; exact q1); clear q1 q2 q3; simp only [Act.put]))
        clear E6 B6 c47 HP3
        have RA : Hid (X7.rangeAt be 43 (vQ am)) := En.r_amount ⟨E7.out, H1.out, H2.out, H3.out⟩
        by_cases hz : am = List.replicate 4 0
        · have HZ : Hid (am = List.replicate 4 0) := hz
          clear hz
          go_upto_region 20 with (first
            | (refine wpList_load_w rfl 43 (.tmp 65) rfl be (43) rfl (vQ am) _ RA.out Tryz.underlying43 rfl HI3.out ?_; simp only [Act.put, List.setIfInBounds_toArray, List.set_cons_zero, List.set_cons_succ])
            | (refine wpList_buildW0 rfl rfl ?_; simp only [Act.put, List.setIfInBounds_toArray, List.set_cons_zero, List.set_cons_succ])
            | (refine wpList_eql_q rfl (.tmp 66) (.tmp 67) _ rfl am (List.replicate 4 0) H3.out rfl rfl rfl true (decide_eq_true HZ.out) ?_; simp only [Act.put, List.setIfInBounds_toArray, List.set_cons_zero, List.set_cons_succ])
            | (refine wpList_set1 rfl 41 (.tmp 70) (.const (.int .u64 7)) rfl be 44 (.int .u64 7) (ent 1 sd (t + p1) p2 rc am p3 (.slice none 0 0)) 46 rfl rfl rfl E7.out (by rw [ent_len H1.out H2.out H3.out]; decide) info_u64 rfl ?_; intro X8 q1 q2 q3; have B8 : Hid (Below Z.heap.size Z X8) := B7.out.trans (q2.to_below B7.out.size (fun g eg => by rw [eg]; exact NB.out)); have E8 : Hid (Row X8 be (ent 1 sd (t + p1) p2 rc (am.set 1 7) p3 (.slice none 0 0)) 46) := (by rw [show Value.int .u64 7 = .int .u64 ((7 : Nat) : Int) from rfl, ent_set_am H1.out H2.out H3.out 1 7 (by decide)] at q1; exact q1); clear q1 q2 q3; simp only [Act.put]))
          clear E7 B7 RA
          obtain ⟨LF, hLF⟩ : ∃ L, L = (ent 1 sd (t + p1) p2 rc (am.set 1 7) p3 (.slice none 0 0)) := ⟨_, rfl⟩
          have HLE : Hid (LF = (Rwi.ev ⟨true, sd, la, tk, rc, am, gs, d⟩ (t + p1)).cells (.slice (none : Option Addr) (Rwi.ev ⟨true, sd, la, tk, rc, am, gs, d⟩ (t + p1)).d.length (0 : Nat))) := by show _ = _; rw [hLF]; exact (by show _ = ent 1 sd (t + p1) (pk tk 64) rc (am7 am) (pk gs 1099511627777) _; unfold am7; rw [if_pos HZ.out, ← HPE.out.1, ← HPE.out.2]; rfl)
          have HLL : Hid (LF.length = 49) := by show _ = _; rw [HLE.out]; exact Ev.len (Rwi.wf HOK.out _) _
          have HLI : Hid ((Tryz.prog.info? 46).map (·.size) = some LF.length) := by show _ = _; rw [HLL.out]; exact info_ent
          have HLO : Hid (∀ u ∈ LF, u.oneCell' = true) := by rw [HLE.out]; exact Ev.one _ _ _ _
          have RF : Hid (Row X8 be LF 46) := by rw [hLF]; exact E8.out
          have BF : Hid (Bw X8 (.slice (none : Option Addr) (Rwi.ev ⟨true, sd, la, tk, rc, am, gs, d⟩ (t + p1)).d.length (0 : Nat)) (Rwi.ev ⟨true, sd, la, tk, rc, am, gs, d⟩ (t + p1)).d) := Bw.nil _
          have NF : Hid ((none : Option Addr) = none → (0 : Nat) = 0) := fun _ => rfl
          have EO : Hid (Eo w X8 (.slice A i c) (rowv rs i)) := HE.out.keep B8.out
          obtain ⟨cs, hlw, hcs⟩ := EO.out.own
          have HCS : Hid _ := hcs
          have HLW : Hid (Lw X8 46 49 (.slice A i c) (rowv rs i).length cs) := hlw
          have HLN : Hid ((rowv rs i).length = i) := HRL.out
          clear hLF hlw hcs
          go_wp2_with (first
            | (refine wpList_load_w rfl 46 (.tmp 6) rfl be (0) rfl (LF) _ RF.out.all Tryz.underlying46 rfl HLI.out ?_; simp only [Act.put, List.setIfInBounds_toArray, List.set_cons_zero, List.set_cons_succ])
            | (refine wpList_bEnt rfl (.tmp 99) rfl LF HLL.out rfl ?_; intro Y1 q1 q2; have RY : Hid (Row Y1 X8.heap.size LF 46) := q1; have DY : Hid (Below X8.heap.size X8 Y1) := q2; clear q1 q2; simp only [Act.put, List.setIfInBounds_toArray, List.set_cons_zero, List.set_cons_succ])
            | (refine wpList_appL 52 46 49 136 Tryz.underlying52 info_entO (by decide) (by decide) rfl (.tmp 98) (.tmp 100) rfl (.slice A i c) i cs LF rfl (by have := Lw.be HLW.out DY.out; rw [HLN.out] at this; exact this) X8.heap.size HLL.out rfl RY.out.all HLO.out (by omega) ?_; intro v9 Y2 q1 q2 q3; have EG : Hid (Eo w Y2 v9 (rowv rs (i + 1))) := (by rw [HRV.out]; exact Eo.grow (EO.out.keep DY.out) (Lw.be HLW.out DY.out) (fun j e he => by obtain ⟨A1, c1, z1, z2, z3⟩ := HCS.out j e he; exact ⟨A1, c1, z1, Bw.be z2 DY.out, z3⟩) HLN.out.symm (Bw.be BF.out DY.out) NF.out HLE.out q1 q2 q3); obtain ⟨A9, c9, e9, _, _⟩ := Lw.form q1; subst e9; clear q1 q2 q3; simp only [Act.put, List.setIfInBounds_toArray, List.set_cons_zero, List.set_cons_succ]))
          go_roundw
          case rel => exact ⟨i + 1, t + p1, A9, c9, hlt, rfl, rfl, by omega, by omega, rfl, HT1, EG⟩
          case measure => simp [intOf]; omega
        · have HZ : Hid (¬ am = List.replicate 4 0) := hz
          clear hz
          go_upto_region 20 with (first
            | (refine wpList_load_w rfl 43 (.tmp 65) rfl be (43) rfl (vQ am) _ RA.out Tryz.underlying43 rfl HI3.out ?_; simp only [Act.put, List.setIfInBounds_toArray, List.set_cons_zero, List.set_cons_succ])
            | (refine wpList_buildW0 rfl rfl ?_; simp only [Act.put, List.setIfInBounds_toArray, List.set_cons_zero, List.set_cons_succ])
            | (refine wpList_eql_q rfl (.tmp 66) (.tmp 67) _ rfl am (List.replicate 4 0) H3.out rfl rfl rfl false (decide_eq_false HZ.out) ?_; simp only [Act.put, List.setIfInBounds_toArray, List.set_cons_zero, List.set_cons_succ]))
          clear RA
          obtain ⟨LF, hLF⟩ : ∃ L, L = (ent 1 sd (t + p1) p2 rc am p3 (.slice none 0 0)) := ⟨_, rfl⟩
          have HLE : Hid (LF = (Rwi.ev ⟨true, sd, la, tk, rc, am, gs, d⟩ (t + p1)).cells (.slice (none : Option Addr) (Rwi.ev ⟨true, sd, la, tk, rc, am, gs, d⟩ (t + p1)).d.length (0 : Nat))) := by show _ = _; rw [hLF]; exact (by show _ = ent 1 sd (t + p1) (pk tk 64) rc (am7 am) (pk gs 1099511627777) _; unfold am7; rw [if_neg HZ.out, ← HPE.out.1, ← HPE.out.2]; rfl)
          have HLL : Hid (LF.length = 49) := by show _ = _; rw [HLE.out]; exact Ev.len (Rwi.wf HOK.out _) _
          have HLI : Hid ((Tryz.prog.info? 46).map (·.size) = some LF.length) := by show _ = _; rw [HLL.out]; exact info_ent
          have HLO : Hid (∀ u ∈ LF, u.oneCell' = true) := by rw [HLE.out]; exact Ev.one _ _ _ _
          have RF : Hid (Row X7 be LF 46) := by rw [hLF]; exact E7.out
          have BF : Hid (Bw X7 (.slice (none : Option Addr) (Rwi.ev ⟨true, sd, la, tk, rc, am, gs, d⟩ (t + p1)).d.length (0 : Nat)) (Rwi.ev ⟨true, sd, la, tk, rc, am, gs, d⟩ (t + p1)).d) := Bw.nil _
          have NF : Hid ((none : Option Addr) = none → (0 : Nat) = 0) := fun _ => rfl
          have EO : Hid (Eo w X7 (.slice A i c) (rowv rs i)) := HE.out.keep B7.out
          obtain ⟨cs, hlw, hcs⟩ := EO.out.own
          have HCS : Hid _ := hcs
          have HLW : Hid (Lw X7 46 49 (.slice A i c) (rowv rs i).length cs) := hlw
          have HLN : Hid ((rowv rs i).length = i) := HRL.out
          clear hLF hlw hcs
          go_wp2_with (first
            | (refine wpList_load_w rfl 46 (.tmp 6) rfl be (0) rfl (LF) _ RF.out.all Tryz.underlying46 rfl HLI.out ?_; simp only [Act.put, List.setIfInBounds_toArray, List.set_cons_zero, List.set_cons_succ])
            | (refine wpList_bEnt rfl (.tmp 99) rfl LF HLL.out rfl ?_; intro Y1 q1 q2; have RY : Hid (Row Y1 X7.heap.size LF 46) := q1; have DY : Hid (Below X7.heap.size X7 Y1) := q2; clear q1 q2; simp only [Act.put, List.setIfInBounds_toArray, List.set_cons_zero, List.set_cons_succ])
            | (refine wpList_appL 52 46 49 136 Tryz.underlying52 info_entO (by decide) (by decide) rfl (.tmp 98) (.tmp 100) rfl (.slice A i c) i cs LF rfl (by have := Lw.be HLW.out DY.out; rw [HLN.out] at this; exact this) X7.heap.size HLL.out rfl RY.out.all HLO.out (by omega) ?_; intro v9 Y2 q1 q2 q3; have EG : Hid (Eo w Y2 v9 (rowv rs (i + 1))) := (by rw [HRV.out]; exact Eo.grow (EO.out.keep DY.out) (Lw.be HLW.out DY.out) (fun j e he => by obtain ⟨A1, c1, z1, z2, z3⟩ := HCS.out j e he; exact ⟨A1, c1, z1, Bw.be z2 DY.out, z3⟩) HLN.out.symm (Bw.be BF.out DY.out) NF.out HLE.out q1 q2 q3); obtain ⟨A9, c9, e9, _, _⟩ := Lw.form q1; subst e9; clear q1 q2 q3; simp only [Act.put, List.setIfInBounds_toArray, List.set_cons_zero, List.set_cons_succ]))
          go_roundw
          case rel => exact ⟨i + 1, t + p1, A9, c9, hlt, rfl, rfl, by omega, by omega, rfl, HT1, EG⟩
          case measure => simp [intOf]; omega
    · obtain rfl : i = M := by omega
      by_cases hMN : i < N
      · have h1 : ¬ ((i : Int) < 100) := by have e100 := HM3.out hMN; omega
        go_wp2
        go_ret
        exact ⟨A, c, rfl, HE.out⟩
      · have h1 : ¬ ((i : Int) < (N : Int)) := by omega
        go_wp2
        go_ret
        exact ⟨A, c, rfl, HE.out⟩

end Go.Proofs.YtfjhecmnbodkfaaGreatDoor
