/-
  the host that runs a program itself: next.
-/
import Derived.Test.YtabcglakdlkdcaaMkFi
namespace Go.Proofs.Ytabcglakdlkdcaa
open Go Go.RowKit
open Sha
open Wd

def cIn : Ca := ⟨List.replicate 20 0#8, List.replicate 20 0#8, 0, 7, 0, 1000⟩
theorem cIn_wf : cIn.Wf := ⟨rfl, rfl, by show 7 < 2 ^ 256; exact Nat.lt_of_lt_of_le (by decide : 7 < 2 ^ 8) (Nat.pow_le_pow_right (by decide) (by decide))⟩
theorem built_ho0 : Try.prog.built tHo [] = some [Value.slice none 0 0, .slice none 0 0, .slice none 0 0].toArray := by kernel_rfl
theorem built_w7 : Try.prog.built 27 [(0, .int .u64 7)] = some [Value.int .u64 7, .int .u64 0, .int .u64 0, .int .u64 0].toArray := by kernel_rfl
theorem wq_7 : wq 7 = [.int .u64 7, .int .u64 0, .int .u64 0, .int .u64 0] := by
  rw [wq_cells, show lim 7 0 = 7 by decide +kernel, show lim 7 1 = 0 by decide +kernel, show lim 7 2 = 0 by decide +kernel, show lim 7 3 = 0 by decide +kernel]
  rfl
theorem built_cI0 : Try.prog.built 30 [(6, .int .i64 1000), (3, .agg #[.int .u64 7, .int .u64 0, .int .u64 0, .int .u64 0])] = some (List.replicate 40 (Value.int .u8 0) ++ [Value.int .i64 0, .int .u64 7, .int .u64 0, .int .u64 0, .int .u64 0, .slice none 0 0, .int .i64 0, .int .i64 1000]).toArray := by kernel_rfl
theorem built_cIn : Try.prog.built 30 [(6, .int .i64 1000), (3, .agg #[.int .u64 7, .int .u64 0, .int .u64 0, .int .u64 0])] = some (cIn.cs (.slice none 0 0)).toArray := by
  have e : cIn.cs (.slice none 0 0) = List.replicate 40 (Value.int .u8 0) ++ [Value.int .i64 0, .int .u64 7, .int .u64 0, .int .u64 0, .int .u64 0, .slice none 0 0, .int .i64 0, .int .i64 1000] := by
    unfold Ca.cs cIn
    rw [wq_7]
    rfl
  rw [e]
  exact built_cI0
set_option maxRecDepth 100000 in
set_option maxHeartbeats 4000000 in
theorem next_in {inn : List (BitVec 8)} (hinn : inn ≠ []) (hm63 : inn.length < 9223372036854775808) (hb : Nat) (rv qv iv : Value) (rs : List (Nat × Int)) (qs : List (List Value)) (q : List Value) (hq : q.length = 30) (hqo : ∀ v ∈ q, v.oneCell' = true) (hn : qs.length ≤ 1000) (w : World) (H : Hst w hb rv qv iv rs qs inn) : Calls Try.prog 109 #[.pointer (some ⟨hb, 0, none⟩), .agg q.toArray] w fun e w' => ∃ qv', e = .returned (.tuple #[.agg (wq (rs.getD qs.length (0, 0)).1).toArray, .int .i64 (rs.getD qs.length (0, 0)).2]) ∧ Hst w' hb rv qv' iv rs (qs ++ [q]) inn ∧ Gro (Hq hb qv) w w' ∧ (∀ g, qv'.ownBlock = some g → qv.ownBlock = some g ∨ w.heap.size ≤ g) := by
  have HINN : Hid (inn ≠ []) := hinn
  have HM63 : Hid (inn.length < 9223372036854775808) := hm63
  clear hinn hm63
  obtain ⟨n, hn0⟩ : ∃ n, n = qs.length := ⟨_, rfl⟩
  have HH0 := H
  obtain ⟨Aq, cq, hqv, _, _⟩ := Lw.form H.own
  rw [← hn0] at hqv hn
  subst hqv
  have HHO : Hid (Hst w hb rv (.slice Aq n cq) iv rs qs inn) := H
  have HL8 : Hid (q.length = 30) := hq
  have HIA : Hid ((Try.prog.info? tAk).map (·.size) = some q.length) := by show _ = _; rw [hq]; exact info_Ak
  have HO8 : Hid (∀ v ∈ q, v.oneCell' = true) := hqo
  have HNB : Hid (n ≤ 1000000) := by show _ ≤ _; omega
  have HNL : Hid (n = qs.length) := hn0
  have HN1 : Hid (n ≤ 1000) := hn
  have HOW : Hid (∀ W, Hst W hb rv (.slice Aq n cq) iv rs qs inn → Lw W tAk 30 (.slice Aq n cq) n qs.flatten) := fun W hh => by rw [hn0]; rw [hn0] at hh; exact hh.own
  rw [← hn0]
  obtain ⟨LV, hLV⟩ : ∃ L, L = wq (rs.getD n (0, 0)).1 := ⟨_, rfl⟩
  obtain ⟨E, hE⟩ : ∃ E, E = (rs.getD n (0, 0)).2 := ⟨_, rfl⟩
  have HLV : Hid (LV = wq (rs.getD n (0, 0)).1 ∧ E = (rs.getD n (0, 0)).2) := ⟨hLV, hE⟩
  rw [← hLV, ← hE]
  clear H HH0 hq hqo hn0 hn hLV hE
  go_enter Try.func109, Try.ntmps109
  go_upto_region 1 with (first
    | (refine wpList_boxG tAk rfl (.tmp 1) rfl q rfl ?_; intro V0 q1 q2 q3; have R1 : Hid (Row V0 w.heap.size q tAk) := q1; have B1 : Hid (Below w.heap.size w V0) := q2; clear q1 q2 q3; simp only [Act.put, List.setIfInBounds_toArray, List.set_cons_zero, List.set_cons_succ])
    | (refine wpList_allocW rfl rfl ?_; intro V1 q1 q2 q3; have R4 : Hid (Row V1 V0.heap.size zW 27) := q1; have B2 : Hid (Below V0.heap.size V0 V1) := q2; clear q1 q2 q3; simp only [Act.put, List.setIfInBounds_toArray, List.set_cons_zero, List.set_cons_succ]))
  obtain ⟨bB, hbB⟩ : ∃ b, b = w.heap.size := ⟨_, rfl⟩
  obtain ⟨b4, hb4⟩ : ∃ b, b = V0.heap.size := ⟨_, rfl⟩
  have B3 : Below w.heap.size w V1 := B1.out.trans (B2.out.mono B1.out.size)
  have rB := Row.below R1.out B2.out R1.out.lt
  have r4 := R4.out
  rw [← hbB] at rB ⊢
  rw [← hb4] at r4 ⊢
  have HB4 : Hid (w.heap.size ≤ b4) := by show _ ≤ _; rw [hb4]; exact B1.out.size
  have hb1 := Below.refl V1.heap.size V1
  have hHo := HHO.out.below B3
  have hFr : Gro (Hq hb (.slice Aq n cq)) w V1 := Gro.of_below B3
  clear R1 R4 B1 B2 B3 hbB hb4
  refine wp_named fun a0 ha0 => ?_
  have hsz : a0.tmps.size = 63 := by rw [ha0]; rfl
  have zs0 : a0.eval (.tmp 0) = .pointer (some ⟨hb, 0, none⟩) := by rw [ha0]; rfl
  have zs3 : a0.eval (.tmp 3) = .pointer (some ⟨bB, 0, none⟩) := by rw [ha0]; rfl
  obtain ⟨D, hD⟩ : ∃ D : List (Tmp × SP), D = [(8, SP.is (.pointer (some ⟨hb, 0, none⟩))), (9, SP.is (.pointer (some ⟨hb, 0, none⟩))), (10, SP.is (.pointer (some ⟨hb, 0, none⟩))), (11, SP.is (.pointer (some ⟨hb, 1, none⟩))), (12, SP.is (.slice Aq n cq)), (13, SP.is (.agg q.toArray)), (14, SP.any), (15, SP.any), (16, SP.is (.pointer (some ⟨hb, 0, none⟩))), (17, SP.is (.pointer (some ⟨hb, 1, none⟩))), (1000, SP.any)] := ⟨_, rfl⟩
  refine wp_region_then (by kernel_rfl) 7 (by decide) (by kernel_rfl) (fun listed ac W => Fp D a0 listed ac W ∧ Below V1.heap.size V1 W ∧ Row W bB q tAk ∧ Row W b4 zW 27 ∧ Hst W hb rv (.slice Aq n cq) iv rs qs inn ∧ Gro (Hq hb (.slice Aq n cq)) w W ∧ (listed.getD 6 false = true → (SP.nAk q).P W (ac.eval (.tmp 14)))) (fun listed ac W => ∃ A7 c7, Fp D a0 listed ac W ∧ ac.eval (.tmp 15) = .slice A7 (n + 1) c7 ∧ Row W hb [rv, if listed.getD 10 false = true then .slice A7 (n + 1) c7 else .slice Aq n cq, iv] tHo ∧ Lw W tAk 30 (.slice A7 (n + 1) c7) (n + 1) (qs.flatten ++ q) ∧ Gro (Hq hb (.slice Aq n cq)) w W ∧ (∀ g, (Value.slice A7 (n + 1) c7).ownBlock = some g → (Value.slice Aq n cq).ownBlock = some g ∨ w.heap.size ≤ g) ∧ Row W b4 zW 27) ?_ ?_ ?_ ?_ ?_
  · exact ⟨Fp.start D a0 _ _, Below.drew hb1, Row.drew rB, Row.drew r4, hHo.below (Below.drew (Below.refl _ _)), hFr.below (Below.drew (Below.refl _ _)), (fun h => (start_no h).elim)⟩
  · clear ha0 hb1 rB r4 hHo hFr
    intro listed ac W k hl hI hdn hk hne hnl
    replace hl : listed.size = 11 := hl
    obtain ⟨hF, hb1, rB, r4, hHo, hFr, ti6⟩ := hI
    have hk1 : k < 11 := List.mem_range.1 (List.mem_filter.1 hk).1
    rcases (show k = 0 ∨ k = 1 ∨ k = 2 ∨ k = 3 ∨ k = 4 ∨ k = 5 ∨ k = 6 ∨ k = 7 ∨ k = 8 ∨ k = 9 ∨ k = 10 by omega) with rfl | rfl | rfl | rfl | rfl | rfl | rfl | rfl | rfl | rfl | rfl
    · have hk3 := hk
      exact wpOp_plain rfl rfl (wp_move_v (ac.eval (.tmp 0)) rfl rfl ⟨(hF.put 0 8 (SP.is (.pointer (some ⟨hb, 0, none⟩))) (ac.eval (.tmp 0)) (by rw [hD]; rfl) (((hF.keep 0 (by rw [hD]; rfl)).trans zs0)) (by rw [hD]; rfl) (by rw [hsz]; decide) (by rw [hl]; decide)), hb1, rB, r4, hHo, hFr, (fun h1 => by change (SP.nAk q).P _ ((ac.put (some 8) _).eval (.tmp 14)); rw [eval_put_other ac _ (by decide)]; exact ti6 (by rwa [getD_set _ _ _ (by decide)] at h1))⟩)
    · have hk3 := hk
      exact wpOp_plain rfl rfl (wp_move_v (ac.eval (.tmp 0)) rfl rfl ⟨(hF.put 1 9 (SP.is (.pointer (some ⟨hb, 0, none⟩))) (ac.eval (.tmp 0)) (by rw [hD]; rfl) (((hF.keep 0 (by rw [hD]; rfl)).trans zs0)) (by rw [hD]; rfl) (by rw [hsz]; decide) (by rw [hl]; decide)), hb1, rB, r4, hHo, hFr, (fun h1 => by change (SP.nAk q).P _ ((ac.put (some 9) _).eval (.tmp 14)); rw [eval_put_other ac _ (by decide)]; exact ti6 (by rwa [getD_set _ _ _ (by decide)] at h1))⟩)
    · have hk3 := hk
      have e0 := (hF.done 1 (9, SP.is (.pointer (some ⟨hb, 0, none⟩))) (by rw [hD]; rfl) (ready_dep hk 1 (by kernel_rfl)))
      exact wpOp_plain rfl rfl (wpH_nil rfl hb e0 ⟨(hF.put 2 10 (SP.is (.pointer (some ⟨hb, 0, none⟩))) (.pointer (some ⟨hb, 0, none⟩)) (by rw [hD]; rfl) rfl (by rw [hD]; rfl) (by rw [hsz]; decide) (by rw [hl]; decide)), hb1, rB, r4, hHo, hFr, (fun h1 => by change (SP.nAk q).P _ ((ac.put (some 10) _).eval (.tmp 14)); rw [eval_put_other ac _ (by decide)]; exact ti6 (by rwa [getD_set _ _ _ (by decide)] at h1))⟩)
    · have hk3 := hk
      have e0 := (hF.done 2 (10, SP.is (.pointer (some ⟨hb, 0, none⟩))) (by rw [hD]; rfl) (ready_dep hk 2 (by kernel_rfl)))
      exact wpOp_plain rfl rfl (wpH_f1 rfl hb e0 ⟨(hF.put 3 11 (SP.is (.pointer (some ⟨hb, 1, none⟩))) (.pointer (some ⟨hb, 1, none⟩)) (by rw [hD]; rfl) rfl (by rw [hD]; rfl) (by rw [hsz]; decide) (by rw [hl]; decide)), hb1, rB, r4, hHo, hFr, (fun h1 => by change (SP.nAk q).P _ ((ac.put (some 11) _).eval (.tmp 14)); rw [eval_put_other ac _ (by decide)]; exact ti6 (by rwa [getD_set _ _ _ (by decide)] at h1))⟩)
    · have hk3 := hk
      have e0 := (hF.done 3 (11, SP.is (.pointer (some ⟨hb, 1, none⟩))) (by rw [hD]; rfl) (ready_dep hk 3 (by kernel_rfl)))
      exact wpOp_plain rfl rfl (wpH_ld hb 1 (.slice Aq n cq) rfl e0 (ldH_As W hb 1 _ (hHo.row.cell 1 _ rfl)) ⟨(hF.put 4 12 (SP.is (.slice Aq n cq)) (.slice Aq n cq) (by rw [hD]; rfl) rfl (by rw [hD]; rfl) (by rw [hsz]; decide) (by rw [hl]; decide)), hb1, rB, r4, hHo, hFr, (fun h1 => by change (SP.nAk q).P _ ((ac.put (some 12) _).eval (.tmp 14)); rw [eval_put_other ac _ (by decide)]; exact ti6 (by rwa [getD_set _ _ _ (by decide)] at h1))⟩)
    · have hk3 := hk
      have e0 := ((hF.keep 3 (by rw [hD]; rfl)).trans zs3)
      exact wpOp_plain rfl rfl (wp_load_mid tAk (.tmp 3) rfl bB 0 e0 q _ rB.all Try.underlying55 rfl HIA.out ⟨(hF.put 5 13 (SP.is (.agg q.toArray)) (.agg q.toArray) (by rw [hD]; rfl) rfl (by rw [hD]; rfl) (by rw [hsz]; decide) (by rw [hl]; decide)), hb1, rB, r4, hHo, hFr, (fun h1 => by change (SP.nAk q).P _ ((ac.put (some 13) _).eval (.tmp 14)); rw [eval_put_other ac _ (by decide)]; exact ti6 (by rwa [getD_set _ _ _ (by decide)] at h1))⟩)
    · have hk3 := hk
      have e0 := (hF.done 5 (13, SP.is (.agg q.toArray)) (by rw [hD]; rfl) (ready_dep hk 5 (by kernel_rfl)))
      refine wpOp_plain rfl rfl (wpH_bAk (.tmp 13) rfl q HL8.out e0 ?_)
      intro W2 q1 hB
      exact ⟨((hF.world hB).put 6 14 (SP.any) (.slice (some ⟨W.heap.size, 0, none⟩) 1 1) (by rw [hD]; rfl) trivial (by rw [hD]; rfl) (by rw [hsz]; decide) (by rw [hl]; decide)), hb1.trans (hB.mono hb1.size), Row.below rB hB (Row.lt rB), Row.below r4 hB (Row.lt r4), hHo.below hB, hFr.below hB, (fun _ => by change (SP.nAk q).P _ ((ac.put (some 14) _).eval (.tmp 14)); rw [eval_put_same ac _ (by rw [hF.size, hsz]; decide)]; exact ⟨_, rfl, q1⟩)⟩
    · exact absurd rfl hne
    · have hk3 := hk
      have e0 := (hF.done 0 (8, SP.is (.pointer (some ⟨hb, 0, none⟩))) (by rw [hD]; rfl) (ready_dep hk 0 (by kernel_rfl)))
      exact wpOp_plain rfl rfl (wpH_nil rfl hb e0 ⟨(hF.put 8 16 (SP.is (.pointer (some ⟨hb, 0, none⟩))) (.pointer (some ⟨hb, 0, none⟩)) (by rw [hD]; rfl) rfl (by rw [hD]; rfl) (by rw [hsz]; decide) (by rw [hl]; decide)), hb1, rB, r4, hHo, hFr, (fun h1 => by change (SP.nAk q).P _ ((ac.put (some 16) _).eval (.tmp 14)); rw [eval_put_other ac _ (by decide)]; exact ti6 (by rwa [getD_set _ _ _ (by decide)] at h1))⟩)
    · have hk3 := hk
      have e0 := (hF.done 8 (16, SP.is (.pointer (some ⟨hb, 0, none⟩))) (by rw [hD]; rfl) (ready_dep hk 8 (by kernel_rfl)))
      exact wpOp_plain rfl rfl (wpH_f1 rfl hb e0 ⟨(hF.put 9 17 (SP.is (.pointer (some ⟨hb, 1, none⟩))) (.pointer (some ⟨hb, 1, none⟩)) (by rw [hD]; rfl) rfl (by rw [hD]; rfl) (by rw [hsz]; decide) (by rw [hl]; decide)), hb1, rB, r4, hHo, hFr, (fun h1 => by change (SP.nAk q).P _ ((ac.put (some 17) _).eval (.tmp 14)); rw [eval_put_other ac _ (by decide)]; exact ti6 (by rwa [getD_set _ _ _ (by decide)] at h1))⟩)
    · exact absurd (ready_dep hk 7 (by kernel_rfl)) hnl
  · clear ha0 hb1 rB r4 hHo hFr
    intro listed ac W hl hI hdn hk
    replace hl : listed.size = 11 := hl
    obtain ⟨hF, hb1, rB, r4, hHo, hFr, ti6⟩ := hI
    have e9 := (hF.done 4 (12, SP.is (.slice Aq n cq)) (by rw [hD]; rfl) (ready_dep hk 4 (by kernel_rfl)))
    obtain ⟨M, e11, q1⟩ := (ti6 (ready_dep hk 6 (by kernel_rfl)))
    have hno10 : ¬ listed.getD 10 false = true := fun h => not_yet hk (hdn 10 h 7 (by kernel_rfl))
    refine wpOp_plain rfl rfl (wp_appL tAks tAk 30 104 Try.underlying37 all_Ak (by decide) (by decide) (.tmp 12) (.tmp 14) rfl (.slice Aq n cq) n qs.flatten q e9 (HOW.out W hHo) M HL8.out e11 q1.all HO8.out HNB.out ?_)
    intro v5 W2 p1 p2 p3
    obtain ⟨A7, c7, e7, _, _⟩ := Lw.form p1
    subst e7
    have hT : Fp D a0 listed ac W2 := hF.turn (by rw [hD]; simp only [List.forall_mem_cons, List.not_mem_nil, false_implies, implies_true, and_true]; exact ⟨fun _ h => h, fun _ h => h, fun _ h => h, fun _ h => h, fun _ h => h, fun _ h => h, fun _ h => h, fun _ h => h, fun _ h => h, fun _ h => h, fun _ h => h⟩)
    exact ⟨A7, c7, (hT.put 7 15 SP.any _ (by rw [hD]; rfl) trivial (by rw [hD]; rfl) (by rw [hsz]; decide) (by rw [hl]; decide)), (eval_put_same ac _ (by rw [hF.size, hsz]; decide)), (by rw [getD_set _ _ _ (by decide), if_neg hno10]; exact row_gb hHo.row p2 (some_ne (Lw.ne (HOW.out W hHo) hHo.row (by decide)))), p1, (hFr.grown p2 (fun g eg => .inl (.inr eg))), (fun g eg => by rcases p3 with z | z; exact .inl (z ▸ eg); exact .inr (by rw [z] at eg; simp only [Option.some.injEq] at eg; have := hFr.size; omega)), (row_gb r4 p2 (some_ne (Lw.ne (HOW.out W hHo) r4 (by decide))))⟩
  · clear ha0 hb1 rB r4 hHo hFr
    intro listed ac W k hl hJ hdn hk hne hyl
    replace hl : listed.size = 11 := hl
    obtain ⟨A7, c7, hF, hJ1, hJ2, hJ3, hJ4, hJ5, hJ6⟩ := hJ
    have hk1 : k < 11 := List.mem_range.1 (List.mem_filter.1 hk).1
    rcases (show k = 0 ∨ k = 1 ∨ k = 2 ∨ k = 3 ∨ k = 4 ∨ k = 5 ∨ k = 6 ∨ k = 7 ∨ k = 8 ∨ k = 9 ∨ k = 10 by omega) with rfl | rfl | rfl | rfl | rfl | rfl | rfl | rfl | rfl | rfl | rfl
    · have hk3 := hk
      exact wpOp_plain rfl rfl (wp_move_v (ac.eval (.tmp 0)) rfl rfl ⟨A7, c7, (hF.put 0 8 (SP.is (.pointer (some ⟨hb, 0, none⟩))) (ac.eval (.tmp 0)) (by rw [hD]; rfl) (((hF.keep 0 (by rw [hD]; rfl)).trans zs0)) (by rw [hD]; rfl) (by rw [hsz]; decide) (by rw [hl]; decide)), (eval_put_other ac _ (by decide)).trans (hJ1), (by rw [getD_set _ _ _ (by decide)]; exact hJ2), hJ3, hJ4, hJ5, hJ6⟩)
    · exact absurd (hdn 2 (hdn 3 (hdn 4 (hdn 7 hyl 4 (by kernel_rfl)) 3 (by kernel_rfl)) 2 (by kernel_rfl)) 1 (by kernel_rfl)) (not_yet hk)
    · exact absurd (hdn 3 (hdn 4 (hdn 7 hyl 4 (by kernel_rfl)) 3 (by kernel_rfl)) 2 (by kernel_rfl)) (not_yet hk)
    · exact absurd (hdn 4 (hdn 7 hyl 4 (by kernel_rfl)) 3 (by kernel_rfl)) (not_yet hk)
    · exact absurd (hdn 7 hyl 4 (by kernel_rfl)) (not_yet hk)
    · exact absurd (hdn 6 (hdn 7 hyl 6 (by kernel_rfl)) 5 (by kernel_rfl)) (not_yet hk)
    · exact absurd (hdn 7 hyl 6 (by kernel_rfl)) (not_yet hk)
    · exact absurd rfl hne
    · have hk3 := hk
      have e0 := (hF.done 0 (8, SP.is (.pointer (some ⟨hb, 0, none⟩))) (by rw [hD]; rfl) (ready_dep hk 0 (by kernel_rfl)))
      exact wpOp_plain rfl rfl (wpH_nil rfl hb e0 ⟨A7, c7, (hF.put 8 16 (SP.is (.pointer (some ⟨hb, 0, none⟩))) (.pointer (some ⟨hb, 0, none⟩)) (by rw [hD]; rfl) rfl (by rw [hD]; rfl) (by rw [hsz]; decide) (by rw [hl]; decide)), (eval_put_other ac _ (by decide)).trans (hJ1), (by rw [getD_set _ _ _ (by decide)]; exact hJ2), hJ3, hJ4, hJ5, hJ6⟩)
    · have hk3 := hk
      have e0 := (hF.done 8 (16, SP.is (.pointer (some ⟨hb, 0, none⟩))) (by rw [hD]; rfl) (ready_dep hk 8 (by kernel_rfl)))
      exact wpOp_plain rfl rfl (wpH_f1 rfl hb e0 ⟨A7, c7, (hF.put 9 17 (SP.is (.pointer (some ⟨hb, 1, none⟩))) (.pointer (some ⟨hb, 1, none⟩)) (by rw [hD]; rfl) rfl (by rw [hD]; rfl) (by rw [hsz]; decide) (by rw [hl]; decide)), (eval_put_other ac _ (by decide)).trans (hJ1), (by rw [getD_set _ _ _ (by decide)]; exact hJ2), hJ3, hJ4, hJ5, hJ6⟩)
    · have hk3 := hk
      have e14 := (hF.done 9 (17, SP.is (.pointer (some ⟨hb, 1, none⟩))) (by rw [hD]; rfl) (ready_dep hk 9 (by kernel_rfl)))
      rw [if_neg (not_yet hk)] at hJ2
      refine wpOp_plain rfl rfl (wpH_set1 tAks (.tmp 17) (.tmp 15) rfl hb 1 (.slice A7 (n + 1) c7) [rv, .slice Aq n cq, iv] tHo e14 hJ1 rfl hJ2 (Nat.lt_of_sub_pos (Nat.succ_pos _)) sz_Aks rfl ?_)
      intro W2 p1 p2
      have hT : Fp D a0 listed ac W2 := hF.turn (by rw [hD]; simp only [List.forall_mem_cons, List.not_mem_nil, false_implies, implies_true, and_true]; exact ⟨fun _ h => h, fun _ h => h, fun _ h => h, fun _ h => h, fun _ h => h, fun _ h => h, fun _ h => h, fun _ h => h, fun _ h => h, fun _ h => h, fun _ h => h⟩)
      exact ⟨A7, c7, (hT.skip 10 1000 (by rw [hD]; rfl) (by rw [hl]; decide)), hJ1, (by rw [if_pos (getD_same (by rw [hl]; decide))]; exact p1), (Lw.gro hJ3 p2 (fun g eg z => Lw.ne hJ3 hJ2 (by decide) g eg z)), (Gro.trans hJ4 (Gro.mono p2 (fun g z => .inl z))), hJ5, (p2.row hJ6 (row_ne2 hJ6 hJ2 (by decide)))⟩
  · clear hb1 rB r4 hHo hFr
    intro listed ac W hl hJ hr
    replace hl : listed.size = 11 := hl
    obtain ⟨A7, c7, hF, hJ1, hJ2, hJ3, hJ4, hJ5, hJ6⟩ := hJ
    have hall := all_listed (by kernel_rfl) hl hr
    rw [if_pos (hall 10 (by decide))] at hJ2
    have h8 : ac.eval (.tmp 8) = .pointer (some ⟨hb, 0, none⟩) := hF.done 0 (8, SP.is (.pointer (some ⟨hb, 0, none⟩))) (by rw [hD]; rfl) (hall 0 (by decide))
    have h9 : ac.eval (.tmp 9) = .pointer (some ⟨hb, 0, none⟩) := hF.done 1 (9, SP.is (.pointer (some ⟨hb, 0, none⟩))) (by rw [hD]; rfl) (hall 1 (by decide))
    have h10 : ac.eval (.tmp 10) = .pointer (some ⟨hb, 0, none⟩) := hF.done 2 (10, SP.is (.pointer (some ⟨hb, 0, none⟩))) (by rw [hD]; rfl) (hall 2 (by decide))
    have h11 : ac.eval (.tmp 11) = .pointer (some ⟨hb, 1, none⟩) := hF.done 3 (11, SP.is (.pointer (some ⟨hb, 1, none⟩))) (by rw [hD]; rfl) (hall 3 (by decide))
    have h12 : ac.eval (.tmp 12) = .slice Aq n cq := hF.done 4 (12, SP.is (.slice Aq n cq)) (by rw [hD]; rfl) (hall 4 (by decide))
    have h13 : ac.eval (.tmp 13) = .agg q.toArray := hF.done 5 (13, SP.is (.agg q.toArray)) (by rw [hD]; rfl) (hall 5 (by decide))
    obtain ⟨x14, h14⟩ : ∃ x, ac.eval (.tmp 14) = x := ⟨_, rfl⟩
    have h16 : ac.eval (.tmp 16) = .pointer (some ⟨hb, 0, none⟩) := hF.done 8 (16, SP.is (.pointer (some ⟨hb, 0, none⟩))) (by rw [hD]; rfl) (hall 8 (by decide))
    have h17 : ac.eval (.tmp 17) = .pointer (some ⟨hb, 1, none⟩) := hF.done 9 (17, SP.is (.pointer (some ⟨hb, 1, none⟩))) (by rw [hD]; rfl) (hall 9 (by decide))
    have ea := hF.lay [(8, .pointer (some ⟨hb, 0, none⟩)), (9, .pointer (some ⟨hb, 0, none⟩)), (10, .pointer (some ⟨hb, 0, none⟩)), (11, .pointer (some ⟨hb, 1, none⟩)), (12, .slice Aq n cq), (13, .agg q.toArray), (14, x14), (15, .slice A7 (n + 1) c7), (16, .pointer (some ⟨hb, 0, none⟩)), (17, .pointer (some ⟨hb, 1, none⟩))] (by rw [hD, hsz]; rfl) (by simp only [List.forall_mem_cons, List.not_mem_nil, false_implies, implies_true, and_true]; exact ⟨h8, h9, h10, h11, h12, h13, h14, hJ1, h16, h17⟩)
    rw [ha0] at ea
    simp only [List.foldl_cons, List.foldl_nil, List.setIfInBounds_toArray, List.set_cons_zero, List.set_cons_succ] at ea
    clear hF hall hr hl hD zs0 zs3 ha0 hsz h8 h9 h10 h11 h12 h13 h14 hJ1 h16 h17
    subst ea
    have HGR : Hid (Gro (Hq hb (.slice Aq n cq)) w W) := hJ4
    have HHS : Hid (Hst W hb rv (.slice A7 (n + 1) c7) iv rs (qs ++ [q]) inn) := ⟨hJ2, HHO.out.rp.rows fun b cs r => hJ4.row r (fun e => by rcases e with e | e; exact row_ne2 r HHO.out.row (by decide) e; exact Lw.ne HHO.out.own r (by decide) b e rfl), by rw [List.length_append, List.flatten_append, List.length_singleton, ← HNL.out]; simpa using hJ3, HHO.out.inr.rows fun b cs r => hJ4.row r (fun e => by rcases e with e | e; exact row_ne2 r HHO.out.row (by decide) e; exact Lw.ne HHO.out.own r (by decide) b e rfl)⟩
    have HNW : Hid (∀ g, (Value.slice A7 (n + 1) c7).ownBlock = some g → (Value.slice Aq n cq).ownBlock = some g ∨ w.heap.size ≤ g) := hJ5
    have R4 : Hid (Row W b4 zW 27) := hJ6
    clear hJ2 hJ3 hJ4 hJ5 hJ6 HOW
    obtain ⟨X, hX⟩ : ∃ X, X = W := ⟨_, rfl⟩
    rw [← hX] at HGR HHS R4 ⊢
    clear hX
    obtain ⟨gi, ci, ics, hiv, hic, hir, hib⟩ : ∃ (g c : Nat) (cs : List Value), iv = .slice (some ⟨g, 0, none⟩) inn.length c ∧ inn.length ≤ c ∧ Row X g cs 5 ∧ ∀ (j : Nat) (u : Value), (vB inn)[j]? = some u → cs[j]? = some u := by
      rcases HHS.out.inr with h | h
      · exact absurd h.1 HINN.out
      · exact h
    obtain ⟨ni, hni⟩ : ∃ n, n = inn.length := ⟨_, rfl⟩
    have hpos : 0 < ni := by
      rw [hni]
      cases inn with
      | nil => exact absurd rfl HINN.out
      | cons _ _ => simp
    rw [← hni] at hiv hic
    have HNI : Hid (ni = inn.length ∧ ni ≤ ci) := ⟨hni, hic⟩
    have HIR : Hid (Row X gi ics 5 ∧ ∀ (j : Nat) (u : Value), (vB inn)[j]? = some u → ics[j]? = some u) := ⟨hir, hib⟩
    have HIV : Hid (iv = .slice (some ⟨gi, 0, none⟩) ni ci) := hiv
    have d2 : X.cell? ⟨hb, 2, none⟩ = some (.slice (some ⟨gi, 0, none⟩) ni ci) := by rw [← hiv]; exact HHS.out.row.cell 2 _ rfl
    have hposI : (0 : Int) < (ni : Int) := by omega
    clear hni hic hir hib hiv
    go_upto_region 4 with (first
      | (refine wpList_bltH rfl tHo _ rfl [] rfl _ built_ho0 ?_; simp only [Act.put, List.setIfInBounds_toArray, List.set_cons_zero, List.set_cons_succ])
      | (refine wpList_boxG tHo rfl (.tmp 24) rfl [.slice none 0 0, .slice none 0 0, .slice none 0 0] rfl ?_; intro Y q1 q2 q3; have RI : Hid (Row Y X.heap.size [.slice none 0 0, .slice none 0 0, .slice none 0 0] tHo) := q1; have BY : Hid (Below X.heap.size X Y) := q2; clear q1 q2 q3; simp only [Act.put, List.setIfInBounds_toArray, List.set_cons_zero, List.set_cons_succ]))
    obtain ⟨bi, hbi⟩ : ∃ b, b = X.heap.size := ⟨_, rfl⟩
    rw [← hbi] at RI
    rw [← hbi]
    have HBI : Hid (bi = X.heap.size) := hbi
    have d2Y : Y.cell? ⟨hb, 2, none⟩ = some (.slice (some ⟨gi, 0, none⟩) ni ci) := by
      have := (Row.below HHS.out.row BY.out HHS.out.row.lt).cell 2 _ rfl
      rw [HIV.out] at this
      exact this
    have HSI : Hid (Hst Y bi (.slice none 0 0) (.slice none 0 0) (.slice none 0 0) [] [] []) := ⟨RI.out, .inl ⟨rfl, none, 0, rfl⟩, Lw.nil _ _ _, .inl ⟨rfl, none, 0, rfl⟩⟩
    obtain ⟨CI, hCI⟩ : ∃ C, C = cIn.cs (.slice none 0 0) := ⟨_, rfl⟩
    have HCB : Hid (Try.prog.built 30 [(6, .int .i64 1000), (3, .agg #[.int .u64 7, .int .u64 0, .int .u64 0, .int .u64 0])] = some CI.toArray) := by show _ = _; rw [hCI]; exact built_cIn
    obtain ⟨RVi, REi, Qi, hmi⟩ : ∃ RV RE Q, mrun inn cIn [] [] = ((RV, RE), Q) := ⟨_, _, _, rfl⟩
    have HRI : Hid (Calls Try.prog 10 #[.slice (some ⟨gi, 0, none⟩) ni ci, .agg CI.toArray, .iface 48 (.pointer (some ⟨bi, 0, none⟩))] Y fun e w' => e = .returned (.tuple #[.agg RVi.toArray, .int .i64 REi]) ∧ ∃ qv', Hst w' bi (.slice none 0 0) qv' (.slice none 0 0) [] Qi [] ∧ Gro (· = bi) Y w') :=
      run_all nextOK_nil inn ni HNI.out.1.symm (by rw [HNI.out.1]; exact HM63.out) cIn cIn_wf [] none 0 gi ci bi HNI.out.2 (.slice none 0 0) (.slice none 0 0) [] CI hCI (fun a ha => by cases ha) (fun p hp => by cases hp) RVi REi Qi hmi Y (fun _ => .inl ⟨rfl, rfl⟩) (fun j u hj => by rw [Nat.zero_add]; exact (Row.below HIR.out.1 BY.out HIR.out.1.lt).cell j u (HIR.out.2 j u hj)) HSI.out
    clear hbi hCI hmi d2
    go_upto_region 5 with (first
      | (refine wpList_bltH rfl 27 _ rfl [(0, .int .u64 7)] rfl [.int .u64 7, .int .u64 0, .int .u64 0, .int .u64 0] built_w7 ?_; simp only [Act.put, List.setIfInBounds_toArray, List.set_cons_zero, List.set_cons_succ])
      | (refine wpList_bltH rfl 30 _ rfl [(6, .int .i64 1000), (3, .agg #[.int .u64 7, .int .u64 0, .int .u64 0, .int .u64 0])] rfl CI HCB.out ?_; simp only [Act.put, List.setIfInBounds_toArray, List.set_cons_zero, List.set_cons_succ])
      | (go_at_call 10; refine Calls.mono HRI.out ?_; rintro e Z0 ⟨rfl, qvi, q1, q2⟩; have GZ0 : Hid (Gro (· = bi) Y Z0) := q2; clear q1 q2))
    clear d2Y
    have kx : ∀ {b : Nat} {cs : List Value} {t : TypeId}, Row X b cs t → Row Z0 b cs t := fun r => GZ0.out.row (Row.below r BY.out r.lt) (fun e => by have := r.lt; have := HBI.out; omega)
    have HGR0 : Gro (Hq hb (.slice Aq n cq)) w Z0 := (HGR.out.below BY.out).then GZ0.out (fun g e => .inr (by rw [e, HBI.out]; exact HGR.out.size))
    have HHS0 : Hst Z0 hb rv (.slice A7 (n + 1) c7) iv rs (qs ++ [q]) inn := HHS.out.kh (fun b cs t _ r => kx r)
    have R40 : Row Z0 b4 zW 27 := kx R4.out
    clear HGR HHS R4 RI BY HSI HCB HRI GZ0 HIR HIV kx hpos hposI HBI
    obtain ⟨X, hX⟩ : ∃ X, X = Z0 := ⟨_, rfl⟩
    have HGR : Hid (Gro (Hq hb (.slice Aq n cq)) w X) := by rw [hX]; exact HGR0
    have HHS : Hid (Hst X hb rv (.slice A7 (n + 1) c7) iv rs (qs ++ [q]) inn) := by rw [hX]; exact HHS0
    have R4 : Hid (Row X b4 zW 27) := by rw [hX]; exact R40
    rw [← hX]
    clear HGR0 HHS0 R40 hX
    by_cases hlt : n < rs.length
    · obtain ⟨p, hp⟩ : ∃ p, rs[n]? = some p := ⟨_, List.getElem?_eq_getElem hlt⟩
      obtain ⟨gr, ro, cr, ycs, hrv, hyr, hyc⟩ : ∃ g o c cs, rv = .slice (some ⟨g, o, none⟩) rs.length c ∧ Row X g cs tYr ∧ ∀ j u, (frs rs)[j]? = some u → cs[o + j]? = some u := by
        rcases HHS.out.rp with h | h
        · rw [h.1] at hlt; cases hlt
        · exact h
      have hgd : rs.getD n (0, 0) = p := by rw [List.getD_eq_getElem?_getD, hp]; rfl
      have HGD : Hid (LV = wq p.1 ∧ E = p.2) := by have := HLV.out; rw [hgd] at this; exact this
      obtain ⟨R, hR⟩ : ∃ R, R = rs.length := ⟨_, rfl⟩
      rw [← hR] at hrv hlt
      subst hrv
      obtain ⟨Y5, hY5⟩ : ∃ Y, Y = ry p := ⟨_, rfl⟩
      have HRG : Hid (∀ W, Row W gr ycs tYr → W.rangeAt gr (ro + n * 5) Y5) := fun W r => r.range (ro + n * 5) Y5 (fun j v hj => by
        have h5 : j < 5 := by have := (List.getElem?_eq_some_iff.1 hj).1; rwa [hY5, ry_len] at this
        rw [Nat.add_assoc]
        exact hyc _ _ ((frs_get rs n p hp j h5).trans (by rw [← hY5]; exact hj)))
      have HIY : Hid ((Try.prog.info? tYr).map (·.size) = some Y5.length) := by show _ = _; rw [hY5, ry_len]; exact info_Yr
      have HYL : Hid (Y5.length ≤ zY.length) := by show _ ≤ _; rw [hY5, ry_len]; decide
      have HYE : Hid (Y5.length = zY.length) := by show _ = _; rw [hY5, ry_len]; rfl
      have HYO : Hid (Y5.toArray.all (·.oneCell') = true) := by show _ = _; rw [hY5, ← Array.all_toList]; unfold ry; simp only [List.all_append, List.all_cons, List.all_nil]; have := wq_one p.1; rw [← Array.all_toList] at this; rw [this]; rfl
      have HY5 : Hid (Y5 = ry p) := hY5
      have HSUB : Hid (IntKind.i64.wrap (((n + 1 : Nat) : Int) - 1) = (n : Int)) := by show _ = _; rw [IntKind.wrap_i64]; have := HN1.out; omega
      have HLT : Hid (n < R) := hlt
      have d0 : X.cell? ⟨hb, 0, none⟩ = some (.slice (some ⟨gr, ro, none⟩) R cr) := HHS.out.row.cell 0 _ rfl
      have d1 : X.cell? ⟨hb, 1, none⟩ = some (.slice A7 (n + 1) c7) := HHS.out.row.cell 1 _ rfl
      have hle : ((n + 1 : Nat) : Int) ≤ (R : Int) := by omega
      clear hp hgd hR hlt hyc hY5
      go_upto_region 5 with fail
      go_quiet (fail)
      clear d0 d1
      obtain ⟨Z, hZ⟩ : ∃ Z, Z = X.drewN nq := ⟨_, rfl⟩
      rw [← hZ]
      have kz : Below X.heap.size X Z := by rw [hZ]; exact below_drewN (Below.refl _ _) nq
      have HGZ : Hid (Gro (Hq hb (.slice Aq n cq)) w Z) := HGR.out.below kz
      have HHZ : Hid (Hst Z hb (.slice (some ⟨gr, ro, none⟩) R cr) (.slice A7 (n + 1) c7) iv rs (qs ++ [q]) inn) := HHS.out.below kz
      have R4Z : Hid (Row Z b4 zW 27) := Row.below R4.out kz R4.out.lt
      have ryr := Row.below hyr kz hyr.lt
      clear hZ kz HGR HHS R4 hyr
      go_upto_region 6 with fail
      have hb1 := Below.refl Z.heap.size Z
      have rh := HHZ.out.row
      have r4 := R4Z.out
      obtain ⟨T0, hT0⟩ : ∃ T, T + 1 = Z.heap.size := ⟨Z.heap.size - 1, by have := rh.lt; omega⟩
      have lh : hb ≤ T0 := by have := rh.lt; omega
      have lg : gr ≤ T0 := by have := ryr.lt; omega
      have l4 : b4 ≤ T0 := by have := r4.lt; omega
      clear hle
      refine wp_named fun a0 ha0 => ?_
      have hsz : a0.tmps.size = 63 := by rw [ha0]; rfl
      have zs0 : a0.eval (.tmp 0) = .pointer (some ⟨hb, 0, none⟩) := by rw [ha0]; rfl
      obtain ⟨D, hD⟩ : ∃ D : List (Tmp × SP), D = [(46, SP.is (.pointer (some ⟨hb, 0, none⟩))), (47, SP.is (.pointer (some ⟨hb, 0, none⟩))), (48, SP.is (.pointer (some ⟨hb, 0, none⟩))), (49, SP.is (.slice (some ⟨gr, ro, none⟩) R cr)), (50, SP.is (.pointer (some ⟨hb, 0, none⟩))), (51, SP.is (.pointer (some ⟨hb, 0, none⟩))), (52, SP.is (.pointer (some ⟨hb, 1, none⟩))), (53, SP.is (.slice A7 (n + 1) c7)), (54, SP.is (.int .i64 ((n + 1 : Nat) : Int))), (55, SP.is (.int .i64 (n : Int))), (56, SP.is (.pointer (some ⟨gr, ro + n * 5, none⟩))), (57, SP.is (.agg Y5.toArray)), (7, SP.any), (1000, SP.any)] := ⟨_, rfl⟩
      refine wp_region_down (by kernel_rfl) (fun listed ac W => ∃ (b : Nat), listed.size = 14 ∧ Fp D a0 listed ac W ∧ Below Z.heap.size Z W ∧ Row W hb ([.slice (some ⟨gr, ro, none⟩) R cr, .slice A7 (n + 1) c7, iv]) tHo ∧ Row W gr ycs tYr ∧ Row W b4 zW 27 ∧ (listed.getD 12 false = true → ac.eval (.tmp 7) = .pointer (some ⟨b, 0, none⟩) ∧ T0 < b ∧ Row W b (if listed.getD 13 false = true then Y5 else zY) tYr) ∧ (listed.getD 13 false = true → listed.getD 12 false = true)) ?_ ?_ ?_
      · exact ⟨0, by simp, Fp.start D a0 _ _, Below.drew hb1, Row.drew rh, Row.drew ryr, Row.drew r4, (fun h => (start_no h).elim), (fun h => (start_no h).elim)⟩
      · clear ha0 hb1 rh ryr r4 
        intro listed ac W k hI hdn hk
        obtain ⟨b, hl, hF, hb1, rh, ryr, r4, al12, as12⟩ := hI
        have hk1 : k < 14 := List.mem_range.1 (List.mem_filter.1 hk).1
        have hl2 : ∀ j, (listed.setIfInBounds j true).size = 14 := fun j => by rw [Array.size_setIfInBounds]; exact hl
        rcases (show k = 0 ∨ k = 1 ∨ k = 2 ∨ k = 3 ∨ k = 4 ∨ k = 5 ∨ k = 6 ∨ k = 7 ∨ k = 8 ∨ k = 9 ∨ k = 10 ∨ k = 11 ∨ k = 12 ∨ k = 13 by omega) with rfl | rfl | rfl | rfl | rfl | rfl | rfl | rfl | rfl | rfl | rfl | rfl | rfl | rfl
        · have hk3 := hk
          exact wpOp_plain rfl rfl (wp_move_v (ac.eval (.tmp 0)) rfl rfl ⟨b, hl2 0, (hF.put 0 46 (SP.is (.pointer (some ⟨hb, 0, none⟩))) (ac.eval (.tmp 0)) (by rw [hD]; rfl) (((hF.keep 0 (by rw [hD]; rfl)).trans zs0)) (by rw [hD]; rfl) (by rw [hsz]; decide) (by rw [hl]; decide)), hb1, rh, ryr, r4, (fun h => ⟨(eval_put_other ac _ (by decide)).trans ((al12 (by rwa [getD_set _ _ _ (by decide)] at h)).1), (al12 (by rwa [getD_set _ _ _ (by decide)] at h)).2.1, by rw [getD_set _ _ _ (by decide)]; exact (al12 (by rwa [getD_set _ _ _ (by decide)] at h)).2.2⟩), (fun h => by rw [getD_set _ _ _ (by decide)]; exact as12 (by rwa [getD_set _ _ _ (by decide)] at h))⟩)
        · have hk3 := hk
          have e0 := (hF.done 0 (46, SP.is (.pointer (some ⟨hb, 0, none⟩))) (by rw [hD]; rfl) (ready_dep hk 0 (by kernel_rfl)))
          exact wpOp_plain rfl rfl (wpH_nil rfl hb e0 ⟨b, hl2 1, (hF.put 1 47 (SP.is (.pointer (some ⟨hb, 0, none⟩))) (.pointer (some ⟨hb, 0, none⟩)) (by rw [hD]; rfl) rfl (by rw [hD]; rfl) (by rw [hsz]; decide) (by rw [hl]; decide)), hb1, rh, ryr, r4, (fun h => ⟨(eval_put_other ac _ (by decide)).trans ((al12 (by rwa [getD_set _ _ _ (by decide)] at h)).1), (al12 (by rwa [getD_set _ _ _ (by decide)] at h)).2.1, by rw [getD_set _ _ _ (by decide)]; exact (al12 (by rwa [getD_set _ _ _ (by decide)] at h)).2.2⟩), (fun h => by rw [getD_set _ _ _ (by decide)]; exact as12 (by rwa [getD_set _ _ _ (by decide)] at h))⟩)
        · have hk3 := hk
          have e0 := (hF.done 1 (47, SP.is (.pointer (some ⟨hb, 0, none⟩))) (by rw [hD]; rfl) (ready_dep hk 1 (by kernel_rfl)))
          exact wpOp_plain rfl rfl (wpH_f0 rfl hb e0 ⟨b, hl2 2, (hF.put 2 48 (SP.is (.pointer (some ⟨hb, 0, none⟩))) (.pointer (some ⟨hb, 0, none⟩)) (by rw [hD]; rfl) rfl (by rw [hD]; rfl) (by rw [hsz]; decide) (by rw [hl]; decide)), hb1, rh, ryr, r4, (fun h => ⟨(eval_put_other ac _ (by decide)).trans ((al12 (by rwa [getD_set _ _ _ (by decide)] at h)).1), (al12 (by rwa [getD_set _ _ _ (by decide)] at h)).2.1, by rw [getD_set _ _ _ (by decide)]; exact (al12 (by rwa [getD_set _ _ _ (by decide)] at h)).2.2⟩), (fun h => by rw [getD_set _ _ _ (by decide)]; exact as12 (by rwa [getD_set _ _ _ (by decide)] at h))⟩)
        · have hk3 := hk
          have e0 := (hF.done 2 (48, SP.is (.pointer (some ⟨hb, 0, none⟩))) (by rw [hD]; rfl) (ready_dep hk 2 (by kernel_rfl)))
          exact wpOp_plain rfl rfl (wpH_ld hb 0 (.slice (some ⟨gr, ro, none⟩) R cr) rfl e0 (ldH_Ys W hb 0 _ (rh.cell 0 _ rfl)) ⟨b, hl2 3, (hF.put 3 49 (SP.is (.slice (some ⟨gr, ro, none⟩) R cr)) (.slice (some ⟨gr, ro, none⟩) R cr) (by rw [hD]; rfl) rfl (by rw [hD]; rfl) (by rw [hsz]; decide) (by rw [hl]; decide)), hb1, rh, ryr, r4, (fun h => ⟨(eval_put_other ac _ (by decide)).trans ((al12 (by rwa [getD_set _ _ _ (by decide)] at h)).1), (al12 (by rwa [getD_set _ _ _ (by decide)] at h)).2.1, by rw [getD_set _ _ _ (by decide)]; exact (al12 (by rwa [getD_set _ _ _ (by decide)] at h)).2.2⟩), (fun h => by rw [getD_set _ _ _ (by decide)]; exact as12 (by rwa [getD_set _ _ _ (by decide)] at h))⟩)
        · have hk3 := hk
          exact wpOp_plain rfl rfl (wp_move_v (ac.eval (.tmp 0)) rfl rfl ⟨b, hl2 4, (hF.put 4 50 (SP.is (.pointer (some ⟨hb, 0, none⟩))) (ac.eval (.tmp 0)) (by rw [hD]; rfl) (((hF.keep 0 (by rw [hD]; rfl)).trans zs0)) (by rw [hD]; rfl) (by rw [hsz]; decide) (by rw [hl]; decide)), hb1, rh, ryr, r4, (fun h => ⟨(eval_put_other ac _ (by decide)).trans ((al12 (by rwa [getD_set _ _ _ (by decide)] at h)).1), (al12 (by rwa [getD_set _ _ _ (by decide)] at h)).2.1, by rw [getD_set _ _ _ (by decide)]; exact (al12 (by rwa [getD_set _ _ _ (by decide)] at h)).2.2⟩), (fun h => by rw [getD_set _ _ _ (by decide)]; exact as12 (by rwa [getD_set _ _ _ (by decide)] at h))⟩)
        · have hk3 := hk
          have e0 := (hF.done 4 (50, SP.is (.pointer (some ⟨hb, 0, none⟩))) (by rw [hD]; rfl) (ready_dep hk 4 (by kernel_rfl)))
          exact wpOp_plain rfl rfl (wpH_nil rfl hb e0 ⟨b, hl2 5, (hF.put 5 51 (SP.is (.pointer (some ⟨hb, 0, none⟩))) (.pointer (some ⟨hb, 0, none⟩)) (by rw [hD]; rfl) rfl (by rw [hD]; rfl) (by rw [hsz]; decide) (by rw [hl]; decide)), hb1, rh, ryr, r4, (fun h => ⟨(eval_put_other ac _ (by decide)).trans ((al12 (by rwa [getD_set _ _ _ (by decide)] at h)).1), (al12 (by rwa [getD_set _ _ _ (by decide)] at h)).2.1, by rw [getD_set _ _ _ (by decide)]; exact (al12 (by rwa [getD_set _ _ _ (by decide)] at h)).2.2⟩), (fun h => by rw [getD_set _ _ _ (by decide)]; exact as12 (by rwa [getD_set _ _ _ (by decide)] at h))⟩)
        · have hk3 := hk
          have e0 := (hF.done 5 (51, SP.is (.pointer (some ⟨hb, 0, none⟩))) (by rw [hD]; rfl) (ready_dep hk 5 (by kernel_rfl)))
          exact wpOp_plain rfl rfl (wpH_f1 rfl hb e0 ⟨b, hl2 6, (hF.put 6 52 (SP.is (.pointer (some ⟨hb, 1, none⟩))) (.pointer (some ⟨hb, 1, none⟩)) (by rw [hD]; rfl) rfl (by rw [hD]; rfl) (by rw [hsz]; decide) (by rw [hl]; decide)), hb1, rh, ryr, r4, (fun h => ⟨(eval_put_other ac _ (by decide)).trans ((al12 (by rwa [getD_set _ _ _ (by decide)] at h)).1), (al12 (by rwa [getD_set _ _ _ (by decide)] at h)).2.1, by rw [getD_set _ _ _ (by decide)]; exact (al12 (by rwa [getD_set _ _ _ (by decide)] at h)).2.2⟩), (fun h => by rw [getD_set _ _ _ (by decide)]; exact as12 (by rwa [getD_set _ _ _ (by decide)] at h))⟩)
        · have hk3 := hk
          have e0 := (hF.done 6 (52, SP.is (.pointer (some ⟨hb, 1, none⟩))) (by rw [hD]; rfl) (ready_dep hk 6 (by kernel_rfl)))
          exact wpOp_plain rfl rfl (wpH_ld hb 1 (.slice A7 (n + 1) c7) rfl e0 (ldH_As W hb 1 _ (rh.cell 1 _ rfl)) ⟨b, hl2 7, (hF.put 7 53 (SP.is (.slice A7 (n + 1) c7)) (.slice A7 (n + 1) c7) (by rw [hD]; rfl) rfl (by rw [hD]; rfl) (by rw [hsz]; decide) (by rw [hl]; decide)), hb1, rh, ryr, r4, (fun h => ⟨(eval_put_other ac _ (by decide)).trans ((al12 (by rwa [getD_set _ _ _ (by decide)] at h)).1), (al12 (by rwa [getD_set _ _ _ (by decide)] at h)).2.1, by rw [getD_set _ _ _ (by decide)]; exact (al12 (by rwa [getD_set _ _ _ (by decide)] at h)).2.2⟩), (fun h => by rw [getD_set _ _ _ (by decide)]; exact as12 (by rwa [getD_set _ _ _ (by decide)] at h))⟩)
        · have hk3 := hk
          have e0 := (hF.done 7 (53, SP.is (.slice A7 (n + 1) c7)) (by rw [hD]; rfl) (ready_dep hk 7 (by kernel_rfl)))
          exact wpOp_plain rfl rfl (wpH_len tAks tAk Try.underlying37 rfl e0 ⟨b, hl2 8, (hF.put 8 54 (SP.is (.int .i64 ((n + 1 : Nat) : Int))) (.int .i64 ((n + 1 : Nat) : Int)) (by rw [hD]; rfl) rfl (by rw [hD]; rfl) (by rw [hsz]; decide) (by rw [hl]; decide)), hb1, rh, ryr, r4, (fun h => ⟨(eval_put_other ac _ (by decide)).trans ((al12 (by rwa [getD_set _ _ _ (by decide)] at h)).1), (al12 (by rwa [getD_set _ _ _ (by decide)] at h)).2.1, by rw [getD_set _ _ _ (by decide)]; exact (al12 (by rwa [getD_set _ _ _ (by decide)] at h)).2.2⟩), (fun h => by rw [getD_set _ _ _ (by decide)]; exact as12 (by rwa [getD_set _ _ _ (by decide)] at h))⟩)
        · have hk3 := hk
          have e0 := (hF.done 8 (54, SP.is (.int .i64 ((n + 1 : Nat) : Int))) (by rw [hD]; rfl) (ready_dep hk 8 (by kernel_rfl)))
          exact wpOp_plain rfl rfl (wpH_sub rfl rfl ((n + 1 : Nat) : Int) 1 (n : Int) e0 rfl HSUB.out ⟨b, hl2 9, (hF.put 9 55 (SP.is (.int .i64 (n : Int))) (.int .i64 (n : Int)) (by rw [hD]; rfl) rfl (by rw [hD]; rfl) (by rw [hsz]; decide) (by rw [hl]; decide)), hb1, rh, ryr, r4, (fun h => ⟨(eval_put_other ac _ (by decide)).trans ((al12 (by rwa [getD_set _ _ _ (by decide)] at h)).1), (al12 (by rwa [getD_set _ _ _ (by decide)] at h)).2.1, by rw [getD_set _ _ _ (by decide)]; exact (al12 (by rwa [getD_set _ _ _ (by decide)] at h)).2.2⟩), (fun h => by rw [getD_set _ _ _ (by decide)]; exact as12 (by rwa [getD_set _ _ _ (by decide)] at h))⟩)
        · have hk3 := hk
          have e0 := (hF.done 3 (49, SP.is (.slice (some ⟨gr, ro, none⟩) R cr)) (by rw [hD]; rfl) (ready_dep hk 3 (by kernel_rfl)))
          have e1 := (hF.done 9 (55, SP.is (.int .i64 (n : Int))) (by rw [hD]; rfl) (ready_dep hk 9 (by kernel_rfl)))
          exact wpOp_plain rfl rfl (wpH_ix rfl gr ro R cr n e0 e1 HLT.out ⟨b, hl2 10, (hF.put 10 56 (SP.is (.pointer (some ⟨gr, ro + n * 5, none⟩))) (.pointer (some ⟨gr, ro + n * 5, none⟩)) (by rw [hD]; rfl) rfl (by rw [hD]; rfl) (by rw [hsz]; decide) (by rw [hl]; decide)), hb1, rh, ryr, r4, (fun h => ⟨(eval_put_other ac _ (by decide)).trans ((al12 (by rwa [getD_set _ _ _ (by decide)] at h)).1), (al12 (by rwa [getD_set _ _ _ (by decide)] at h)).2.1, by rw [getD_set _ _ _ (by decide)]; exact (al12 (by rwa [getD_set _ _ _ (by decide)] at h)).2.2⟩), (fun h => by rw [getD_set _ _ _ (by decide)]; exact as12 (by rwa [getD_set _ _ _ (by decide)] at h))⟩)
        · have hk3 := hk
          have e0 := (hF.done 10 (56, SP.is (.pointer (some ⟨gr, ro + n * 5, none⟩))) (by rw [hD]; rfl) (ready_dep hk 10 (by kernel_rfl)))
          exact wpOp_plain rfl rfl (wp_load_mid tYr (.tmp 56) rfl gr (ro + n * 5) e0 Y5 _ (HRG.out W ryr) Try.underlying45 rfl HIY.out ⟨b, hl2 11, (hF.put 11 57 (SP.is (.agg Y5.toArray)) (.agg Y5.toArray) (by rw [hD]; rfl) rfl (by rw [hD]; rfl) (by rw [hsz]; decide) (by rw [hl]; decide)), hb1, rh, ryr, r4, (fun h => ⟨(eval_put_other ac _ (by decide)).trans ((al12 (by rwa [getD_set _ _ _ (by decide)] at h)).1), (al12 (by rwa [getD_set _ _ _ (by decide)] at h)).2.1, by rw [getD_set _ _ _ (by decide)]; exact (al12 (by rwa [getD_set _ _ _ (by decide)] at h)).2.2⟩), (fun h => by rw [getD_set _ _ _ (by decide)]; exact as12 (by rwa [getD_set _ _ _ (by decide)] at h))⟩)
        · have hk3 := hk
          have hsm : T0 < W.heap.size := (by have := hb1.size; omega)
          have hB : Below W.heap.size W (W.alloc (Obj.cells zY.toArray tYr)) := (Below.refl _ _).alloc (Nat.le_refl _) _
          have hns : ¬ listed.getD 13 false = true := fun h => not_yet hk (as12 h)
          exact wpOp_plain rfl rfl (wp_allocYr rfl ⟨W.heap.size, hl2 12, ((hF.world hB).put 12 7 (SP.any) (.pointer (some ⟨W.heap.size, 0, none⟩)) (by rw [hD]; rfl) trivial (by rw [hD]; rfl) (by rw [hsz]; decide) (by rw [hl]; decide)), hb1.alloc hb1.size _, Row.alloc rh _, Row.alloc ryr _, Row.alloc r4 _, (fun _ => ⟨eval_put_same ac _ (by rw [hF.size, hsz]; decide), hsm, by rw [getD_set _ _ _ (by decide), if_neg hns]; exact Row.new' rfl rfl⟩), (fun _ => getD_same (by rw [hl]; decide))⟩)
        · have hk3 := hk
          have hal := ready_dep hk 12 (by kernel_rfl)
          obtain ⟨e1, m1, y2⟩ := al12 hal
          rw [if_neg (not_yet hk)] at y2
          have T := y2.there 0 Y5.toArray.size (by simpa using HYL.out)
          have fin := y2.over (vs := Y5) HYE.out
          have hT : Fp D a0 listed ac (W.setCells b 0 Y5) := hF.turn (by rw [hD]; simp only [List.forall_mem_cons, List.not_mem_nil, false_implies, implies_true, and_true]; exact ⟨fun _ h => h, fun _ h => h, fun _ h => h, fun _ h => h, fun _ h => h, fun _ h => h, fun _ h => h, fun _ h => h, fun _ h => h, fun _ h => h, fun _ h => h, fun _ h => h, fun _ h => h, fun _ h => h⟩)
          exact wpOp_plain rfl rfl (wp_store_mid tYr (.tmp 7) (.tmp 57) rfl b 0 Y5.toArray e1 (hF.done 11 (57, SP.is (.agg Y5.toArray)) (by rw [hD]; rfl) (ready_dep hk 11 (by kernel_rfl))) T HIY.out HYO.out ⟨b, hl2 13, (hT.skip 13 1000 (by rw [hD]; rfl) (by rw [hl]; decide)), below_setCells hb1 (by omega) _, Row.setCells_other rh _ _ _ (by omega), Row.setCells_other ryr _ _ _ (by omega), Row.setCells_other r4 _ _ _ (by omega), (fun _ => ⟨e1, m1, by rw [if_pos (getD_same (by rw [hl]; decide))]; exact fin⟩), (fun _ => by rw [getD_set _ _ _ (by decide)]; exact hal)⟩)
      · clear hb1 rh ryr r4 
        intro listed ac W hI hr
        obtain ⟨b, hl, hF, hb1, rh, ryr, r4, al12, as12⟩ := hI
        have hall := all_listed (by kernel_rfl) hl hr
        obtain ⟨ea7, m7, p7⟩ := al12 (hall 12 (by decide))
        rw [if_pos (hall 13 (by decide))] at p7
        have h46 : ac.eval (.tmp 46) = .pointer (some ⟨hb, 0, none⟩) := hF.done 0 (46, SP.is (.pointer (some ⟨hb, 0, none⟩))) (by rw [hD]; rfl) (hall 0 (by decide))
        have h47 : ac.eval (.tmp 47) = .pointer (some ⟨hb, 0, none⟩) := hF.done 1 (47, SP.is (.pointer (some ⟨hb, 0, none⟩))) (by rw [hD]; rfl) (hall 1 (by decide))
        have h48 : ac.eval (.tmp 48) = .pointer (some ⟨hb, 0, none⟩) := hF.done 2 (48, SP.is (.pointer (some ⟨hb, 0, none⟩))) (by rw [hD]; rfl) (hall 2 (by decide))
        have h49 : ac.eval (.tmp 49) = .slice (some ⟨gr, ro, none⟩) R cr := hF.done 3 (49, SP.is (.slice (some ⟨gr, ro, none⟩) R cr)) (by rw [hD]; rfl) (hall 3 (by decide))
        have h50 : ac.eval (.tmp 50) = .pointer (some ⟨hb, 0, none⟩) := hF.done 4 (50, SP.is (.pointer (some ⟨hb, 0, none⟩))) (by rw [hD]; rfl) (hall 4 (by decide))
        have h51 : ac.eval (.tmp 51) = .pointer (some ⟨hb, 0, none⟩) := hF.done 5 (51, SP.is (.pointer (some ⟨hb, 0, none⟩))) (by rw [hD]; rfl) (hall 5 (by decide))
        have h52 : ac.eval (.tmp 52) = .pointer (some ⟨hb, 1, none⟩) := hF.done 6 (52, SP.is (.pointer (some ⟨hb, 1, none⟩))) (by rw [hD]; rfl) (hall 6 (by decide))
        have h53 : ac.eval (.tmp 53) = .slice A7 (n + 1) c7 := hF.done 7 (53, SP.is (.slice A7 (n + 1) c7)) (by rw [hD]; rfl) (hall 7 (by decide))
        have h54 : ac.eval (.tmp 54) = .int .i64 ((n + 1 : Nat) : Int) := hF.done 8 (54, SP.is (.int .i64 ((n + 1 : Nat) : Int))) (by rw [hD]; rfl) (hall 8 (by decide))
        have h55 : ac.eval (.tmp 55) = .int .i64 (n : Int) := hF.done 9 (55, SP.is (.int .i64 (n : Int))) (by rw [hD]; rfl) (hall 9 (by decide))
        have h56 : ac.eval (.tmp 56) = .pointer (some ⟨gr, ro + n * 5, none⟩) := hF.done 10 (56, SP.is (.pointer (some ⟨gr, ro + n * 5, none⟩))) (by rw [hD]; rfl) (hall 10 (by decide))
        have h57 : ac.eval (.tmp 57) = .agg Y5.toArray := hF.done 11 (57, SP.is (.agg Y5.toArray)) (by rw [hD]; rfl) (hall 11 (by decide))
        have ea := hF.lay [(46, .pointer (some ⟨hb, 0, none⟩)), (47, .pointer (some ⟨hb, 0, none⟩)), (48, .pointer (some ⟨hb, 0, none⟩)), (49, .slice (some ⟨gr, ro, none⟩) R cr), (50, .pointer (some ⟨hb, 0, none⟩)), (51, .pointer (some ⟨hb, 0, none⟩)), (52, .pointer (some ⟨hb, 1, none⟩)), (53, .slice A7 (n + 1) c7), (54, .int .i64 ((n + 1 : Nat) : Int)), (55, .int .i64 (n : Int)), (56, .pointer (some ⟨gr, ro + n * 5, none⟩)), (57, .agg Y5.toArray), (7, .pointer (some ⟨b, 0, none⟩))] (by rw [hD, hsz]; rfl) (by simp only [List.forall_mem_cons, List.not_mem_nil, false_implies, implies_true, and_true]; exact ⟨h46, h47, h48, h49, h50, h51, h52, h53, h54, h55, h56, h57, ea7⟩)
        rw [ha0] at ea
        simp only [List.foldl_cons, List.foldl_nil, List.setIfInBounds_toArray, List.set_cons_zero, List.set_cons_succ] at ea
        clear hF hall hr hl hD al12 as12 zs0 ha0 hsz h46 h47 h48 h49 h50 h51 h52 h53 h54 h55 h56 h57 ea7
        subst ea
        have hpv : ∃ a0 a1 a2 a3 : Int, wq p.1 = [.int .u64 a0, .int .u64 a1, .int .u64 a2, .int .u64 a3] := ⟨_, _, _, _, wq_cells p.1⟩
        obtain ⟨a0, a1, a2, a3, hwq⟩ := hpv
        have hY : Y5 = [.int .u64 a0, .int .u64 a1, .int .u64 a2, .int .u64 a3, .int .i64 E] := by rw [HY5.out]; unfold ry; rw [hwq, HGD.out.2]; rfl
        have HLQ : Hid (LV = [.int .u64 a0, .int .u64 a1, .int .u64 a2, .int .u64 a3]) := by rw [HGD.out.1]; exact hwq
        rw [hY] at p7
        have R4W : Hid (Row W b4 zW 27) := r4
        have BW : Hid (Below Z.heap.size Z W) := hb1
        have u0 := p7.cell 0 _ rfl
        have u1 := p7.cell 1 _ rfl
        have u2 := p7.cell 2 _ rfl
        have u3 := p7.cell 3 _ rfl
        have u4 := p7.cell 4 _ rfl
        have v0 := r4.cell 0 _ rfl
        have f0 := r4.thaw 0
        have v1 := r4.cell 1 _ rfl
        have f1 := r4.thaw 1
        have v2 := r4.cell 2 _ rfl
        have f2 := r4.thaw 2
        have v3 := r4.cell 3 _ rfl
        have f3 := r4.thaw 3
        have nb : b4 ≠ b := by omega
        have nb' : b ≠ b4 := by omega
        clear hb1 rh ryr r4 p7 m7 hT0 l4 lh lg hY hwq
        go_wp2_with fail
        go_region
        all_goals
          have RF := (((R4W.out.set 0 (.int .u64 a0)).set 1 (.int .u64 a1)).set 2 (.int .u64 a2)).set 3 (.int .u64 a3)
          have GF : Gro (· = b4) W _ := ((((Gro.refl (· = b4) W).set b4 0 (.int .u64 a0) rfl).set b4 1 (.int .u64 a1) rfl).set b4 2 (.int .u64 a2) rfl).set b4 3 (.int .u64 a3) rfl
          have RFD := RF.drew
          have GFD := gro_drew GF
          have kh : Kh Z _ := fun bb cs t ht r => GFD.row (Row.below r BW.out r.lt) (fun e => by
            have hne : t ≠ 27 := by rcases ht with h | h | h | h <;> rw [h] <;> decide
            exact row_ne2 r R4Z.out hne e)
          have HF := HHZ.out.kh kh
          have GX := (HGZ.out.below BW.out).then GFD (fun g e => .inr (by rw [e]; exact HB4.out))
          clear u0 u1 u2 u3 u4 v0 v1 v2 v3 f0 f1 f2 f3
          go_wp2_with fail
          exact bodyPost_ret (results_row_tmp Try.results109 _ _ b4 27 [.int .u64 a0, .int .u64 a1, .int .u64 a2, .int .u64 a3] (.int .i64 E) rfl rfl RFD Try.underlying27 info_w4 rfl) rfl ⟨.slice A7 (n + 1) c7, by rw [HLQ.out], HF, GX, HNW.out⟩
    · have hgd : rs.getD n (0, 0) = (0, 0) := by rw [List.getD_eq_getElem?_getD, List.getElem?_eq_none (by omega)]; rfl
      have HGD : Hid (LV = zW ∧ E = 0) := by have := HLV.out; rw [hgd] at this; exact ⟨this.1.trans wq_zero, this.2⟩
      obtain ⟨Ar, R, cr, hrv, hR⟩ : ∃ A R c, rv = .slice A R c ∧ R = rs.length := by
        rcases HHS.out.rp with ⟨h1, A, c, h2⟩ | ⟨g, o, c, cs, h1, _⟩
        · exact ⟨A, 0, c, h2, by rw [h1]; rfl⟩
        · exact ⟨_, _, c, h1, rfl⟩
      subst hrv
      have d0 : X.cell? ⟨hb, 0, none⟩ = some (.slice Ar R cr) := HHS.out.row.cell 0 _ rfl
      have d1 : X.cell? ⟨hb, 1, none⟩ = some (.slice A7 (n + 1) c7) := HHS.out.row.cell 1 _ rfl
      have hle : ¬ ((n + 1 : Nat) : Int) ≤ (R : Int) := by omega
      clear hgd hR hlt
      go_upto_region 5 with fail
      go_quiet (fail)
      clear d0 d1
      obtain ⟨Z, hZ⟩ : ∃ Z, Z = X.drewN nq := ⟨_, rfl⟩
      rw [← hZ]
      have kz : Below X.heap.size X Z := by rw [hZ]; exact below_drewN (Below.refl _ _) nq
      have HGZ : Hid (Gro (Hq hb (.slice Aq n cq)) w Z) := HGR.out.below kz
      have HHZ : Hid (Hst Z hb (.slice Ar R cr) (.slice A7 (n + 1) c7) iv rs (qs ++ [q]) inn) := HHS.out.below kz
      have R4Z : Hid (Row Z b4 zW 27) := Row.below R4.out kz R4.out.lt
      clear hZ kz HGR HHS R4
      go_wp2_with (refine wpList_storeL rfl 27 (.tmp 4) (.tmp 62) rfl b4 zW zW 27 rfl rfl R4Z.out rfl info_W (by rw [← Array.all_toList]; rfl) ?_; intro X9 q1 q2; have E9 : Hid (X9 = _) := q1; have R9 : Hid (Row X9 b4 zW 27) := q2; clear q1 q2; simp only [Act.put])
      have GF : Gro (· = b4) Z X9 := by rw [E9.out]; exact gro_setCells b4 _ 0 Z Z (Gro.refl _ Z)
      have kh : Kh Z X9 := fun bb cs t ht r => GF.row r (fun e => by
        have hne : t ≠ 27 := by rcases ht with h | h | h | h <;> rw [h] <;> decide
        exact row_ne2 r R4Z.out hne e)
      have HF := HHZ.out.kh kh
      have GX := HGZ.out.then GF (fun g e => .inr (by rw [e]; exact HB4.out))
      refine bodyPost_ret (results_row_tmp Try.results109 _ _ b4 27 zW (.int .i64 0) rfl rfl R9.out Try.underlying27 info_w4 rfl) rfl ?_
      exact ⟨by rw [HGD.out.1, HGD.out.2], Value.slice A7 (n + 1) c7, HF, GX, HNW.out⟩
theorem nextOK_any (inn : List (BitVec 8)) (hm : inn.length < 9223372036854775808) : NextOK inn := by
  by_cases h : inn = []
  · rw [h]; exact nextOK_nil
  · intro hb rv qv iv rs qs q h1 h2 h3 w H
    refine Calls.mono (next_in h hm hb rv qv iv rs qs q h1 h2 h3 w H) ?_
    rintro e w' ⟨qv', q1, q2⟩
    exact ⟨q1, qv', q2⟩

end Go.Proofs.Ytabcglakdlkdcaa
