/-
  LadderPlays: the walk.
-/
import Derived.Test.YtfdbjcdcfmnicaaLpS
namespace Go.Proofs.Ytfdbjcdcfmnicaa
open Go Go.RowKit
open Sha

theorem Sp16.at_on (s : Sp16) : s.cells[1]? = some (.int .i64 s.on) := rfl
/-- What stands from step to step. -/
structure Wk (w0 w : World) (q t : Nat) : Prop where
  ex : ∃ (B : Int) (Ls : List (Nat × Value × La)) (Es : List (Value × La)) (T : Value) (ts : List (Value × Nat)), Pl w0 w q B Ls Es T ts ∧ Ms Ls Es ∧ 0 ≤ B ∧ B ≤ (t : Int) ∧ ts.length ≤ 3 * t
set_option maxRecDepth 100000 in
set_option maxHeartbeats 16000000 in
theorem plays16_walk (c : Cm) (hc : c.Wf) (win : Int) (rs : List Sp16) (hon : ∀ s ∈ rs, B64 s.on ∧ B64 s.«to») (A : Option Addr) (n cap : Nat) (hn : rs.length = n) (hn2 : n * 168 ≤ 140737488351232) (M : List Value) (hM : M = scr c win (.slice A n cap)) (w : World) (hss : SsAt w A rs) : Calls Try.prog 4 #[.agg M.toArray] w fun e w' => e = .returned (.bool true) ∧ Below w.heap.size w w' := by
  obtain ⟨Lc, hLc⟩ : ∃ M, M = c.cells := ⟨_, rfl⟩
  have HIC : Hid ((Try.prog.info? tC).map (·.size) = some Lc.length) := by show _ = _; rw [hLc]; exact Cm.info hc
  have HM66 : Hid (M[66]? = some (.int .i64 win)) := by show _ = _; rw [hM]; exact scr_66 hc _ _
  have HM67 : Hid (M[67]? = some (.slice A n cap)) := by show _ = _; rw [hM]; exact scr_67 hc _ _
  have HMC : Hid (∀ j u, Lc[j]? = some u → M[0 + j]? = some u) := fun j u hj => by rw [hM]; rw [hLc] at hj; exact scr_c c _ _ j u hj
  have HSS : Hid (SsAt w A rs) := hss
  have HNR : Hid (rs.length = n) := hn
  have HON : Hid (∀ s ∈ rs, B64 s.on ∧ B64 s.«to») := hon
  have HN2 : Hid (n ≤ 837723144948) := by show _ ≤ _; omega
  by_cases hE : newE c win = 0
  case neg =>
    have HBG : Hid (∀ X, Calls Try.prog 15 #[.agg Lc.toArray, .int .i64 win] X fun r w' => ∃ q cs, r = .returned (.pointer (some ⟨q, 0, none⟩)) ∧ Row w' q cs tPr ∧ cs[0]? = some (.pointer none) ∧ Below X.heap.size X w') := fun X => begun_no c hc win Lc hLc hE X
    clear hE hc hM hss hn hLc hon hn2
    go_enter Try.func4, Try.ntmps4
    go_wp2_with (first
        | (refine wpList_bxG 37 rfl (.tmp 0) rfl M rfl ?_; intro X0 q1 q2 q3; clear q3; have H0 : Hid (Row X0 w.heap.size M 37 ∧ Below w.heap.size w X0) := ⟨q1, q2⟩; clear q1 q2; simp only [Act.put, List.setIfInBounds_toArray, List.set_cons_zero, List.set_cons_succ])
        | (go_at_call 9; refine Calls.mono (awake_any _) ?_; rintro e X1 ⟨rfl, q⟩; have HR1 : Hid (Row X1 w.heap.size M 37) := Row.below H0.out.1 q H0.out.1.lt; have HB1 : Hid (Below w.heap.size w X1) := H0.out.2.trans (q.mono H0.out.2.size); have c66 : X1.cell? ⟨w.heap.size, 66, none⟩ = some (.int .i64 win) := HR1.out.cell 66 _ HM66.out; clear q)
        | (refine wpList_ldS rfl tC (.tmp 12) rfl w.heap.size 0 rfl Lc _ (HR1.out.range 0 _ HMC.out) Try.underlying25 rfl HIC.out ?_; simp only [Act.put, List.setIfInBounds_toArray, List.set_cons_zero, List.set_cons_succ])
        | (go_at_call 15; refine Calls.mono (HBG.out _) ?_; rintro e X2 ⟨q, cs, rfl, q1, q2, q3⟩; have B3 : Hid (Below w.heap.size w X2) := HB1.out.trans (q3.mono HB1.out.size); have cp0 : X2.cell? ⟨q, 0, none⟩ = some (.pointer none) := q1.cell 0 _ q2; clear q1 q2 q3))
    go_ret
    exact ⟨rfl, B3.out⟩
  case pos =>
  have HBG : Hid (∀ X, Calls Try.prog 15 #[.agg Lc.toArray, .int .i64 win] X fun r w' => ∃ q Ls Es, r = .returned (.pointer (some ⟨q, 0, none⟩)) ∧ Pl X w' q 0 Ls Es (.slice none 0 0) [] ∧ Ms Ls Es) := fun X => begun_ok c hc win Lc hLc hE X
  clear hE hc hM hss hn hLc hon hn2
  go_enter Try.func4, Try.ntmps4
  go_wp2_with (first
        | (refine wpList_bxG 37 rfl (.tmp 0) rfl M rfl ?_; intro X0 q1 q2 q3; clear q3; have H0 : Hid (Row X0 w.heap.size M 37 ∧ Below w.heap.size w X0) := ⟨q1, q2⟩; clear q1 q2; simp only [Act.put, List.setIfInBounds_toArray, List.set_cons_zero, List.set_cons_succ])
        | (go_at_call 9; refine Calls.mono (awake_any _) ?_; rintro e X1 ⟨rfl, q⟩; have HR1 : Hid (Row X1 w.heap.size M 37) := Row.below H0.out.1 q H0.out.1.lt; have HB1 : Hid (Below w.heap.size w X1) := H0.out.2.trans (q.mono H0.out.2.size); have c66 : X1.cell? ⟨w.heap.size, 66, none⟩ = some (.int .i64 win) := HR1.out.cell 66 _ HM66.out; clear q)
        | (refine wpList_ldS rfl tC (.tmp 12) rfl w.heap.size 0 rfl Lc _ (HR1.out.range 0 _ HMC.out) Try.underlying25 rfl HIC.out ?_; simp only [Act.put, List.setIfInBounds_toArray, List.set_cons_zero, List.set_cons_succ])
        | (go_at_call 15; refine Calls.mono (HBG.out _) ?_; rintro e X2 ⟨q, Ls0, Es0, rfl, q1, q2⟩; have HP2 : Hid (Pl X1 X2 q 0 Ls0 Es0 (.slice none 0 0) []) := q1; have HMS : Hid (Ms Ls0 Es0) := q2; obtain ⟨p0, v0, st0, e0, q3, q4⟩ := q2 0 (by decide); have cp0 : X2.cell? ⟨q, 0, none⟩ = some (.pointer (some ⟨p0, 0, none⟩)) := q1.row.cell 0 _ (prc_p (by { rw [List.getElem?_map, q3]; rfl })); have c67 : X2.cell? ⟨w.heap.size, 67, none⟩ = some (.slice A n cap) := (Row.below HR1.out q1.be HR1.out.lt).cell 67 _ HM67.out; clear q1 q2 q3 q4))
  clear HBG HMC HIC HM66 H0 c66 cp0
  obtain ⟨b1, hb1⟩ : ∃ b, b = w.heap.size := ⟨_, rfl⟩
  rw [← hb1] at HR1 c67 ⊢
  have HW0 : Hid (Wk X1 X2 q 0) := ⟨0, _, _, _, [], HP2.out, HMS.out, Int.le_refl _, Int.le_refl _, Nat.le_refl _⟩
  clear hb1 HP2 HMS
  go_loopw [5] (fun i wr => ∃ t : Nat, t ≤ n ∧ i = .int .i64 (t : Int) ∧ Hid (Wk X1 wr q t)) (fun i _ => n - (intOf i).toNat)
  case atStart => exact ⟨0, Nat.zero_le _, rfl, HW0⟩
  case round =>
    clear HW0 c67
    obtain ⟨t, ht, rfl, HW⟩ := hrel
    obtain ⟨B, Ls, Es, T, ts, hP, hMs, hB0, hBt, hts⟩ := HW.out.ex
    have HP : Hid (Pl X1 wr q B Ls Es T ts) := hP
    have HMS : Hid (Ms Ls Es) := hMs
    have HB0 : Hid (0 ≤ B) := hB0
    have HBT : Hid (B ≤ (t : Int)) := hBt
    have HTS : Hid (ts.length ≤ 3 * t) := hts
    clear hP hMs hB0 hBt hts HW
    have c67 : wr.cell? ⟨b1, 67, none⟩ = some (.slice A n cap) := (Row.below HR1.out HP.out.be HR1.out.lt).cell 67 _ HM67.out
    by_cases hlt : t < n
    · have hlt2 : (t : Int) < (n : Int) := by omega
      obtain ⟨x, hx⟩ : ∃ x, rs[t]? = some x := ⟨_, List.getElem?_eq_getElem (by rw [HNR.out]; exact hlt)⟩
      obtain ⟨hxo, b, o, rfl, hrg⟩ := HSS.out.get (HB1.out.trans (HP.out.be.mono HB1.out.size)) hx
      have HXO : Hid x.Ok := hxo
      have HXB : Hid (B64 x.on ∧ B64 x.«to») := HON.out x (List.mem_of_getElem? hx)
      have HXI : Hid ((Try.prog.info? 53).map (·.size) = some x.cells.length) := Sp16.info hxo
      have HRG : Hid (∀ W, Below X1.heap.size X1 W → W.rangeAt b (o + t * 94) x.cells) := fun W k => by
        obtain ⟨_, b', o', e, r⟩ := HSS.out.get (HB1.out.trans (k.mono HB1.out.size)) hx
        obtain ⟨rfl, rfl⟩ : b' = b ∧ o' = o := by simpa using e.symm
        exact r
      have con : wr.cell? ⟨b, o + t * 94 + 1, none⟩ = some (.int .i64 x.on) := hrg 1 _ (Sp16.at_on x)
      obtain ⟨k, hk⟩ : ∃ k, k = pk x.on 3 := ⟨_, rfl⟩
      have HK3 : Hid (k < 3) := by show _ < _; rw [hk]; exact pk_lt x.on 3 (by decide)
      have HPK : Hid (∀ W, Calls Try.prog 16 #[.int .i64 x.on, .int .i64 3] W fun e w' => e = .returned (.int .i64 (k : Int)) ∧ w' = W) := fun W => by rw [hk]; exact pick_any x.on 3 HXB.out.1 (by decide) (by decide) W
      obtain ⟨S, hS⟩ : ∃ S, S = x.cells := ⟨_, rfl⟩
      rw [← hS] at HXI HRG
      have HTN : Hid (∀ W, Pl X1 W q B Ls Es T ts → Calls Try.prog 17 #[.pointer (some ⟨q, 0, none⟩), .int .i64 (k : Int), .agg S.toArray] W fun r w' => r = .returned (.bool true) ∧ ∃ Ls' Es' T' ts', Pl X1 w' q (B + 1) Ls' Es' T' ts' ∧ Ms Ls' Es' ∧ ts'.length ≤ ts.length + 1) := fun W hP => turn_all hP HMS.out HB0.out (by have := HBT.out; have := HN2.out; omega) (by have := HTS.out; have := HN2.out; omega) HK3.out x HXO.out S hS
      have HLK : Hid (∀ W Ls' Es' T' ts', Pl X1 W q (B + 1) Ls' Es' T' ts' → Ms Ls' Es' → ts'.length ≤ ts.length + 1 → Calls Try.prog 18 #[.pointer (some ⟨q, 0, none⟩), .int .i64 (k : Int), .agg S.toArray] W fun r w' => r = .returned (.bool true) ∧ ∃ Ls2 Es2 T2 ts2, Pl X1 w' q (B + 1) Ls2 Es2 T2 ts2 ∧ Ms Ls2 Es2 ∧ ts2.length ≤ ts'.length + 2) := fun W Ls' Es' T' ts' hP hM hl => look_all hP hM (by have := HB0.out; omega) (by have := HTS.out; have := HN2.out; omega) HK3.out x HXO.out HXB.out.2 S hS
      have htn : t < n := hlt
      have hn9 : n ≤ 837723144948 := HN2.out
      clear hx hxo hrg hk hS hlt ht
      go_upto_region 11 with (first
        | (refine wpList_ixL 35 53 (.tmp 37) (.tmp 38) rfl b o n cap t 94 rfl rfl htn Try.underlying35 info_St rfl ?_; simp only [Act.put, List.setIfInBounds_toArray, List.set_cons_zero, List.set_cons_succ])
        | (go_at_call 16; refine Calls.mono (HPK.out _) ?_; rintro r Y0 ⟨rfl, q2⟩; subst q2))
      clear con HPK
      go_upto_region 12 with (first
        | (refine wpList_ixL 35 53 (.tmp 46) (.tmp 47) rfl b o n cap t 94 rfl rfl htn Try.underlying35 info_St rfl ?_; simp only [Act.put, List.setIfInBounds_toArray, List.set_cons_zero, List.set_cons_succ])
        | (refine wpList_ldS rfl 53 (.tmp 48) rfl b (o + t * 94) rfl S _ (HRG.out _ HP.out.be) Try.underlying53 rfl HXI.out ?_; simp only [Act.put, List.setIfInBounds_toArray, List.set_cons_zero, List.set_cons_succ])
        | (go_at_call 17; refine Calls.mono (HTN.out _ HP.out) ?_; rintro r Y1 ⟨rfl, Ls1, Es1, T1, ts1, q1, q2, q3⟩; have HPT : Hid (Pl X1 Y1 q (B + 1) Ls1 Es1 T1 ts1) := q1; have HMT : Hid (Ms Ls1 Es1) := q2; have HLT : Hid (ts1.length ≤ ts.length + 1) := q3; clear q1 q2 q3))
      clear c67
      have c67 : Y1.cell? ⟨b1, 67, none⟩ = some (.slice (some ⟨b, o, none⟩) n cap) := (Row.below HR1.out HPT.out.be HR1.out.lt).cell 67 _ HM67.out
      go_upto_region 13 with (first
        | (refine wpList_ixL 35 53 (.tmp 54) (.tmp 55) rfl b o n cap t 94 rfl rfl htn Try.underlying35 info_St rfl ?_; simp only [Act.put, List.setIfInBounds_toArray, List.set_cons_zero, List.set_cons_succ])
        | (refine wpList_ldS rfl 53 (.tmp 56) rfl b (o + t * 94) rfl S _ (HRG.out _ HPT.out.be) Try.underlying53 rfl HXI.out ?_; simp only [Act.put, List.setIfInBounds_toArray, List.set_cons_zero, List.set_cons_succ])
        | (go_at_call 18; refine Calls.mono (HLK.out _ _ _ _ _ HPT.out HMT.out HLT.out) ?_; rintro r Y2 ⟨rfl, Ls2, Es2, T2, ts2, q1, q2, q3⟩; have HPU : Hid (Pl X1 Y2 q (B + 1) Ls2 Es2 T2 ts2) := q1; have HMU : Hid (Ms Ls2 Es2) := q2; have HLU : Hid (ts2.length ≤ ts1.length + 2) := q3; clear q1 q2 q3))
      clear c67 HTN HLK HPT
      go_wp2_with fail
      exact ⟨⟨t + 1, by omega, by go_num, ⟨⟨B + 1, _, _, _, _, HPU.out, HMU.out, by have := HB0.out; omega, by have := HBT.out; omega, by have := HTS.out; have := HLT.out; have := HLU.out; omega⟩⟩⟩, by simp [intOf]; omega⟩
    have hlt2 : ¬ ((t : Int) < (n : Int)) := by omega
    obtain ⟨Z, hZ⟩ : ∃ Z, Z = wr := ⟨_, rfl⟩
    subst hZ
    have HTN : Hid (ts.length ≤ 5000000000000) := by show _ ≤ _; have := HTS.out; have := HN2.out; omega
    clear hlt ht HTS HBT
    go_wp2_with fail
    clear hlt2 c67
    go_loopw [9] (fun i wq => ∃ j : Nat, j ≤ 3 ∧ i = .int .i64 (j : Int) ∧ Hid (Pl X1 wq q B Ls Es T ts)) (fun i _ => 3 - (intOf i).toNat)
    case atStart => exact ⟨0, Nat.zero_le _, rfl, HP⟩
    case round =>
      clear HP
      obtain ⟨j, hj, rfl, HQ⟩ := hrel
      by_cases hlt : j < 3
      · have hlt2 : (j : Int) < 3 := by omega
        obtain ⟨p, v, st, e, e1, e2⟩ := HMS.out j hlt
        have HWH : Hid (Calls Try.prog 19 #[.pointer (some ⟨q, 0, none⟩), .int .i64 (j : Int)] wr fun r w' => r = .returned (.bool true) ∧ Pl X1 w' q B Ls Es T ts) := whole_any HQ.out e1 e2
        clear e1 e2 hlt
        go_wp2_with (go_at_call 19; refine Calls.mono HWH.out ?_; rintro r Y3 ⟨rfl, q2⟩; have HQ3 : Hid (Pl X1 Y3 q B Ls Es T ts) := q2; clear q2)
        exact ⟨⟨j + 1, by omega, by go_num, HQ3⟩, by simp [intOf]; omega⟩
      have hlt2 : ¬ ((j : Int) < 3) := by omega
      clear hlt hj
      have HST : Hid (Calls Try.prog 20 #[.pointer (some ⟨q, 0, none⟩)] wr fun e w' => e = .returned (.bool true) ∧ w' = wr) := still_any HQ.out.row (prc_T (by rw [List.length_map]; exact HQ.out.l3) (by rw [List.length_map]; exact HQ.out.e3) HQ.out.d70) HQ.out.tl HTN.out HQ.out.ti
      go_wp2_with (go_at_call 20; refine Calls.mono HST.out ?_; rintro r Y4 ⟨rfl, q2⟩; subst q2)
      go_ret
      exact ⟨rfl, HB1.out.trans (HQ.out.be.mono HB1.out.size)⟩

end Go.Proofs.Ytfdbjcdcfmnicaa
