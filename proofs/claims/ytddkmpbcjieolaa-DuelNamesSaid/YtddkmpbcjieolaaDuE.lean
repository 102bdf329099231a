/-
  the duel: Open, where it opens; the law's alive.
-/
import Derived.Test.YtddkmpbcjieolaaDuD
namespace Go.Proofs.Ytddkmpbcjieolaa
open Go Go.RowKit
open Sha

def Du0 (nr : Int) (low high : Cm) (ch df : List (BitVec 8)) (turn : Int) : Du := ⟨nr, ch, df, 0, low, high, zC, 0, 0, turn, 0, .nilFunc⟩
set_option maxRecDepth 100000 in
set_option maxHeartbeats 4000000 in
theorem open_ok (nr : Int) (low high : Cm) (hl : low.Wf) (hh : high.Wf) (ch df : List (BitVec 8)) (lc : ch.length = 20) (ld : df.length = 20) (turn now : Int) (L1 L2 : List Value) (e1 : L1 = low.cells) (e2 : L2 = high.cells)
    (n0 : 1 ≤ nr) (n1 : nr ≤ 1099511627776) (t0 : 1 ≤ turn) (t1 : turn ≤ 1099511627776) (a0 : 0 ≤ low.n) (a1 : low.n ≤ 1099511627776) (b0 : 0 ≤ high.n) (b1 : high.n ≤ 1099511627776) (s0 : 2 ≤ high.n - low.n) (s1 : high.n - low.n ≤ 1024) (hne : ch ≠ df) (m0 : 0 ≤ now) (m1 : now ≤ 4611686018427387904)
    (V D0 : List Value) (hV : Try.prog.built tDv [(0, .int .i64 nr), (1, .agg (vB ch).toArray), (2, .agg (vB df).toArray), (4, .agg L1.toArray), (5, .agg L2.toArray)] = some V.toArray)
    (hD : Try.prog.built tDl [(1, .int .i64 turn), (0, .agg V.toArray)] = some D0.toArray) (hDD : D0 = (Du0 nr low high ch df turn).cells) (d' : Du) (hd : d' = (Du0 nr low high ch df turn).awaits 1 lapW now) (w : World) :
    Calls Try.prog 5 #[.int .i64 nr, .agg L1.toArray, .agg L2.toArray, .agg (vB ch).toArray, .agg (vB df).toArray, .int .i64 turn, .int .i64 now] w fun e w' => ∃ p, e = .returned (.tuple #[.pointer (some ⟨p, 0, none⟩), .int .i64 0]) ∧ Dm w' p d' ∧ w.heap.size ≤ p ∧ Below w.heap.size w w' := by
  have HI1 : Hid ((Try.prog.info? tC).map (·.size) = some L1.length) := by show _ = _; rw [e1]; exact Cm.info hl
  have HI2 : Hid ((Try.prog.info? tC).map (·.size) = some L2.length) := by show _ = _; rw [e2]; exact Cm.info hh
  obtain ⟨ln, hln⟩ : ∃ n, n = low.n := ⟨_, rfl⟩
  obtain ⟨hn, hhn⟩ : ∃ n, n = high.n := ⟨_, rfl⟩
  have HC1 : Hid (L1[0]? = some (.int .i64 ln)) := by show _ = _; rw [e1, hln]; rfl
  have HC2 : Hid (L2[0]? = some (.int .i64 hn)) := by show _ = _; rw [e2, hhn]; rfl
  rw [← hln] at a0 a1 s0 s1
  rw [← hhn] at b0 b1 s0 s1
  have HN1 : Hid (∀ w, Calls Try.prog 10 #[.int .i64 ln] w fun e w' => e = .returned (.bool true) ∧ w' = w) := fun w => by rw [show true = isCountB ln by simp [isCountB, a0, a1]]; exact isCount_x ln w
  have HN2 : Hid (∀ w, Calls Try.prog 10 #[.int .i64 hn] w fun e w' => e = .returned (.bool true) ∧ w' = w) := fun w => by rw [show true = isCountB hn by simp [isCountB, b0, b1]]; exact isCount_x hn w
  have HN3 : Hid (∀ w, Calls Try.prog 11 #[.int .i64 (hn - ln)] w fun e w' => e = .returned (.bool true) ∧ w' = w) := fun w => by rw [show true = isSpanB (hn - ln) by simp [isSpanB, s0, s1]]; exact isSpan_x _ w
  have HN4 : Hid (∀ w, Calls Try.prog 12 #[.int .i64 now] w fun e w' => e = .returned (.bool true) ∧ w' = w) := fun w => by rw [show true = isTmB now by simp [isTmB, m0, m1]]; exact isTm_x now w
  have HNE : Hid (decide (ch = df) = false) := decide_eq_false hne
  have HLC : Hid (ch.length = 20) := lc
  have HLD : Hid (df.length = 20) := ld
  have HBV : Hid (Try.prog.built tDv [(0, .int .i64 nr), (1, .agg (vB ch).toArray), (2, .agg (vB df).toArray), (4, .agg L1.toArray), (5, .agg L2.toArray)] = some V.toArray) := hV
  have HBD : Hid (Try.prog.built tDl [(1, .int .i64 turn), (0, .agg V.toArray)] = some D0.toArray) := hD
  have HDM : Hid (∀ X p, Row X p D0 tDl → Dm X p (Du0 nr low high ch df turn)) := fun X p r => ⟨by rw [← hDD]; exact r, ⟨lc, ld, hl, hh, zC_wf, rfl⟩⟩
  have HAW : Hid (∀ X p, Dm X p (Du0 nr low high ch df turn) → Calls Try.prog 13 #[.pointer (some ⟨p, 0, none⟩), .int .i64 1, lapW, .int .i64 now] X fun e w' => e = .returned (.tuple #[]) ∧ Dt X w' p d') := fun X p k => await_any k 1 lapW rfl rfl now m0 m1 (by show 0 ≤ turn; omega) t1 d' hd
  clear hl hh e1 e2 hln hhn hne lc ld hV hD hDD hd
  go_enter Try.func5, Try.ntmps5
  go_wp2_with (first
    | (refine wpList_bxG tC rfl (.tmp 1) rfl L1 rfl ?_; intro X1 q1 q2 q3; have R1 : Hid (Row X1 w.heap.size L1 tC) := q1; have B1 : Hid (Below w.heap.size w X1) := q2; clear q1 q2 q3; simp only [Act.put, List.setIfInBounds_toArray, List.set_cons_zero, List.set_cons_succ])
    | (refine wpList_bxG tC rfl (.tmp 2) rfl L2 rfl ?_; intro X2 q1 q2 q3; have R2 : Hid (Row X2 X1.heap.size L2 tC) := q1; have B2 : Hid (Below w.heap.size w X2) := B1.out.trans (q2.mono B1.out.size); have R1b : Hid (Row X2 w.heap.size L1 tC) := Row.below R1.out q2 R1.out.lt; clear q1 q2 q3; simp only [Act.put, List.setIfInBounds_toArray, List.set_cons_zero, List.set_cons_succ])
    | (refine wpList_bxG tAd rfl (.tmp 3) rfl (vB ch) rfl ?_; intro X3 q1 q2 q3; have R3 : Hid (Row X3 X2.heap.size (vB ch) tAd) := q1; have B3 : Hid (Below w.heap.size w X3) := B2.out.trans (q2.mono B2.out.size); have R1c : Hid (Row X3 w.heap.size L1 tC) := Row.below R1b.out q2 R1b.out.lt; have R2c : Hid (Row X3 X1.heap.size L2 tC) := Row.below R2.out q2 R2.out.lt; clear q1 q2 q3; simp only [Act.put, List.setIfInBounds_toArray, List.set_cons_zero, List.set_cons_succ])
    | (refine wpList_bxG tAd rfl (.tmp 4) rfl (vB df) rfl ?_; intro X4 q1 q2 q3; have R4 : Hid (Row X4 X3.heap.size (vB df) tAd) := q1; have B4 : Hid (Below w.heap.size w X4) := B3.out.trans (q2.mono B3.out.size); have S1 : Hid (Row X4 w.heap.size L1 tC) := Row.below R1c.out q2 R1c.out.lt; have S2 : Hid (Row X4 X1.heap.size L2 tC) := Row.below R2c.out q2 R2c.out.lt; have S3 : Hid (Row X4 X2.heap.size (vB ch) tAd) := Row.below R3.out q2 R3.out.lt; have S4 : Hid (Row X4 X3.heap.size (vB df) tAd) := q1; have k1 := S1.out.cell 0 _ HC1.out; have k2 := S2.out.cell 0 _ HC2.out; clear q1 q2 q3; simp only [Act.put, List.setIfInBounds_toArray, List.set_cons_zero, List.set_cons_succ])
    | (go_at_call 10; refine Calls.mono (HN1.out _) ?_; rintro e X4 ⟨rfl, rfl⟩)
    | (go_at_call 10; refine Calls.mono (HN2.out _) ?_; rintro e X4 ⟨rfl, rfl⟩)
    | (go_at_call 11; refine Calls.mono (HN3.out _) ?_; rintro e X4 ⟨rfl, rfl⟩)
    | (go_at_call 12; refine Calls.mono (HN4.out _) ?_; rintro e X4 ⟨rfl, rfl⟩)
    | (refine wpList_ldS rfl tAd (.tmp 10) rfl X2.heap.size 0 rfl (vB ch) _ S3.out.all Try.underlying24 rfl (info_vA HLC.out) ?_; simp only [Act.put, List.setIfInBounds_toArray, List.set_cons_zero, List.set_cons_succ])
    | (refine wpList_ldS rfl tAd (.tmp 11) rfl X3.heap.size 0 rfl (vB df) _ S4.out.all Try.underlying24 rfl (info_vA HLD.out) ?_; simp only [Act.put, List.setIfInBounds_toArray, List.set_cons_zero, List.set_cons_succ])
    | (refine wpList_ldS rfl tC (.tmp 8) rfl w.heap.size 0 rfl L1 _ S1.out.all Try.underlying32 rfl HI1.out ?_; simp only [Act.put, List.setIfInBounds_toArray, List.set_cons_zero, List.set_cons_succ])
    | (refine wpList_ldS rfl tC (.tmp 9) rfl X1.heap.size 0 rfl L2 _ S2.out.all Try.underlying32 rfl HI2.out ?_; simp only [Act.put, List.setIfInBounds_toArray, List.set_cons_zero, List.set_cons_succ])
    | (refine wpList_eqAd rfl (.tmp 52) (.tmp 53) _ rfl ch df HLC.out HLD.out rfl rfl false HNE.out ?_; simp only [Act.put, List.setIfInBounds_toArray, List.set_cons_zero, List.set_cons_succ])
    | (refine wpList_blt rfl tDv _ rfl [(0, .int .i64 nr), (1, .agg (vB ch).toArray), (2, .agg (vB df).toArray), (4, .agg L1.toArray), (5, .agg L2.toArray)] rfl V HBV.out ?_; simp only [Act.put, List.setIfInBounds_toArray, List.set_cons_zero, List.set_cons_succ])
    | (refine wpList_blt rfl tDl _ rfl [(1, .int .i64 turn), (0, .agg V.toArray)] rfl D0 HBD.out ?_; simp only [Act.put, List.setIfInBounds_toArray, List.set_cons_zero, List.set_cons_succ])
    | (refine wpList_bxG tDl rfl (.tmp 66) rfl D0 rfl ?_; intro X5 q1 q2 q3; have D5 : Hid (Dm X5 X4.heap.size (Du0 nr low high ch df turn)) := HDM.out _ _ q1; have B5 : Hid (Below X4.heap.size X4 X5) := q2; clear q1 q2 q3; simp only [Act.put, List.setIfInBounds_toArray, List.set_cons_zero, List.set_cons_succ])
    | (go_at_call 13; refine Calls.mono (HAW.out _ _ D5.out) ?_; rintro e X6 ⟨rfl, q⟩; have D6 : Hid (Dm X6 X4.heap.size d') := q.1; have B6 : Hid (Below w.heap.size w X6) := B4.out.trans ((gro_newL B5.out (Nat.le_refl _) q.2).mono B4.out.size); clear q))
  go_ret2
  exact ⟨X4.heap.size, rfl, D6.out, B4.out.size, B6.out⟩
/-! ### the law's alive -/
def cmA : Cm := ⟨4, zD, zD, 0⟩
def cmB : Cm := ⟨9, zD, zD, 0⟩
def cmM : Cm := ⟨6, zD, zD, 3⟩
def adC : List (BitVec 8) := 1#8 :: List.replicate 19 0#8
def adD : List (BitVec 8) := 2#8 :: List.replicate 19 0#8
theorem cmA_wf : cmA.Wf := ⟨by decide, by decide⟩
theorem cmB_wf : cmB.Wf := ⟨by decide, by decide⟩
theorem cmM_wf : cmM.Wf := ⟨by decide, by decide⟩
theorem built_A : Try.prog.built tC [(0, .int .i64 4)] = some cmA.cells.toArray := by kernel_rfl
theorem built_B : Try.prog.built tC [(0, .int .i64 9)] = some cmB.cells.toArray := by kernel_rfl
theorem built_M : Try.prog.built tC [(0, .int .i64 6), (3, .int .i64 3)] = some cmM.cells.toArray := by kernel_rfl
theorem built_aC : Try.prog.built tAd [(0, .int .u8 1)] = some (vB adC).toArray := by kernel_rfl
theorem built_aD : Try.prog.built tAd [(0, .int .u8 2)] = some (vB adD).toArray := by kernel_rfl
def du0 : Du := Du0 1 cmA cmB adC adD 100
theorem built_V : Try.prog.built tDv [(0, .int .i64 1), (1, .agg (vB adC).toArray), (2, .agg (vB adD).toArray), (4, .agg cmA.cells.toArray), (5, .agg cmB.cells.toArray)] = some du0.vw.toArray := by kernel_rfl
theorem built_D : Try.prog.built tDl [(1, .int .i64 100), (0, .agg du0.vw.toArray)] = some du0.cells.toArray := by kernel_rfl
def du1 : Du := du0.awaits 1 lapW 1000
def du2 : Du := du1.splits cmM 1100
def du3 : Du := du2.picksU 1150
def du4 : Du := Du.ends { du3 with last := 1251 } 4
theorem du3_wf : du3.Wf := ⟨by kernel_rfl, by kernel_rfl, ⟨by kernel_rfl, by kernel_rfl⟩, ⟨by kernel_rfl, by kernel_rfl⟩, ⟨by kernel_rfl, by kernel_rfl⟩, rfl⟩
theorem du4_wf : du4.Wf := ⟨by kernel_rfl, by kernel_rfl, ⟨by kernel_rfl, by kernel_rfl⟩, ⟨by kernel_rfl, by kernel_rfl⟩, ⟨by kernel_rfl, by kernel_rfl⟩, rfl⟩
theorem v3_st : du3.vw[41]? = some (.int .i64 1) := by kernel_rfl
theorem v3_un : du3.vw[240]? = some (.int .i64 1250) := by kernel_rfl
theorem v3_rd : du3.vw[241]? = some (.int .i64 1) := by kernel_rfl
theorem v3_lo (j : Nat) (u : Value) (hj : cmM.cells[j]? = some u) : du3.vw[42 + j]? = some u := by
  have e : du3.vw = (du3.vw.take 42) ++ (cmM.cells ++ du3.vw.drop 108) := by kernel_rfl
  rw [e]
  exact in3_get (by kernel_rfl) hj
theorem v4_st : du4.vw[41]? = some (.int .i64 4) := by kernel_rfl
theorem v4_un : du4.vw[240]? = some (.int .i64 0) := by kernel_rfl
set_option maxRecDepth 100000 in
set_option maxHeartbeats 4000000 in
theorem alive_any (w : World) : Calls Try.prog 4 #[] w fun e w' => e = .returned (.bool true) ∧ Below w.heap.size w w' := by
  obtain ⟨LA, hLA⟩ : ∃ L, L = cmA.cells := ⟨_, rfl⟩
  obtain ⟨LB, hLB⟩ : ∃ L, L = cmB.cells := ⟨_, rfl⟩
  obtain ⟨LM, hLM⟩ : ∃ L, L = cmM.cells := ⟨_, rfl⟩
  obtain ⟨ac, hac⟩ : ∃ L, L = adC := ⟨_, rfl⟩
  obtain ⟨ad, had⟩ : ∃ L, L = adD := ⟨_, rfl⟩
  have HBA : Hid (Try.prog.built tC [(0, .int .i64 4)] = some LA.toArray) := by show _ = _; rw [hLA]; exact built_A
  have HBB : Hid (Try.prog.built tC [(0, .int .i64 9)] = some LB.toArray) := by show _ = _; rw [hLB]; exact built_B
  have HBM : Hid (Try.prog.built tC [(0, .int .i64 6), (3, .int .i64 3)] = some LM.toArray) := by show _ = _; rw [hLM]; exact built_M
  have HBC : Hid (Try.prog.built tAd [(0, .int .u8 1)] = some (vB ac).toArray) := by show _ = _; rw [hac]; exact built_aC
  have HBD : Hid (Try.prog.built tAd [(0, .int .u8 2)] = some (vB ad).toArray) := by show _ = _; rw [had]; exact built_aD
  have HLC : Hid (ac.length = 20) := by show _ = _; rw [hac]; rfl
  have HLD : Hid (ad.length = 20) := by show _ = _; rw [had]; rfl
  have HOP : Hid (∀ X, Calls Try.prog 5 #[.int .i64 1, .agg LA.toArray, .agg LB.toArray, .agg (vB ac).toArray, .agg (vB ad).toArray, .int .i64 100, .int .i64 1000] X fun e w' => ∃ p, e = .returned (.tuple #[.pointer (some ⟨p, 0, none⟩), .int .i64 0]) ∧ Dm w' p du1 ∧ X.heap.size ≤ p ∧ Below X.heap.size X w') := fun X => by
    rw [hLA, hLB, hac, had]
    exact open_ok 1 cmA cmB cmA_wf cmB_wf adC adD rfl rfl 100 1000 _ _ rfl rfl (by decide) (by decide) (by decide) (by decide) (by decide) (by decide) (by decide) (by decide) (by decide) (by decide) (by decide) (by decide) (by decide) _ _ built_V built_D rfl du1 rfl X
  have HSP : Hid (∀ X p, Dm X p du1 → Calls Try.prog 6 #[.pointer (some ⟨p, 0, none⟩), .agg (vB ad).toArray, .agg LM.toArray, .int .i64 1100] X fun e w' => e = .returned (.int .i64 0) ∧ Dt X w' p du2) := fun X p h => by
    rw [had]
    exact split_ok h adD cmM cmM_wf LM hLM 1100 (by kernel_rfl) (by decide) rfl rfl (by decide) (by decide) (by decide) (by decide) (by decide) (by decide) (by decide) (by decide) (by decide) du2 rfl
  have HPK : Hid (∀ X p, Dm X p du2 → Calls Try.prog 7 #[.pointer (some ⟨p, 0, none⟩), .agg (vB ac).toArray, .bool true, .int .i64 1150] X fun e w' => e = .returned (.int .i64 0) ∧ Dt X w' p du3) := fun X p h => by
    rw [hac]
    exact pick_up h adC 1150 (by kernel_rfl) (by decide) rfl rfl (by decide) (by decide) (by decide) (by decide) (by decide) (by decide) (by decide) (by decide) (by decide) (by decide) du3 rfl
  have HE1 : Hid (∀ X p, Dm X p du3 → Calls Try.prog 9 #[.pointer (some ⟨p, 0, none⟩), .int .i64 1250] X fun e w' => e = .returned (.int .i64 174) ∧ w' = X) := fun X p h => expire_early h 1250 (by kernel_rfl) (by decide) rfl (by decide)
  have HE2 : Hid (∀ X p, Dm X p du3 → Calls Try.prog 9 #[.pointer (some ⟨p, 0, none⟩), .int .i64 1251] X fun e w' => e = .returned (.int .i64 0) ∧ Dt X w' p du4) := fun X p h => expire_won h 1251 (by kernel_rfl) (by decide) rfl (by decide) du4 rfl
  obtain ⟨V3, hV3⟩ : ∃ V, V = du3.vw := ⟨_, rfl⟩
  obtain ⟨V4, hV4⟩ : ∃ V, V = du4.vw := ⟨_, rfl⟩
  have HV3 : Hid (∀ X p, Dm X p du3 → Calls Try.prog 8 #[.pointer (some ⟨p, 0, none⟩)] X fun e w' => e = .returned (.agg V3.toArray) ∧ Below X.heap.size X w') := fun X p h => by rw [hV3]; exact view_any h
  have HV4 : Hid (∀ X p, Dm X p du4 → Calls Try.prog 8 #[.pointer (some ⟨p, 0, none⟩)] X fun e w' => e = .returned (.agg V4.toArray) ∧ Below X.heap.size X w') := fun X p h => by rw [hV4]; exact view_any h
  have HI3 : Hid ((Try.prog.info? tDv).map (·.size) = some V3.length) := by show _ = _; rw [hV3]; exact Du.vinfo du3_wf
  have HI4 : Hid ((Try.prog.info? tDv).map (·.size) = some V4.length) := by show _ = _; rw [hV4]; exact Du.vinfo du4_wf
  have HL3 : Hid (V3.length = zDu.vw.length) := by show _ = _; rw [hV3]; exact (Du.vlen du3_wf).trans (Du.vlen zDu_wf).symm
  have HL4 : Hid (V4.length = zDu.vw.length) := by show _ = _; rw [hV4]; exact (Du.vlen du4_wf).trans (Du.vlen zDu_wf).symm
  have HO3 : Hid (V3.toArray.all (·.oneCell') = true) := by show _ = _; rw [hV3]; exact all_one (Du.vone _)
  have HO4 : Hid (V4.toArray.all (·.oneCell') = true) := by show _ = _; rw [hV4]; exact all_one (Du.vone _)
  have F3 : Hid (∀ X b, Row X b V3 tDv → X.cell? ⟨b, 41, none⟩ = some (.int .i64 1) ∧ X.cell? ⟨b, 240, none⟩ = some (.int .i64 1250) ∧ X.cell? ⟨b, 241, none⟩ = some (.int .i64 1) ∧ X.rangeAt b 42 LM) := fun X b r => by
    rw [hV3] at r
    rw [hLM]
    exact ⟨r.cell 41 _ v3_st, r.cell 240 _ v3_un, r.cell 241 _ v3_rd, r.range 42 _ v3_lo⟩
  have F4 : Hid (∀ X b, Row X b V4 tDv → X.cell? ⟨b, 41, none⟩ = some (.int .i64 4) ∧ X.cell? ⟨b, 240, none⟩ = some (.int .i64 0)) := fun X b r => by
    rw [hV4] at r
    exact ⟨r.cell 41 _ v4_st, r.cell 240 _ v4_un⟩
  have HIM : Hid ((Try.prog.info? tC).map (·.size) = some LM.length) := by show _ = _; rw [hLM]; exact Cm.info cmM_wf
  have HLM : Hid (LM = cmM.cells) := hLM
  clear hLA hLB hLM hac had hV3 hV4
  go_enter Try.func4, Try.ntmps4
  go_wp2_with (first
    | (refine wpList_blt rfl tAd _ rfl [(0, .int .u8 1)] rfl (vB ac) HBC.out ?_; simp only [Act.put, List.setIfInBounds_toArray, List.set_cons_zero, List.set_cons_succ])
    | (refine wpList_blt rfl tAd _ rfl [(0, .int .u8 2)] rfl (vB ad) HBD.out ?_; simp only [Act.put, List.setIfInBounds_toArray, List.set_cons_zero, List.set_cons_succ])
    | (refine wpList_blt rfl tC _ rfl [(0, .int .i64 4)] rfl LA HBA.out ?_; simp only [Act.put, List.setIfInBounds_toArray, List.set_cons_zero, List.set_cons_succ])
    | (refine wpList_blt rfl tC _ rfl [(0, .int .i64 9)] rfl LB HBB.out ?_; simp only [Act.put, List.setIfInBounds_toArray, List.set_cons_zero, List.set_cons_succ])
    | (refine wpList_blt rfl tC _ rfl [(0, .int .i64 6), (3, .int .i64 3)] rfl LM HBM.out ?_; simp only [Act.put, List.setIfInBounds_toArray, List.set_cons_zero, List.set_cons_succ])
    | (refine wpList_stL rfl tAd (.tmp 1) (.tmp 11) rfl w.heap.size (vB ac) (vB zA) tAd rfl rfl R1.out (by { rw [vB_length, vB_length, HLC.out]; rfl }) (info_vA HLC.out) (all_one (vB_one _)) ?_; intro X2 q1 q2; have R2 : Hid (Row X2 w.heap.size (vB ac) tAd) := q1; have B2 : Hid (Below w.heap.size w X2) := gro_newL B1.out (Nat.le_refl _) q2; clear q1 q2 R1)
    | (refine wpList_stL rfl tAd (.tmp 2) (.tmp 12) rfl X2.heap.size (vB ad) (vB zA) tAd rfl rfl R3.out (by { rw [vB_length, vB_length, HLD.out]; rfl }) (info_vA HLD.out) (all_one (vB_one _)) ?_; intro X4 q1 q2; have q3 : Below X2.heap.size X2 X4 := gro_newL B3.out (Nat.le_refl _) q2; have SC : Hid (Row X4 w.heap.size (vB ac) tAd) := Row.below R2.out q3 R2.out.lt; have SD : Hid (Row X4 X2.heap.size (vB ad) tAd) := q1; have B4 : Hid (Below w.heap.size w X4) := B2.out.trans (q3.mono B2.out.size); clear q1 q2 q3 R2 R3 B2 B3)
    | (refine wpList_ldS rfl tAd (.tmp 1) rfl w.heap.size 0 rfl (vB ac) _ SC.out.all Try.underlying24 rfl (info_vA HLC.out) ?_; simp only [Act.put, List.setIfInBounds_toArray, List.set_cons_zero, List.set_cons_succ])
    | (refine wpList_ldS rfl tAd (.tmp 2) rfl X2.heap.size 0 rfl (vB ad) _ SD.out.all Try.underlying24 rfl (info_vA HLD.out) ?_; simp only [Act.put, List.setIfInBounds_toArray, List.set_cons_zero, List.set_cons_succ])
    | (go_at_call 5; refine Calls.mono (HOP.out _) ?_; rintro e X5 ⟨p, rfl, q1, q2, q3⟩; have D5 : Hid (Dm X5 p du1) := q1; have SC5 : Hid (Row X5 w.heap.size (vB ac) tAd) := Row.below SC.out q3 SC.out.lt; have SD5 : Hid (Row X5 X2.heap.size (vB ad) tAd) := Row.below SD.out q3 SD.out.lt; have B5 : Hid (Below w.heap.size w X5) := B4.out.trans (q3.mono B4.out.size); have NP : Hid (w.heap.size ≠ p ∧ X2.heap.size ≠ p ∧ w.heap.size ≤ p) := ⟨by { have := SC.out.lt; omega }, by { have := SD.out.lt; omega }, by { have := SC.out.lt; omega }⟩; clear q1 q2 q3 SC SD B4 HOP)
    | (refine wpList_ldS rfl tAd (.tmp 2) rfl X2.heap.size 0 rfl (vB ad) _ SD5.out.all Try.underlying24 rfl (info_vA HLD.out) ?_; simp only [Act.put, List.setIfInBounds_toArray, List.set_cons_zero, List.set_cons_succ])
    | (go_at_call 6; refine Calls.mono (HSP.out _ _ D5.out) ?_; rintro e X6 ⟨rfl, q⟩; have D6 : Hid (Dm X6 p du2) := q.1; have SC6 : Hid (Row X6 w.heap.size (vB ac) tAd) := q.2.row SC5.out NP.out.1; have B6 : Hid (Below w.heap.size w X6) := B5.out.trans (q.2.to_below B5.out.size (fun k hk => by { rw [hk]; exact NP.out.2.2 })); clear q SC5 SD5 D5 B5 HSP)
    | (refine wpList_ldS rfl tAd (.tmp 1) rfl w.heap.size 0 rfl (vB ac) _ SC6.out.all Try.underlying24 rfl (info_vA HLC.out) ?_; simp only [Act.put, List.setIfInBounds_toArray, List.set_cons_zero, List.set_cons_succ])
    | (go_at_call 7; refine Calls.mono (HPK.out _ _ D6.out) ?_; rintro e X7 ⟨rfl, q⟩; have D7 : Hid (Dm X7 p du3) := q.1; have B7 : Hid (Below w.heap.size w X7) := B6.out.trans (q.2.to_below B6.out.size (fun k hk => by { rw [hk]; exact NP.out.2.2 })); clear q SC6 D6 B6 HPK)
    | (go_at_call 8; refine Calls.mono (HV3.out _ _ D7.out) ?_; rintro e X8 ⟨rfl, q⟩; have D8 : Hid (Dm X8 p du3) := D7.out.be q; have B8 : Hid (Below w.heap.size w X8) := B7.out.trans (q.mono B7.out.size); clear q D7 B7 HV3)
    | (refine wpList_alV rfl rfl ?_; intro X9 q1 q2 q3; have R9 : Hid (Row X9 X8.heap.size zDu.vw tDv) := q1; have G9 : Hid (Below X8.heap.size X8 X9) := q2; clear q1 q2 q3; simp only [Act.put, List.setIfInBounds_toArray, List.set_cons_zero, List.set_cons_succ])
    | (refine wpList_stL rfl tDv (.tmp 7) (.tmp 35) rfl X8.heap.size V3 zDu.vw tDv rfl rfl R9.out HL3.out HI3.out HO3.out ?_; intro Y1 q1 q2; have q3 : Below X8.heap.size X8 Y1 := gro_newL G9.out (Nat.le_refl _) q2; have RV : Hid (Row Y1 X8.heap.size V3 tDv) := q1; have E1 : Hid (Dm Y1 p du3) := D8.out.be q3; have C1 : Hid (Below w.heap.size w Y1) := B8.out.trans (q3.mono B8.out.size); have NV : Hid (X8.heap.size ≠ p) := by { have := D8.out.row.lt; show _ ≠ _; omega }; clear q1 q2 q3 R9 G9 D8)
    | (go_at_call 9; refine Calls.mono (HE1.out _ _ E1.out) ?_; rintro e Y1 ⟨rfl, rfl⟩; clear HE1)
    | (go_at_call 9; refine Calls.mono (HE2.out _ _ E1.out) ?_; rintro e Y2 ⟨rfl, q⟩; have E2 : Hid (Dm Y2 p du4) := q.1; have RV2 : Hid (Row Y2 X8.heap.size V3 tDv) := q.2.row RV.out NV.out; have C2 : Hid (Below w.heap.size w Y2) := C1.out.trans (q.2.to_below C1.out.size (fun k hk => by { rw [hk]; exact NP.out.2.2 })); clear q RV E1 C1 HE2)
    | (go_at_call 8; refine Calls.mono (HV4.out _ _ E2.out) ?_; rintro e Y3 ⟨rfl, q⟩; have RV3 : Hid (Row Y3 X8.heap.size V3 tDv) := Row.below RV2.out q RV2.out.lt; have C3 : Hid (Below w.heap.size w Y3) := C2.out.trans (q.mono C2.out.size); clear q E2 RV2 C2 HV4)
    | (refine wpList_alV rfl rfl ?_; intro Y4 q1 q2 q3; have R10 : Hid (Row Y4 Y3.heap.size zDu.vw tDv) := q1; have G10 : Hid (Below Y3.heap.size Y3 Y4) := q2; clear q1 q2 q3; simp only [Act.put, List.setIfInBounds_toArray, List.set_cons_zero, List.set_cons_succ])
    | (refine wpList_stL rfl tDv (.tmp 10) (.tmp 41) rfl Y3.heap.size V4 zDu.vw tDv rfl rfl R10.out HL4.out HI4.out HO4.out ?_; intro Y5 q1 q2; have q3 : Below Y3.heap.size Y3 Y5 := gro_newL G10.out (Nat.le_refl _) q2; obtain ⟨f1, f2, f3, f4⟩ := F3.out _ _ (Row.below RV3.out q3 RV3.out.lt); obtain ⟨g1, g2⟩ := F4.out _ _ q1; have FR : Hid (Y5.rangeAt X8.heap.size 42 LM) := f4; have C5 : Hid (Below w.heap.size w Y5) := C3.out.trans (q3.mono C3.out.size); clear q1 q2 q3 f4 R10 G10 RV3 C3)
    | (refine wpList_alA rfl rfl ?_; intro X1 q1 q2 q3; have R1 : Hid (Row X1 w.heap.size (vB zA) tAd) := q1; have B1 : Hid (Below w.heap.size w X1) := q2; clear q1 q2 q3; simp only [Act.put, List.setIfInBounds_toArray, List.set_cons_zero, List.set_cons_succ])
    | (refine wpList_alA rfl rfl ?_; intro X3 q1 q2 q3; have R3 : Hid (Row X3 X2.heap.size (vB zA) tAd) := q1; have B3 : Hid (Below X2.heap.size X2 X3) := q2; clear q1 q2 q3; simp only [Act.put, List.setIfInBounds_toArray, List.set_cons_zero, List.set_cons_succ])
    | (refine wpList_ldS rfl tC (.tmp 54) rfl X8.heap.size 42 rfl LM _ FR.out Try.underlying32 rfl HIM.out ?_; simp only [Act.put, List.setIfInBounds_toArray, List.set_cons_zero, List.set_cons_succ])
    | (refine wpList_eqC rfl (.tmp 55) (.tmp 56) _ rfl cmM cmM cmM_wf cmM_wf (by { rw [← HLM.out]; rfl }) (by { rw [← HLM.out]; rfl }) true (decide_eq_true rfl) ?_; simp only [Act.put, List.setIfInBounds_toArray, List.set_cons_zero, List.set_cons_succ]))
  go_ret
  exact ⟨rfl, C5.out⟩

end Go.Proofs.Ytddkmpbcjieolaa
