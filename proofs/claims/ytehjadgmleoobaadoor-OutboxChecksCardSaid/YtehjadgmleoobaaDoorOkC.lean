/-
  the law OutboxChecks: its walk.
-/
import Derived.Test.YtehjadgmleoobaaDoorOkB
namespace Go.Proofs.YtehjadgmleoobaaDoor
open Go Go.RowKit
open Sha

set_option maxRecDepth 100000 in
set_option maxHeartbeats 4000000 in
theorem checks_walk11 (ss : List Shn) (A0 : Option Addr) (n0 c0 : Nat) (hn0 : n0 = ss.length) (hb0 : n0 ≤ 4398046511104) (w : World) (hG : Given w) (h0 : Sa w A0 ss) :
    Calls Tryd.prog 3 #[.slice A0 n0 c0] w fun e w' => e = .returned (.bool true) ∧ Below w.heap.size w w' := by
  have HS : Hid (Sa w A0 ss) := h0
  have HG : Hid (Given w) := hG
  have HN : Hid (n0 = ss.length) := hn0
  clear h0 hG hn0
  go_enter Tryd.func3, Tryd.ntmps3
  go_upto_region 4 with (go_at_call 5; refine Calls.mono (obk_any w) ?_; rintro e X1 ⟨rfl, q⟩; have B1 : Hid (Below w.heap.size w X1) := q; clear q)
  go_loopw [3, 4, 5, 6, 7, 8] (fun k _ _ _ _ _ wr => ∃ t : Nat, t ≤ n0 ∧ k = .int .i64 (t : Int) ∧ Hid (Below w.heap.size w wr)) (fun k _ _ _ _ _ _ => n0 - (intOf k).toNat)
  case atStart => exact ⟨0, Nat.zero_le _, rfl, B1⟩
  case round =>
    obtain ⟨t, ht, rfl, HB⟩ := hrel
    clear B1
    by_cases hlt : t < n0
    · obtain ⟨s, hs⟩ : ∃ s, ss[t]? = some s := ⟨_, List.getElem?_eq_getElem (by rw [← HN.out]; exact hlt)⟩
      obtain ⟨hok, hpa, b, o, rfl, hrg⟩ := HS.out t s hs
      have hrg := range_be hrg HB.out
      obtain ⟨R, hR⟩ : ∃ R, R = shc s := ⟨_, rfl⟩
      obtain ⟨L, hL⟩ : ∃ L, L = lf s.ix s.en s.tk s.rc s.am := ⟨_, rfl⟩
      obtain ⟨k, hk⟩ : ∃ k, k = s.ds.length := ⟨_, rfl⟩
      obtain ⟨PA, hPA⟩ : ∃ PA, PA = s.A := ⟨_, rfl⟩
      obtain ⟨pc, hpc⟩ : ∃ pc, pc = s.cap := ⟨_, rfl⟩
      rw [← hR] at hrg
      rw [← hk, ← hPA, ← hpc] at hpa
      have HGR : Hid (wr.rangeAt b (o + t * 61) R) := hrg
      have HI : Hid ((Tryd.prog.info? 35).map (·.size) = some R.length) := by show _ = _; rw [hR, shc_len hok]; exact info_shn
      have HRL6 : Hid (R.length = zSh.length) := by show _ = _; rw [hR, shc_len hok]; rfl
      have HO1 : Hid (R.toArray.all (·.oneCell') = true) := by show _ = _; rw [hR]; exact all_oneCell_toArray (shc_one s)
      have HRR : Hid (∀ X, ∀ {y : Nat}, Row X y R 35 → X.rangeAt y 0 (vB s.root)) := fun X y h => by rw [hR] at h; exact sh_root h
      have HRN : Hid (∀ X, ∀ {y : Nat}, Row X y R 35 → X.cell? ⟨y, 32, none⟩ = some (.int .i64 s.n)) := fun X y h => by rw [hR] at h; exact sh_n h hok
      have HRL : Hid (∀ X, ∀ {y : Nat}, Row X y R 35 → X.rangeAt y 33 L) := fun X y h => by rw [hR] at h; rw [hL]; exact sh_leaf h hok
      have HRP : Hid (∀ X, ∀ {y : Nat}, Row X y R 35 → X.cell? ⟨y, 60, none⟩ = some (.slice PA k pc)) := fun X y h => by rw [hR] at h; rw [hPA, hk, hpc]; exact sh_path h hok
      have HID : Hid ((Tryd.prog.info? 25).map (·.size) = some (vB s.root).length) := info_dgk _ hok.root
      have HIL : Hid ((Tryd.prog.info? 32).map (·.size) = some L.length) := by rw [hL]; exact info_lf hok.rc hok.am
      have h32 := hpa.1
      have hfl := flatten_len s.ds h32
      rw [← hk] at hfl
      have hkb : k ≤ 4398046511104 := by have := hok.len; rw [← hk] at this; omega
      have hkb2 : k * 32 ≤ 140737488351232 := by rw [hk]; exact hok.len
      have HPA : Hid (PAt w (.slice PA k pc) s.ds) := hpa
      have HFL : Hid (s.ds.flatten.length = k * 32) := hfl
      have H32 : Hid (∀ d ∈ s.ds, d.length = 32) := h32
      have HKD : Hid (k = s.ds.length) := hk
      have HC1 : Hid (∀ ds' : List (List (BitVec 8)), ds'.length = k → ∀ X PX cx, Below w.heap.size w X → PAt X (.slice PX k cx) ds' → Calls Tryd.prog 6 #[.agg (vB s.root).toArray, .int .i64 s.n, .agg L.toArray, .slice PX k cx] X fun e w' => e = .returned (.int .i64 (okc s.root s.n s.ix s.en s.tk s.rc s.am ds')) ∧ Below X.heap.size X w') := fun ds' _ X PX cx h1 h2 => ocheck_any s.root hok.root s.n s.ix s.en s.tk s.rc s.am hok.rc hok.am hok.q L hL ds' PX k cx X ((HG.out.low h1).cub) h2
      have HC2 : Hid (∀ ds' : List (List (BitVec 8)), ds'.length = k → ∀ X PX cx, (PX = none → cx = 0) → Below w.heap.size w X → PAt X (.slice PX k cx) ds' → Calls Tryd.prog 7 #[.agg (vB s.root).toArray, .int .i64 s.n, .agg L.toArray, .slice PX k cx] X fun e w' => e = .returned (.int .i64 (okc s.root s.n s.ix s.en s.tk s.rc s.am ds')) ∧ Below X.heap.size X w') := fun ds' e' X PX cx _ h1 h2 => rocheck_any s.root hok.root s.n s.ix s.en s.tk s.rc s.am hok.rc hok.am hok.q L hL ds' PX k cx e'.symm X (HG.out.low h1) h2
      have HNIL : Hid (PA = none → pc = 0) := by rw [hPA, hpc]; exact hok.nil
      obtain ⟨O1, hO1⟩ : ∃ O1, O1 = okc s.root s.n s.ix s.en s.tk s.rc s.am s.ds := ⟨_, rfl⟩
      have HOO : Hid (O1 = okc s.root s.n s.ix s.en s.tk s.rc s.am s.ds) := hO1
      obtain ⟨E1, hE1⟩ : ∃ E1, E1 = d1 1#8 := ⟨_, rfl⟩
      obtain ⟨E2, hE2⟩ : ∃ E2, E2 = d1 2#8 := ⟨_, rfl⟩
      have HE1 : Hid (E1 = d1 1#8) := hE1
      have HE2 : Hid (E2 = d1 2#8) := hE2
      have HI1 : Hid ((Tryd.prog.info? 25).map (·.size) = some (vB E1).length) := info_dgk _ (by rw [hE1]; rfl)
      have HI2 : Hid ((Tryd.prog.info? 25).map (·.size) = some (vB E2).length) := info_dgk _ (by rw [hE2]; rfl)
      have HL1 : Hid (E1.length = 32) := by show _ = _; rw [hE1]; rfl
      have HL2 : Hid (E2.length = 32) := by show _ = _; rw [hE2]; rfl
      clear hR hL hk hPA hpc hs hok hpa hrg h32 hfl hO1 hE1 hE2
      go_upto_region 7 with (first
        | (refine wpList_load_w rfl 35 (.tmp 19) rfl b (o + t * 61) rfl R _ HGR.out Tryd.underlying35 rfl HI.out ?_; simp only [Act.put, List.setIfInBounds_toArray, List.set_cons_zero, List.set_cons_succ])
        | (refine wpList_allocSh rfl rfl ?_; intro X2 q1 q2; have R2 : Hid (Row X2 wr.heap.size zSh 35) := q1; have B2 : Hid (Below wr.heap.size wr X2) := q2; clear q1 q2; simp only [Act.put, List.setIfInBounds_toArray, List.set_cons_zero, List.set_cons_succ])
        | (refine wpList_storeL rfl 35 (.tmp 4) (.tmp 20) rfl wr.heap.size R zSh 35 rfl rfl R2.out HRL6.out HI.out HO1.out ?_; intro X3 q1 q2; have q3 : Below wr.heap.size wr X3 := (by rw [q1]; exact below_setCells B2.out (Nat.le_refl _) _); have RY : Hid (Row X3 wr.heap.size R 35) := q2; have B3 : Hid (Below w.heap.size w X3) := HB.out.trans (q3.mono HB.out.size); clear q1 q2 q3; simp only [Act.put]))
      have hyw : w.heap.size ≤ wr.heap.size := HB.out.size
      obtain ⟨y, hy⟩ : ∃ y, y = wr.heap.size := ⟨_, rfl⟩
      rw [← hy] at RY hyw ⊢
      clear hy R2 B2 HB HGR HRL6 HO1 HI
      have c60 : X3.cell? ⟨y, 60, none⟩ = some (.slice PA k pc) := HRP.out X3 RY.out
      go_upto_region 8 with (refine wpList_makeD rfl (.tmp 24) (.tmp 24) rfl (k + 2) _ (by omega) rfl rfl (by omega) ?_; intro X4 q1 q2; have RG : Hid (Row X4 X3.heap.size (vB (List.replicate ((k + 2) * 32) 0#8)) 25) := q1; have RY4 : Hid (Row X4 y R 35) := Row.below RY.out q2 RY.out.lt; have B4 : Hid (Below w.heap.size w X4) := B3.out.trans (q2.mono B3.out.size); clear q1 q2; simp only [Act.put, List.setIfInBounds_toArray, List.set_cons_zero, List.set_cons_succ])
      have hyg : y < X3.heap.size := RY.out.lt
      obtain ⟨g, hg⟩ : ∃ g, g = X3.heap.size := ⟨_, rfl⟩
      rw [← hg] at RG hyg ⊢
      have hgw : w.heap.size ≤ g := by omega
      clear c60 hg RY B3
      have c60 : X4.cell? ⟨y, 60, none⟩ = some (.slice PA k pc) := HRP.out X4 RY4.out
      go_upto_region 9 with (refine wpList_copyD rfl (.tmp 26) (.tmp 28) rfl g k PA pc s.ds HKD.out rfl rfl (HPA.out.below B4.out) RG.out ?_; intro X5 q1 q2; have RG5 : Hid (Row X5 g (vB (s.ds.flatten ++ List.replicate 64 0#8)) 25) := q1; have RY5 : Hid (Row X5 y R 35) := q2.row RY4.out (Nat.ne_of_lt hyg); have B5 : Hid (Below w.heap.size w X5) := B4.out.trans (q2.to_below B4.out.size (fun j q => by rw [q]; exact hgw)); clear q1 q2; simp only [Act.put, List.setIfInBounds_toArray, List.set_cons_zero, List.set_cons_succ])
      clear c60 RG RY4 B4
      have c60 : X5.cell? ⟨y, 60, none⟩ = some (.slice PA k pc) := HRP.out X5 RY5.out
      go_upto_region 10 with (first
        | (refine wpList_buildD1 rfl rfl E1 HE1.out ?_; simp only [Act.put, List.setIfInBounds_toArray, List.set_cons_zero, List.set_cons_succ])
        | (refine wpList_index_d rfl (.tmp 30) (.tmp 33) rfl g 0 (k + 2) (k + 2) k (k * 32) (by omega) _ rfl rfl rfl (by omega) ?_; simp only [Act.put, List.setIfInBounds_toArray, List.set_cons_zero, List.set_cons_succ])
        | (refine wpList_storeM rfl 25 (.tmp 35) (.tmp 34) rfl g (k * 32) (vB E1) (vB (s.ds.flatten ++ List.replicate 64 0#8)) 25 rfl rfl RG5.out (by rw [vB_length, vB_length, HL1.out, List.length_append, HFL.out, List.length_replicate]; omega) HI1.out (vB_all11 E1) ?_; intro X6 q1 q2; rw [HE1.out, splice1 s.ds.flatten k HFL.out, ← HE1.out] at q1; have RG6 : Hid (Row X6 g (vB (s.ds.flatten ++ (E1 ++ List.replicate 32 0#8))) 25) := q1; have RY6 : Hid (Row X6 y R 35) := q2.row RY5.out (Nat.ne_of_lt hyg); have B6 : Hid (Below w.heap.size w X6) := B5.out.trans (q2.to_below B5.out.size (fun j q => by rw [q]; exact hgw)); clear q1 q2; simp only [Act.put]))
      clear c60 RG5 RY5 B5
      have c60 : X6.cell? ⟨y, 60, none⟩ = some (.slice PA k pc) := HRP.out X6 RY6.out
      go_upto_region 11 with (first
        | (refine wpList_buildD2 rfl rfl E2 HE2.out ?_; simp only [Act.put, List.setIfInBounds_toArray, List.set_cons_zero, List.set_cons_succ])
        | (refine wpList_index_d rfl (.tmp 36) (.tmp 40) rfl g 0 (k + 2) (k + 2) (k + 1) ((k + 1) * 32) (by omega) _ (by omega) rfl rfl (by omega) ?_; simp only [Act.put, List.setIfInBounds_toArray, List.set_cons_zero, List.set_cons_succ])
        | (refine wpList_storeM rfl 25 (.tmp 42) (.tmp 41) rfl g ((k + 1) * 32) (vB E2) (vB (s.ds.flatten ++ (E1 ++ List.replicate 32 0#8))) 25 rfl rfl RG6.out (by rw [vB_length, vB_length, HL2.out, List.length_append, HFL.out, List.length_append, HL1.out, List.length_replicate]; omega) HI2.out (vB_all11 E2) ?_; intro X7 q1 q2; rw [HE1.out, HE2.out, splice2 s.ds.flatten k HFL.out, ← HE1.out, ← HE2.out] at q1; have RG7 : Hid (Row X7 g (vB (s.ds.flatten ++ (E1 ++ E2))) 25) := q1; have RY7 : Hid (Row X7 y R 35) := q2.row RY6.out (Nat.ne_of_lt hyg); have B7 : Hid (Below w.heap.size w X7) := B6.out.trans (q2.to_below B6.out.size (fun j q => by rw [q]; exact hgw)); clear q1 q2; simp only [Act.put]))
      clear c60 RG6 RY6 B6
      have c60 : X7.cell? ⟨y, 60, none⟩ = some (.slice PA k pc) := HRP.out X7 RY7.out
      go_upto_region 12 with (refine wpList_slice_upto rfl 33 25 (.tmp 43) (.tmp 46) g 0 (k + 2) (k + 2) k 32 rfl rfl rfl (by omega) Tryd.underlying33 info_dig ?_; simp only [Act.put, List.setIfInBounds_toArray, List.set_cons_zero, List.set_cons_succ])
      have hpx : ∀ X, Row X g (vB (s.ds.flatten ++ (E1 ++ E2))) 25 → PAt X (.slice (some ⟨g, 0, none⟩) k (k + 2)) s.ds := fun X h => pat_row h s.ds k (k + 2) HKD.out.symm H32.out (by rw [List.take_append_of_le_length (by rw [HFL.out]; exact Nat.le_refl _), List.take_of_length_le (by rw [HFL.out]; exact Nat.le_refl _)]) (by omega)
      have HPX : Hid (∀ X, Row X g (vB (s.ds.flatten ++ (E1 ++ E2))) 25 → PAt X (.slice (some ⟨g, 0, none⟩) k (k + 2)) s.ds) := hpx
      have HRE1 : Hid (∀ X, Row X g (vB (s.ds.flatten ++ (E1 ++ E2))) 25 → X.rangeAt g (k * 32) (vB E1)) := fun X h => h.range (k * 32) _ (fun j u hj => by
        have hlt : j < (vB E1).length := (List.getElem?_eq_some_iff.1 hj).1
        rw [vB_append, List.getElem?_append_right (by rw [vB_length, HFL.out]; omega), vB_length, HFL.out, Nat.add_sub_cancel_left, vB_append]
        exact (List.getElem?_append_left hlt).trans hj)
      have HRE2 : Hid (∀ X, Row X g (vB (s.ds.flatten ++ (E1 ++ E2))) 25 → X.rangeAt g ((k + 1) * 32) (vB E2)) := fun X h => h.range ((k + 1) * 32) _ (fun j u hj => by
        rw [vB_append, List.getElem?_append_right (by rw [vB_length, HFL.out]; omega), vB_length, HFL.out, vB_append, List.getElem?_append_right (by rw [vB_length, HL1.out]; omega), vB_length, HL1.out, show (k + 1) * 32 + j - k * 32 - 32 = j by omega]
        exact hj)
      have c32 := HRN.out X7 RY7.out
      clear hpx
      go_upto_region 13 with (first
        | (refine wpList_load_w rfl 25 (.tmp 48) rfl y (0) rfl (vB s.root) _ (HRR.out X7 RY7.out) Tryd.underlying25 rfl HID.out ?_; simp only [Act.put, List.setIfInBounds_toArray, List.set_cons_zero, List.set_cons_succ])
        | (refine wpList_load_w rfl 32 (.tmp 52) rfl y (33) rfl L _ (HRL.out X7 RY7.out) Tryd.underlying32 rfl HIL.out ?_; simp only [Act.put, List.setIfInBounds_toArray, List.set_cons_zero, List.set_cons_succ])
        | (go_at_call 6; refine Calls.mono (HC1.out s.ds HKD.out.symm X7 _ _ B7.out (HPX.out X7 RG7.out)) ?_; rw [← HOO.out]; rintro e X8 ⟨rfl, q⟩; have RG8 : Hid (Row X8 g (vB (s.ds.flatten ++ (E1 ++ E2))) 25) := Row.below RG7.out q RG7.out.lt; have RY8 : Hid (Row X8 y R 35) := Row.below RY7.out q RY7.out.lt; have B8 : Hid (Below w.heap.size w X8) := B7.out.trans (q.mono B7.out.size); clear q))
      clear c60 c32 RG7 RY7 B7
      have c60 : X8.cell? ⟨y, 60, none⟩ = some (.slice PA k pc) := HRP.out X8 RY8.out
      have c32 := HRN.out X8 RY8.out
      go_upto_region 15 with (first
        | (refine wpList_load_w rfl 25 (.tmp 57) rfl y (0) rfl (vB s.root) _ (HRR.out X8 RY8.out) Tryd.underlying25 rfl HID.out ?_; simp only [Act.put, List.setIfInBounds_toArray, List.set_cons_zero, List.set_cons_succ])
        | (refine wpList_load_w rfl 32 (.tmp 61) rfl y (33) rfl L _ (HRL.out X8 RY8.out) Tryd.underlying32 rfl HIL.out ?_; simp only [Act.put, List.setIfInBounds_toArray, List.set_cons_zero, List.set_cons_succ])
        | (go_at_call 7; refine Calls.mono (HC2.out s.ds HKD.out.symm X8 PA pc HNIL.out B8.out (HPA.out.below B8.out)) ?_; rw [← HOO.out]; rintro e X9 ⟨rfl, q⟩; have RG9 : Hid (Row X9 g (vB (s.ds.flatten ++ (E1 ++ E2))) 25) := Row.below RG8.out q RG8.out.lt; have RY9 : Hid (Row X9 y R 35) := Row.below RY8.out q RY8.out.lt; have B9 : Hid (Below w.heap.size w X9) := B8.out.trans (q.mono B8.out.size); clear q; clear c60 c32; have c60 := HRP.out X9 RY9.out)
        | (go_at_call 8; refine Calls.mono (samePath_any s.ds k HKD.out.symm hkb _ _ _ _ X9 (HPX.out X9 RG9.out) (HPA.out.below B9.out)) ?_; rintro e X10 ⟨rfl, q⟩; have RG10 : Hid (Row X10 g (vB (s.ds.flatten ++ (E1 ++ E2))) 25) := Row.below RG9.out q RG9.out.lt; have RY10 : Hid (Row X10 y R 35) := Row.below RY9.out q RY9.out.lt; have B10 : Hid (Below w.heap.size w X10) := B9.out.trans (q.mono B9.out.size); clear q; clear c60)
        | (refine wpList_index_d rfl (.tmp 75) (.tmp 77) rfl g 0 (k + 2) (k + 2) k (k * 32) (by omega) _ rfl rfl rfl (by omega) ?_; simp only [Act.put, List.setIfInBounds_toArray, List.set_cons_zero, List.set_cons_succ])
        | (refine wpList_index_d rfl (.tmp 84) (.tmp 87) rfl g 0 (k + 2) (k + 2) (k + 1) ((k + 1) * 32) (by omega) _ (by omega) rfl rfl (by omega) ?_; simp only [Act.put, List.setIfInBounds_toArray, List.set_cons_zero, List.set_cons_succ])
        | (refine wpList_load_w rfl 25 (.tmp 78) rfl g (k * 32) rfl (vB E1) _ (HRE1.out X10 RG10.out) Tryd.underlying25 rfl HI1.out ?_; simp only [Act.put, List.setIfInBounds_toArray, List.set_cons_zero, List.set_cons_succ])
        | (refine wpList_load_w rfl 25 (.tmp 88) rfl g ((k + 1) * 32) rfl (vB E2) _ (HRE2.out X10 RG10.out) Tryd.underlying25 rfl HI2.out ?_; simp only [Act.put, List.setIfInBounds_toArray, List.set_cons_zero, List.set_cons_succ])
        | (refine wpList_buildD1 rfl rfl E1 HE1.out ?_; simp only [Act.put, List.setIfInBounds_toArray, List.set_cons_zero, List.set_cons_succ])
        | (refine wpList_buildD2 rfl rfl E2 HE2.out ?_; simp only [Act.put, List.setIfInBounds_toArray, List.set_cons_zero, List.set_cons_succ])
        | (refine wpList_neqDk rfl (.tmp 79) (.tmp 80) _ rfl E1 HL1.out rfl rfl ?_; simp only [Act.put, List.setIfInBounds_toArray, List.set_cons_zero, List.set_cons_succ])
        | (refine wpList_neqDk rfl (.tmp 89) (.tmp 90) _ rfl E2 HL2.out rfl rfl ?_; simp only [Act.put, List.setIfInBounds_toArray, List.set_cons_zero, List.set_cons_succ]))
      have hbl : (s.ds.flatten ++ (E1 ++ E2)).length = k * 32 + 64 := by rw [List.length_append, List.length_append, HFL.out, HL1.out, HL2.out]
      have HBL : Hid ((s.ds.flatten ++ (E1 ++ E2)).length = k * 32 + 64) := hbl
      obtain ⟨bs0, hbs0⟩ : ∃ bs0, bs0 = s.ds.flatten ++ (E1 ++ E2) := ⟨_, rfl⟩
      rw [← hbs0] at RG10 HBL
      clear hbl hbs0 HPX HRE1 HRE2 RG8 RY8 B8 RG9 RY9 B9 HL1 HL2 HI1 HI2 HE1 HE2 HOO HPA HFL H32
      go_upto_region 16 with fail
      go_loopw [8] (fun v wr => ∃ (j : Nat) (bs : List (BitVec 8)), j ≤ k ∧ v = .int .i64 (j : Int) ∧ Hid (bs.length = k * 32 + 64) ∧ Hid (Row wr g (vB bs) 25) ∧ Hid (Row wr y R 35) ∧ Hid (Below w.heap.size w wr)) (fun v _ => k - (intOf v).toNat)
      case atStart => exact ⟨0, bs0, Nat.zero_le _, rfl, HBL, RG10, RY10, B10⟩
      case round =>
        obtain ⟨j, bs, hj, rfl, HBS, HRG, HRY, HBW⟩ := hrel
        clear HBL RG10 RY10 B10
        by_cases hjk : j < k
        · have hc : j * 32 + 31 < bs.length := by rw [HBS.out]; omega
          have g0 := HRG.out.cell (j * 32 + 31) _ (vB_get bs _ hc)
          have gf := HRG.out.thaw (j * 32 + 31)
          have hx := c_xor1 (bs.getD (j * 32 + 31) 0)
          generalize bs.getD (j * 32 + 31) 0 = x at g0 hx
          have hjb : j ≤ 4398046511104 := by omega
          clear hc
          go_wp2_with fail
          go_region
          go_wp2
          refine ⟨⟨j + 1, bs.set (j * 32 + 31) (x ^^^ 1#8), hjk, by go_num, (by show _ = _; rw [List.length_set]; exact HBS.out), ?_, ?_, ?_⟩, by simp [intOf]; omega⟩
          · have := HRG.out.set (j * 32 + 31) (.int .u8 (c (x ^^^ 1#8)))
            rw [vB_set] at this
            exact Row.drew this
          · exact Row.drew (Row.set_other HRY.out _ _ _ (Nat.ne_of_lt hyg))
          · exact Below.drew (HBW.out.setCell hgw _)
        · obtain rfl : j = k := by omega
          obtain ⟨ds2, hd2, h32, hfl⟩ := chunks j bs (by rw [HBS.out]; omega)
          obtain ⟨O2, hO2⟩ : ∃ O2, O2 = okc s.root s.n s.ix s.en s.tk s.rc s.am ds2 := ⟨_, rfl⟩
          have hp2 : ∀ X, Row X g (vB bs) 25 → PAt X (.slice (some ⟨g, 0, none⟩) j (j + 2)) ds2 := fun X h => pat_row h ds2 j (j + 2) hd2 h32 hfl (by omega)
          have H1 : Hid (∀ X, Below w.heap.size w X → Row X g (vB bs) 25 → Calls Tryd.prog 6 #[.agg (vB s.root).toArray, .int .i64 s.n, .agg L.toArray, .slice (some ⟨g, 0, none⟩) j (j + 2)] X fun e w' => e = .returned (.int .i64 O2) ∧ Below X.heap.size X w') := fun X h1 h2 => by rw [hO2]; exact HC1.out ds2 hd2 X _ _ h1 (hp2 X h2)
          have H2 : Hid (∀ X, Below w.heap.size w X → Row X g (vB bs) 25 → Calls Tryd.prog 7 #[.agg (vB s.root).toArray, .int .i64 s.n, .agg L.toArray, .slice (some ⟨g, 0, none⟩) j (j + 2)] X fun e w' => e = .returned (.int .i64 O2) ∧ Below X.heap.size X w') := fun X h1 h2 => by rw [hO2]; exact HC2.out ds2 hd2 X _ _ (fun e => by cases e) h1 (hp2 X h2)
          have hb1 := HBW.out
          have rg := HRG.out
          have ry := HRY.out
          clear hd2 h32 hfl hO2 hp2 HC1 HC2 HBS HBW HRG HRY hjk HNIL HKD HRP
          go_upto_region 19 with fail
          go_wp2_with fail
          refine wp_named fun a0 ha0 => ?_
          have hsz : a0.tmps.size = 126 := by rw [ha0]; rfl
          have zs4 : a0.eval (.tmp 4) = .pointer (some ⟨y, 0, none⟩) := by rw [ha0]; rfl
          have zs6 : a0.eval (.tmp 6) = .slice (some ⟨g, 0, none⟩) j (j + 2) := by rw [ha0]; rfl
          obtain ⟨D, hD⟩ : ∃ D : List (Tmp × SP), D = [(109, SP.is (.pointer (some ⟨y, 0, none⟩))), (110, SP.is (.agg (vB s.root).toArray)), (111, SP.is (.pointer (some ⟨y, 32, none⟩))), (112, SP.is (.int .i64 s.n)), (113, SP.is (.pointer (some ⟨y, 33, none⟩))), (114, SP.is (.agg L.toArray)), (115, SP.is (.slice (some ⟨g, 0, none⟩) j (j + 2))), (116, SP.is (.int .i64 O2)), (117, SP.is (.pointer (some ⟨y, 0, none⟩))), (118, SP.is (.agg (vB s.root).toArray)), (119, SP.is (.pointer (some ⟨y, 32, none⟩))), (120, SP.is (.int .i64 s.n)), (121, SP.is (.pointer (some ⟨y, 33, none⟩))), (122, SP.is (.agg L.toArray)), (123, SP.is (.slice (some ⟨g, 0, none⟩) j (j + 2))), (124, SP.is (.int .i64 O2)), (125, SP.is (.bool false))] := ⟨_, rfl⟩
          refine wp_region_down (by kernel_rfl) (fun listed ac W => listed.size = 17 ∧ Fp D a0 listed ac W ∧ Below w.heap.size w W ∧ Row W y R 35 ∧ Row W g ((vB bs)) 25) ?_ ?_ ?_
          · exact ⟨by simp, Fp.start D a0 _ _, Below.drew hb1, Row.drew ry, Row.drew rg⟩
          · clear ha0 hb1 ry rg 
            intro listed ac W k hI hdn hk
            obtain ⟨hl, hF, hb1, ry, rg⟩ := hI
            have hk1 : k < 17 := List.mem_range.1 (List.mem_filter.1 hk).1
            have hl2 : ∀ j, (listed.setIfInBounds j true).size = 17 := fun j => by rw [Array.size_setIfInBounds]; exact hl
            rcases (show k = 0 ∨ k = 1 ∨ k = 2 ∨ k = 3 ∨ k = 4 ∨ k = 5 ∨ k = 6 ∨ k = 7 ∨ k = 8 ∨ k = 9 ∨ k = 10 ∨ k = 11 ∨ k = 12 ∨ k = 13 ∨ k = 14 ∨ k = 15 ∨ k = 16 by omega) with rfl | rfl | rfl | rfl | rfl | rfl | rfl | rfl | rfl | rfl | rfl | rfl | rfl | rfl | rfl | rfl | rfl
            · have hk3 := hk
              have e4 := ((hF.keep 4 (by rw [hD]; rfl)).trans zs4)
              exact wpOp_plain rfl rfl (wp_fs0 y rfl e4 ⟨hl2 0, (hF.put 0 109 (SP.is (.pointer (some ⟨y, 0, none⟩))) (.pointer (some ⟨y, 0, none⟩)) (by rw [hD]; rfl) rfl (by rw [hD]; rfl) (by rw [hsz]; decide) (by rw [hl]; decide)), hb1, ry, rg⟩)
            · have hk3 := hk
              exact wpOp_plain rfl rfl (wp_load_mid 25 (.tmp 109) rfl y 0 (hF.done 0 (109, SP.is (.pointer (some ⟨y, 0, none⟩))) (by rw [hD]; rfl) (ready_dep hk 0 (by kernel_rfl))) (vB s.root) _ (HRR.out W ry) Tryd.underlying25 rfl HID.out ⟨hl2 1, (hF.put 1 110 (SP.is (.agg (vB s.root).toArray)) (.agg (vB s.root).toArray) (by rw [hD]; rfl) rfl (by rw [hD]; rfl) (by rw [hsz]; decide) (by rw [hl]; decide)), hb1, ry, rg⟩)
            · have hk3 := hk
              have e4 := ((hF.keep 4 (by rw [hD]; rfl)).trans zs4)
              exact wpOp_plain rfl rfl (wp_fs1 y rfl e4 ⟨hl2 2, (hF.put 2 111 (SP.is (.pointer (some ⟨y, 32, none⟩))) (.pointer (some ⟨y, 32, none⟩)) (by rw [hD]; rfl) rfl (by rw [hD]; rfl) (by rw [hsz]; decide) (by rw [hl]; decide)), hb1, ry, rg⟩)
            · have hk3 := hk
              have ee := (hF.done 2 (111, SP.is (.pointer (some ⟨y, 32, none⟩))) (by rw [hD]; rfl) (ready_dep hk 2 (by kernel_rfl)))
              exact wpOp_plain rfl rfl (wp_rii rfl y 32 ee s.n (HRN.out W ry) ⟨hl2 3, (hF.put 3 112 (SP.is (.int .i64 s.n)) (.int .i64 s.n) (by rw [hD]; rfl) rfl (by rw [hD]; rfl) (by rw [hsz]; decide) (by rw [hl]; decide)), hb1, ry, rg⟩)
            · have hk3 := hk
              have e4 := ((hF.keep 4 (by rw [hD]; rfl)).trans zs4)
              exact wpOp_plain rfl rfl (wp_fs2 y rfl e4 ⟨hl2 4, (hF.put 4 113 (SP.is (.pointer (some ⟨y, 33, none⟩))) (.pointer (some ⟨y, 33, none⟩)) (by rw [hD]; rfl) rfl (by rw [hD]; rfl) (by rw [hsz]; decide) (by rw [hl]; decide)), hb1, ry, rg⟩)
            · have hk3 := hk
              exact wpOp_plain rfl rfl (wp_load_mid 32 (.tmp 113) rfl y 33 (hF.done 4 (113, SP.is (.pointer (some ⟨y, 33, none⟩))) (by rw [hD]; rfl) (ready_dep hk 4 (by kernel_rfl))) L _ (HRL.out W ry) Tryd.underlying32 rfl HIL.out ⟨hl2 5, (hF.put 5 114 (SP.is (.agg L.toArray)) (.agg L.toArray) (by rw [hD]; rfl) rfl (by rw [hD]; rfl) (by rw [hsz]; decide) (by rw [hl]; decide)), hb1, ry, rg⟩)
            · have hk3 := hk
              exact wpOp_plain rfl rfl (wp_move_v (ac.eval (.tmp 6)) rfl rfl ⟨hl2 6, (hF.put 6 115 (SP.is (.slice (some ⟨g, 0, none⟩) j (j + 2))) (ac.eval (.tmp 6)) (by rw [hD]; rfl) (((hF.keep 6 (by rw [hD]; rfl)).trans zs6)) (by rw [hD]; rfl) (by rw [hsz]; decide) (by rw [hl]; decide)), hb1, ry, rg⟩)
            · have hk3 := hk
              have ea := (hF.done 1 (110, SP.is (.agg (vB s.root).toArray)) (by rw [hD]; rfl) (ready_dep hk 1 (by kernel_rfl)))
              have eb := (hF.done 3 (112, SP.is (.int .i64 s.n)) (by rw [hD]; rfl) (ready_dep hk 3 (by kernel_rfl)))
              have ec := (hF.done 5 (114, SP.is (.agg L.toArray)) (by rw [hD]; rfl) (ready_dep hk 5 (by kernel_rfl)))
              have ed := (hF.done 6 (115, SP.is (.slice (some ⟨g, 0, none⟩) j (j + 2))) (by rw [hD]; rfl) (ready_dep hk 6 (by kernel_rfl)))
              refine wpOp_plain rfl rfl (wp_fcall_v 6 #[.agg (vB s.root).toArray, .int .i64 s.n, .agg L.toArray, (.slice (some ⟨g, 0, none⟩) j (j + 2))] rfl rfl (by show [ac.eval (.tmp 110), ac.eval (.tmp 112), ac.eval (.tmp 114), ac.eval (.tmp 115)] = _; rw [show ac.eval (.tmp 110) = _ from ea, show ac.eval (.tmp 112) = _ from eb, show ac.eval (.tmp 114) = _ from ec, show ac.eval (.tmp 115) = _ from ed]) (by go_simp) ((H1.out W hb1 rg).mono ?_))
              rintro e W2 ⟨rfl, hB⟩
              exact ⟨_, rfl, hl2 7, ((hF.world hB).put 7 116 (SP.is (.int .i64 O2)) (.int .i64 O2) (by rw [hD]; rfl) rfl (by rw [hD]; rfl) (by rw [hsz]; decide) (by rw [hl]; decide)), hb1.trans (hB.mono hb1.size), Row.below ry hB (Row.lt ry), Row.below rg hB (Row.lt rg)⟩
            · have hk3 := hk
              have e4 := ((hF.keep 4 (by rw [hD]; rfl)).trans zs4)
              exact wpOp_plain rfl rfl (wp_fs0 y rfl e4 ⟨hl2 8, (hF.put 8 117 (SP.is (.pointer (some ⟨y, 0, none⟩))) (.pointer (some ⟨y, 0, none⟩)) (by rw [hD]; rfl) rfl (by rw [hD]; rfl) (by rw [hsz]; decide) (by rw [hl]; decide)), hb1, ry, rg⟩)
            · have hk3 := hk
              exact wpOp_plain rfl rfl (wp_load_mid 25 (.tmp 117) rfl y 0 (hF.done 8 (117, SP.is (.pointer (some ⟨y, 0, none⟩))) (by rw [hD]; rfl) (ready_dep hk 8 (by kernel_rfl))) (vB s.root) _ (HRR.out W ry) Tryd.underlying25 rfl HID.out ⟨hl2 9, (hF.put 9 118 (SP.is (.agg (vB s.root).toArray)) (.agg (vB s.root).toArray) (by rw [hD]; rfl) rfl (by rw [hD]; rfl) (by rw [hsz]; decide) (by rw [hl]; decide)), hb1, ry, rg⟩)
            · have hk3 := hk
              have e4 := ((hF.keep 4 (by rw [hD]; rfl)).trans zs4)
              exact wpOp_plain rfl rfl (wp_fs1 y rfl e4 ⟨hl2 10, (hF.put 10 119 (SP.is (.pointer (some ⟨y, 32, none⟩))) (.pointer (some ⟨y, 32, none⟩)) (by rw [hD]; rfl) rfl (by rw [hD]; rfl) (by rw [hsz]; decide) (by rw [hl]; decide)), hb1, ry, rg⟩)
            · have hk3 := hk
              have ee := (hF.done 10 (119, SP.is (.pointer (some ⟨y, 32, none⟩))) (by rw [hD]; rfl) (ready_dep hk 10 (by kernel_rfl)))
              exact wpOp_plain rfl rfl (wp_rii rfl y 32 ee s.n (HRN.out W ry) ⟨hl2 11, (hF.put 11 120 (SP.is (.int .i64 s.n)) (.int .i64 s.n) (by rw [hD]; rfl) rfl (by rw [hD]; rfl) (by rw [hsz]; decide) (by rw [hl]; decide)), hb1, ry, rg⟩)
            · have hk3 := hk
              have e4 := ((hF.keep 4 (by rw [hD]; rfl)).trans zs4)
              exact wpOp_plain rfl rfl (wp_fs2 y rfl e4 ⟨hl2 12, (hF.put 12 121 (SP.is (.pointer (some ⟨y, 33, none⟩))) (.pointer (some ⟨y, 33, none⟩)) (by rw [hD]; rfl) rfl (by rw [hD]; rfl) (by rw [hsz]; decide) (by rw [hl]; decide)), hb1, ry, rg⟩)
            · have hk3 := hk
              exact wpOp_plain rfl rfl (wp_load_mid 32 (.tmp 121) rfl y 33 (hF.done 12 (121, SP.is (.pointer (some ⟨y, 33, none⟩))) (by rw [hD]; rfl) (ready_dep hk 12 (by kernel_rfl))) L _ (HRL.out W ry) Tryd.underlying32 rfl HIL.out ⟨hl2 13, (hF.put 13 122 (SP.is (.agg L.toArray)) (.agg L.toArray) (by rw [hD]; rfl) rfl (by rw [hD]; rfl) (by rw [hsz]; decide) (by rw [hl]; decide)), hb1, ry, rg⟩)
            · have hk3 := hk
              exact wpOp_plain rfl rfl (wp_move_v (ac.eval (.tmp 6)) rfl rfl ⟨hl2 14, (hF.put 14 123 (SP.is (.slice (some ⟨g, 0, none⟩) j (j + 2))) (ac.eval (.tmp 6)) (by rw [hD]; rfl) (((hF.keep 6 (by rw [hD]; rfl)).trans zs6)) (by rw [hD]; rfl) (by rw [hsz]; decide) (by rw [hl]; decide)), hb1, ry, rg⟩)
            · have hk3 := hk
              have ea := (hF.done 9 (118, SP.is (.agg (vB s.root).toArray)) (by rw [hD]; rfl) (ready_dep hk 9 (by kernel_rfl)))
              have eb := (hF.done 11 (120, SP.is (.int .i64 s.n)) (by rw [hD]; rfl) (ready_dep hk 11 (by kernel_rfl)))
              have ec := (hF.done 13 (122, SP.is (.agg L.toArray)) (by rw [hD]; rfl) (ready_dep hk 13 (by kernel_rfl)))
              have ed := (hF.done 14 (123, SP.is (.slice (some ⟨g, 0, none⟩) j (j + 2))) (by rw [hD]; rfl) (ready_dep hk 14 (by kernel_rfl)))
              refine wpOp_plain rfl rfl (wp_fcall_v 7 #[.agg (vB s.root).toArray, .int .i64 s.n, .agg L.toArray, (.slice (some ⟨g, 0, none⟩) j (j + 2))] rfl rfl (by show [ac.eval (.tmp 118), ac.eval (.tmp 120), ac.eval (.tmp 122), ac.eval (.tmp 123)] = _; rw [show ac.eval (.tmp 118) = _ from ea, show ac.eval (.tmp 120) = _ from eb, show ac.eval (.tmp 122) = _ from ec, show ac.eval (.tmp 123) = _ from ed]) (by go_simp) ((H2.out W hb1 rg).mono ?_))
              rintro e W2 ⟨rfl, hB⟩
              exact ⟨_, rfl, hl2 15, ((hF.world hB).put 15 124 (SP.is (.int .i64 O2)) (.int .i64 O2) (by rw [hD]; rfl) rfl (by rw [hD]; rfl) (by rw [hsz]; decide) (by rw [hl]; decide)), hb1.trans (hB.mono hb1.size), Row.below ry hB (Row.lt ry), Row.below rg hB (Row.lt rg)⟩
            · have hk3 := hk
              have ea := (hF.done 7 (116, SP.is (.int .i64 O2)) (by rw [hD]; rfl) (ready_dep hk 7 (by kernel_rfl)))
              have eb := (hF.done 15 (124, SP.is (.int .i64 O2)) (by rw [hD]; rfl) (ready_dep hk 15 (by kernel_rfl)))
              exact wpOp_plain rfl rfl (wp_neqE rfl O2 ea eb ⟨hl2 16, (hF.put 16 125 (SP.is (.bool false)) (.bool false) (by rw [hD]; rfl) rfl (by rw [hD]; rfl) (by rw [hsz]; decide) (by rw [hl]; decide)), hb1, ry, rg⟩)
          · clear hb1 ry rg 
            intro listed ac W hI hr
            obtain ⟨hl, hF, hb1, ry, rg⟩ := hI
            have hall := all_listed (by kernel_rfl) hl hr
            have h109 : ac.eval (.tmp 109) = .pointer (some ⟨y, 0, none⟩) := hF.done 0 (109, SP.is (.pointer (some ⟨y, 0, none⟩))) (by rw [hD]; rfl) (hall 0 (by decide))
            have h110 : ac.eval (.tmp 110) = .agg (vB s.root).toArray := hF.done 1 (110, SP.is (.agg (vB s.root).toArray)) (by rw [hD]; rfl) (hall 1 (by decide))
            have h111 : ac.eval (.tmp 111) = .pointer (some ⟨y, 32, none⟩) := hF.done 2 (111, SP.is (.pointer (some ⟨y, 32, none⟩))) (by rw [hD]; rfl) (hall 2 (by decide))
            have h112 : ac.eval (.tmp 112) = .int .i64 s.n := hF.done 3 (112, SP.is (.int .i64 s.n)) (by rw [hD]; rfl) (hall 3 (by decide))
            have h113 : ac.eval (.tmp 113) = .pointer (some ⟨y, 33, none⟩) := hF.done 4 (113, SP.is (.pointer (some ⟨y, 33, none⟩))) (by rw [hD]; rfl) (hall 4 (by decide))
            have h114 : ac.eval (.tmp 114) = .agg L.toArray := hF.done 5 (114, SP.is (.agg L.toArray)) (by rw [hD]; rfl) (hall 5 (by decide))
            have h115 : ac.eval (.tmp 115) = .slice (some ⟨g, 0, none⟩) j (j + 2) := hF.done 6 (115, SP.is (.slice (some ⟨g, 0, none⟩) j (j + 2))) (by rw [hD]; rfl) (hall 6 (by decide))
            have h116 : ac.eval (.tmp 116) = .int .i64 O2 := hF.done 7 (116, SP.is (.int .i64 O2)) (by rw [hD]; rfl) (hall 7 (by decide))
            have h117 : ac.eval (.tmp 117) = .pointer (some ⟨y, 0, none⟩) := hF.done 8 (117, SP.is (.pointer (some ⟨y, 0, none⟩))) (by rw [hD]; rfl) (hall 8 (by decide))
            have h118 : ac.eval (.tmp 118) = .agg (vB s.root).toArray := hF.done 9 (118, SP.is (.agg (vB s.root).toArray)) (by rw [hD]; rfl) (hall 9 (by decide))
            have h119 : ac.eval (.tmp 119) = .pointer (some ⟨y, 32, none⟩) := hF.done 10 (119, SP.is (.pointer (some ⟨y, 32, none⟩))) (by rw [hD]; rfl) (hall 10 (by decide))
            have h120 : ac.eval (.tmp 120) = .int .i64 s.n := hF.done 11 (120, SP.is (.int .i64 s.n)) (by rw [hD]; rfl) (hall 11 (by decide))
            have h121 : ac.eval (.tmp 121) = .pointer (some ⟨y, 33, none⟩) := hF.done 12 (121, SP.is (.pointer (some ⟨y, 33, none⟩))) (by rw [hD]; rfl) (hall 12 (by decide))
            have h122 : ac.eval (.tmp 122) = .agg L.toArray := hF.done 13 (122, SP.is (.agg L.toArray)) (by rw [hD]; rfl) (hall 13 (by decide))
            have h123 : ac.eval (.tmp 123) = .slice (some ⟨g, 0, none⟩) j (j + 2) := hF.done 14 (123, SP.is (.slice (some ⟨g, 0, none⟩) j (j + 2))) (by rw [hD]; rfl) (hall 14 (by decide))
            have h124 : ac.eval (.tmp 124) = .int .i64 O2 := hF.done 15 (124, SP.is (.int .i64 O2)) (by rw [hD]; rfl) (hall 15 (by decide))
            have h125 : ac.eval (.tmp 125) = .bool false := hF.done 16 (125, SP.is (.bool false)) (by rw [hD]; rfl) (hall 16 (by decide))
            have ea := hF.lay [(109, .pointer (some ⟨y, 0, none⟩)), (110, .agg (vB s.root).toArray), (111, .pointer (some ⟨y, 32, none⟩)), (112, .int .i64 s.n), (113, .pointer (some ⟨y, 33, none⟩)), (114, .agg L.toArray), (115, .slice (some ⟨g, 0, none⟩) j (j + 2)), (116, .int .i64 O2), (117, .pointer (some ⟨y, 0, none⟩)), (118, .agg (vB s.root).toArray), (119, .pointer (some ⟨y, 32, none⟩)), (120, .int .i64 s.n), (121, .pointer (some ⟨y, 33, none⟩)), (122, .agg L.toArray), (123, .slice (some ⟨g, 0, none⟩) j (j + 2)), (124, .int .i64 O2), (125, .bool false)] (by rw [hD, hsz]; rfl) (by simp only [List.forall_mem_cons, List.not_mem_nil, false_implies, implies_true, and_true]; exact ⟨h109, h110, h111, h112, h113, h114, h115, h116, h117, h118, h119, h120, h121, h122, h123, h124, h125⟩)
            rw [ha0] at ea
            simp only [List.foldl_cons, List.foldl_nil, List.setIfInBounds_toArray, List.set_cons_zero, List.set_cons_succ] at ea
            clear hF hall hr hl hD  zs4 zs6 ha0 hsz h109 h110 h111 h112 h113 h114 h115 h116 h117 h118 h119 h120 h121 h122 h123 h124 h125
            subst ea

            have HB : Hid (Below w.heap.size w W) := hb1
            clear hb1 rg ry H1 H2
            go_wp2
            refine ⟨⟨t + 1, hlt, by go_num, HB⟩, by simp [intOf]; omega⟩
    · obtain rfl : t = n0 := by omega
      go_wp2
      go_ret
      exact ⟨rfl, HB.out⟩

end Go.Proofs.YtehjadgmleoobaaDoor
