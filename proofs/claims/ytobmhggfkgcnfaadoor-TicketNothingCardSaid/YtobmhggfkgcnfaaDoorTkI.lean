/-
  Find, Cancel.
-/
import Derived.Test.YtobmhggfkgcnfaaDoorTkH
namespace Go.Proofs.YtobmhggfkgcnfaaDoor
open Go Go.RowKit Go.Maps
open Sha
open Wd

theorem Tl.set1 {L : List Value} {sd td : List (BitVec 8)} (h : Tl L 0 sd td) : Tl (L.set 0 (.int .i64 1)) 1 sd td := ⟨by rw [h.eq]; rfl, h.ls, h.lt⟩
set_option maxRecDepth 100000 in
theorem find_nil (n : Int) (L : List Value) (hL : L = tz 0) (w : World) : Calls Tryd.prog 7 #[.pointer none, .int .i64 n] w fun e w' => e = .returned (.tuple #[.agg L.toArray, .int .i64 1]) ∧ Below w.heap.size w w' := by
  have HL : Hid (L = tz 0) := hL
  have HI : Hid ((Tryd.prog.info? 29).map (·.size) = some L.length) := by show _ = _; rw [hL]; exact info_tk
  have HN : Hid (L.length = (tz 0).length) := by show _ = _; rw [hL]
  have HO : Hid (L.toArray.all (·.oneCell') = true) := tz_one 0 hL
  clear hL
  go_enter Tryd.func7, Tryd.ntmps7
  go_wp2_with (first
    | (refine wpList_allocT rfl rfl ?_; intro X q1 q2 q3; have R4 : Hid (Row X _ (tz 0) 29) := q1; have BB : Hid (Below _ _ X) := q2; clear q1 q2 q3; simp only [Act.put, List.setIfInBounds_toArray, List.set_cons_zero, List.set_cons_succ])
    | (refine wpList_buildZ rfl rfl L HL.out ?_; simp only [Act.put, List.setIfInBounds_toArray, List.set_cons_zero, List.set_cons_succ])
    | (refine wpList_storeL rfl 29 (.tmp 4) (.tmp 12) rfl w.heap.size L (tz 0) 29 rfl rfl R4.out HN.out HI.out HO.out ?_; intro Y q1 q2; have HY : Hid (Y = _) := q1; have RY : Hid (Row Y w.heap.size L 29) := q2; clear q1 q2; simp only [Act.put]))
  exact bodyPost_ret (resT_row_tmp Tryd.results7 _ _ w.heap.size 29 L (.int .i64 1) rfl rfl RY.out Tryd.underlying29 HI.out) rfl ⟨rfl, by rw [HY.out]; exact below_setCells BB.out (Nat.le_refl _) _⟩
set_option maxRecDepth 100000 in
set_option maxHeartbeats 2000000 in
theorem find_gone (w0 : World) (S q : Nat) (f : ByteArray → List (BitVec 8)) (hq : q < 999990) (hf : f kK = []) (L : List Value) (hL : L = tz 0) (w : World) (h : Lg w0 w S q f) :
    Calls Tryd.prog 7 #[.pointer (some ⟨S, 0, none⟩), .int .i64 1] w fun e w' => e = .returned (.tuple #[.agg L.toArray, .int .i64 90]) ∧ Lg w0 w' S (q + 1) f ∧ Kp w w' := by
  obtain ⟨b4, hb4⟩ : ∃ b, b = w.heap.size := ⟨_, rfl⟩
  have HB4 : Hid (b4 = w.heap.size) := hb4
  have HW0 : Hid (w0.heap.size ≤ w.heap.size) := h.bel.size
  have HQ : Hid (q < 1000000) := by show _ < _; omega
  have HF : Hid (f kK = _) := hf
  have HG : Hid (Lg w0 w S q f) := h
  have HL : Hid (L = tz 0) := hL
  have HI : Hid ((Tryd.prog.info? 29).map (·.size) = some L.length) := by show _ = _; rw [hL]; exact info_tk
  have HN : Hid (L.length = (tz 0).length) := by show _ = _; rw [hL]
  have HO : Hid (L.toArray.all (·.oneCell') = true) := tz_one 0 hL
  clear hq hf hL h hb4
  go_enter Tryd.func7, Tryd.ntmps7
  go_wp2_with (refine wpList_allocT rfl rfl ?_; intro X q1 q2 q3; have R4 : Hid (Row X _ (tz 0) 29) := q1; have BB : Hid (Below _ _ X) := q2; clear q1 q2 q3; simp only [Act.put, List.setIfInBounds_toArray, List.set_cons_zero, List.set_cons_succ])
  rw [← HB4.out] at R4
  rw [← HB4.out]
  replace HG : Hid (Lg w0 X S q f) := HG.out.be BB.out
  have HK : Hid (Kp w X) := Kp.of_below BB.out
  clear BB
  refine Calls.mono (tkey X) ?_
  rintro e V1 ⟨rfl, hB⟩
  replace R4 : Hid (Row V1 b4 (tz 0) 29) := Row.below R4.out hB R4.out.lt
  replace HG : Hid (Lg w0 V1 S q f) := HG.out.be hB
  replace HK : Hid (Kp w V1) := HK.out.trans (Kp.of_below hB)
  clear hB
  go_wp2_with fail
  refine Calls.mono (get_lg w0 S q f HQ.out kK kK_key 0 [] HF.out rfl V1 HG.out) ?_
  rintro e V2 ⟨A, c, rfl, hb, hn, hG, hK⟩
  replace R4 : Hid (Row V2 b4 (tz 0) 29) := hK.row _ _ _ (by decide) R4.out
  replace HG : Hid (Lg w0 V2 S (q + 1) f) := hG
  replace HK : Hid (Kp w V2) := HK.out.trans hK
  clear hb hn hG hK
  go_wp2_with (first
    | (refine wpList_buildZ rfl rfl L HL.out ?_; simp only [Act.put, List.setIfInBounds_toArray, List.set_cons_zero, List.set_cons_succ])
    | (refine wpList_storeL rfl 29 (.tmp 4) (.tmp 37) rfl b4 L (tz 0) 29 rfl rfl R4.out HN.out HI.out HO.out ?_; intro Y q1 q2; have HY : Hid (Y = _) := q1; have RY : Hid (Row Y b4 L 29) := q2; clear q1 q2; simp only [Act.put]))
  have hw4 : w0.heap.size ≤ b4 := by rw [HB4.out]; exact HW0.out
  have gG : Lg w0 Y S (q + 1) f := by rw [HY.out]; exact HG.out.kept R4.out (by decide) (by decide) (by decide) (by decide) (fun k hk => heap_sets _ _ _ _ _ hk) (below_setCells HG.out.bel hw4 _)
  have gK : Kp w Y := by rw [HY.out]; exact Kp.kept b4 (by rw [HB4.out]; exact Nat.le_refl _) HK.out (fun k hk => heap_sets _ _ _ _ _ hk) (below_setCells (Below.refl 0 _) (Nat.zero_le b4) _).size
  exact bodyPost_ret (resT_row_tmp Tryd.results7 _ _ b4 29 L (.int .i64 90) rfl rfl RY.out Tryd.underlying29 HI.out) rfl ⟨rfl, gG, gK⟩
set_option maxRecDepth 100000 in
set_option maxHeartbeats 2000000 in
theorem find_ok (w0 : World) (S q : Nat) (f : ByteArray → List (BitVec 8)) (hq : q < 999990) (sd td : List (BitVec 8)) (hf : f kK = tkB sd td) (L0 L : List Value) (hL0 : Tl L0 0 sd td) (hL : L = L0.set 0 (.int .i64 1)) (w : World) (h : Lg w0 w S q f) :
    Calls Tryd.prog 7 #[.pointer (some ⟨S, 0, none⟩), .int .i64 1] w fun e w' => e = .returned (.tuple #[.agg L.toArray, .int .i64 0]) ∧ Lg w0 w' S (q + 1) f ∧ Kp w w' := by
  obtain ⟨b4, hb4⟩ : ∃ b, b = w.heap.size := ⟨_, rfl⟩
  have HB4 : Hid (b4 = w.heap.size) := hb4
  have HW0 : Hid (w0.heap.size ≤ w.heap.size) := h.bel.size
  have HQ : Hid (q < 1000000) := by show _ < _; omega
  have HF : Hid (f kK = _) := hf
  have HG : Hid (Lg w0 w S q f) := h
  have HT : Hid (Tl L0 0 sd td) := hL0
  have HL : Hid (L = L0.set 0 (.int .i64 1)) := hL
  have ht1 := hL0.set1
  rw [← hL] at ht1
  have HT1 : Hid (Tl L 1 sd td) := ht1
  have HI0 : Hid ((Tryd.prog.info? 29).map (·.size) = some L0.length) := by show _ = _; rw [hL0.len]; exact info_tk
  have HI : Hid ((Tryd.prog.info? 29).map (·.size) = some L.length) := by show _ = _; rw [ht1.len]; exact info_tk
  clear hq hf hL0 hL ht1 h hb4
  go_enter Tryd.func7, Tryd.ntmps7
  go_wp2_with (refine wpList_allocT rfl rfl ?_; intro X q1 q2 q3; have R4 : Hid (Row X _ (tz 0) 29) := q1; have BB : Hid (Below _ _ X) := q2; clear q1 q2 q3; simp only [Act.put, List.setIfInBounds_toArray, List.set_cons_zero, List.set_cons_succ])
  rw [← HB4.out] at R4
  rw [← HB4.out]
  replace HG : Hid (Lg w0 X S q f) := HG.out.be BB.out
  have HK : Hid (Kp w X) := Kp.of_below BB.out
  clear BB
  refine Calls.mono (tkey X) ?_
  rintro e V1 ⟨rfl, hB⟩
  replace R4 : Hid (Row V1 b4 (tz 0) 29) := Row.below R4.out hB R4.out.lt
  replace HG : Hid (Lg w0 V1 S q f) := HG.out.be hB
  replace HK : Hid (Kp w V1) := HK.out.trans (Kp.of_below hB)
  clear hB
  go_wp2_with fail
  refine Calls.mono (get_lg w0 S q f HQ.out kK kK_key 81 (tkB sd td) HF.out (tkB_len HT.out.ls HT.out.lt) V1 HG.out) ?_
  rintro e V2 ⟨A, c, rfl, hb, hn, hG, hK⟩
  obtain ⟨g, rfl, hc, hr⟩ := bw_open hb (by decide)
  replace R4 : Hid (Row V2 b4 (tz 0) 29) := hK.row _ _ _ (by decide) R4.out
  replace HG : Hid (Lg w0 V2 S (q + 1) f) := hG
  replace HK : Hid (Kp w V2) := HK.out.trans hK
  have HR : Hid _ := readT sd td HT.out.ls HT.out.lt g c hc L0 HT.out V2 hr
  clear hb hn hG hK hc hr
  go_wp2_with fail
  refine Calls.mono HR.out ?_
  rintro e V3 ⟨rfl, hB⟩
  replace R4 : Hid (Row V3 b4 (tz 0) 29) := Row.below R4.out hB R4.out.lt
  replace HG : Hid (Lg w0 V3 S (q + 1) f) := HG.out.be hB
  replace HK : Hid (Kp w V3) := HK.out.trans (Kp.of_below hB)
  obtain ⟨p8, hp8⟩ : ∃ p, p = V3.heap.size := ⟨_, rfl⟩
  have HP8 : Hid (p8 = V3.heap.size) := hp8
  have HN0 : Hid (L0.length = (tz 0).length) := HT.out.len
  have HO0 : Hid (L0.toArray.all (·.oneCell') = true) := HT.out.one
  clear hB HR hp8
  go_upto_region 11 with (first
    | (refine wpList_allocT rfl rfl ?_; intro X8 q1 q2 q3; have R8 : Hid (Row X8 _ (tz 0) 29) := q1; have B8 : Hid (Below _ _ X8) := q2; clear q1 q2 q3; simp only [Act.put, List.setIfInBounds_toArray, List.set_cons_zero, List.set_cons_succ])
    | (refine wpList_storeL rfl 29 (.tmp 8) (.tmp 41) rfl V3.heap.size L0 (tz 0) 29 rfl rfl R8.out HN0.out HI0.out HO0.out ?_; intro Y8 q1 q2; have HY8 : Hid (Y8 = _) := q1; have RY8 : Hid (Row Y8 V3.heap.size L0 29) := q2; clear q1 q2; simp only [Act.put]))
  rw [← HP8.out] at RY8 HY8
  rw [← HP8.out]
  have b8 : Below V3.heap.size V3 Y8 := by rw [HY8.out]; exact below_setCells B8.out (by rw [HP8.out]; exact Nat.le_refl _) _
  have hpw : w.heap.size ≤ p8 := by rw [HP8.out]; exact HK.out.size
  have h48 : b4 ≠ p8 := by have := R4.out.lt; rw [HP8.out]; omega
  replace R4 : Hid (Row Y8 b4 (tz 0) 29) := Row.below R4.out b8 R4.out.lt
  replace HG : Hid (Lg w0 Y8 S (q + 1) f) := HG.out.be b8
  replace HK : Hid (Kp w Y8) := HK.out.trans (Kp.of_below b8)
  have g0 := RY8.out.cell 0 _ HT.out.c_n
  have k0 := RY8.out.thaw 0
  obtain ⟨Y9, hY9⟩ : ∃ Y, Y = Y8.setCell ⟨p8, 0, none⟩ (.int .i64 1) := ⟨_, rfl⟩
  have HY9 : Hid (Y9 = _) := hY9
  have R9 : Hid (Row Y9 p8 L 29) := by rw [hY9, HL.out]; exact RY8.out.set 0 _
  have R49 : Hid (Row Y9 b4 (tz 0) 29) := by rw [hY9]; exact Row.set_other R4.out _ _ _ h48
  have G9 : Hid (Lg w0 Y9 S (q + 1) f) := by rw [hY9]; exact HG.out.kept RY8.out (by decide) (by decide) (by decide) (by decide) (fun k hk => Below.heap_setCell _ _ _ _ hk) (HG.out.bel.setCell (Nat.le_trans HW0.out hpw) _)
  have K9 : Hid (Kp w Y9) := by rw [hY9]; exact Kp.kept p8 hpw HK.out (fun k hk => Below.heap_setCell _ _ _ _ hk) (by simp)
  clear hY9 b8 hpw h48 B8 HY8 R8
  go_upto_region 14 with fail
  rw [← HY9.out]
  have RL : Hid (Y9.rangeAt p8 0 L) := R9.out.all
  have HN1 : Hid (L.length = (tz 0).length) := HT1.out.len
  have HO1 : Hid (L.toArray.all (·.oneCell') = true) := HT1.out.one
  clear HY9 g0 k0 R4 HG HK RY8
  go_wp2_with (first
    | (refine wpList_load_w rfl 29 (.tmp 8) rfl p8 0 rfl L _ RL.out Tryd.underlying29 rfl HI.out ?_; simp only [Act.put, List.setIfInBounds_toArray, List.set_cons_zero, List.set_cons_succ])
    | (refine wpList_storeL rfl 29 (.tmp 4) (.tmp 49) rfl b4 L (tz 0) 29 rfl rfl R49.out HN1.out HI.out HO1.out ?_; intro Y q1 q2; have HY : Hid (Y = _) := q1; have RY : Hid (Row Y b4 L 29) := q2; clear q1 q2; simp only [Act.put]))
  have hw4 : w0.heap.size ≤ b4 := by rw [HB4.out]; exact HW0.out
  have gG : Lg w0 Y S (q + 1) f := by rw [HY.out]; exact G9.out.kept R49.out (by decide) (by decide) (by decide) (by decide) (fun k hk => heap_sets _ _ _ _ _ hk) (below_setCells G9.out.bel hw4 _)
  have gK : Kp w Y := by rw [HY.out]; exact Kp.kept b4 (by rw [HB4.out]; exact Nat.le_refl _) K9.out (fun k hk => heap_sets _ _ _ _ _ hk) (below_setCells (Below.refl 0 _) (Nat.zero_le b4) _).size
  exact bodyPost_ret (resT_row_tmp Tryd.results7 _ _ b4 29 L (.int .i64 0) rfl rfl RY.out Tryd.underlying29 HI.out) rfl ⟨rfl, gG, gK⟩

end Go.Proofs.YtobmhggfkgcnfaaDoor
