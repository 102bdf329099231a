/-
  TreeLogs: the document's Add.
-/
import Derived.Test.YtkgfaioinajkjaaDoorTlB
namespace Go.Proofs.YtkgfaioinajkjaaDoor
open Go Go.RowKit
open Sha

theorem take_last (F : List (List (BitVec 8))) (k : Nat) (h : k < F.length) : F.take (k + 1) = F.take k ++ [F.getD k []] := by
  rw [List.take_add_one, List.getD_eq_getElem?_getD, List.getElem?_eq_getElem h]
  rfl
theorem getD_32 (F : List (List (BitVec 8))) (h32 : ∀ d ∈ F, d.length = 32) (k : Nat) (h : k < F.length) : (F.getD k []).length = 32 := by
  rw [List.getD_eq_getElem?_getD, List.getElem?_eq_getElem h]
  exact h32 _ (List.getElem_mem h)
set_option maxRecDepth 100000 in
set_option maxHeartbeats 4000000 in
theorem radd_ok (m : Nat) (hm : m < 1099511627776) (A : Option Addr) (n c : Nat) (F : List (List (BitVec 8))) (hn : n = F.length) (hT : t1 m ≤ n) (hnb : n ≤ 41) (LG : List Value) (hLG : LG = [.int .i64 (m : Int), .slice A n c]) (Al : Option Addr) (nl cl : Nat) (d p0 : List (BitVec 8)) (hp0 : p0 = dig ([0#8] ++ d)) (hd : d.length = nl) (hl : nl + 1 ≤ 140737488355000) (hnil : Al = none → cl = 0) (N1 : Nat) (hN1 : N1 = (addF (t1 m) F p0).length) (w : World) (fG : Given w) (hlv : SlAt w (.slice Al nl cl) d) (hp : PAt w (.slice A n c) F) :
    Calls Tryd.prog 10 #[.agg LG.toArray, .slice Al nl cl] w fun e w' => ∃ A' c', e = .returned (.tuple #[.agg #[.int .i64 ((m + 1 : Nat) : Int), .slice A' N1 c'], .int .i64 (m : Int)]) ∧ Ow w' (.slice A' N1 c') N1 (vB (addF (t1 m) F p0).flatten) ∧ Fresh w.heap.size (.slice A' N1 c') ∧ Below w.heap.size w w' := by
  have h32 := hp.1
  have hP0 : p0.length = 32 := by rw [hp0]; exact dig_length _
  have HLF : Hid (∀ X, Below w.heap.size w X → Calls Tryd.prog 28 #[.slice Al nl cl] X fun e w' => e = .returned (.agg (vB p0).toArray) ∧ Below X.heap.size X w') := fun X hX => rleaf_any d p0 hp0 nl hd hl Al cl hnil X (fG.low hX) (hlv.below hX (Nat.le_refl _))
  have HP : Hid (∀ X, Below w.heap.size w X → PAt X (.slice A n c) F) := fun X hX => hp.below hX
  have HKT : Hid (∀ W, Below w.heap.size w W → Given W) := fun W hB => fG.low hB
  have HN : Hid (n = F.length) := hn
  have H32 : Hid (∀ d ∈ F, d.length = 32) := h32
  have HP32 : Hid (p0.length = 32) := hP0
  have HK : Hid (n * 32 ≤ 281474976710656) := by show _ ≤ _; omega
  have HL0 : Hid (LG[0]? = some (.int .i64 (m : Int))) := by show _ = _; rw [hLG]; rfl
  have HL1 : Hid (LG[1]? = some (.slice A n c)) := by show _ = _; rw [hLG]; rfl
  have HT : Hid (t1 m ≤ n) := hT
  have HID0 : Hid ((Tryd.prog.info? 42).map (·.size) = some (vB p0).length) := dl_info hP0
  have HLD0 : Hid ((vB p0).length = (vB (List.replicate 32 0#8)).length) := by show _ = _; rw [vB_length, vB_length, hP0]; rfl
  have HN1 : Hid (N1 = (addF (t1 m) F p0).length) := hN1
  have c1 : ¬ (1099511627776 : Int) ≤ (m : Int) := by omega
  clear hn hT hLG hp0 hd hl hnil fG hlv hp h32 hP0 hN1
  go_enter Tryd.func10, Tryd.ntmps10
  go_upto_region 1 with (first
    | (refine wpList_boxG tRL rfl (.tmp 0) rfl LG rfl ?_; intro X0 q1 q2 q3; have Q0 : Hid (Row X0 w.heap.size LG tRL) := q1; have B0 : Hid (Below w.heap.size w X0) := q2; clear q1 q2 q3; simp only [Act.put, List.setIfInBounds_toArray, List.set_cons_zero, List.set_cons_succ])
    | (refine wpList_allocRL rfl rfl ?_; intro X1 q1 q2; have R4a : Hid (Row X1 X0.heap.size zLg tRL) := q1; have B1 : Hid (Below w.heap.size w X1) := B0.out.trans (q2.mono B0.out.size); have R2a : Hid (Row X1 w.heap.size LG tRL) := Row.below Q0.out q2 Q0.out.lt; clear q1 q2; simp only [Act.put, List.setIfInBounds_toArray, List.set_cons_zero, List.set_cons_succ]))
  obtain ⟨b2, hb2⟩ : ∃ b, b = w.heap.size := ⟨_, rfl⟩
  obtain ⟨b4, hb4⟩ : ∃ b, b = X0.heap.size := ⟨_, rfl⟩
  have N24 : Hid (b2 < b4 ∧ w.heap.size ≤ b2) := by have := Q0.out.lt; exact ⟨by omega, by omega⟩
  rw [← hb2] at R2a ⊢
  rw [← hb4] at R4a ⊢
  clear hb2 hb4 Q0 B0
  have g0 := R2a.out.cell 0 _ HL0.out
  have g1 := R2a.out.cell 1 _ HL1.out
  go_upto_region 4 with (refine wpList_mkD rfl (.tmp 15) (.tmp 15) rfl n rfl rfl HK.out ?_; intro X2 q1 q2; have M2 : Hid (Row X2 X1.heap.size (vB (List.replicate (n * 32) 0#8)) 42) := q1; have B2 : Hid (Below w.heap.size w X2) := B1.out.trans (q2.mono B1.out.size); have R2b : Hid (Row X2 b2 LG tRL) := Row.below R2a.out q2 R2a.out.lt; have R4b : Hid (Row X2 b4 zLg tRL) := Row.below R4a.out q2 R4a.out.lt; clear q1 q2; simp only [Act.put, List.setIfInBounds_toArray, List.set_cons_zero, List.set_cons_succ])
  obtain ⟨g, hg⟩ : ∃ b, b = X1.heap.size := ⟨_, rfl⟩
  have N4g : Hid (b4 < g ∧ w.heap.size ≤ g) := by have := R4a.out.lt; have := B1.out.size; exact ⟨by omega, by omega⟩
  rw [← hg] at M2 ⊢
  clear hg g0 g1 R2a R4a B1
  have g1 := R2b.out.cell 1 _ HL1.out
  go_upto_region 5 with (refine wpList_cpD rfl (.tmp 17) (.tmp 19) rfl g n A c F HN.out rfl rfl (HP.out X2 B2.out) M2.out ?_; intro X3 q1 q2; have M3 : Hid (Row X3 g (vB F.flatten) 42) := q2; have B3 : Hid (Below w.heap.size w X3) := (by rw [q1]; exact below_setCells B2.out N4g.out.2 _); have R2c : Hid (Row X3 b2 LG tRL) := (by rw [q1]; exact Row.setCells_other R2b.out _ _ _ (by have := N4g.out.1; have := N24.out.1; omega)); have R4c : Hid (Row X3 b4 zLg tRL) := (by rw [q1]; exact Row.setCells_other R4b.out _ _ _ (by have := N4g.out.1; omega)); clear q1 q2; simp only [Act.put, List.setIfInBounds_toArray, List.set_cons_zero, List.set_cons_succ])
  clear g1 R2b R4b M2 B2
  go_upto_region 6 with (first
    | (go_at_call 28; refine Calls.mono (HLF.out X3 B3.out) ?_; rintro e X4 ⟨rfl, p⟩; have M4 : Hid (Row X4 g (vB F.flatten) 42) := Row.below M3.out p M3.out.lt; have B4 : Hid (Below w.heap.size w X4) := B3.out.trans (p.mono B3.out.size); have R2d : Hid (Row X4 b2 LG tRL) := Row.below R2c.out p R2c.out.lt; have R4d : Hid (Row X4 b4 zLg tRL) := Row.below R4c.out p R4c.out.lt; clear p)
    | (refine wpList_allocD rfl rfl ?_; intro X5 q1 q2 q3; have RZ : Hid (Row X5 X4.heap.size (vB (List.replicate 32 0#8)) 42) := q1; have BZ : Hid (Below X4.heap.size X4 X5) := q2; clear q1 q2 q3; simp only [Act.put, List.setIfInBounds_toArray, List.set_cons_zero, List.set_cons_succ])
    | (refine wpList_storeL rfl 42 (.tmp 7) (.tmp 22) rfl X4.heap.size (vB p0) (vB (List.replicate 32 0#8)) 42 rfl rfl RZ.out HLD0.out HID0.out (all_oneCell_toArray (vB_one p0)) ?_; intro X6 q1 q2; have p : Below X4.heap.size X4 X6 := (by rw [q1]; exact below_setCells BZ.out (Nat.le_refl _) _); have R7 : Hid (Row X6 X4.heap.size (vB p0) 42) := q2; have M6 : Hid (Row X6 g (vB F.flatten) 42) := Row.below M4.out p M4.out.lt; have B6 : Hid (Below w.heap.size w X6) := B4.out.trans (p.mono B4.out.size); have R2e : Hid (Row X6 b2 LG tRL) := Row.below R2d.out p R2d.out.lt; have R4e : Hid (Row X6 b4 zLg tRL) := Row.below R4d.out p R4d.out.lt; clear p q1 q2; simp only [Act.put]))
  obtain ⟨b7, hb7⟩ : ∃ b, b = X4.heap.size := ⟨_, rfl⟩
  have N47 : Hid (g < b7 ∧ w.heap.size ≤ b7) := by have := M4.out.lt; have := B4.out.size; exact ⟨by omega, by omega⟩
  rw [← hb7] at R7 ⊢
  clear hb7 RZ BZ M3 M4 B3 B4 R2c R2d R4c R4d HLF HP
  have g0 := R2e.out.cell 0 _ HL0.out
  go_wp2_with fail
  go_loopw [6, 8] (fun v6 v8 wr => ∃ (j q : Nat) (cur : List (BitVec 8)), j ≤ n ∧ q ≤ m ∧ v6 = .slice (some ⟨g, 0, none⟩) j n ∧ v8 = .int .i64 (q : Int) ∧ Hid (cur.length = 32) ∧ Hid (t1 q ≤ j ∧ addF (t1 q) (F.take j) cur = addF (t1 m) F p0) ∧ Hid (Row wr b7 (vB cur) 42) ∧ Hid (Row wr g (vB F.flatten) 42) ∧ Hid (Row wr b2 LG tRL) ∧ Hid (Row wr b4 zLg tRL) ∧ Hid (Below w.heap.size w wr)) (fun _ v8 _ => (intOf v8).toNat)
  case atStart => exact ⟨n, m, p0, Nat.le_refl _, Nat.le_refl _, rfl, rfl, HP32, ⟨HT.out, by rw [List.take_of_length_le (by rw [← HN.out]; exact Nat.le_refl _)]⟩, R7, M6, R2e, R4e, B6⟩
  case round =>
    clear R7 M6 R2e R4e B6 g0
    obtain ⟨j, q, cur, hj, hqm, rfl, rfl, HC0, HAF, R7, Rg, R2, R4, BW⟩ := hrel
    by_cases ho : q % 2 = 1
    · have hq1 : (q : Int).tmod 2 = 1 := by rw [Int.tmod_eq_emod_of_nonneg (by omega)]; omega
      have hq2 : (q : Int).tdiv 2 = ((q / 2 : Nat) : Int) := by rw [Int.tdiv_eq_ediv_of_nonneg (by omega)]; omega
      have hto := t1_odd q ho
      obtain ⟨k, rfl⟩ : ∃ k, j = k + 1 := ⟨j - 1, by have := HAF.out.1; omega⟩
      have hkF : k < F.length := by have := HN.out; omega
      obtain ⟨x, hx⟩ : ∃ x, x = F.getD k [] := ⟨_, rfl⟩
      obtain ⟨dd, hdd⟩ : ∃ dd, dd = nd x cur := ⟨_, rfl⟩
      have HX0 : Hid (Dl x) := by rw [hx]; exact getD_32 F H32.out k hkF
      have HC0' : Hid (Dl cur) := HC0.out
      have HD : Hid (dd = dig ([1#8] ++ (x ++ cur))) := hdd
      have HDL : Hid (dd.length = 32) := by show _ = _; rw [hdd]; exact nd_len _ _
      have HIC : Hid ((Tryd.prog.info? 42).map (·.size) = some (vB cur).length) := dl_info HC0.out
      have HIX : Hid ((Tryd.prog.info? 42).map (·.size) = some (vB x).length) := dl_info HX0.out
      have HID : Hid ((Tryd.prog.info? 42).map (·.size) = some (vB dd).toArray.size) := dl_info' HDL.out
      have HRX : Hid (∀ W, Row W g (vB F.flatten) 42 → W.rangeAt g (0 + k * 32) (vB x)) := fun W r => by
        rw [Nat.zero_add, hx]
        have o := row_owk r HN.out.symm H32.out (Nat.le_refl n) (by omega)
        rw [List.take_of_length_le (by rw [← HN.out]; exact Nat.le_refl _)] at o
        exact Ow.at o HN.out.symm H32.out k (by omega)
      have HNX : Hid (t1 (q / 2) ≤ k ∧ addF (t1 (q / 2)) (F.take k) dd = addF (t1 m) F p0) := by
        have h9 := HAF.out
        rw [hto] at h9
        refine ⟨by omega, ?_⟩
        rw [take_last F k hkF, addF_more, ← hx] at h9
        rw [hdd]; exact h9.2
      have HKB : Hid (k ≤ 1000) := by show _ ≤ _; omega
      have hkn : k ≤ n := by omega
      have hb1 := BW.out
      have r7 := R7.out
      have rg := Rg.out
      have r2 := R2.out
      have r4 := R4.out
      have m1 : b7 ≠ g ∧ b7 ≠ b2 ∧ b7 ≠ b4 := by have := N47.out.1; have := N4g.out.1; have := N24.out.1; exact ⟨by omega, by omega, by omega⟩
      have hb7w : w.heap.size ≤ b7 := N47.out.2
      clear hx hdd hto hkF R7 Rg R2 R4 BW HC0 HAF
      have HC0 : Hid (Dl cur) := HC0'
      have HCL : Hid (cur.length = 32) := HC0'.out
      go_upto_region 9 with fail
      go_wp2_with fail
      refine wp_named fun a0 ha0 => ?_
      have hsz : a0.tmps.size = 54 := by rw [ha0]; rfl
      have zs2 : a0.eval (.tmp 2) = .pointer (some ⟨b2, 0, none⟩) := by rw [ha0]; rfl
      have zs6 : a0.eval (.tmp 6) = .slice (some ⟨g, 0, none⟩) (k + 1) n := by rw [ha0]; rfl
      have zs7 : a0.eval (.tmp 7) = .pointer (some ⟨b7, 0, none⟩) := by rw [ha0]; rfl
      obtain ⟨D, hD⟩ : ∃ D : List (Tmp × SP), D = [(30, SP.is (.slice (some ⟨g, 0, none⟩) (k + 1) n)), (31, SP.is (.slice (some ⟨g, 0, none⟩) (k + 1) n)), (32, SP.is (.int .i64 ((k + 1 : Nat) : Int))), (33, SP.is (.int .i64 (k : Int))), (34, SP.is (.pointer (some ⟨g, 0 + k * 32, none⟩))), (35, SP.is (.agg (vB x).toArray)), (36, SP.is (.agg (vB cur).toArray)), (37, SP.is (.agg (vB dd).toArray)), (1000, SP.any)] := ⟨_, rfl⟩
      refine wp_region_down (by kernel_rfl) (fun listed ac W => listed.size = 9 ∧ Fp D a0 listed ac W ∧ Below w.heap.size w W ∧ Row W b7 (if listed.getD 8 false = true then (vB dd) else (vB cur)) 42 ∧ Row W g ((vB F.flatten)) 42 ∧ Row W b2 LG 28 ∧ Row W b4 zLg 28) ?_ ?_ ?_
      · exact ⟨by simp, Fp.start D a0 _ _, Below.drew hb1, (by rw [if_neg (fun h => start_no h)]; exact Row.drew r7), Row.drew rg, Row.drew r2, Row.drew r4⟩
      · clear ha0 hb1 r7 rg r2 r4 
        intro listed ac W k hI hdn hk
        obtain ⟨hl, hF, hb1, r7, rg, r2, r4⟩ := hI
        have hk1 : k < 9 := List.mem_range.1 (List.mem_filter.1 hk).1
        have hl2 : ∀ j, (listed.setIfInBounds j true).size = 9 := fun j => by rw [Array.size_setIfInBounds]; exact hl
        rcases (show k = 0 ∨ k = 1 ∨ k = 2 ∨ k = 3 ∨ k = 4 ∨ k = 5 ∨ k = 6 ∨ k = 7 ∨ k = 8 by omega) with rfl | rfl | rfl | rfl | rfl | rfl | rfl | rfl | rfl
        · have hk3 := hk
          exact wpOp_plain rfl rfl (wp_move_v (ac.eval (.tmp 6)) rfl rfl ⟨hl2 0, (hF.put 0 30 (SP.is (.slice (some ⟨g, 0, none⟩) (k + 1) n)) (ac.eval (.tmp 6)) (by rw [hD]; rfl) (((hF.keep 6 (by rw [hD]; rfl)).trans zs6)) (by rw [hD]; rfl) (by rw [hsz]; decide) (by rw [hl]; decide)), hb1, (by rw [getD_set _ _ _ (by decide)]; exact r7), rg, r2, r4⟩)
        · have hk3 := hk
          exact wpOp_plain rfl rfl (wp_move_v (ac.eval (.tmp 6)) rfl rfl ⟨hl2 1, (hF.put 1 31 (SP.is (.slice (some ⟨g, 0, none⟩) (k + 1) n)) (ac.eval (.tmp 6)) (by rw [hD]; rfl) (((hF.keep 6 (by rw [hD]; rfl)).trans zs6)) (by rw [hD]; rfl) (by rw [hsz]; decide) (by rw [hl]; decide)), hb1, (by rw [getD_set _ _ _ (by decide)]; exact r7), rg, r2, r4⟩)
        · have hk3 := hk
          have ea := (hF.done 1 (31, SP.is (.slice (some ⟨g, 0, none⟩) (k + 1) n)) (by rw [hD]; rfl) (ready_dep hk 1 (by kernel_rfl)))
          exact wpOp_plain rfl rfl (wp_len_s 26 42 _ (k + 1) n rfl Tryd.underlying26 ea ⟨hl2 2, (hF.put 2 32 (SP.is (.int .i64 ((k + 1 : Nat) : Int))) (.int .i64 ((k + 1 : Nat) : Int)) (by rw [hD]; rfl) rfl (by rw [hD]; rfl) (by rw [hsz]; decide) (by rw [hl]; decide)), hb1, (by rw [getD_set _ _ _ (by decide)]; exact r7), rg, r2, r4⟩)
        · have hk3 := hk
          have ea := (hF.done 2 (32, SP.is (.int .i64 ((k + 1 : Nat) : Int))) (by rw [hD]; rfl) (ready_dep hk 2 (by kernel_rfl)))
          exact wpOp_plain rfl rfl (wp_subk _ _ rfl k HKB.out ea ⟨hl2 3, (hF.put 3 33 (SP.is (.int .i64 (k : Int))) (.int .i64 (k : Int)) (by rw [hD]; rfl) rfl (by rw [hD]; rfl) (by rw [hsz]; decide) (by rw [hl]; decide)), hb1, (by rw [getD_set _ _ _ (by decide)]; exact r7), rg, r2, r4⟩)
        · have hk3 := hk
          have ea := (hF.done 0 (30, SP.is (.slice (some ⟨g, 0, none⟩) (k + 1) n)) (by rw [hD]; rfl) (ready_dep hk 0 (by kernel_rfl)))
          have eb := (hF.done 3 (33, SP.is (.int .i64 (k : Int))) (by rw [hD]; rfl) (ready_dep hk 3 (by kernel_rfl)))
          exact wpOp_plain rfl rfl (wp_index_s 26 42 rfl g 0 (k + 1) n k 32 ea eb (Nat.lt_succ_self k) Tryd.underlying26 info_dig ⟨hl2 4, (hF.put 4 34 (SP.is (.pointer (some ⟨g, 0 + k * 32, none⟩))) (.pointer (some ⟨g, 0 + k * 32, none⟩)) (by rw [hD]; rfl) rfl (by rw [hD]; rfl) (by rw [hsz]; decide) (by rw [hl]; decide)), hb1, (by rw [getD_set _ _ _ (by decide)]; exact r7), rg, r2, r4⟩)
        · have hk3 := hk
          have ea := (hF.done 4 (34, SP.is (.pointer (some ⟨g, 0 + k * 32, none⟩))) (by rw [hD]; rfl) (ready_dep hk 4 (by kernel_rfl)))
          exact wpOp_plain rfl rfl (wp_load_mid 42 (.tmp 34) rfl g (0 + k * 32) ea (vB x) _ (HRX.out W rg) Tryd.underlying42 rfl HIX.out ⟨hl2 5, (hF.put 5 35 (SP.is (.agg (vB x).toArray)) (.agg (vB x).toArray) (by rw [hD]; rfl) rfl (by rw [hD]; rfl) (by rw [hsz]; decide) (by rw [hl]; decide)), hb1, (by rw [getD_set _ _ _ (by decide)]; exact r7), rg, r2, r4⟩)
        · have hk3 := hk
          have ea := ((hF.keep 7 (by rw [hD]; rfl)).trans zs7)
          exact wpOp_plain rfl rfl (wp_load_mid 42 (.tmp 7) rfl b7 0 ea (vB cur) _ (Row.all (by have h9 := r7; rw [if_neg (fun h => not_yet hk (hdn 7 (hdn 8 h 7 (by kernel_rfl)) 6 (by kernel_rfl)))] at h9; exact h9)) Tryd.underlying42 rfl HIC.out ⟨hl2 6, (hF.put 6 36 (SP.is (.agg (vB cur).toArray)) (.agg (vB cur).toArray) (by rw [hD]; rfl) rfl (by rw [hD]; rfl) (by rw [hsz]; decide) (by rw [hl]; decide)), hb1, (by rw [getD_set _ _ _ (by decide)]; exact r7), rg, r2, r4⟩)
        · have hk3 := hk
          have ea := (hF.done 5 (35, SP.is (.agg (vB x).toArray)) (by rw [hD]; rfl) (ready_dep hk 5 (by kernel_rfl)))
          have eb := (hF.done 6 (36, SP.is (.agg (vB cur).toArray)) (by rw [hD]; rfl) (ready_dep hk 6 (by kernel_rfl)))
          refine wpOp_plain rfl rfl (wp_fcall_v 29 #[.agg (vB x).toArray, .agg (vB cur).toArray] rfl rfl (by show [ac.eval (.tmp 35), ac.eval (.tmp 36)] = _; rw [show ac.eval (.tmp 35) = _ from ea, show ac.eval (.tmp 36) = _ from eb]) (by go_simp) ((rnode_any x cur dd HX0.out HC0.out HD.out W (HKT.out W hb1)).mono ?_))
          rintro e W2 ⟨rfl, hB⟩
          exact ⟨_, rfl, hl2 7, ((hF.world hB).put 7 37 (SP.is (.agg (vB dd).toArray)) (.agg (vB dd).toArray) (by rw [hD]; rfl) rfl (by rw [hD]; rfl) (by rw [hsz]; decide) (by rw [hl]; decide)), hb1.trans (hB.mono hb1.size), (by rw [getD_set _ _ _ (by decide)]; exact Row.below r7 hB (Row.lt r7)), Row.below rg hB (Row.lt rg), Row.below r2 hB (Row.lt r2), Row.below r4 hB (Row.lt r4)⟩
        · have hk3 := hk
          have hno : ¬ listed.getD 8 false = true := not_yet hk
          rw [if_neg hno] at r7
          have T := r7.there 0 (vB dd).toArray.size (by simp [vB_length, HCL.out, HDL.out])
          have fin := r7.over (vs := (vB dd)) (by rw [vB_length, vB_length, HCL.out, HDL.out])
          have hT : Fp D a0 listed ac (W.setCells b7 0 (vB dd)) := hF.turn (by rw [hD]; simp only [List.forall_mem_cons, List.not_mem_nil, false_implies, implies_true, and_true]; exact ⟨fun _ h => h, fun _ h => h, fun _ h => h, fun _ h => h, fun _ h => h, fun _ h => h, fun _ h => h, fun _ h => h, fun _ h => h⟩)
          exact wpOp_plain rfl rfl (wp_store_mid 42 (.tmp 7) (.tmp 37) rfl b7 0 (vB dd).toArray ((hF.keep 7 (by rw [hD]; rfl)).trans zs7) (hF.done 7 (37, SP.is (.agg (vB dd).toArray)) (by rw [hD]; rfl) (ready_dep hk 7 (by kernel_rfl))) T HID.out (all_oneCell_toArray (vB_one dd)) ⟨hl2 8, (hT.skip 8 1000 (by rw [hD]; rfl) (by rw [hl]; decide)), below_setCells hb1 (by omega) _, (by rw [if_pos (getD_same (by rw [hl]; decide))]; exact fin), Row.setCells_other rg _ _ _ (by omega), Row.setCells_other r2 _ _ _ (by omega), Row.setCells_other r4 _ _ _ (by omega)⟩)
      · clear hb1 r7 rg r2 r4 
        intro listed ac W hI hr
        obtain ⟨hl, hF, hb1, r7, rg, r2, r4⟩ := hI
        have hall := all_listed (by kernel_rfl) hl hr
        rw [if_pos (hall 8 (by decide))] at r7
        have h30 : ac.eval (.tmp 30) = .slice (some ⟨g, 0, none⟩) (k + 1) n := hF.done 0 (30, SP.is (.slice (some ⟨g, 0, none⟩) (k + 1) n)) (by rw [hD]; rfl) (hall 0 (by decide))
        have h31 : ac.eval (.tmp 31) = .slice (some ⟨g, 0, none⟩) (k + 1) n := hF.done 1 (31, SP.is (.slice (some ⟨g, 0, none⟩) (k + 1) n)) (by rw [hD]; rfl) (hall 1 (by decide))
        have h32 : ac.eval (.tmp 32) = .int .i64 ((k + 1 : Nat) : Int) := hF.done 2 (32, SP.is (.int .i64 ((k + 1 : Nat) : Int))) (by rw [hD]; rfl) (hall 2 (by decide))
        have h33 : ac.eval (.tmp 33) = .int .i64 (k : Int) := hF.done 3 (33, SP.is (.int .i64 (k : Int))) (by rw [hD]; rfl) (hall 3 (by decide))
        have h34 : ac.eval (.tmp 34) = .pointer (some ⟨g, 0 + k * 32, none⟩) := hF.done 4 (34, SP.is (.pointer (some ⟨g, 0 + k * 32, none⟩))) (by rw [hD]; rfl) (hall 4 (by decide))
        have h35 : ac.eval (.tmp 35) = .agg (vB x).toArray := hF.done 5 (35, SP.is (.agg (vB x).toArray)) (by rw [hD]; rfl) (hall 5 (by decide))
        have h36 : ac.eval (.tmp 36) = .agg (vB cur).toArray := hF.done 6 (36, SP.is (.agg (vB cur).toArray)) (by rw [hD]; rfl) (hall 6 (by decide))
        have h37 : ac.eval (.tmp 37) = .agg (vB dd).toArray := hF.done 7 (37, SP.is (.agg (vB dd).toArray)) (by rw [hD]; rfl) (hall 7 (by decide))
        have ea := hF.lay [(30, .slice (some ⟨g, 0, none⟩) (k + 1) n), (31, .slice (some ⟨g, 0, none⟩) (k + 1) n), (32, .int .i64 ((k + 1 : Nat) : Int)), (33, .int .i64 (k : Int)), (34, .pointer (some ⟨g, 0 + k * 32, none⟩)), (35, .agg (vB x).toArray), (36, .agg (vB cur).toArray), (37, .agg (vB dd).toArray)] (by rw [hD, hsz]; rfl) (by simp only [List.forall_mem_cons, List.not_mem_nil, false_implies, implies_true, and_true]; exact ⟨h30, h31, h32, h33, h34, h35, h36, h37⟩)
        rw [ha0] at ea
        simp only [List.foldl_cons, List.foldl_nil, List.setIfInBounds_toArray, List.set_cons_zero, List.set_cons_succ] at ea
        clear hF hall hr hl hD  zs2 zs6 zs7 ha0 hsz h30 h31 h32 h33 h34 h35 h36 h37
        subst ea
        have R7 : Hid (Row W b7 (vB dd) 42) := r7
        have Rg : Hid (Row W g (vB F.flatten) 42) := rg
        have R2 : Hid (Row W b2 LG tRL) := r2
        have R4 : Hid (Row W b4 zLg tRL) := r4
        have BW : Hid (Below w.heap.size w W) := hb1
        clear r7 rg r2 r4 hb1
        have e1 : ((k + 1 : Nat) : Int) - 1 = (k : Int) := by omega
        go_wp2_with (refine wpList_slice_hi rfl 26 42 (.tmp 38) (.tmp 41) rfl g 0 (k + 1) n k rfl rfl hkn Tryd.underlying26 info_dig ?_; simp only [Act.put, List.setIfInBounds_toArray, List.set_cons_zero, List.set_cons_succ])
        go_roundw
        case rel => exact ⟨k, q / 2, dd, hkn, by omega, rfl, rfl, HDL, HNX, R7, Rg, R2, R4, BW⟩
        case measure => simp [intOf]; omega
    · have hq1 : (q : Int).tmod 2 = 0 := by rw [Int.tmod_eq_emod_of_nonneg (by omega)]; omega
      have ht0 := t1_even q (by omega)
      have HFA : Hid ((F.take j) ++ [cur] = addF (t1 m) F p0) := by have := HAF.out.2; rw [ht0] at this; exact this
      have HJ : Hid (N1 = j + 1) := by show _ = _; rw [HN1.out, ← HFA.out, List.length_append, List.length_take, ← HN.out, Nat.min_eq_left hj]; rfl
      have HOJ : Hid (∀ W, Row W g (vB F.flatten) 42 → Ow W (.slice (some ⟨g, 0, none⟩) j n) j (vB (F.take j).flatten)) := fun W r => row_owk r HN.out.symm H32.out hj (by omega)
      have HIC : Hid ((Tryd.prog.info? 42).map (·.size) = some (vB cur).length) := dl_info HC0.out
      have HKJ : Hid ((j + 1) * 32 ≤ 140737488355328) := by show _ ≤ _; omega
      have hjb : j ≤ 41 := by omega
      clear HAF ht0
      go_upto_region 12 with (first
        | (refine wpList_load_w rfl 42 (.tmp 7) rfl b7 0 rfl (vB cur) _ R7.out.all Tryd.underlying42 rfl HIC.out ?_; simp only [Act.put, List.setIfInBounds_toArray, List.set_cons_zero, List.set_cons_succ])
        | (refine wpList_bdD rfl (.tmp 44) rfl cur HC0.out rfl ?_; intro Y1 q1 q2; have RB : Hid (Row Y1 wr.heap.size (vB cur) 42) := q1; have BB : Hid (Below wr.heap.size wr Y1) := q2; clear q1 q2; simp only [Act.put, List.setIfInBounds_toArray, List.set_cons_zero, List.set_cons_succ])
        | (refine wpList_apD rfl (.tmp 43) (.tmp 45) rfl wr.heap.size j (.slice (some ⟨g, 0, none⟩) j n) (vB (F.take j).flatten) cur HC0.out rfl (Ow.be (HOJ.out wr Rg.out) BB.out) rfl RB.out HKJ.out ?_; intro v9 Y2 q1 q2 q3; obtain ⟨A9, c9, e9, _⟩ := Ow.form q1; subst e9; have O9 : Hid (Ow Y2 (.slice A9 (j + 1) c9) (j + 1) (vB (F.take j).flatten ++ vB cur)) := q1; have G9 : Hid (Y1.grownBy Y2 (Value.slice (some ⟨g, 0, none⟩) j n).ownBlock) := q2; have P9 : Hid ((Value.slice A9 (j + 1) c9).ownBlock = (Value.slice (some ⟨g, 0, none⟩) j n).ownBlock ∨ (Value.slice A9 (j + 1) c9).ownBlock = some Y1.heap.size) := q3; clear q1 q2 q3; simp only [Act.put, List.setIfInBounds_toArray, List.set_cons_zero, List.set_cons_succ]))
      have hgb : ∀ {b : Nat} {cs : List Value} {t : TypeId}, Row wr b cs t → b ≠ g → Row Y2 b cs t := fun r hne => (G9.out.block _ (Nat.lt_of_lt_of_le r.lt BB.out.size) (fun e => by simp only [Value.ownBlock, Option.some.injEq] at e; exact hne e)).trans (Row.below r BB.out r.lt)
      have hBY : Below w.heap.size w Y2 := (BW.out.trans (BB.out.mono BW.out.size)).grown G9.out (Nat.le_trans BW.out.size BB.out.size) (fun k hk => by simp only [Value.ownBlock, Option.some.injEq] at hk; rw [← hk]; exact N4g.out.2)
      have r2 : Row Y2 b2 LG tRL := hgb R2.out (by have := N4g.out.1; have := N24.out.1; omega)
      have r4 : Row Y2 b4 zLg tRL := hgb R4.out (by have := N4g.out.1; omega)
      have d0 := r2.cell 0 _ HL0.out
      have d0' := (Row.drew r2).cell 0 _ HL0.out
      have z4 := r4.cell 0 _ rfl
      have z4' := r4.cell 1 _ rfl
      have y4 := r4.thaw 0
      have y4' := r4.thaw 1
      have d4 := (Row.drew r4).cell 0 _ rfl
      have d4' := (Row.drew r4).cell 1 _ rfl
      have f4 := (Row.drew r4).thaw 0
      have f4' := (Row.drew r4).thaw 1
      have HR4 : Hid (Row Y2 b4 zLg tRL) := r4
      have HBY : Hid (Below w.heap.size w Y2) := hBY
      have HGA : Hid (Fresh w.heap.size (.slice A9 (j + 1) c9)) := fun k e => by
        rcases P9.out with h | h
        · rw [h] at e; simp only [Value.ownBlock, Option.some.injEq] at e; rw [← e]; exact N4g.out.2
        · rw [h] at e; cases e; exact Nat.le_trans BW.out.size BB.out.size
      obtain ⟨M1, hM1⟩ : ∃ M1, M1 = m + 1 := ⟨_, rfl⟩
      have em : (m : Int) + 1 = (M1 : Int) := by omega
      have ew : IntKind.i64.wrap (M1 : Int) = (M1 : Int) := by rw [IntKind.wrap_i64]; omega
      have HM1 : Hid (M1 = m + 1) := hM1
      clear hM1 hm c1 hqm hq1
      have hne24 : b2 ≠ b4 := by have := N24.out.1; omega
      have k1 := (Row.set_other r2 b4 0 (.int .i64 (M1 : Int)) hne24).cell 0 _ HL0.out
      have k2 := (Row.set_other (Row.set_other r2 b4 0 (.int .i64 (M1 : Int)) hne24) b4 1 (.slice A9 (j + 1) c9) hne24).cell 0 _ HL0.out
      clear r2 r4 hBY hgb R7 Rg R2 R4 BW RB BB G9 P9
      go_region
      all_goals
        go_wp2_with fail
        have hR9 : Row ((Y2.setCell ⟨b4, 0, none⟩ (.int .i64 (M1 : Int))).setCell ⟨b4, 1, none⟩ (.slice A9 (j + 1) c9)) b4 [.int .i64 (M1 : Int), .slice A9 (j + 1) c9] tRL := (HR4.out.set 0 _).set 1 _
        have hw4 : w.heap.size ≤ b4 := by have := N24.out; omega
        have hB9 : Below w.heap.size w ((Y2.setCell ⟨b4, 0, none⟩ (.int .i64 (M1 : Int))).setCell ⟨b4, 1, none⟩ (.slice A9 (j + 1) c9)) := (HBY.out.setCell (p := ⟨b4, 0, none⟩) hw4 _).setCell (p := ⟨b4, 1, none⟩) hw4 _
        have hO9 : Ow ((Y2.setCell ⟨b4, 0, none⟩ (.int .i64 (M1 : Int))).setCell ⟨b4, 1, none⟩ (.slice A9 (j + 1) c9)) (.slice A9 (j + 1) c9) (j + 1) (vB (F.take j).flatten ++ vB cur) := by
          refine Ow.block O9.out (fun k e => ?_)
          have hk : k ≠ b4 := fun q => by
            subst q
            rcases O9.out.2 with ⟨h1, _⟩ | ⟨g', cap, cc, hv, _, hh, _⟩
            · rw [h1] at e; simp [Value.ownBlock] at e
            · rw [hv] at e
              simp only [Value.ownBlock, Option.some.injEq] at e
              subst e
              have := HR4.out.symm.trans hh
              simp only [Option.some.injEq, Obj.cells.injEq] at this
              exact absurd this.2.1 (by decide)
          exact (Below.heap_setCell _ _ _ _ hk).trans (Below.heap_setCell _ _ _ _ hk)
        rw [HJ.out, ← HM1.out, ← HFA.out, List.flatten_append, show ([cur] : List (List (BitVec 8))).flatten = cur by simp, show vB ((F.take j).flatten ++ cur) = vB (F.take j).flatten ++ vB cur by simp [vB]]
        exact bodyPost_ret (results_rl Tryd.results10 _ _ b4 tRL _ (.int .i64 (m : Int)) rfl rfl hR9 Tryd.underlying28 info_rl) rfl ⟨A9, c9, rfl, hO9, HGA.out, Below.drew hB9⟩

end Go.Proofs.YtkgfaioinajkjaaDoor
