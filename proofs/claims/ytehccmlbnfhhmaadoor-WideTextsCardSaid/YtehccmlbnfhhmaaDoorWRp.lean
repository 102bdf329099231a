/-
  causewayref02.Parse.
-/
import Derived.Test.YtehccmlbnfhhmaaDoorWTmN
import Derived.Test.YtehccmlbnfhhmaaDoorWPls
import Derived.Test.YtehccmlbnfhhmaaDoorWRef
import Derived.Test.YtehccmlbnfhhmaaDoorWFd
import Derived.Test.YtehccmlbnfhhmaaDoorWRpM
namespace Go.Proofs.YtehccmlbnfhhmaaDoor
open Go Go.RowKit
open Wd

theorem wp_sub48_v {Q : Exit → Act → World → Prop} {o : Oper} {a : Act} {w : World} {K : Act → World → Prop} {x : Operand} (ho : o.op = .binOp .sub 5 x (.const (.int .u8 48)) 5) {c d : Nat} (hx : a.eval x = .int .u8 (c : Int)) (hc : (c : Int) - 48 = (d : Int)) (hd : IntKind.u8.wrap (d : Int) = (d : Int))
    (h : K (a.put o.dst (.int .u8 (d : Int))) w) : Oper.wp Tryd.prog o a w K Q := by
  have hr : (execOp a.eval o).run Tryd.prog w = .ok (.value (.int .u8 (d : Int))) w := by
    unfold execOp
    simp only [ho, hx, show a.eval (.const (.int .u8 48)) = .int .u8 48 from rfl]
    go_simp
  exact wp_pure hr h
theorem wp_conv64_v {Q : Exit → Act → World → Prop} {o : Oper} {a : Act} {w : World} {K : Act → World → Prop} {x : Operand} (ho : o.op = .convert 5 22 x) {d : Nat} (hx : a.eval x = .int .u8 (d : Int)) (hd : IntKind.u64.wrap (d : Int) = (d : Int))
    (h : K (a.put o.dst (.int .u64 (d : Int))) w) : Oper.wp Tryd.prog o a w K Q := by
  have hr : (execOp a.eval o).run Tryd.prog w = .ok (.value (.int .u64 (d : Int))) w := by
    unfold execOp
    simp only [ho, hx]
    go_simp
  exact wp_pure hr h
theorem wp_index_str {Q : Exit → Act → World → Prop} {o : Oper} {a : Act} {w : World} {K : Act → World → Prop} {x y : Operand} (ho : o.op = .index 9 x y) {s : ByteArray} {l : List Nat} (hs : StrN s l) (i : Nat) (hi : i < l.length) (hx : a.eval x = .string s) (hy : a.eval y = .int .i64 (i : Int))
    (h : K (a.put o.dst (.int .u8 ((l.getD i 0 : Nat) : Int))) w) : Oper.wp Tryd.prog o a w K Q := by
  refine wp_pure (v := .int .u8 ((l.getD i 0 : Nat) : Int)) ?_ h
  unfold execOp
  simp only [ho, hx, hy, Sem.run_bind, idx_run hs i hi w, Result.andThen_ok]
  rfl

set_option maxRecDepth 100000 in
set_option maxHeartbeats 4000000 in
theorem refParse_bad (s : ByteArray) (l : List Nat) (hs : StrN s l) (hp : l = [] ∨ 78 < l.length ∨ (l.getD 0 0 = 48 ∧ 1 < l.length)) (w : World) :
    Calls Tryd.prog 42 #[.string s] w fun e w' => e = .returned (.tuple #[.agg (vQ (dgs 0 4)).toArray, .int .i64 21]) ∧ Below w.heap.size w w' := by
  have hsz := hs.size
  have r2 : Row (w.alloc (Obj.cells #[Value.int IntKind.u64 0, Value.int IntKind.u64 0, Value.int IntKind.u64 0, Value.int IntKind.u64 0] 24)) w.heap.size (vQ (List.replicate 4 0)) 24 := Row.new' rfl rfl
  have hb : Below w.heap.size w (w.alloc (Obj.cells #[Value.int IntKind.u64 0, Value.int IntKind.u64 0, Value.int IntKind.u64 0, Value.int IntKind.u64 0] 24)) := (Below.refl _ _).alloc (Nat.le_refl _) _
  have T := r2.there 0 (vQ (List.replicate 4 0)).toArray.size (Nat.le_refl 4)
  have fin := r2.over (vs := (vQ (List.replicate 4 0))) rfl
  have hbf := below_setCells hb (b := w.heap.size) (o := 0) (by omega) (vQ (List.replicate 4 0))
  by_cases h0 : l.length = 0
  · have q0 : (s.size : Int) = 0 := by omega
    clear hp hs hsz h0 r2 hb
    go_enter Tryd.func42, Tryd.ntmps42
    go_wp2_with (refine wpList_store_mid rfl 24 (.tmp 2) (.tmp 27) rfl w.heap.size 0 (vQ (List.replicate 4 0)).toArray rfl rfl T info_w4 (all_oneCell_toArray (vQ_one _)) ?_; simp only [Act.put])
    exact bodyPost_ret (results_row_tmp Tryd.results42 _ _ w.heap.size 24 (vQ (List.replicate 4 0)) (.int .i64 21) rfl rfl fin Tryd.underlying24 info_w4 rfl) rfl ⟨by rw [dgs_zero], hbf⟩
  · by_cases h78 : 78 < l.length
    · have q0 : ((s.size : Int) == 0) = false := by rw [beq_eq_false_iff_ne]; omega
      have q1 : (78 : Int) < (s.size : Int) := by omega
      clear hp hs hsz h0 h78 r2 hb
      go_enter Tryd.func42, Tryd.ntmps42
      go_wp2_with (refine wpList_store_mid rfl 24 (.tmp 2) (.tmp 27) rfl w.heap.size 0 (vQ (List.replicate 4 0)).toArray rfl rfl T info_w4 (all_oneCell_toArray (vQ_one _)) ?_; simp only [Act.put])
      exact bodyPost_ret (results_row_tmp Tryd.results42 _ _ w.heap.size 24 (vQ (List.replicate 4 0)) (.int .i64 21) rfl rfl fin Tryd.underlying24 info_w4 rfl) rfl ⟨by rw [dgs_zero], hbf⟩
    · obtain ⟨h48, h1⟩ : l.getD 0 0 = 48 ∧ 1 < l.length := by
        rcases hp with h | h | h
        · rw [h] at h0; simp at h0
        · omega
        · exact h
      have q0 : ((s.size : Int) == 0) = false := by rw [beq_eq_false_iff_ne]; omega
      have q1 : ¬ (78 : Int) < (s.size : Int) := by omega
      have q2 : (1 : Int) < (s.size : Int) := by omega
      have hp0 : 0 < s.size := by omega
      have hat0 : (s[0]'hp0).toNat = 48 := (hs.at' 0 (by omega)).trans h48
      clear hp hs h0 h78 r2 hb h48 hsz h1
      go_enter Tryd.func42, Tryd.ntmps42
      go_wp2_with (refine wpList_store_mid rfl 24 (.tmp 2) (.tmp 27) rfl w.heap.size 0 (vQ (List.replicate 4 0)).toArray rfl rfl T info_w4 (all_oneCell_toArray (vQ_one _)) ?_; simp only [Act.put])
      exact bodyPost_ret (results_row_tmp Tryd.results42 _ _ w.heap.size 24 (vQ (List.replicate 4 0)) (.int .i64 21) rfl rfl fin Tryd.underlying24 info_w4 rfl) rfl ⟨by rw [dgs_zero], hbf⟩

set_option maxRecDepth 100000 in
set_option maxHeartbeats 8000000 in
theorem refParse_body (s : ByteArray) (l : List Nat) (hs : StrN s l) (h0 : l.length ≠ 0) (h78 : l.length ≤ 78) (hp : ¬ (l.getD 0 0 = 48 ∧ 1 < l.length)) (w : World) :
    Calls Tryd.prog 42 #[.string s] w fun e w' => e = .returned (.tuple #[.agg (vQ (dgs (ansR (pars l 0)) 4)).toArray, .int .i64 (ansE (pars l 0))]) ∧ Below w.heap.size w w' := by
  have hsz := hs.size
  have HS : Hid (StrN s l) := hs
  have HSZ : Hid (s.size = l.length) := hsz
  have q0 : ((s.size : Int) == 0) = false := by rw [beq_eq_false_iff_ne]; omega
  have q1 : ¬ (78 : Int) < (s.size : Int) := by omega
  have hp0 : 0 < s.size := by omega
  have hat0 : (s[0]'hp0).toNat = l.getD 0 0 := hs.at' 0 (by omega)
  have hb0 : l.getD 0 0 < 256 := by
    rw [List.getD_eq_getElem?_getD, List.getElem?_eq_getElem (by omega)]; exact hs.lt _ (List.getElem_mem _)
  have hlen := h78
  by_cases h48 : l.getD 0 0 = 48
  · have q2 : ¬ (1 : Int) < (s.size : Int) := by
      have : ¬ 1 < l.length := fun h => hp ⟨h48, h⟩
      omega
    rw [h48] at hat0
    clear hp hs h48 h78 hb0 hsz h0
    go_enter Tryd.func42, Tryd.ntmps42
    go_wp2
    go_loopw [4, 6] (fun lv iv wr => ∃ t m : Nat, t ≤ l.length ∧ iv = .int .i64 (t : Int) ∧ Below w.heap.size w wr ∧ Row wr w.heap.size (vQ (List.replicate 4 0)) 24 ∧ Row wr (w.heap.size + 1) (vI (bts 10 4)) 3 ∧ Hid (Dg wr lv (blen m) m ∧ m = val (l.take t) 0 ∧ ∀ c ∈ l.take t, ¬ (c < 48 ∨ 57 < c))) (fun _ iv _ => l.length - (intOf iv).toNat)
    case atStart =>
      exact ⟨0, 0, by omega, rfl, ((Below.refl _ _).alloc (Nat.le_refl _) _).alloc (by simp) _, (Row.new' rfl rfl).alloc _, Row.new' (by simp) rfl, ⟨by decide, by decide, .inl ⟨rfl, rfl⟩⟩, rfl, fun c hc => by cases hc⟩
    case round =>
      obtain ⟨t, m, ht, rfl, hb, r2, rT, hI⟩ := hrel
      have hsz := HSZ.out
      have T := r2.there 0 (vQ (List.replicate 4 0)).toArray.size (Nat.le_refl 4)
      have fin := r2.over (vs := (vQ (List.replicate 4 0))) rfl
      have hbf := below_setCells hb (b := w.heap.size) (o := 0) (by omega) (vQ (List.replicate 4 0))
      by_cases hlt : t < l.length
      · have hpt : t < s.size := by omega
        have hat : (s[t]'hpt).toNat = l.getD t 0 := HS.out.at' t (by omega)
        have hc : l.getD t 0 < 256 := by
          rw [List.getD_eq_getElem?_getD, List.getElem?_eq_getElem hlt]; exact HS.out.lt _ (List.getElem_mem _)
        have hq : (t : Int) < (s.size : Int) := by omega
        have hmem : l.getD t 0 ∈ l := by rw [List.getD_eq_getElem?_getD, List.getElem?_eq_getElem hlt]; exact List.getElem_mem _
        obtain ⟨c, ec⟩ : ∃ c, c = l.getD t 0 := ⟨_, rfl⟩
        rw [← ec] at hat hc hmem
        by_cases hl : c < 48
        · have HN : Hid (pars l 0 = none) := pars_bad l 0 ⟨c, hmem, Or.inl hl⟩
          have hl' : (c : Int) < 48 := by omega
          clear hI hb r2 rT ec hmem HS hsz
          go_wp2_with (refine wpList_store_mid rfl 24 (.tmp 2) (.tmp 45) rfl w.heap.size 0 (vQ (List.replicate 4 0)).toArray rfl rfl T info_w4 (all_oneCell_toArray (vQ_one _)) ?_; simp only [Act.put])
          exact bodyPost_ret (results_row_tmp Tryd.results42 _ _ w.heap.size 24 (vQ (List.replicate 4 0)) (.int .i64 21) rfl rfl fin Tryd.underlying24 info_w4 rfl) rfl ⟨by rw [HN.out]; rw [show ansR none = 0 from rfl, dgs_zero]; rfl, hbf⟩
        by_cases hg : 57 < c
        · have HN : Hid (pars l 0 = none) := pars_bad l 0 ⟨c, hmem, Or.inr hg⟩
          have hl' : ¬ (c : Int) < 48 := by omega
          have hg' : (57 : Int) < (c : Int) := by omega
          clear hI hb r2 rT ec hmem HS hsz
          go_wp2_with (refine wpList_store_mid rfl 24 (.tmp 2) (.tmp 45) rfl w.heap.size 0 (vQ (List.replicate 4 0)).toArray rfl rfl T info_w4 (all_oneCell_toArray (vQ_one _)) ?_; simp only [Act.put])
          exact bodyPost_ret (results_row_tmp Tryd.results42 _ _ w.heap.size 24 (vQ (List.replicate 4 0)) (.int .i64 21) rfl rfl fin Tryd.underlying24 info_w4 rfl) rfl ⟨by rw [HN.out]; rw [show ansR none = 0 from rfl, dgs_zero]; rfl, hbf⟩
        obtain ⟨d, hd⟩ : ∃ d, d = c - 48 := ⟨_, rfl⟩
        have hl' : ¬ (c : Int) < 48 := by omega
        have hg' : ¬ (57 : Int) < (c : Int) := by omega
        have HM : Hid (val (l.take (t + 1)) 0 = m * 10 + d) := by
          show _ = _
          rw [val_more l t hlt, ← ec, ← hI.out.2.1, hd]
        have HK : Hid (∀ c ∈ l.take (t + 1), ¬ (c < 48 ∨ 57 < c)) := ok_more l t hlt hI.out.2.2 (by rw [← ec]; omega)
        have hbm : blen m ≤ 260 := by rw [hI.out.2.1]; exact blen_val l t (by omega) ht hI.out.2.2
        have hbm2 : blen (m * 10) ≤ 1048576 := by have := blen_ten m; omega
        have hbd : blen d ≤ 256 := blen_le d 256 (Nat.lt_of_lt_of_le (show d < 10 by omega) (by decide))
        have dl := hI.out.1
        have HTM : Hid (∀ (v : Value) (w1 : World), Dg w1 v (blen m) m → Row w1 (w.heap.size + 1) (vI (bts 10 4)) 3 → Calls Tryd.prog 52 #[v, .slice (some ⟨(w.heap.size + 1), 0, none⟩) 4 4] w1 fun e w' => ∃ v, e = .returned v ∧ Dg w' v (blen (m * 10)) (m * 10) ∧ Below w1.heap.size w1 w') := fun v w1 h r => times_dg m 10 (w.heap.size + 1) (blen m) 4 4 v (by decide) (by omega) (by decide) w1 h (Cl.row r)
        have HOF : Hid (∀ w, _) := fun w => refOf_any d (by omega) w
        have HDI : Hid (∀ w, _) := fun w => digits_any d (Nat.lt_of_lt_of_le (show d < 10 by omega) (by decide)) w
        have HPL : Hid (∀ (v : Value) (N : Nat) (w : World), Dg w v (blen (m * 10)) (m * 10) → Row w N (vI (bts d 256)) 3 → Calls Tryd.prog 46 #[v, .slice (some ⟨N, 0, none⟩) (blen d) 256] w fun e w' => ∃ v, e = .returned v ∧ Dg w' v (blen (m * 10 + d)) (m * 10 + d) ∧ Below w.heap.size w w') := fun v N w h r => plus_dg (m * 10) d (blen (m * 10)) (blen d) v _ hbm2 (by omega) w h ⟨blen_lt d, by omega, .inr ⟨N, 256, rfl, hbd, (Cl.row r).less hbd⟩⟩
        obtain ⟨cd, Hd⟩ : ∃ x, Wc x d := ⟨_, rfl⟩
        rw [← show cd = vQ (dgs d 4) from Hd] at HDI
        have ecd : (c : Int) - 48 = (d : Int) := by omega
        have hdw : IntKind.u8.wrap (d : Int) = (d : Int) := by rw [IntKind.wrap_u8]; omega
        have hdv : IntKind.u64.wrap (d : Int) = (d : Int) := by rw [IntKind.wrap_u64]; omega
        have HEC : Hid (c = l.getD t 0) := ec
        generalize m * 10 + d = m2 at *
        generalize m * 10 = m1 at *
        clear hI ec hd hl hg hbm hbm2 hbd T fin hbf hmem hc hsz
        go_wp2_with fail
        refine wp_named fun a0 ha0 => ?_
        have hsz : a0.tmps.size = 66 := by rw [ha0]; rfl
        have s0 : a0.eval (.tmp 0) = .string s := by rw [ha0]; rfl
        have s4 : a0.eval (.tmp 4) = u4 := by rw [ha0]; rfl
        have s5 : a0.eval (.tmp 5) = .slice (some ⟨w.heap.size + 1, 0, none⟩) 4 4 := by rw [ha0]; rfl
        have s6 : a0.eval (.tmp 6) = .int .i64 (t : Int) := by rw [ha0]; rfl
        obtain ⟨D, hD⟩ : ∃ D : List (Tmp × SP), D = [(46, SP.dg (blen m) m), (47, SP.is (.slice (some ⟨w.heap.size + 1, 0, none⟩) 4 4)), (48, SP.dg (blen m1) m1), (49, SP.is (.string s)), (50, SP.is (.int .i64 (t : Int))), (51, SP.is (.int .u8 ((l.getD t 0 : Nat) : Int))), (52, SP.is (.int .u8 (d : Int))), (53, SP.is (.int .u64 (d : Int))), (54, SP.is (.agg cd.toArray)), (55, SP.new (blen d) 256 (vI (bts d 256)) 3), (56, SP.dg (blen m2) m2), (4, SP.dg (blen m2) m2)] := ⟨_, rfl⟩
        refine wp_region_down (by kernel_rfl) (fun listed ac W => listed.size = 12 ∧ Fp D a0 listed ac W ∧ Below w.heap.size w W ∧ Row W w.heap.size (vQ (List.replicate 4 0)) 24 ∧ Row W (w.heap.size + 1) (vI (bts 10 4)) 3 ∧ Dg W u4 (blen m) m) ?_ ?_ ?_
        · exact ⟨by simp, Fp.start D a0 _ _, Below.drew hb, Row.drew r2, Row.drew rT, dl.below (Below.drew (Below.refl _ _))⟩
        · clear ha0 hb r2 rT dl 
          intro listed ac W k hI hdn hk
          obtain ⟨hl, hF, hb, r2, rT, dl⟩ := hI
          have hk1 : k < 12 := List.mem_range.1 (List.mem_filter.1 hk).1
          have hl2 : ∀ j, (listed.setIfInBounds j true).size = 12 := fun j => by rw [Array.size_setIfInBounds]; exact hl
          rcases (show k = 0 ∨ k = 1 ∨ k = 2 ∨ k = 3 ∨ k = 4 ∨ k = 5 ∨ k = 6 ∨ k = 7 ∨ k = 8 ∨ k = 9 ∨ k = 10 ∨ k = 11 by omega) with rfl | rfl | rfl | rfl | rfl | rfl | rfl | rfl | rfl | rfl | rfl | rfl
          · have hk3 := hk
            exact wpOp_plain rfl rfl (wp_move_v u4 rfl ((hF.fresh 11 (4, SP.dg (blen m2) m2) (by rw [hD]; rfl) (fun h => not_yet hk (hdn 2 (hdn 10 (hdn 11 h 10 (by kernel_rfl)) 2 (by kernel_rfl)) 0 (by kernel_rfl)))).trans s4) ⟨hl2 0, (hF.put 0 46 (SP.dg (blen m) m) u4 (by rw [hD]; rfl) dl (by rw [hD]; rfl) (by rw [hsz]; decide) (by rw [hl]; decide)), hb, r2, rT, dl⟩)
          · have hk3 := hk
            exact wpOp_plain rfl rfl (wp_move_v (ac.eval (.tmp 5)) rfl rfl ⟨hl2 1, (hF.put 1 47 (SP.is (.slice (some ⟨w.heap.size + 1, 0, none⟩) 4 4)) (ac.eval (.tmp 5)) (by rw [hD]; rfl) (((hF.keep 5 (by rw [hD]; rfl)).trans s5)) (by rw [hD]; rfl) (by rw [hsz]; decide) (by rw [hl]; decide)), hb, r2, rT, dl⟩)
          · have hk3 := hk
            have y1 := (hF.done 0 (46, SP.dg (blen m) m) (by rw [hD]; rfl) (ready_dep hk 0 (by kernel_rfl)))
            have e2 := (hF.done 1 (47, SP.is (.slice (some ⟨w.heap.size + 1, 0, none⟩) 4 4)) (by rw [hD]; rfl) (ready_dep hk 1 (by kernel_rfl)))
            refine wpOp_plain rfl rfl (wp_fcall_v 52 #[ac.eval (.tmp 46), .slice (some ⟨w.heap.size + 1, 0, none⟩) 4 4] rfl rfl (by show [ac.eval (.tmp 46), ac.eval (.tmp 47)] = _; simp only [show ac.eval (.tmp 47) = _ from e2]) (by go_simp) ((HTM.out _ W y1 rT).mono ?_))
            rintro e W2 ⟨yv, rfl, yD, hB⟩
            exact ⟨_, rfl, hl2 2, ((hF.world hB).put 2 48 (SP.dg (blen m1) m1) yv (by rw [hD]; rfl) yD (by rw [hD]; rfl) (by rw [hsz]; decide) (by rw [hl]; decide)), hb.trans (hB.mono hb.size), Row.below r2 hB (Row.lt r2), Row.below rT hB (Row.lt rT), dl.below hB⟩
          · have hk3 := hk
            exact wpOp_plain rfl rfl (wp_move_v (ac.eval (.tmp 0)) rfl rfl ⟨hl2 3, (hF.put 3 49 (SP.is (.string s)) (ac.eval (.tmp 0)) (by rw [hD]; rfl) (((hF.keep 0 (by rw [hD]; rfl)).trans s0)) (by rw [hD]; rfl) (by rw [hsz]; decide) (by rw [hl]; decide)), hb, r2, rT, dl⟩)
          · have hk3 := hk
            exact wpOp_plain rfl rfl (wp_move_v (ac.eval (.tmp 6)) rfl rfl ⟨hl2 4, (hF.put 4 50 (SP.is (.int .i64 (t : Int))) (ac.eval (.tmp 6)) (by rw [hD]; rfl) (((hF.keep 6 (by rw [hD]; rfl)).trans s6)) (by rw [hD]; rfl) (by rw [hsz]; decide) (by rw [hl]; decide)), hb, r2, rT, dl⟩)
          · have hk3 := hk
            have e1 := (hF.done 3 (49, SP.is (.string s)) (by rw [hD]; rfl) (ready_dep hk 3 (by kernel_rfl)))
            have e2 := (hF.done 4 (50, SP.is (.int .i64 (t : Int))) (by rw [hD]; rfl) (ready_dep hk 4 (by kernel_rfl)))
            exact wpOp_plain rfl rfl (wp_index_str rfl HS.out t hlt e1 e2 ⟨hl2 5, (hF.put 5 51 (SP.is (.int .u8 ((l.getD t 0 : Nat) : Int))) (.int .u8 ((l.getD t 0 : Nat) : Int)) (by rw [hD]; rfl) rfl (by rw [hD]; rfl) (by rw [hsz]; decide) (by rw [hl]; decide)), hb, r2, rT, dl⟩)
          · have hk3 := hk
            have e1 := (hF.done 5 (51, SP.is (.int .u8 ((l.getD t 0 : Nat) : Int))) (by rw [hD]; rfl) (ready_dep hk 5 (by kernel_rfl)))
            exact wpOp_plain rfl rfl (wp_sub48_v rfl (show ac.eval (.tmp 51) = .int .u8 (c : Int) by rw [HEC.out]; exact e1) ecd hdw ⟨hl2 6, (hF.put 6 52 (SP.is (.int .u8 (d : Int))) (.int .u8 (d : Int)) (by rw [hD]; rfl) rfl (by rw [hD]; rfl) (by rw [hsz]; decide) (by rw [hl]; decide)), hb, r2, rT, dl⟩)
          · have hk3 := hk
            have e1 := (hF.done 6 (52, SP.is (.int .u8 (d : Int))) (by rw [hD]; rfl) (ready_dep hk 6 (by kernel_rfl)))
            exact wpOp_plain rfl rfl (wp_conv64_v rfl e1 hdv ⟨hl2 7, (hF.put 7 53 (SP.is (.int .u64 (d : Int))) (.int .u64 (d : Int)) (by rw [hD]; rfl) rfl (by rw [hD]; rfl) (by rw [hsz]; decide) (by rw [hl]; decide)), hb, r2, rT, dl⟩)
          · have hk3 := hk
            have e1 := (hF.done 7 (53, SP.is (.int .u64 (d : Int))) (by rw [hD]; rfl) (ready_dep hk 7 (by kernel_rfl)))
            refine wpOp_plain rfl rfl (wp_fcall_v 27 #[.int .u64 (d : Int)] rfl rfl (by show [ac.eval (.tmp 53)] = _; simp only [show ac.eval (.tmp 53) = _ from e1]) (by go_simp) ((HOF.out W).mono ?_))
            rintro e W2 ⟨yc, hyc, rfl, hB⟩
            exact ⟨_, rfl, hl2 8, ((hF.world hB).put 8 54 (SP.is (.agg cd.toArray)) (.agg yc.toArray) (by rw [hD]; rfl) (by rw [show yc = cd from hyc.trans Hd.symm]; rfl) (by rw [hD]; rfl) (by rw [hsz]; decide) (by rw [hl]; decide)), hb.trans (hB.mono hb.size), Row.below r2 hB (Row.lt r2), Row.below rT hB (Row.lt rT), dl.below hB⟩
          · have hk3 := hk
            have e1 := (hF.done 8 (54, SP.is (.agg cd.toArray)) (by rw [hD]; rfl) (ready_dep hk 8 (by kernel_rfl)))
            refine wpOp_plain rfl rfl (wp_fcall_v 47 #[.agg cd.toArray] rfl rfl (by show [ac.eval (.tmp 54)] = _; simp only [show ac.eval (.tmp 54) = _ from e1]) (by go_simp) ((HDI.out W).mono ?_))
            rintro e W2 ⟨yN, yL, yR, rfl, hB⟩
            exact ⟨_, rfl, hl2 9, ((hF.world hB).put 9 55 (SP.new (blen d) 256 (vI (bts d 256)) 3) (.slice (some ⟨yN, 0, none⟩) (blen d) 256) (by rw [hD]; rfl) (⟨yN, rfl, yR⟩) (by rw [hD]; rfl) (by rw [hsz]; decide) (by rw [hl]; decide)), hb.trans (hB.mono hb.size), Row.below r2 hB (Row.lt r2), Row.below rT hB (Row.lt rT), dl.below hB⟩
          · have hk3 := hk
            have y1 := (hF.done 2 (48, SP.dg (blen m1) m1) (by rw [hD]; rfl) (ready_dep hk 2 (by kernel_rfl)))
            obtain ⟨N2, e2, y2⟩ := (hF.done 9 (55, SP.new (blen d) 256 (vI (bts d 256)) 3) (by rw [hD]; rfl) (ready_dep hk 9 (by kernel_rfl)))
            refine wpOp_plain rfl rfl (wp_fcall_v 46 #[ac.eval (.tmp 48), .slice (some ⟨N2, 0, none⟩) (blen d) 256] rfl rfl (by show [ac.eval (.tmp 48), ac.eval (.tmp 55)] = _; simp only [show ac.eval (.tmp 55) = _ from e2]) (by go_simp) ((HPL.out _ N2 W y1 y2).mono ?_))
            rintro e W2 ⟨yv, rfl, yD, hB⟩
            exact ⟨_, rfl, hl2 10, ((hF.world hB).put 10 56 (SP.dg (blen m2) m2) yv (by rw [hD]; rfl) yD (by rw [hD]; rfl) (by rw [hsz]; decide) (by rw [hl]; decide)), hb.trans (hB.mono hb.size), Row.below r2 hB (Row.lt r2), Row.below rT hB (Row.lt rT), dl.below hB⟩
          · have hk3 := hk
            exact wpOp_plain rfl rfl (wp_assign_v (ac.eval (.tmp 56)) rfl rfl ⟨hl2 11, (hF.put 11 4 (SP.dg (blen m2) m2) (ac.eval (.tmp 56)) (by rw [hD]; rfl) ((hF.done 10 (56, SP.dg (blen m2) m2) (by rw [hD]; rfl) (ready_dep hk 10 (by kernel_rfl)))) (by rw [hD]; rfl) (by rw [hsz]; decide) (by rw [hl]; decide)), hb, r2, rT, dl⟩)
        · clear hb r2 rT dl 
          intro listed ac W hI hr
          obtain ⟨hl, hF, hb, r2, rT, dl⟩ := hI
          have hall := all_listed (by kernel_rfl) hl hr
          obtain ⟨x46, h46⟩ : ∃ x, ac.eval (.tmp 46) = x := ⟨_, rfl⟩
          have h47 : ac.eval (.tmp 47) = .slice (some ⟨w.heap.size + 1, 0, none⟩) 4 4 := hF.done 1 (47, SP.is (.slice (some ⟨w.heap.size + 1, 0, none⟩) 4 4)) (by rw [hD]; rfl) (hall 1 (by decide))
          obtain ⟨x48, h48⟩ : ∃ x, ac.eval (.tmp 48) = x := ⟨_, rfl⟩
          have h49 : ac.eval (.tmp 49) = .string s := hF.done 3 (49, SP.is (.string s)) (by rw [hD]; rfl) (hall 3 (by decide))
          have h50 : ac.eval (.tmp 50) = .int .i64 (t : Int) := hF.done 4 (50, SP.is (.int .i64 (t : Int))) (by rw [hD]; rfl) (hall 4 (by decide))
          have h51 : ac.eval (.tmp 51) = .int .u8 ((l.getD t 0 : Nat) : Int) := hF.done 5 (51, SP.is (.int .u8 ((l.getD t 0 : Nat) : Int))) (by rw [hD]; rfl) (hall 5 (by decide))
          have h52 : ac.eval (.tmp 52) = .int .u8 (d : Int) := hF.done 6 (52, SP.is (.int .u8 (d : Int))) (by rw [hD]; rfl) (hall 6 (by decide))
          have h53 : ac.eval (.tmp 53) = .int .u64 (d : Int) := hF.done 7 (53, SP.is (.int .u64 (d : Int))) (by rw [hD]; rfl) (hall 7 (by decide))
          have h54 : ac.eval (.tmp 54) = .agg cd.toArray := hF.done 8 (54, SP.is (.agg cd.toArray)) (by rw [hD]; rfl) (hall 8 (by decide))
          obtain ⟨x55, h55⟩ : ∃ x, ac.eval (.tmp 55) = x := ⟨_, rfl⟩
          obtain ⟨x56, h56⟩ : ∃ x, ac.eval (.tmp 56) = x := ⟨_, rfl⟩
          have f4 := hF.done 11 (4, SP.dg (blen m2) m2) (by rw [hD]; rfl) (hall 11 (by decide))
          obtain ⟨x4, h4⟩ : ∃ x, ac.eval (.tmp 4) = x := ⟨_, rfl⟩
          replace f4 : (SP.dg (blen m2) m2).P W x4 := by rw [← h4]; exact f4
          have ea := hF.lay [(46, x46), (47, .slice (some ⟨w.heap.size + 1, 0, none⟩) 4 4), (48, x48), (49, .string s), (50, .int .i64 (t : Int)), (51, .int .u8 ((l.getD t 0 : Nat) : Int)), (52, .int .u8 (d : Int)), (53, .int .u64 (d : Int)), (54, .agg cd.toArray), (55, x55), (56, x56), (4, x4)] (by rw [hD, hsz]; rfl) (by simp only [List.forall_mem_cons, List.not_mem_nil, false_implies, implies_true, and_true]; exact ⟨h46, h47, h48, h49, h50, h51, h52, h53, h54, h55, h56, h4⟩)
          rw [ha0] at ea
          simp only [List.foldl_cons, List.foldl_nil, List.setIfInBounds_toArray, List.set_cons_zero, List.set_cons_succ] at ea
          clear hF hall hr hl hD  s0 s4 s5 s6 ha0 hsz h46 h47 h48 h49 h50 h51 h52 h53 h54 h55 h56 h4
          subst ea
          have dq : Dg W x4 (blen m2) m2 := f4
          clear f4
          go_wp2_with fail
          exact ⟨⟨t + 1, m2, hlt, by go_num, hb, r2, rT, dq, HM.out.symm, HK.out⟩, by simp [intOf]; omega⟩
      · obtain rfl : t = l.length := by omega
        have hpv := pars_val l 0 (by have := hI.out.2.2; rw [List.take_length] at this; exact this) (by decide)
        have hmv := hI.out.2.1
        rw [List.take_length] at hmv
        rw [← hmv] at hpv
        have HN : Hid (Calls _ _ _ _ _) := number_dg u4 (blen m) m wr hI.out.1
        obtain ⟨cn, Hn⟩ : ∃ x, Wc x (numR m) := ⟨_, rfl⟩
        rw [← show cn = vQ (dgs (numR m) 4) from Hn] at HN
        have hq : ¬ (l.length : Int) < (s.size : Int) := by omega
        clear T fin hbf hI rT hlt ht hsz
        go_wp2_with fail
        refine HN.out.mono ?_
        rintro e V1 ⟨rfl, hB⟩
        replace r2 := Row.below r2 hB (Row.lt r2)
        replace hb := hb.trans (hB.mono hb.size)
        clear hB HN
        have n7 : Row (V1.alloc (Obj.cells #[Value.int IntKind.u64 0, Value.int IntKind.u64 0, Value.int IntKind.u64 0, Value.int IntKind.u64 0] 24)) V1.heap.size (vQ (List.replicate 4 0)) 24 := Row.new' rfl rfl
        have T7 := Hn.there n7 rfl
        replace n7 := n7.over (vs := cn) (by rw [Hn.len]; rfl)
        have hB : Below V1.heap.size V1 ((V1.alloc (Obj.cells #[Value.int IntKind.u64 0, Value.int IntKind.u64 0, Value.int IntKind.u64 0, Value.int IntKind.u64 0] 24)).setCells V1.heap.size 0 cn) := below_setCells ((Below.refl _ _).alloc (Nat.le_refl _) _) (b := V1.heap.size) (o := 0) (Nat.le_refl _) cn
        replace r2 := Row.below r2 hB (Row.lt r2)
        replace hb := hb.trans (hB.mono hb.size)
        clear hB
        by_cases hf : m < 2 ^ 256
        · rw [if_pos hf] at hpv
          have HPV : Hid (pars l 0 = some m) := hpv
          rw [decide_eq_true hf]
          have hnm : numR m = m := if_pos hf
          rw [hnm] at Hn
          have T2 := r2.there 0 cn.toArray.size (by simp [Hn.len, vQ_length])
          have fin := r2.over (vs := cn) (by rw [Hn.len]; rfl)
          have hbf := below_setCells hb (b := w.heap.size) (o := 0) (by omega) cn
          clear hpv hf hnm hmv
          go_wp2_with (first
            | (refine wpList_store_mid rfl 24 (.tmp 7) (.tmp 60) rfl V1.heap.size 0 cn.toArray rfl rfl T7 Hn.info' Hn.one ?_; simp only [Act.put])
            | (refine wpList_load_w rfl 24 (.tmp 7) rfl V1.heap.size 0 rfl cn _ n7.all Tryd.underlying24 rfl Hn.info ?_; simp only [Act.put, List.setIfInBounds_toArray, List.set_cons_zero, List.set_cons_succ])
            | (refine wpList_store_mid rfl 24 (.tmp 2) (.tmp 65) rfl w.heap.size 0 cn.toArray rfl rfl T2 Hn.info' Hn.one ?_; simp only [Act.put]))
          exact bodyPost_ret (results_row_tmp Tryd.results42 _ _ w.heap.size 24 cn (.int .i64 0) rfl rfl fin Tryd.underlying24 info_w4 Hn.len) rfl ⟨by rw [HPV.out, show cn = vQ (dgs m 4) from Hn]; rfl, hbf⟩
        · rw [if_neg hf] at hpv
          have HPV : Hid (pars l 0 = none) := hpv
          rw [decide_eq_false hf]
          have T2 := r2.there 0 (vQ (List.replicate 4 0)).toArray.size (Nat.le_refl 4)
          have fin := r2.over (vs := (vQ (List.replicate 4 0))) rfl
          have hbf := below_setCells hb (b := w.heap.size) (o := 0) (by omega) (vQ (List.replicate 4 0))
          clear hpv hf hmv
          go_wp2_with (first
            | (refine wpList_store_mid rfl 24 (.tmp 7) (.tmp 60) rfl V1.heap.size 0 cn.toArray rfl rfl T7 Hn.info' Hn.one ?_; simp only [Act.put])
            | (refine wpList_store_mid rfl 24 (.tmp 2) (.tmp 64) rfl w.heap.size 0 (vQ (List.replicate 4 0)).toArray rfl rfl T2 info_w4 (all_oneCell_toArray (vQ_one _)) ?_; simp only [Act.put]))
          exact bodyPost_ret (results_row_tmp Tryd.results42 _ _ w.heap.size 24 (vQ (List.replicate 4 0)) (.int .i64 21) rfl rfl fin Tryd.underlying24 info_w4 rfl) rfl ⟨by rw [HPV.out]; rw [show ansR none = 0 from rfl, dgs_zero]; rfl, hbf⟩
  · have q3 : (((l.getD 0 0 : Nat) : Int) == 48) = false := by rw [beq_eq_false_iff_ne]; omega
    generalize l.getD 0 0 = b0 at hat0 q3 hb0
    clear hp hs h48 h78 hsz h0
    go_enter Tryd.func42, Tryd.ntmps42
    go_wp2
    go_loopw [4, 6] (fun lv iv wr => ∃ t m : Nat, t ≤ l.length ∧ iv = .int .i64 (t : Int) ∧ Below w.heap.size w wr ∧ Row wr w.heap.size (vQ (List.replicate 4 0)) 24 ∧ Row wr (w.heap.size + 1) (vI (bts 10 4)) 3 ∧ Hid (Dg wr lv (blen m) m ∧ m = val (l.take t) 0 ∧ ∀ c ∈ l.take t, ¬ (c < 48 ∨ 57 < c))) (fun _ iv _ => l.length - (intOf iv).toNat)
    case atStart =>
      exact ⟨0, 0, by omega, rfl, ((Below.refl _ _).alloc (Nat.le_refl _) _).alloc (by simp) _, (Row.new' rfl rfl).alloc _, Row.new' (by simp) rfl, ⟨by decide, by decide, .inl ⟨rfl, rfl⟩⟩, rfl, fun c hc => by cases hc⟩
    case round =>
      obtain ⟨t, m, ht, rfl, hb, r2, rT, hI⟩ := hrel
      have hsz := HSZ.out
      have T := r2.there 0 (vQ (List.replicate 4 0)).toArray.size (Nat.le_refl 4)
      have fin := r2.over (vs := (vQ (List.replicate 4 0))) rfl
      have hbf := below_setCells hb (b := w.heap.size) (o := 0) (by omega) (vQ (List.replicate 4 0))
      by_cases hlt : t < l.length
      · have hpt : t < s.size := by omega
        have hat : (s[t]'hpt).toNat = l.getD t 0 := HS.out.at' t (by omega)
        have hc : l.getD t 0 < 256 := by
          rw [List.getD_eq_getElem?_getD, List.getElem?_eq_getElem hlt]; exact HS.out.lt _ (List.getElem_mem _)
        have hq : (t : Int) < (s.size : Int) := by omega
        have hmem : l.getD t 0 ∈ l := by rw [List.getD_eq_getElem?_getD, List.getElem?_eq_getElem hlt]; exact List.getElem_mem _
        obtain ⟨c, ec⟩ : ∃ c, c = l.getD t 0 := ⟨_, rfl⟩
        rw [← ec] at hat hc hmem
        by_cases hl : c < 48
        · have HN : Hid (pars l 0 = none) := pars_bad l 0 ⟨c, hmem, Or.inl hl⟩
          have hl' : (c : Int) < 48 := by omega
          clear hI hb r2 rT ec hmem HS hsz
          go_wp2_with (refine wpList_store_mid rfl 24 (.tmp 2) (.tmp 45) rfl w.heap.size 0 (vQ (List.replicate 4 0)).toArray rfl rfl T info_w4 (all_oneCell_toArray (vQ_one _)) ?_; simp only [Act.put])
          exact bodyPost_ret (results_row_tmp Tryd.results42 _ _ w.heap.size 24 (vQ (List.replicate 4 0)) (.int .i64 21) rfl rfl fin Tryd.underlying24 info_w4 rfl) rfl ⟨by rw [HN.out]; rw [show ansR none = 0 from rfl, dgs_zero]; rfl, hbf⟩
        by_cases hg : 57 < c
        · have HN : Hid (pars l 0 = none) := pars_bad l 0 ⟨c, hmem, Or.inr hg⟩
          have hl' : ¬ (c : Int) < 48 := by omega
          have hg' : (57 : Int) < (c : Int) := by omega
          clear hI hb r2 rT ec hmem HS hsz
          go_wp2_with (refine wpList_store_mid rfl 24 (.tmp 2) (.tmp 45) rfl w.heap.size 0 (vQ (List.replicate 4 0)).toArray rfl rfl T info_w4 (all_oneCell_toArray (vQ_one _)) ?_; simp only [Act.put])
          exact bodyPost_ret (results_row_tmp Tryd.results42 _ _ w.heap.size 24 (vQ (List.replicate 4 0)) (.int .i64 21) rfl rfl fin Tryd.underlying24 info_w4 rfl) rfl ⟨by rw [HN.out]; rw [show ansR none = 0 from rfl, dgs_zero]; rfl, hbf⟩
        obtain ⟨d, hd⟩ : ∃ d, d = c - 48 := ⟨_, rfl⟩
        have hl' : ¬ (c : Int) < 48 := by omega
        have hg' : ¬ (57 : Int) < (c : Int) := by omega
        have HM : Hid (val (l.take (t + 1)) 0 = m * 10 + d) := by
          show _ = _
          rw [val_more l t hlt, ← ec, ← hI.out.2.1, hd]
        have HK : Hid (∀ c ∈ l.take (t + 1), ¬ (c < 48 ∨ 57 < c)) := ok_more l t hlt hI.out.2.2 (by rw [← ec]; omega)
        have hbm : blen m ≤ 260 := by rw [hI.out.2.1]; exact blen_val l t (by omega) ht hI.out.2.2
        have hbm2 : blen (m * 10) ≤ 1048576 := by have := blen_ten m; omega
        have hbd : blen d ≤ 256 := blen_le d 256 (Nat.lt_of_lt_of_le (show d < 10 by omega) (by decide))
        have dl := hI.out.1
        have HTM : Hid (∀ (v : Value) (w1 : World), Dg w1 v (blen m) m → Row w1 (w.heap.size + 1) (vI (bts 10 4)) 3 → Calls Tryd.prog 52 #[v, .slice (some ⟨(w.heap.size + 1), 0, none⟩) 4 4] w1 fun e w' => ∃ v, e = .returned v ∧ Dg w' v (blen (m * 10)) (m * 10) ∧ Below w1.heap.size w1 w') := fun v w1 h r => times_dg m 10 (w.heap.size + 1) (blen m) 4 4 v (by decide) (by omega) (by decide) w1 h (Cl.row r)
        have HOF : Hid (∀ w, _) := fun w => refOf_any d (by omega) w
        have HDI : Hid (∀ w, _) := fun w => digits_any d (Nat.lt_of_lt_of_le (show d < 10 by omega) (by decide)) w
        have HPL : Hid (∀ (v : Value) (N : Nat) (w : World), Dg w v (blen (m * 10)) (m * 10) → Row w N (vI (bts d 256)) 3 → Calls Tryd.prog 46 #[v, .slice (some ⟨N, 0, none⟩) (blen d) 256] w fun e w' => ∃ v, e = .returned v ∧ Dg w' v (blen (m * 10 + d)) (m * 10 + d) ∧ Below w.heap.size w w') := fun v N w h r => plus_dg (m * 10) d (blen (m * 10)) (blen d) v _ hbm2 (by omega) w h ⟨blen_lt d, by omega, .inr ⟨N, 256, rfl, hbd, (Cl.row r).less hbd⟩⟩
        obtain ⟨cd, Hd⟩ : ∃ x, Wc x d := ⟨_, rfl⟩
        rw [← show cd = vQ (dgs d 4) from Hd] at HDI
        have ecd : (c : Int) - 48 = (d : Int) := by omega
        have hdw : IntKind.u8.wrap (d : Int) = (d : Int) := by rw [IntKind.wrap_u8]; omega
        have hdv : IntKind.u64.wrap (d : Int) = (d : Int) := by rw [IntKind.wrap_u64]; omega
        have HEC : Hid (c = l.getD t 0) := ec
        generalize m * 10 + d = m2 at *
        generalize m * 10 = m1 at *
        clear hI ec hd hl hg hbm hbm2 hbd T fin hbf hmem hc hsz
        go_wp2_with fail
        refine wp_named fun a0 ha0 => ?_
        have hsz : a0.tmps.size = 66 := by rw [ha0]; rfl
        have s0 : a0.eval (.tmp 0) = .string s := by rw [ha0]; rfl
        have s4 : a0.eval (.tmp 4) = u4 := by rw [ha0]; rfl
        have s5 : a0.eval (.tmp 5) = .slice (some ⟨w.heap.size + 1, 0, none⟩) 4 4 := by rw [ha0]; rfl
        have s6 : a0.eval (.tmp 6) = .int .i64 (t : Int) := by rw [ha0]; rfl
        obtain ⟨D, hD⟩ : ∃ D : List (Tmp × SP), D = [(46, SP.dg (blen m) m), (47, SP.is (.slice (some ⟨w.heap.size + 1, 0, none⟩) 4 4)), (48, SP.dg (blen m1) m1), (49, SP.is (.string s)), (50, SP.is (.int .i64 (t : Int))), (51, SP.is (.int .u8 ((l.getD t 0 : Nat) : Int))), (52, SP.is (.int .u8 (d : Int))), (53, SP.is (.int .u64 (d : Int))), (54, SP.is (.agg cd.toArray)), (55, SP.new (blen d) 256 (vI (bts d 256)) 3), (56, SP.dg (blen m2) m2), (4, SP.dg (blen m2) m2)] := ⟨_, rfl⟩
        refine wp_region_down (by kernel_rfl) (fun listed ac W => listed.size = 12 ∧ Fp D a0 listed ac W ∧ Below w.heap.size w W ∧ Row W w.heap.size (vQ (List.replicate 4 0)) 24 ∧ Row W (w.heap.size + 1) (vI (bts 10 4)) 3 ∧ Dg W u4 (blen m) m) ?_ ?_ ?_
        · exact ⟨by simp, Fp.start D a0 _ _, Below.drew hb, Row.drew r2, Row.drew rT, dl.below (Below.drew (Below.refl _ _))⟩
        · clear ha0 hb r2 rT dl 
          intro listed ac W k hI hdn hk
          obtain ⟨hl, hF, hb, r2, rT, dl⟩ := hI
          have hk1 : k < 12 := List.mem_range.1 (List.mem_filter.1 hk).1
          have hl2 : ∀ j, (listed.setIfInBounds j true).size = 12 := fun j => by rw [Array.size_setIfInBounds]; exact hl
          rcases (show k = 0 ∨ k = 1 ∨ k = 2 ∨ k = 3 ∨ k = 4 ∨ k = 5 ∨ k = 6 ∨ k = 7 ∨ k = 8 ∨ k = 9 ∨ k = 10 ∨ k = 11 by omega) with rfl | rfl | rfl | rfl | rfl | rfl | rfl | rfl | rfl | rfl | rfl | rfl
          · have hk3 := hk
            exact wpOp_plain rfl rfl (wp_move_v u4 rfl ((hF.fresh 11 (4, SP.dg (blen m2) m2) (by rw [hD]; rfl) (fun h => not_yet hk (hdn 2 (hdn 10 (hdn 11 h 10 (by kernel_rfl)) 2 (by kernel_rfl)) 0 (by kernel_rfl)))).trans s4) ⟨hl2 0, (hF.put 0 46 (SP.dg (blen m) m) u4 (by rw [hD]; rfl) dl (by rw [hD]; rfl) (by rw [hsz]; decide) (by rw [hl]; decide)), hb, r2, rT, dl⟩)
          · have hk3 := hk
            exact wpOp_plain rfl rfl (wp_move_v (ac.eval (.tmp 5)) rfl rfl ⟨hl2 1, (hF.put 1 47 (SP.is (.slice (some ⟨w.heap.size + 1, 0, none⟩) 4 4)) (ac.eval (.tmp 5)) (by rw [hD]; rfl) (((hF.keep 5 (by rw [hD]; rfl)).trans s5)) (by rw [hD]; rfl) (by rw [hsz]; decide) (by rw [hl]; decide)), hb, r2, rT, dl⟩)
          · have hk3 := hk
            have y1 := (hF.done 0 (46, SP.dg (blen m) m) (by rw [hD]; rfl) (ready_dep hk 0 (by kernel_rfl)))
            have e2 := (hF.done 1 (47, SP.is (.slice (some ⟨w.heap.size + 1, 0, none⟩) 4 4)) (by rw [hD]; rfl) (ready_dep hk 1 (by kernel_rfl)))
            refine wpOp_plain rfl rfl (wp_fcall_v 52 #[ac.eval (.tmp 46), .slice (some ⟨w.heap.size + 1, 0, none⟩) 4 4] rfl rfl (by show [ac.eval (.tmp 46), ac.eval (.tmp 47)] = _; simp only [show ac.eval (.tmp 47) = _ from e2]) (by go_simp) ((HTM.out _ W y1 rT).mono ?_))
            rintro e W2 ⟨yv, rfl, yD, hB⟩
            exact ⟨_, rfl, hl2 2, ((hF.world hB).put 2 48 (SP.dg (blen m1) m1) yv (by rw [hD]; rfl) yD (by rw [hD]; rfl) (by rw [hsz]; decide) (by rw [hl]; decide)), hb.trans (hB.mono hb.size), Row.below r2 hB (Row.lt r2), Row.below rT hB (Row.lt rT), dl.below hB⟩
          · have hk3 := hk
            exact wpOp_plain rfl rfl (wp_move_v (ac.eval (.tmp 0)) rfl rfl ⟨hl2 3, (hF.put 3 49 (SP.is (.string s)) (ac.eval (.tmp 0)) (by rw [hD]; rfl) (((hF.keep 0 (by rw [hD]; rfl)).trans s0)) (by rw [hD]; rfl) (by rw [hsz]; decide) (by rw [hl]; decide)), hb, r2, rT, dl⟩)
          · have hk3 := hk
            exact wpOp_plain rfl rfl (wp_move_v (ac.eval (.tmp 6)) rfl rfl ⟨hl2 4, (hF.put 4 50 (SP.is (.int .i64 (t : Int))) (ac.eval (.tmp 6)) (by rw [hD]; rfl) (((hF.keep 6 (by rw [hD]; rfl)).trans s6)) (by rw [hD]; rfl) (by rw [hsz]; decide) (by rw [hl]; decide)), hb, r2, rT, dl⟩)
          · have hk3 := hk
            have e1 := (hF.done 3 (49, SP.is (.string s)) (by rw [hD]; rfl) (ready_dep hk 3 (by kernel_rfl)))
            have e2 := (hF.done 4 (50, SP.is (.int .i64 (t : Int))) (by rw [hD]; rfl) (ready_dep hk 4 (by kernel_rfl)))
            exact wpOp_plain rfl rfl (wp_index_str rfl HS.out t hlt e1 e2 ⟨hl2 5, (hF.put 5 51 (SP.is (.int .u8 ((l.getD t 0 : Nat) : Int))) (.int .u8 ((l.getD t 0 : Nat) : Int)) (by rw [hD]; rfl) rfl (by rw [hD]; rfl) (by rw [hsz]; decide) (by rw [hl]; decide)), hb, r2, rT, dl⟩)
          · have hk3 := hk
            have e1 := (hF.done 5 (51, SP.is (.int .u8 ((l.getD t 0 : Nat) : Int))) (by rw [hD]; rfl) (ready_dep hk 5 (by kernel_rfl)))
            exact wpOp_plain rfl rfl (wp_sub48_v rfl (show ac.eval (.tmp 51) = .int .u8 (c : Int) by rw [HEC.out]; exact e1) ecd hdw ⟨hl2 6, (hF.put 6 52 (SP.is (.int .u8 (d : Int))) (.int .u8 (d : Int)) (by rw [hD]; rfl) rfl (by rw [hD]; rfl) (by rw [hsz]; decide) (by rw [hl]; decide)), hb, r2, rT, dl⟩)
          · have hk3 := hk
            have e1 := (hF.done 6 (52, SP.is (.int .u8 (d : Int))) (by rw [hD]; rfl) (ready_dep hk 6 (by kernel_rfl)))
            exact wpOp_plain rfl rfl (wp_conv64_v rfl e1 hdv ⟨hl2 7, (hF.put 7 53 (SP.is (.int .u64 (d : Int))) (.int .u64 (d : Int)) (by rw [hD]; rfl) rfl (by rw [hD]; rfl) (by rw [hsz]; decide) (by rw [hl]; decide)), hb, r2, rT, dl⟩)
          · have hk3 := hk
            have e1 := (hF.done 7 (53, SP.is (.int .u64 (d : Int))) (by rw [hD]; rfl) (ready_dep hk 7 (by kernel_rfl)))
            refine wpOp_plain rfl rfl (wp_fcall_v 27 #[.int .u64 (d : Int)] rfl rfl (by show [ac.eval (.tmp 53)] = _; simp only [show ac.eval (.tmp 53) = _ from e1]) (by go_simp) ((HOF.out W).mono ?_))
            rintro e W2 ⟨yc, hyc, rfl, hB⟩
            exact ⟨_, rfl, hl2 8, ((hF.world hB).put 8 54 (SP.is (.agg cd.toArray)) (.agg yc.toArray) (by rw [hD]; rfl) (by rw [show yc = cd from hyc.trans Hd.symm]; rfl) (by rw [hD]; rfl) (by rw [hsz]; decide) (by rw [hl]; decide)), hb.trans (hB.mono hb.size), Row.below r2 hB (Row.lt r2), Row.below rT hB (Row.lt rT), dl.below hB⟩
          · have hk3 := hk
            have e1 := (hF.done 8 (54, SP.is (.agg cd.toArray)) (by rw [hD]; rfl) (ready_dep hk 8 (by kernel_rfl)))
            refine wpOp_plain rfl rfl (wp_fcall_v 47 #[.agg cd.toArray] rfl rfl (by show [ac.eval (.tmp 54)] = _; simp only [show ac.eval (.tmp 54) = _ from e1]) (by go_simp) ((HDI.out W).mono ?_))
            rintro e W2 ⟨yN, yL, yR, rfl, hB⟩
            exact ⟨_, rfl, hl2 9, ((hF.world hB).put 9 55 (SP.new (blen d) 256 (vI (bts d 256)) 3) (.slice (some ⟨yN, 0, none⟩) (blen d) 256) (by rw [hD]; rfl) (⟨yN, rfl, yR⟩) (by rw [hD]; rfl) (by rw [hsz]; decide) (by rw [hl]; decide)), hb.trans (hB.mono hb.size), Row.below r2 hB (Row.lt r2), Row.below rT hB (Row.lt rT), dl.below hB⟩
          · have hk3 := hk
            have y1 := (hF.done 2 (48, SP.dg (blen m1) m1) (by rw [hD]; rfl) (ready_dep hk 2 (by kernel_rfl)))
            obtain ⟨N2, e2, y2⟩ := (hF.done 9 (55, SP.new (blen d) 256 (vI (bts d 256)) 3) (by rw [hD]; rfl) (ready_dep hk 9 (by kernel_rfl)))
            refine wpOp_plain rfl rfl (wp_fcall_v 46 #[ac.eval (.tmp 48), .slice (some ⟨N2, 0, none⟩) (blen d) 256] rfl rfl (by show [ac.eval (.tmp 48), ac.eval (.tmp 55)] = _; simp only [show ac.eval (.tmp 55) = _ from e2]) (by go_simp) ((HPL.out _ N2 W y1 y2).mono ?_))
            rintro e W2 ⟨yv, rfl, yD, hB⟩
            exact ⟨_, rfl, hl2 10, ((hF.world hB).put 10 56 (SP.dg (blen m2) m2) yv (by rw [hD]; rfl) yD (by rw [hD]; rfl) (by rw [hsz]; decide) (by rw [hl]; decide)), hb.trans (hB.mono hb.size), Row.below r2 hB (Row.lt r2), Row.below rT hB (Row.lt rT), dl.below hB⟩
          · have hk3 := hk
            exact wpOp_plain rfl rfl (wp_assign_v (ac.eval (.tmp 56)) rfl rfl ⟨hl2 11, (hF.put 11 4 (SP.dg (blen m2) m2) (ac.eval (.tmp 56)) (by rw [hD]; rfl) ((hF.done 10 (56, SP.dg (blen m2) m2) (by rw [hD]; rfl) (ready_dep hk 10 (by kernel_rfl)))) (by rw [hD]; rfl) (by rw [hsz]; decide) (by rw [hl]; decide)), hb, r2, rT, dl⟩)
        · clear hb r2 rT dl 
          intro listed ac W hI hr
          obtain ⟨hl, hF, hb, r2, rT, dl⟩ := hI
          have hall := all_listed (by kernel_rfl) hl hr
          obtain ⟨x46, h46⟩ : ∃ x, ac.eval (.tmp 46) = x := ⟨_, rfl⟩
          have h47 : ac.eval (.tmp 47) = .slice (some ⟨w.heap.size + 1, 0, none⟩) 4 4 := hF.done 1 (47, SP.is (.slice (some ⟨w.heap.size + 1, 0, none⟩) 4 4)) (by rw [hD]; rfl) (hall 1 (by decide))
          obtain ⟨x48, h48⟩ : ∃ x, ac.eval (.tmp 48) = x := ⟨_, rfl⟩
          have h49 : ac.eval (.tmp 49) = .string s := hF.done 3 (49, SP.is (.string s)) (by rw [hD]; rfl) (hall 3 (by decide))
          have h50 : ac.eval (.tmp 50) = .int .i64 (t : Int) := hF.done 4 (50, SP.is (.int .i64 (t : Int))) (by rw [hD]; rfl) (hall 4 (by decide))
          have h51 : ac.eval (.tmp 51) = .int .u8 ((l.getD t 0 : Nat) : Int) := hF.done 5 (51, SP.is (.int .u8 ((l.getD t 0 : Nat) : Int))) (by rw [hD]; rfl) (hall 5 (by decide))
          have h52 : ac.eval (.tmp 52) = .int .u8 (d : Int) := hF.done 6 (52, SP.is (.int .u8 (d : Int))) (by rw [hD]; rfl) (hall 6 (by decide))
          have h53 : ac.eval (.tmp 53) = .int .u64 (d : Int) := hF.done 7 (53, SP.is (.int .u64 (d : Int))) (by rw [hD]; rfl) (hall 7 (by decide))
          have h54 : ac.eval (.tmp 54) = .agg cd.toArray := hF.done 8 (54, SP.is (.agg cd.toArray)) (by rw [hD]; rfl) (hall 8 (by decide))
          obtain ⟨x55, h55⟩ : ∃ x, ac.eval (.tmp 55) = x := ⟨_, rfl⟩
          obtain ⟨x56, h56⟩ : ∃ x, ac.eval (.tmp 56) = x := ⟨_, rfl⟩
          have f4 := hF.done 11 (4, SP.dg (blen m2) m2) (by rw [hD]; rfl) (hall 11 (by decide))
          obtain ⟨x4, h4⟩ : ∃ x, ac.eval (.tmp 4) = x := ⟨_, rfl⟩
          replace f4 : (SP.dg (blen m2) m2).P W x4 := by rw [← h4]; exact f4
          have ea := hF.lay [(46, x46), (47, .slice (some ⟨w.heap.size + 1, 0, none⟩) 4 4), (48, x48), (49, .string s), (50, .int .i64 (t : Int)), (51, .int .u8 ((l.getD t 0 : Nat) : Int)), (52, .int .u8 (d : Int)), (53, .int .u64 (d : Int)), (54, .agg cd.toArray), (55, x55), (56, x56), (4, x4)] (by rw [hD, hsz]; rfl) (by simp only [List.forall_mem_cons, List.not_mem_nil, false_implies, implies_true, and_true]; exact ⟨h46, h47, h48, h49, h50, h51, h52, h53, h54, h55, h56, h4⟩)
          rw [ha0] at ea
          simp only [List.foldl_cons, List.foldl_nil, List.setIfInBounds_toArray, List.set_cons_zero, List.set_cons_succ] at ea
          clear hF hall hr hl hD  s0 s4 s5 s6 ha0 hsz h46 h47 h48 h49 h50 h51 h52 h53 h54 h55 h56 h4
          subst ea
          have dq : Dg W x4 (blen m2) m2 := f4
          clear f4
          go_wp2_with fail
          exact ⟨⟨t + 1, m2, hlt, by go_num, hb, r2, rT, dq, HM.out.symm, HK.out⟩, by simp [intOf]; omega⟩
      · obtain rfl : t = l.length := by omega
        have hpv := pars_val l 0 (by have := hI.out.2.2; rw [List.take_length] at this; exact this) (by decide)
        have hmv := hI.out.2.1
        rw [List.take_length] at hmv
        rw [← hmv] at hpv
        have HN : Hid (Calls _ _ _ _ _) := number_dg u4 (blen m) m wr hI.out.1
        obtain ⟨cn, Hn⟩ : ∃ x, Wc x (numR m) := ⟨_, rfl⟩
        rw [← show cn = vQ (dgs (numR m) 4) from Hn] at HN
        have hq : ¬ (l.length : Int) < (s.size : Int) := by omega
        clear T fin hbf hI rT hlt ht hsz
        go_wp2_with fail
        refine HN.out.mono ?_
        rintro e V1 ⟨rfl, hB⟩
        replace r2 := Row.below r2 hB (Row.lt r2)
        replace hb := hb.trans (hB.mono hb.size)
        clear hB HN
        have n7 : Row (V1.alloc (Obj.cells #[Value.int IntKind.u64 0, Value.int IntKind.u64 0, Value.int IntKind.u64 0, Value.int IntKind.u64 0] 24)) V1.heap.size (vQ (List.replicate 4 0)) 24 := Row.new' rfl rfl
        have T7 := Hn.there n7 rfl
        replace n7 := n7.over (vs := cn) (by rw [Hn.len]; rfl)
        have hB : Below V1.heap.size V1 ((V1.alloc (Obj.cells #[Value.int IntKind.u64 0, Value.int IntKind.u64 0, Value.int IntKind.u64 0, Value.int IntKind.u64 0] 24)).setCells V1.heap.size 0 cn) := below_setCells ((Below.refl _ _).alloc (Nat.le_refl _) _) (b := V1.heap.size) (o := 0) (Nat.le_refl _) cn
        replace r2 := Row.below r2 hB (Row.lt r2)
        replace hb := hb.trans (hB.mono hb.size)
        clear hB
        by_cases hf : m < 2 ^ 256
        · rw [if_pos hf] at hpv
          have HPV : Hid (pars l 0 = some m) := hpv
          rw [decide_eq_true hf]
          have hnm : numR m = m := if_pos hf
          rw [hnm] at Hn
          have T2 := r2.there 0 cn.toArray.size (by simp [Hn.len, vQ_length])
          have fin := r2.over (vs := cn) (by rw [Hn.len]; rfl)
          have hbf := below_setCells hb (b := w.heap.size) (o := 0) (by omega) cn
          clear hpv hf hnm hmv
          go_wp2_with (first
            | (refine wpList_store_mid rfl 24 (.tmp 7) (.tmp 60) rfl V1.heap.size 0 cn.toArray rfl rfl T7 Hn.info' Hn.one ?_; simp only [Act.put])
            | (refine wpList_load_w rfl 24 (.tmp 7) rfl V1.heap.size 0 rfl cn _ n7.all Tryd.underlying24 rfl Hn.info ?_; simp only [Act.put, List.setIfInBounds_toArray, List.set_cons_zero, List.set_cons_succ])
            | (refine wpList_store_mid rfl 24 (.tmp 2) (.tmp 65) rfl w.heap.size 0 cn.toArray rfl rfl T2 Hn.info' Hn.one ?_; simp only [Act.put]))
          exact bodyPost_ret (results_row_tmp Tryd.results42 _ _ w.heap.size 24 cn (.int .i64 0) rfl rfl fin Tryd.underlying24 info_w4 Hn.len) rfl ⟨by rw [HPV.out, show cn = vQ (dgs m 4) from Hn]; rfl, hbf⟩
        · rw [if_neg hf] at hpv
          have HPV : Hid (pars l 0 = none) := hpv
          rw [decide_eq_false hf]
          have T2 := r2.there 0 (vQ (List.replicate 4 0)).toArray.size (Nat.le_refl 4)
          have fin := r2.over (vs := (vQ (List.replicate 4 0))) rfl
          have hbf := below_setCells hb (b := w.heap.size) (o := 0) (by omega) (vQ (List.replicate 4 0))
          clear hpv hf hmv
          go_wp2_with (first
            | (refine wpList_store_mid rfl 24 (.tmp 7) (.tmp 60) rfl V1.heap.size 0 cn.toArray rfl rfl T7 Hn.info' Hn.one ?_; simp only [Act.put])
            | (refine wpList_store_mid rfl 24 (.tmp 2) (.tmp 64) rfl w.heap.size 0 (vQ (List.replicate 4 0)).toArray rfl rfl T2 info_w4 (all_oneCell_toArray (vQ_one _)) ?_; simp only [Act.put]))
          exact bodyPost_ret (results_row_tmp Tryd.results42 _ _ w.heap.size 24 (vQ (List.replicate 4 0)) (.int .i64 21) rfl rfl fin Tryd.underlying24 info_w4 rfl) rfl ⟨by rw [HPV.out]; rw [show ansR none = 0 from rfl, dgs_zero]; rfl, hbf⟩

theorem refParse_any (s : ByteArray) (l : List Nat) (hs : StrN s l) (w : World) :
    Calls Tryd.prog 42 #[.string s] w fun e w' => e = .returned (.tuple #[.agg (vQ (dgs (ansR (parse l)) 4)).toArray, .int .i64 (ansE (parse l))]) ∧ Below w.heap.size w w' := by
  by_cases h78 : 78 < l.length
  · rw [parse_long l h78]
    exact refParse_bad s l hs (.inr (.inl h78)) w
  · by_cases hp : l = [] ∨ (l.getD 0 0 = 48 ∧ 1 < l.length)
    · rw [show parse l = none from if_pos hp]
      exact refParse_bad s l hs (hp.imp id Or.inr) w
    · rw [show parse l = pars l 0 from if_neg hp]
      exact refParse_body s l hs (fun h => hp (.inl (List.length_eq_zero_iff.1 h))) (by omega) (fun h => hp (.inr h)) w

end Go.Proofs.YtehccmlbnfhhmaaDoor
