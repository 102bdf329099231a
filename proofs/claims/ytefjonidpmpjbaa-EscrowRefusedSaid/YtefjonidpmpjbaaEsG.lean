/-
  The vault's calls, over its state.
-/
import Derived.Test.YtefjonidpmpjbaaEsF
namespace Go.Proofs.Ytefjonidpmpjbaa
open Go Go.RowKit Go.Maps
open Wd

set_option maxRecDepth 100000 in
set_option maxHeartbeats 4000000 in
theorem stop_any {w : World} {p c : Nat} {m1 m2 : Value} {s : St} (hV : Vt w p c m1 m2 s) (hc : c + 1 < maxLen) (x : Int) (b : Bool) :
    Calls Try.prog 27 #[.pointer (some ⟨p, 0, none⟩), .int .i64 x, .bool b] w (VtC w p c m1 m2 (sStop s x b)) := by
  have HV : Hid (Vt w p c m1 m2 s) := hV
  have HC : Hid (c + 1 < maxLen) := hc
  obtain ⟨s1, h1, E, hf⟩ : ∃ s1 h1 E, fnd s.T x = (s1, h1, E) := ⟨_, _, _, rfl⟩
  have HF : Hid (fnd s.T x = (s1, h1, E)) := hf
  have hE := fnd_cases hf
  have HH : Hid (h1 < 2 ^ 256) := fnd_lt hV.ok hf
  obtain ⟨rs, hrs⟩ : ∃ r, r = sStop s x b := ⟨_, rfl⟩
  have HRS : Hid (rs = sStop s x b) := hrs
  rw [← hrs]
  clear hV hc hf hrs
  go_enter Try.func27, Try.ntmps27
  go_upto_region 2 with (first
    | (go_at_call 47; refine Calls.mono (find_any HV.out x s1 h1 E HF.out) ?_; rintro e X2 ⟨rfl, q⟩; have B2 : Hid (Below w.heap.size w X2) := q; clear q)
    | (refine wpList_allocH rfl rfl ?_; intro X3 q1 q2; have R3 : Hid (Row X3 X2.heap.size (hcs false 0) tH) := q1; have B3 : Hid (Below w.heap.size w X3) := B2.out.trans (q2.mono B2.out.size); clear q1 q2)
    | (refine wpList_storeL rfl tH (.tmp 7) (.tmp 13) rfl X2.heap.size (hcs s1 h1) (hcs false 0) tH rfl rfl R3.out ((hcs_len _ _).trans (hcs_len _ _).symm) (hcs_info _ _) (hcs_all _ _) ?_; intro X4 q1 q2; have R4 : Hid (Row X4 X2.heap.size (hcs s1 h1) tH) := q1; have B4 : Hid (Below w.heap.size w X4) := gro_new B3.out B2.out.size q2; clear q1 q2))
  obtain ⟨bh, hbh⟩ : ∃ b, b = X2.heap.size := ⟨_, rfl⟩
  rw [← hbh] at R4 ⊢
  have HBbh : Hid (w.heap.size ≤ bh) := by show _ ≤ _; rw [hbh]; exact B2.out.size
  clear hbh B2 B3 R3
  have c0 := R4.out.cell 0 _ rfl
  rcases hE with ⟨rfl, hx0, hx1, _⟩ | ⟨rfl, _⟩ | ⟨rfl, _⟩
  · have HX : Hid (I64 x) := (i64_iff x).2 (by omega)
    have V4 : Hid (Vt X4 p c m1 m2 s) := HV.out.be B4.out
    clear hx0 hx1
    by_cases hsb : s1 = b
    · subst hsb
      have e1 : (s1 == s1) = true := by simp
      go_wp2_with fail
      go_ret
      rw [show rs = (s, 143) by rw [HRS.out, sStop, HF.out]; simp]
      exact VtC.same HV.out B4.out
    · have e1 : (s1 == b) = false := by simpa using hsb
      have HSB : Hid (¬ s1 = b) := hsb
      clear hsb
      go_upto_region 7 with (refine wpList_set1 rfl 4 (.tmp 25) (.tmp 24) rfl bh 0 (.bool b) (hcs s1 h1) tH rfl rfl rfl R4.out (by simp [hcs]) (by kernel_rfl) rfl ?_; intro X5 q1 q2; have R5 : Hid (Row X5 bh (hcs b h1) tH) := q1; have B5 : Hid (Below w.heap.size w X5) := gro_new B4.out HBbh.out q2; clear q1 q2)
      have V5 : Hid (Vt X5 p c m1 m2 s) := HV.out.be B5.out
      clear c0 R4 V4
      go_wp2_with (first
        | (refine wpList_load_w rfl tH (.tmp 7) rfl bh 0 rfl (hcs b h1) _ R5.out.all Try.underlying78 rfl (hcs_info _ _) ?_)
        | (go_at_call 49; refine Calls.mono (lay_any V5.out (by have := HC.out; omega) x HX.out b h1 HH.out) ?_; rintro e X6 ⟨m1', rfl, v5, n5, g5⟩; have V9 : Hid (Vt X6 p (c + 1) m1' m2 { s with T := upd s.T x (some (b, h1)) }) := v5; have N9 : Hid (Nw X5 m1 m1') := n5; have G9 : Hid (Gro (Vb p m1 m2) X5 X6) := g5; clear v5 n5 g5))
      go_ret
      rw [show rs = ({ s with T := upd s.T x (some (b, h1)) }, 0) by rw [HRS.out, sStop, HF.out]; simp [HSB.out]]
      exact VtC.laid B5.out V9.out N9.out G9.out
  · go_wp2_with fail
    go_ret
    rw [show rs = (s, 141) by rw [HRS.out, sStop, HF.out]; rfl]
    exact VtC.same HV.out B4.out
  · go_wp2_with fail
    go_ret
    rw [show rs = (s, 140) by rw [HRS.out, sStop, HF.out]; rfl]
    exact VtC.same HV.out B4.out

set_option maxRecDepth 100000 in
set_option maxHeartbeats 4000000 in
theorem dep_any {w : World} {p c : Nat} {m1 m2 : Value} {s : St} (hV : Vt w p c m1 m2 s) (hc : c + 1 < maxLen) (x : Int) (m : Nat) (hm : m < 2 ^ 256) :
    Calls Try.prog 24 #[.pointer (some ⟨p, 0, none⟩), .int .i64 x, .agg (vQ (dgs m 4)).toArray] w (VtC w p c m1 m2 (sDep s x m)) := by
  have HV : Hid (Vt w p c m1 m2 s) := hV
  have HC : Hid (c + 1 < maxLen) := hc
  obtain ⟨s1, h1, E, hf⟩ : ∃ s1 h1 E, fnd s.T x = (s1, h1, E) := ⟨_, _, _, rfl⟩
  have HF : Hid (fnd s.T x = (s1, h1, E)) := hf
  have HH : Hid (h1 < 2 ^ 256) := fnd_lt hV.ok hf
  have HM : Hid (m < 2 ^ 256) := hm
  obtain ⟨cm, hcm⟩ : ∃ c, c = vQ (dgs m 4) := ⟨_, rfl⟩
  have HWM : Hid (Wc cm m) := hcm
  obtain ⟨ch, hch⟩ : ∃ c, c = vQ (dgs h1 4) := ⟨_, rfl⟩
  have HWH : Hid (Wc ch h1) := hch
  rw [← hcm]
  clear hcm hch
  have hE := fnd_cases hf
  obtain ⟨rs, hrs⟩ : ∃ r, r = sDep s x m := ⟨_, rfl⟩
  have HRS : Hid (rs = sDep s x m) := hrs
  rw [← hrs]
  clear hV hc hf hm hrs
  go_enter Try.func24, Try.ntmps24
  go_upto_region 1 with (refine wpList_boxG 33 rfl (.tmp 2) rfl cm rfl ?_; intro X1 q1 q2; have RM0 : Hid (Row X1 w.heap.size cm 33) := q1; have B1 : Hid (Below w.heap.size w X1) := q2; clear q1 q2)
  obtain ⟨bm, hbm⟩ : ∃ b, b = w.heap.size := ⟨_, rfl⟩
  rw [← hbm] at RM0 ⊢
  clear hbm
  have V1 : Hid (Vt X1 p c m1 m2 s) := HV.out.be B1.out
  go_upto_region 2 with (first
    | (go_at_call 47; refine Calls.mono (find_any V1.out x s1 h1 E HF.out) ?_; rintro e X2 ⟨rfl, q⟩; have B2 : Hid (Below X1.heap.size X1 X2) := q; clear q)
    | (refine wpList_allocH rfl rfl ?_; intro X3 q1 q2; have R3 : Hid (Row X3 X2.heap.size (hcs false 0) tH) := q1; have B3 : Hid (Below X1.heap.size X1 X3) := B2.out.trans (q2.mono B2.out.size); clear q1 q2)
    | (refine wpList_storeL rfl tH (.tmp 7) (.tmp 13) rfl X2.heap.size (hcs s1 h1) (hcs false 0) tH rfl rfl R3.out ((hcs_len _ _).trans (hcs_len _ _).symm) (hcs_info _ _) (hcs_all _ _) ?_; intro X4 q1 q2; have R4 : Hid (Row X4 X2.heap.size (hcs s1 h1) tH) := q1; have B4 : Hid (Below X1.heap.size X1 X4) := gro_new B3.out B2.out.size q2; clear q1 q2))
  obtain ⟨bh, hbh⟩ : ∃ b, b = X2.heap.size := ⟨_, rfl⟩
  rw [← hbh] at R4 ⊢
  have HBbh : Hid (X1.heap.size ≤ bh) := by show _ ≤ _; rw [hbh]; exact B2.out.size
  clear hbh B2 B3 R3
  have RM : Hid (Row X4 bm cm 33) := Row.below RM0.out B4.out RM0.out.lt
  have V4 : Hid (Vt X4 p c m1 m2 s) := V1.out.be B4.out
  have B5 : Hid (Below w.heap.size w X4) := B1.out.trans (B4.out.mono B1.out.size)
  have HBB : Hid (w.heap.size ≤ bh) := Nat.le_trans B1.out.size HBbh.out
  clear RM0 V1 B1 B4 HBbh
  have c0 := R4.out.cell 0 _ rfl
  rcases hE with ⟨rfl, hx0, hx1, _⟩ | ⟨rfl, _⟩ | ⟨rfl, _⟩
  · have HX : Hid (I64 x) := (i64_iff x).2 (by omega)
    clear hx0 hx1
    by_cases hs1 : s1 = true
    · subst hs1
      go_wp2_with fail
      go_ret
      rw [show rs = (s, 143) by rw [HRS.out, sDep, HF.out]; rfl]
      exact VtC.same HV.out B5.out
    · have hs2 : s1 = false := by simpa using hs1
      subst hs2
      obtain ⟨s1, hs⟩ : ∃ s1 : Bool, s1 = false := ⟨_, rfl⟩
      have HS : Hid (s1 = false) := hs
      clear hs1
      by_cases hm0 : m = 0
      · have HZ : Hid (decide (m = 0) = true) := decide_eq_true hm0
        have HM0 : Hid (m = 0) := hm0
        clear hm0
        go_wp2_with (first
          | (refine wpList_load_w rfl 33 (.tmp 5) rfl bm 0 rfl cm _ RM.out.all Try.underlying33 rfl HWM.out.info ?_)
          | (go_at_call 50; refine Calls.mono (isz_c HWM.out HM.out HZ.out X4) ?_; rintro e X6 ⟨rfl, q⟩; have B6 : Hid (Below w.heap.size w X6) := B5.out.trans (q.mono B5.out.size); clear q))
        go_ret
        rw [show rs = (s, 144) by rw [HRS.out, sDep, HF.out]; simp [HM0.out]]
        exact VtC.same HV.out B6.out
      · have HZ : Hid (decide (m = 0) = false) := decide_eq_false hm0
        have HM0 : Hid (¬ m = 0) := hm0
        obtain ⟨r, hr⟩ : ∃ r, addR h1 m = r := ⟨_, rfl⟩
        obtain ⟨er, her⟩ : ∃ r, addE h1 m = r := ⟨_, rfl⟩
        have HR : Hid (addR h1 m = r) := hr
        have HER : Hid (addE h1 m = er) := her
        have hec : er = 0 ∨ er = 22 := her ▸ addE_cases h1 m
        have HRL : Hid (r < 2 ^ 256) := hr ▸ addR_lt' h1 m
        clear hm0 hr her
        go_upto_region 9 with (first
          | (refine wpList_load_w rfl 33 (.tmp 5) rfl bm 0 rfl cm _ RM.out.all Try.underlying33 rfl HWM.out.info ?_)
          | (go_at_call 50; refine Calls.mono (isz_c HWM.out HM.out HZ.out X4) ?_; rintro e X6 ⟨rfl, q⟩; have R6 : Hid (Row X6 bh (hcs s1 h1) tH) := (by rw [HS.out]; exact Row.below R4.out q R4.out.lt); have M6 : Hid (Row X6 bm cm 33) := Row.below RM.out q RM.out.lt; have B6 : Hid (Below w.heap.size w X6) := B5.out.trans (q.mono B5.out.size); clear q RM)
          | (first
            | (refine wpList_load_w rfl 33 (.tmp 26) rfl bh 1 rfl ch _ (hcs_rng R6.out HWH.out) Try.underlying33 rfl HWH.out.info ?_)
            | (refine wpList_load_w rfl 33 (.tmp 5) rfl bm 0 rfl cm _ M6.out.all Try.underlying33 rfl HWM.out.info ?_)
            | (go_at_call 51; refine Calls.mono (add_c HWH.out HWM.out HH.out HM.out HR.out HER.out X6) ?_; rintro e X7 ⟨cr, hcr, rfl, q⟩; have HWR : Hid (Wc cr r) := hcr; have R7 : Hid (Row X7 bh (hcs s1 h1) tH) := Row.below R6.out q R6.out.lt; have B7 : Hid (Below w.heap.size w X7) := B6.out.trans (q.mono B6.out.size); clear q hcr)
            | (refine wpList_storeM rfl 33 (.tmp 32) (.tmp 30) rfl bh 1 cr (hcs s1 h1) tH rfl rfl R7.out (by rw [HWR.out.len, hcs_len]; exact Nat.le_refl _) HWR.out.info HWR.out.one ?_; intro X8 q1 q2; have R5 : Hid (Row X8 bh (hcs s1 r) tH) := (by rw [← hcs_put HWR.out s1 h1]; exact q1); have B8 : Hid (Below w.heap.size w X8) := gro_new B7.out HBB.out q2; clear q1 q2)))
        have V8 : Hid (Vt X8 p c m1 m2 s) := HV.out.be B8.out
        clear c0 R4 R6 M6 B6 R7 B7 V4 B5
        rw [HS.out] at R5
        rcases hec with rfl | rfl
        · clear HWR HWM HWH
          go_wp2_with (first
            | (refine wpList_load_w rfl tH (.tmp 7) rfl bh 0 rfl (hcs false r) _ R5.out.all Try.underlying78 rfl (hcs_info _ _) ?_)
            | (go_at_call 49; refine Calls.mono (lay_any V8.out (by have := HC.out; omega) x HX.out false r HRL.out) ?_; rintro e X9 ⟨m1', rfl, v5, n5, g5⟩; have V9 : Hid (Vt X9 p (c + 1) m1' m2 { s with T := upd s.T x (some (false, r)) }) := v5; have N9 : Hid (Nw X8 m1 m1') := n5; have G9 : Hid (Gro (Vb p m1 m2) X8 X9) := g5; clear v5 n5 g5))
          go_ret
          rw [show rs = ({ s with T := upd s.T x (some (false, r)) }, 0) by rw [HRS.out, sDep, HF.out]; simp [HM0.out, HER.out, HR.out]]
          exact VtC.laid B8.out V9.out N9.out G9.out
        · go_wp2_with fail
          go_ret
          rw [show rs = (s, 145) by rw [HRS.out, sDep, HF.out]; simp [HM0.out, HER.out]]
          exact VtC.same HV.out B8.out
  · go_wp2_with fail
    go_ret
    rw [show rs = (s, 141) by rw [HRS.out, sDep, HF.out]; rfl]
    exact VtC.same HV.out B5.out
  · go_wp2_with fail
    go_ret
    rw [show rs = (s, 140) by rw [HRS.out, sDep, HF.out]; rfl]
    exact VtC.same HV.out B5.out


end Go.Proofs.Ytefjonidpmpjbaa
