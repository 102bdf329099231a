/-
  The law's pick, known.
-/
import Derived.Test.YtkbdnebmekhcdaaEsF
import Derived.Test.YtkbdnebmekhcdaaEsJ

namespace Go.Proofs.Ytkbdnebmekhcdaa
open Go Go.RowKit Go.Maps
open Wd

set_option maxRecDepth 100000 in
set_option maxHeartbeats 4000000 in
theorem stop_any {w : World} {p c : Nat} {m1 m2 : Value} {s : St} (hV : Vt w p c m1 m2 s) (hc : c + 1 < maxLen) (x : Int) (b : Bool) :
    Calls Try.prog 27 #[.pointer (some ⟨p, 0, none⟩), .int .i64 x, .bool b] w (VtC w p c m1 m2 (sStop s x b)) := by
  have HV : Hid (Vt w p c m1 m2 s) := hV
  have HC : Hid (c + 1 < maxLen) := hc
  obtain ⟨s1, h1, E, hf⟩ : ∃ s1 h1 E, fnd s.T x = (s1, h1, E) := ⟨_, _, _, rfl⟩
  have HF : Hid (fnd s.T x = (s1, h1, E)) := hf
  have hE := fnd_cases hf
  have HH : Hid (h1 < 2 ^ 256) := fnd_lt hV.ok hf
  obtain ⟨rs, hrs⟩ : ∃ r, r = sStop s x b := ⟨_, rfl⟩
  have HRS : Hid (rs = sStop s x b) := hrs
  rw [← hrs]
  clear hV hc hf hrs
  go_enter Try.func27, Try.ntmps27
  go_upto_region 2 with (first
    | (go_at_call 47; refine Calls.mono (find_any HV.out x s1 h1 E HF.out) ?_; rintro e X2 ⟨rfl, q⟩; have B2 : Hid (Below w.heap.size w X2) := q; clear q)
    | (refine wpList_allocH rfl rfl ?_; intro X3 q1 q2; have R3 : Hid (Row X3 X2.heap.size (hcs false 0) tH) := q1; have B3 : Hid (Below w.heap.size w X3) := B2.out.trans (q2.mono B2.out.size); clear q1 q2)
    | (refine wpList_storeL rfl tH (.tmp 7) (.tmp 13) rfl X2.heap.size (hcs s1 h1) (hcs false 0) tH rfl rfl R3.out ((hcs_len _ _).trans (hcs_len _ _).symm) (hcs_info _ _) (hcs_all _ _) ?_; intro X4 q1 q2; have R4 : Hid (Row X4 X2.heap.size (hcs s1 h1) tH) := q1; have B4 : Hid (Below w.heap.size w X4) := gro_new B3.out B2.out.size q2; clear q1 q2))
  obtain ⟨bh, hbh⟩ : ∃ b, b = X2.heap.size := ⟨_, rfl⟩
  rw [← hbh] at R4 ⊢
  have HBbh : Hid (w.heap.size ≤ bh) := by show _ ≤ _; rw [hbh]; exact B2.out.size
  clear hbh B2 B3 R3
  have c0 := R4.out.cell 0 _ rfl
  rcases hE with ⟨rfl, hx0, hx1, _⟩ | ⟨rfl, _⟩ | ⟨rfl, _⟩
  · have HX : Hid (I64 x) := (i64_iff x).2 (by omega)
    have V4 : Hid (Vt X4 p c m1 m2 s) := HV.out.be B4.out
    clear hx0 hx1
    by_cases hsb : s1 = b
    · subst hsb
      have e1 : (s1 == s1) = true := by simp
      go_wp2_with fail
      go_ret
      rw [show rs = (s, 143) by rw [HRS.out, sStop, HF.out]; simp]
      exact VtC.same HV.out B4.out
    · have e1 : (s1 == b) = false := by simpa using hsb
      have HSB : Hid (¬ s1 = b) := hsb
      clear hsb
      go_upto_region 7 with (refine wpList_set1 rfl 4 (.tmp 25) (.tmp 24) rfl bh 0 (.bool b) (hcs s1 h1) tH rfl rfl rfl R4.out (by simp [hcs]) (by kernel_rfl) rfl ?_; intro X5 q1 q2; have R5 : Hid (Row X5 bh (hcs b h1) tH) := q1; have B5 : Hid (Below w.heap.size w X5) := gro_new B4.out HBbh.out q2; clear q1 q2)
      have V5 : Hid (Vt X5 p c m1 m2 s) := HV.out.be B5.out
      clear c0 R4 V4
      go_wp2_with (first
        | (refine wpList_load_w rfl tH (.tmp 7) rfl bh 0 rfl (hcs b h1) _ R5.out.all Try.underlying78 rfl (hcs_info _ _) ?_)
        | (go_at_call 49; refine Calls.mono (lay_any V5.out (by have := HC.out; omega) x HX.out b h1 HH.out) ?_; rintro e X6 ⟨m1', rfl, v5, n5, g5⟩; have V9 : Hid (Vt X6 p (c + 1) m1' m2 { s with T := upd s.T x (some (b, h1)) }) := v5; have N9 : Hid (Nw X5 m1 m1') := n5; have G9 : Hid (Gro (Vb p m1 m2) X5 X6) := g5; clear v5 n5 g5))
      go_ret
      rw [show rs = ({ s with T := upd s.T x (some (b, h1)) }, 0) by rw [HRS.out, sStop, HF.out]; simp [HSB.out]]
      exact VtC.laid B5.out V9.out N9.out G9.out
  · go_wp2_with fail
    go_ret
    rw [show rs = (s, 141) by rw [HRS.out, sStop, HF.out]; rfl]
    exact VtC.same HV.out B4.out
  · go_wp2_with fail
    go_ret
    rw [show rs = (s, 140) by rw [HRS.out, sStop, HF.out]; rfl]
    exact VtC.same HV.out B4.out

set_option maxRecDepth 100000 in
set_option maxHeartbeats 4000000 in
theorem dep_any {w : World} {p c : Nat} {m1 m2 : Value} {s : St} (hV : Vt w p c m1 m2 s) (hc : c + 1 < maxLen) (x : Int) (m : Nat) (hm : m < 2 ^ 256) :
    Calls Try.prog 24 #[.pointer (some ⟨p, 0, none⟩), .int .i64 x, .agg (vQ (dgs m 4)).toArray] w (VtC w p c m1 m2 (sDep s x m)) := by
  have HV : Hid (Vt w p c m1 m2 s) := hV
  have HC : Hid (c + 1 < maxLen) := hc
  obtain ⟨s1, h1, E, hf⟩ : ∃ s1 h1 E, fnd s.T x = (s1, h1, E) := ⟨_, _, _, rfl⟩
  have HF : Hid (fnd s.T x = (s1, h1, E)) := hf
  have HH : Hid (h1 < 2 ^ 256) := fnd_lt hV.ok hf
  have HM : Hid (m < 2 ^ 256) := hm
  obtain ⟨cm, hcm⟩ : ∃ c, c = vQ (dgs m 4) := ⟨_, rfl⟩
  have HWM : Hid (Wc cm m) := hcm
  obtain ⟨ch, hch⟩ : ∃ c, c = vQ (dgs h1 4) := ⟨_, rfl⟩
  have HWH : Hid (Wc ch h1) := hch
  rw [← hcm]
  clear hcm hch
  have hE := fnd_cases hf
  obtain ⟨rs, hrs⟩ : ∃ r, r = sDep s x m := ⟨_, rfl⟩
  have HRS : Hid (rs = sDep s x m) := hrs
  rw [← hrs]
  clear hV hc hf hm hrs
  go_enter Try.func24, Try.ntmps24
  go_upto_region 1 with (refine wpList_boxG 33 rfl (.tmp 2) rfl cm rfl ?_; intro X1 q1 q2; have RM0 : Hid (Row X1 w.heap.size cm 33) := q1; have B1 : Hid (Below w.heap.size w X1) := q2; clear q1 q2)
  obtain ⟨bm, hbm⟩ : ∃ b, b = w.heap.size := ⟨_, rfl⟩
  rw [← hbm] at RM0 ⊢
  clear hbm
  have V1 : Hid (Vt X1 p c m1 m2 s) := HV.out.be B1.out
  go_upto_region 2 with (first
    | (go_at_call 47; refine Calls.mono (find_any V1.out x s1 h1 E HF.out) ?_; rintro e X2 ⟨rfl, q⟩; have B2 : Hid (Below X1.heap.size X1 X2) := q; clear q)
    | (refine wpList_allocH rfl rfl ?_; intro X3 q1 q2; have R3 : Hid (Row X3 X2.heap.size (hcs false 0) tH) := q1; have B3 : Hid (Below X1.heap.size X1 X3) := B2.out.trans (q2.mono B2.out.size); clear q1 q2)
    | (refine wpList_storeL rfl tH (.tmp 7) (.tmp 13) rfl X2.heap.size (hcs s1 h1) (hcs false 0) tH rfl rfl R3.out ((hcs_len _ _).trans (hcs_len _ _).symm) (hcs_info _ _) (hcs_all _ _) ?_; intro X4 q1 q2; have R4 : Hid (Row X4 X2.heap.size (hcs s1 h1) tH) := q1; have B4 : Hid (Below X1.heap.size X1 X4) := gro_new B3.out B2.out.size q2; clear q1 q2))
  obtain ⟨bh, hbh⟩ : ∃ b, b = X2.heap.size := ⟨_, rfl⟩
  rw [← hbh] at R4 ⊢
  have HBbh : Hid (X1.heap.size ≤ bh) := by show _ ≤ _; rw [hbh]; exact B2.out.size
  clear hbh B2 B3 R3
  have RM : Hid (Row X4 bm cm 33) := Row.below RM0.out B4.out RM0.out.lt
  have V4 : Hid (Vt X4 p c m1 m2 s) := V1.out.be B4.out
  have B5 : Hid (Below w.heap.size w X4) := B1.out.trans (B4.out.mono B1.out.size)
  have HBB : Hid (w.heap.size ≤ bh) := Nat.le_trans B1.out.size HBbh.out
  clear RM0 V1 B1 B4 HBbh
  have c0 := R4.out.cell 0 _ rfl
  rcases hE with ⟨rfl, hx0, hx1, _⟩ | ⟨rfl, _⟩ | ⟨rfl, _⟩
  · have HX : Hid (I64 x) := (i64_iff x).2 (by omega)
    clear hx0 hx1
    by_cases hs1 : s1 = true
    · subst hs1
      go_wp2_with fail
      go_ret
      rw [show rs = (s, 143) by rw [HRS.out, sDep, HF.out]; rfl]
      exact VtC.same HV.out B5.out
    · have hs2 : s1 = false := by simpa using hs1
      subst hs2
      obtain ⟨s1, hs⟩ : ∃ s1 : Bool, s1 = false := ⟨_, rfl⟩
      have HS : Hid (s1 = false) := hs
      clear hs1
      by_cases hm0 : m = 0
      · have HZ : Hid (decide (m = 0) = true) := decide_eq_true hm0
        have HM0 : Hid (m = 0) := hm0
        clear hm0
        go_wp2_with (first
          | (refine wpList_load_w rfl 33 (.tmp 5) rfl bm 0 rfl cm _ RM.out.all Try.underlying33 rfl HWM.out.info ?_)
          | (go_at_call 50; refine Calls.mono (isz_c HWM.out HM.out HZ.out X4) ?_; rintro e X6 ⟨rfl, q⟩; have B6 : Hid (Below w.heap.size w X6) := B5.out.trans (q.mono B5.out.size); clear q))
        go_ret
        rw [show rs = (s, 144) by rw [HRS.out, sDep, HF.out]; simp [HM0.out]]
        exact VtC.same HV.out B6.out
      · have HZ : Hid (decide (m = 0) = false) := decide_eq_false hm0
        have HM0 : Hid (¬ m = 0) := hm0
        obtain ⟨r, hr⟩ : ∃ r, addR h1 m = r := ⟨_, rfl⟩
        obtain ⟨er, her⟩ : ∃ r, addE h1 m = r := ⟨_, rfl⟩
        have HR : Hid (addR h1 m = r) := hr
        have HER : Hid (addE h1 m = er) := her
        have hec : er = 0 ∨ er = 22 := her ▸ addE_cases h1 m
        have HRL : Hid (r < 2 ^ 256) := hr ▸ addR_lt' h1 m
        clear hm0 hr her
        go_upto_region 9 with (first
          | (refine wpList_load_w rfl 33 (.tmp 5) rfl bm 0 rfl cm _ RM.out.all Try.underlying33 rfl HWM.out.info ?_)
          | (go_at_call 50; refine Calls.mono (isz_c HWM.out HM.out HZ.out X4) ?_; rintro e X6 ⟨rfl, q⟩; have R6 : Hid (Row X6 bh (hcs s1 h1) tH) := (by rw [HS.out]; exact Row.below R4.out q R4.out.lt); have M6 : Hid (Row X6 bm cm 33) := Row.below RM.out q RM.out.lt; have B6 : Hid (Below w.heap.size w X6) := B5.out.trans (q.mono B5.out.size); clear q RM)
          | (first
            | (refine wpList_load_w rfl 33 (.tmp 26) rfl bh 1 rfl ch _ (hcs_rng R6.out HWH.out) Try.underlying33 rfl HWH.out.info ?_)
            | (refine wpList_load_w rfl 33 (.tmp 5) rfl bm 0 rfl cm _ M6.out.all Try.underlying33 rfl HWM.out.info ?_)
            | (go_at_call 51; refine Calls.mono (add_c HWH.out HWM.out HH.out HM.out HR.out HER.out X6) ?_; rintro e X7 ⟨cr, hcr, rfl, q⟩; have HWR : Hid (Wc cr r) := hcr; have R7 : Hid (Row X7 bh (hcs s1 h1) tH) := Row.below R6.out q R6.out.lt; have B7 : Hid (Below w.heap.size w X7) := B6.out.trans (q.mono B6.out.size); clear q hcr)
            | (refine wpList_storeM rfl 33 (.tmp 32) (.tmp 30) rfl bh 1 cr (hcs s1 h1) tH rfl rfl R7.out (by rw [HWR.out.len, hcs_len]; exact Nat.le_refl _) HWR.out.info HWR.out.one ?_; intro X8 q1 q2; have R5 : Hid (Row X8 bh (hcs s1 r) tH) := (by rw [← hcs_put HWR.out s1 h1]; exact q1); have B8 : Hid (Below w.heap.size w X8) := gro_new B7.out HBB.out q2; clear q1 q2)))
        have V8 : Hid (Vt X8 p c m1 m2 s) := HV.out.be B8.out
        clear c0 R4 R6 M6 B6 R7 B7 V4 B5
        rw [HS.out] at R5
        rcases hec with rfl | rfl
        · clear HWR HWM HWH
          go_wp2_with (first
            | (refine wpList_load_w rfl tH (.tmp 7) rfl bh 0 rfl (hcs false r) _ R5.out.all Try.underlying78 rfl (hcs_info _ _) ?_)
            | (go_at_call 49; refine Calls.mono (lay_any V8.out (by have := HC.out; omega) x HX.out false r HRL.out) ?_; rintro e X9 ⟨m1', rfl, v5, n5, g5⟩; have V9 : Hid (Vt X9 p (c + 1) m1' m2 { s with T := upd s.T x (some (false, r)) }) := v5; have N9 : Hid (Nw X8 m1 m1') := n5; have G9 : Hid (Gro (Vb p m1 m2) X8 X9) := g5; clear v5 n5 g5))
          go_ret
          rw [show rs = ({ s with T := upd s.T x (some (false, r)) }, 0) by rw [HRS.out, sDep, HF.out]; simp [HM0.out, HER.out, HR.out]]
          exact VtC.laid B8.out V9.out N9.out G9.out
        · go_wp2_with fail
          go_ret
          rw [show rs = (s, 145) by rw [HRS.out, sDep, HF.out]; simp [HM0.out, HER.out]]
          exact VtC.same HV.out B8.out
  · go_wp2_with fail
    go_ret
    rw [show rs = (s, 141) by rw [HRS.out, sDep, HF.out]; rfl]
    exact VtC.same HV.out B5.out
  · go_wp2_with fail
    go_ret
    rw [show rs = (s, 140) by rw [HRS.out, sDep, HF.out]; rfl]
    exact VtC.same HV.out B5.out


end Go.Proofs.Ytkbdnebmekhcdaa

namespace Go.Proofs.Ytkbdnebmekhcdaa
open Go Go.RowKit Go.Maps
open Wd

set_option maxRecDepth 100000 in
set_option maxHeartbeats 4000000 in
theorem pay_any {w : World} {p c : Nat} {m1 m2 : Value} {s : St} (hV : Vt w p c m1 m2 s) (hc : c + 1 < maxLen) (i x : Int) (m : Nat) (hm : m < 2 ^ 256) :
    Calls Try.prog 25 #[.pointer (some ⟨p, 0, none⟩), .int .i64 i, .int .i64 x, .agg (vQ (dgs m 4)).toArray] w (VtC w p c m1 m2 (sPay s i x m)) := by
  have HV : Hid (Vt w p c m1 m2 s) := hV
  have HC : Hid (c + 1 < maxLen) := hc
  obtain ⟨s1, h1, E, hf⟩ : ∃ s1 h1 E, fnd s.T x = (s1, h1, E) := ⟨_, _, _, rfl⟩
  have HF : Hid (fnd s.T x = (s1, h1, E)) := hf
  have HH : Hid (h1 < 2 ^ 256) := fnd_lt hV.ok hf
  have HM : Hid (m < 2 ^ 256) := hm
  obtain ⟨cm, hcm⟩ : ∃ c, c = vQ (dgs m 4) := ⟨_, rfl⟩
  have HWM : Hid (Wc cm m) := hcm
  obtain ⟨ch, hch⟩ : ∃ c, c = vQ (dgs h1 4) := ⟨_, rfl⟩
  have HWH : Hid (Wc ch h1) := hch
  rw [← hcm]
  clear hcm hch
  have hE := fnd_cases hf
  obtain ⟨rs, hrs⟩ : ∃ r, r = sPay s i x m := ⟨_, rfl⟩
  have HRS : Hid (rs = sPay s i x m) := hrs
  rw [← hrs]
  clear hV hc hf hm hrs
  go_enter Try.func25, Try.ntmps25
  go_upto_region 1 with (refine wpList_boxG 33 rfl (.tmp 3) rfl cm rfl ?_; intro X1 q1 q2; have RM0 : Hid (Row X1 w.heap.size cm 33) := q1; have B1 : Hid (Below w.heap.size w X1) := q2; clear q1 q2)
  obtain ⟨bm, hbm⟩ : ∃ b, b = w.heap.size := ⟨_, rfl⟩
  rw [← hbm] at RM0 ⊢
  clear hbm
  have V1 : Hid (Vt X1 p c m1 m2 s) := HV.out.be B1.out
  by_cases hi0 : i < 0
  · have HI : Hid (i < 0) := hi0
    go_wp2_with fail
    go_ret
    rw [show rs = (s, 148) by rw [HRS.out, sPay]; exact if_pos (.inl HI.out)]
    exact VtC.same HV.out B1.out
  · by_cases hi1 : 1099511627776 ≤ i
    · have HI : Hid (1099511627776 ≤ i) := hi1
      go_wp2_with fail
      go_ret
      rw [show rs = (s, 148) by rw [HRS.out, sPay]; exact if_pos (.inr HI.out)]
      exact VtC.same HV.out B1.out
    · have HI : Hid (¬ (i < 0 ∨ 1099511627776 ≤ i)) := by show ¬ _; omega
      have HIX : Hid (I64 i) := (i64_iff i).2 (by omega)
      go_upto_region 6 with (first
    | (go_at_call 47; refine Calls.mono (find_any V1.out x s1 h1 E HF.out) ?_; rintro e X2 ⟨rfl, q⟩; have B2 : Hid (Below X1.heap.size X1 X2) := q; clear q)
    | (refine wpList_allocH rfl rfl ?_; intro X3 q1 q2; have R3 : Hid (Row X3 X2.heap.size (hcs false 0) tH) := q1; have B3 : Hid (Below X1.heap.size X1 X3) := B2.out.trans (q2.mono B2.out.size); clear q1 q2)
    | (refine wpList_storeL rfl tH (.tmp 9) (.tmp 25) rfl X2.heap.size (hcs s1 h1) (hcs false 0) tH rfl rfl R3.out ((hcs_len _ _).trans (hcs_len _ _).symm) (hcs_info _ _) (hcs_all _ _) ?_; intro X4 q1 q2; have R4 : Hid (Row X4 X2.heap.size (hcs s1 h1) tH) := q1; have B4 : Hid (Below X1.heap.size X1 X4) := gro_new B3.out B2.out.size q2; clear q1 q2))
      clear hi0 hi1
      obtain ⟨bh, hbh⟩ : ∃ b, b = X2.heap.size := ⟨_, rfl⟩
      rw [← hbh] at R4 ⊢
      have HBbh : Hid (X1.heap.size ≤ bh) := by show _ ≤ _; rw [hbh]; exact B2.out.size
      clear hbh B2 B3 R3
      have RM : Hid (Row X4 bm cm 33) := Row.below RM0.out B4.out RM0.out.lt
      have V4 : Hid (Vt X4 p c m1 m2 s) := V1.out.be B4.out
      have B5 : Hid (Below w.heap.size w X4) := B1.out.trans (B4.out.mono B1.out.size)
      have HBB : Hid (w.heap.size ≤ bh) := Nat.le_trans B1.out.size HBbh.out
      clear RM0 V1 B1 B4 HBbh
      rcases hE with ⟨rfl, hx0, hx1, _⟩ | ⟨rfl, _⟩ | ⟨rfl, _⟩
      · have HX : Hid (I64 x) := (i64_iff x).2 (by omega)
        have RV : Hid (X4.rangeAt p 1 [m2]) := V4.out.row.range 1 [m2] (fun j v hv => by rcases j with _ | j; exact hv; simp at hv)
        clear hx0 hx1
        by_cases hp : paid s.U i = true
        · have HP : Hid (paid s.U i = true) := hp
          clear hp
          go_wp2_with (first
            | (refine wpList_load_w rfl tSt (.tmp 34) rfl p 1 rfl [m2] _ RV.out Try.underlying70 rfl info_St ?_)
            | (go_at_call 48; refine Calls.mono (has_any V4.out i HIX.out) ?_; rw [HP.out]; rintro e X6 ⟨rfl, q⟩; have B6 : Hid (Below w.heap.size w X6) := B5.out.trans (q.mono B5.out.size); clear q))
          go_ret
          rw [show rs = (s, 147) by rw [HRS.out, sPay, HF.out, if_neg HI.out]; simp [HP.out]]
          exact VtC.same HV.out B6.out
        · have hp2 : paid s.U i = false := by simpa using hp
          have HP : Hid (paid s.U i = false) := hp2
          obtain ⟨r, hr⟩ : ∃ r, subR h1 m = r := ⟨_, rfl⟩
          obtain ⟨er, her⟩ : ∃ r, subE h1 m = r := ⟨_, rfl⟩
          have HR : Hid (subR h1 m = r) := hr
          have HER : Hid (subE h1 m = er) := her
          have hec : er = 0 ∨ er = 23 := her ▸ subE_cases h1 m
          have HRL : Hid (r < 2 ^ 256) := hr ▸ subR_lt' h1 m HH.out
          clear hp hp2 hr her
          go_upto_region 11 with (first
            | (refine wpList_load_w rfl tSt (.tmp 34) rfl p 1 rfl [m2] _ RV.out Try.underlying70 rfl info_St ?_)
            | (go_at_call 48; refine Calls.mono (has_any V4.out i HIX.out) ?_; rw [HP.out]; rintro e X6 ⟨rfl, q⟩; have R6 : Hid (Row X6 bh (hcs s1 h1) tH) := Row.below R4.out q R4.out.lt; have M6 : Hid (Row X6 bm cm 33) := Row.below RM.out q RM.out.lt; have B6 : Hid (Below w.heap.size w X6) := B5.out.trans (q.mono B5.out.size); clear q RM)
            | (first
              | (refine wpList_load_w rfl 33 (.tmp 39) rfl bh 1 rfl ch _ (hcs_rng R6.out HWH.out) Try.underlying33 rfl HWH.out.info ?_)
              | (refine wpList_load_w rfl 33 (.tmp 7) rfl bm 0 rfl cm _ M6.out.all Try.underlying33 rfl HWM.out.info ?_)
              | (go_at_call 52; refine Calls.mono (sub_c HWH.out HWM.out HH.out HM.out HR.out HER.out X6) ?_; rintro e X7 ⟨cr, hcr, rfl, q⟩; have HWR : Hid (Wc cr r) := hcr; have R7 : Hid (Row X7 bh (hcs s1 h1) tH) := Row.below R6.out q R6.out.lt; have B7 : Hid (Below w.heap.size w X7) := B6.out.trans (q.mono B6.out.size); clear q hcr)
              | (refine wpList_storeM rfl 33 (.tmp 45) (.tmp 43) rfl bh 1 cr (hcs s1 h1) tH rfl rfl R7.out (by rw [HWR.out.len, hcs_len]; exact Nat.le_refl _) HWR.out.info HWR.out.one ?_; intro X8 q1 q2; have R5 : Hid (Row X8 bh (hcs s1 r) tH) := (by rw [← hcs_put HWR.out s1 h1]; exact q1); have B8 : Hid (Below w.heap.size w X8) := gro_new B7.out HBB.out q2; clear q1 q2)))
          have V8 : Hid (Vt X8 p c m1 m2 s) := HV.out.be B8.out
          clear R4 R6 M6 B6 R7 B7 V4 B5 RV
          rcases hec with rfl | rfl
          · clear HWR HWM HWH
            go_upto_region 14 with (first
              | (refine wpList_load_w rfl tH (.tmp 9) rfl bh 0 rfl (hcs s1 r) _ R5.out.all Try.underlying78 rfl (hcs_info _ _) ?_)
              | (go_at_call 49; refine Calls.mono (lay_any V8.out (by have := HC.out; omega) x HX.out s1 r HRL.out) ?_; rintro e X9 ⟨m1', rfl, v5, n5, g5⟩; have V9 : Hid (Vt X9 p (c + 1) m1' m2 { s with T := upd s.T x (some (s1, r)) }) := v5; have N9 : Hid (Nw X8 m1 m1') := n5; have G9 : Hid (Gro (Vb p m1 m2) X8 X9) := g5; clear v5 n5 g5))
            go_wp2_with (go_at_call 53; refine Calls.mono (put_any V9.out HC.out i HIX.out) ?_; rintro e Z ⟨m2', rfl, v5, n5, g5⟩; have VZ : Hid (Vt Z p (c + 1 + 1) m1' m2' { s with T := upd s.T x (some (s1, r)), U := puts s.U i }) := v5; have NZ : Hid (Nw X9 m2 m2') := n5; have GZ : Hid (Gro (Vb p m1' m2) X9 Z) := g5; clear v5 n5 g5)
            go_ret
            rw [show rs = ({ s with T := upd s.T x (some (s1, r)), U := puts s.U i }, 0) by rw [HRS.out, sPay, HF.out, if_neg HI.out]; simp [HP.out, HER.out, HR.out]]
            exact VtC.put B8.out N9.out G9.out VZ.out NZ.out GZ.out
          · go_wp2_with fail
            go_ret
            rw [show rs = (s, 146) by rw [HRS.out, sPay, HF.out, if_neg HI.out]; simp [HP.out, HER.out]]
            exact VtC.same HV.out B8.out
      · go_wp2_with fail
        go_ret
        rw [show rs = (s, 141) by rw [HRS.out, sPay, HF.out, if_neg HI.out]; rfl]
        exact VtC.same HV.out B5.out
      · go_wp2_with fail
        go_ret
        rw [show rs = (s, 140) by rw [HRS.out, sPay, HF.out, if_neg HI.out]; rfl]
        exact VtC.same HV.out B5.out


end Go.Proofs.Ytkbdnebmekhcdaa

namespace Go.Proofs.Ytkbdnebmekhcdaa
open Go Go.RowKit Go.Maps
open Wd

/-- What is in the vault's blocks was made since w0. -/
structure Vn (w0 w : World) (p : Nat) (m1 m2 : Value) : Prop where
  p : w0.heap.size ≤ p
  a : ∀ g, Own1 m1 g → w0.heap.size ≤ g
  b : ∀ g, Own1 m2 g → w0.heap.size ≤ g
  be : Below w0.heap.size w0 w
/-- One vault, made since w0. -/
def Vl (w0 w : World) (p c : Nat) (s : St) : Prop := ∃ m1 m2, Vt w p c m1 m2 s ∧ Vn w0 w p m1 m2
/-- Every row but the vault's stays. -/
structure Kq (p : Nat) (w w' : World) : Prop where
  size : w.heap.size ≤ w'.heap.size
  row : ∀ {b : Nat} {cs : List Value} {t : TypeId}, Row w b cs t → b ≠ p → Row w' b cs t
theorem Kq.be {p : Nat} {w w' : World} (h : Below w.heap.size w w') : Kq p w w' := ⟨h.size, fun r _ => Row.below r h r.lt⟩
theorem Vl.be {w0 w w' : World} {p c : Nat} {s : St} (h : Vl w0 w p c s) (hB : Below w.heap.size w w') : Vl w0 w' p c s := by
  obtain ⟨m1, m2, hV, hl⟩ := h
  exact ⟨m1, m2, hV.be hB, hl.p, hl.a, hl.b, hl.be.trans (hB.mono hl.be.size)⟩
theorem Vl.mono {w0 w : World} {p c d : Nat} {s : St} (h : Vl w0 w p c s) (hd : c ≤ d) : Vl w0 w p d s := by
  obtain ⟨m1, m2, hV, hl⟩ := h
  exact ⟨m1, m2, hV.mono hd, hl⟩
theorem Vl.below {w0 w : World} {p c : Nat} {s : St} (h : Vl w0 w p c s) : Below w0.heap.size w0 w := by
  obtain ⟨m1, m2, hV, hl⟩ := h
  exact hl.be
theorem Vl.call {w0 w w' : World} {p c : Nat} {m1 m2 : Value} {s : St} {r : St × Int} {e : Ending} (hV : Vt w p c m1 m2 s) (hl : Vn w0 w p m1 m2) (hC : VtC w p c m1 m2 r e w') : e = .returned (.int .i64 r.2) ∧ Vl w0 w' p (c + 2) r.1 ∧ Kq p w w' := by
  obtain ⟨he, n1, n2, hV', k1, k2, hG⟩ := hC
  have hs := hl.be.size
  refine ⟨he, ⟨n1, n2, hV', hl.p, fun g hg => ?_, fun g hg => ?_, hl.be.trans (hG.to_below hs fun k hk => ?_)⟩, hG.size, fun {b cs t} r hb => hG.row r ?_⟩
  · rcases k1 with k | k
    · rw [k] at hg; exact hl.a g hg
    · exact Nat.le_trans hs (k g hg)
  · rcases k2 with k | k
    · rw [k] at hg; exact hl.b g hg
    · exact Nat.le_trans hs (k g hg)
  · rcases hk with hk | hk | hk
    · rw [hk]; exact hl.p
    · exact hl.a k hk
    · exact hl.b k hk
  · obtain ⟨g2, p1, p2⟩ := hV.pd
    rintro (q | q | q)
    · exact hb q
    · exact hV.tk.notrow r q
    · exact p1.notrow r q
theorem new_l (w0 w : World) (hB : Below w0.heap.size w0 w) : Calls Try.prog 9 #[] w fun e w' => ∃ p, e = .returned (.pointer (some ⟨p, 0, none⟩)) ∧ w.heap.size ≤ p ∧ Vl w0 w' p 0 ⟨fun _ => none, fun _ => 0, 0⟩ ∧ Below w.heap.size w w' :=
  (new_any w).mono fun _ _ ⟨p, he, hp, hV, hb⟩ => ⟨p, he, hp, ⟨_, _, hV, Nat.le_trans hB.size hp, fun _ h => (nomatch h), fun _ h => (nomatch h), hB.trans (hb.mono hB.size)⟩, hb⟩
theorem list_l {w0 w : World} {p c : Nat} {s s' : St} {E : Int} (h : Vl w0 w p c s) (hc : c + 1 < maxLen) (x : Int) (hs : sList s x = (s', E)) : Calls Try.prog 23 #[.pointer (some ⟨p, 0, none⟩), .int .i64 x] w fun e w' => e = .returned (.int .i64 E) ∧ Vl w0 w' p (c + 2) s' ∧ Kq p w w' := by
  obtain ⟨m1, m2, hV, hl⟩ := h
  have h9 := (list_any hV hc x).mono fun _ _ hC => Vl.call hV hl hC
  rw [hs] at h9
  exact h9
theorem stop_l {w0 w : World} {p c : Nat} {s s' : St} {E : Int} (h : Vl w0 w p c s) (hc : c + 1 < maxLen) (x : Int) (b : Bool) (hs : sStop s x b = (s', E)) : Calls Try.prog 27 #[.pointer (some ⟨p, 0, none⟩), .int .i64 x, .bool b] w fun e w' => e = .returned (.int .i64 E) ∧ Vl w0 w' p (c + 2) s' ∧ Kq p w w' := by
  obtain ⟨m1, m2, hV, hl⟩ := h
  have h9 := (stop_any hV hc x b).mono fun _ _ hC => Vl.call hV hl hC
  rw [hs] at h9
  exact h9
theorem dep_l {w0 w : World} {p c : Nat} {s s' : St} {E : Int} (h : Vl w0 w p c s) (hc : c + 1 < maxLen) (x : Int) (m : Nat) (hm : m < 2 ^ 256) (hs : sDep s x m = (s', E)) : Calls Try.prog 24 #[.pointer (some ⟨p, 0, none⟩), .int .i64 x, .agg (vQ (dgs m 4)).toArray] w fun e w' => e = .returned (.int .i64 E) ∧ Vl w0 w' p (c + 2) s' ∧ Kq p w w' := by
  obtain ⟨m1, m2, hV, hl⟩ := h
  have h9 := (dep_any hV hc x m hm).mono fun _ _ hC => Vl.call hV hl hC
  rw [hs] at h9
  exact h9
theorem pay_l {w0 w : World} {p c : Nat} {s s' : St} {E : Int} (h : Vl w0 w p c s) (hc : c + 1 < maxLen) (i x : Int) (m : Nat) (hm : m < 2 ^ 256) (hs : sPay s i x m = (s', E)) : Calls Try.prog 25 #[.pointer (some ⟨p, 0, none⟩), .int .i64 i, .int .i64 x, .agg (vQ (dgs m 4)).toArray] w fun e w' => e = .returned (.int .i64 E) ∧ Vl w0 w' p (c + 2) s' ∧ Kq p w w' := by
  obtain ⟨m1, m2, hV, hl⟩ := h
  have h9 := (pay_any hV hc i x m hm).mono fun _ _ hC => Vl.call hV hl hC
  rw [hs] at h9
  exact h9
theorem lock_l {w0 w : World} {p c : Nat} {s s' : St} {E : Int} (h : Vl w0 w p c s) (m : Nat) (hm : m < 2 ^ 256) (hs : sLock s m = (s', E)) : Calls Try.prog 28 #[.pointer (some ⟨p, 0, none⟩), .agg (vQ (dgs m 4)).toArray] w fun e w' => e = .returned (.int .i64 E) ∧ Vl w0 w' p (c + 2) s' ∧ Kq p w w' := by
  obtain ⟨m1, m2, hV, hl⟩ := h
  have h9 := (lock_any hV m hm).mono fun _ _ hC => Vl.call hV hl hC
  rw [hs] at h9
  exact h9
theorem free_l {w0 w : World} {p c : Nat} {s s' : St} {E : Int} (h : Vl w0 w p c s) (m : Nat) (hm : m < 2 ^ 256) (hs : sFree s m = (s', E)) : Calls Try.prog 29 #[.pointer (some ⟨p, 0, none⟩), .agg (vQ (dgs m 4)).toArray] w fun e w' => e = .returned (.int .i64 E) ∧ Vl w0 w' p (c + 2) s' ∧ Kq p w w' := by
  obtain ⟨m1, m2, hV, hl⟩ := h
  have h9 := (free_any hV m hm).mono fun _ _ hC => Vl.call hV hl hC
  rw [hs] at h9
  exact h9
theorem listed_l {w0 w : World} {p c : Nat} {s : St} (h : Vl w0 w p c s) (x : Int) {s1 : Bool} {h1 : Nat} {E : Int} (hf : fnd s.T x = (s1, h1, E)) : Calls Try.prog 30 #[.pointer (some ⟨p, 0, none⟩), .int .i64 x] w fun e w' => e = .returned (.tuple #[.bool (E == 0), .bool s1]) ∧ Vl w0 w' p c s ∧ Kq p w w' := by
  obtain ⟨m1, m2, hV, hl⟩ := h
  exact (listed_any hV x _ _ _ hf).mono fun _ _ hC => ⟨hC.1, Vl.be ⟨m1, m2, hV, hl⟩ hC.2, Kq.be hC.2⟩
theorem held_l {w0 w : World} {p c : Nat} {s : St} (h : Vl w0 w p c s) (x : Int) {s1 : Bool} {h1 : Nat} {E : Int} (hf : fnd s.T x = (s1, h1, E)) : Calls Try.prog 20 #[.pointer (some ⟨p, 0, none⟩), .int .i64 x] w fun e w' => e = .returned (.agg (vQ (dgs h1 4)).toArray) ∧ Vl w0 w' p c s ∧ Kq p w w' := by
  obtain ⟨m1, m2, hV, hl⟩ := h
  exact (held_any hV x _ _ _ hf).mono fun _ _ hC => ⟨hC.1, Vl.be ⟨m1, m2, hV, hl⟩ hC.2, Kq.be hC.2⟩
theorem paid_l {w0 w : World} {p c : Nat} {s : St} (h : Vl w0 w p c s) (i : Int) (hi : I64 i) : Calls Try.prog 21 #[.pointer (some ⟨p, 0, none⟩), .int .i64 i] w fun e w' => e = .returned (.bool (paid s.U i)) ∧ Vl w0 w' p c s ∧ Kq p w w' := by
  obtain ⟨m1, m2, hV, hl⟩ := h
  exact (paid_any hV i hi).mono fun _ _ hC => ⟨hC.1, Vl.be ⟨m1, m2, hV, hl⟩ hC.2, Kq.be hC.2⟩
theorem locked_l {w0 w : World} {p c : Nat} {s : St} (h : Vl w0 w p c s)  : Calls Try.prog 19 #[.pointer (some ⟨p, 0, none⟩)] w fun e w' => e = .returned (.agg (vQ (dgs s.L 4)).toArray) ∧ Vl w0 w' p c s ∧ Kq p w w' := by
  obtain ⟨m1, m2, hV, hl⟩ := h
  exact (locked_any hV).mono fun _ _ hC => ⟨hC.1, Vl.be ⟨m1, m2, hV, hl⟩ hC.2, Kq.be hC.2⟩

end Go.Proofs.Ytkbdnebmekhcdaa

namespace Go.Proofs.Ytkbdnebmekhcdaa
open Go Go.RowKit Go.Maps
open Wd

/-- Which one. -/
def pk (c n : Int) : Int := (if c < 0 then -(c + 1) else c) % n
theorem pk_range (c n : Int) (hn : 0 < n) : 0 ≤ pk c n ∧ pk c n < n := ⟨Int.emod_nonneg _ (by omega), Int.emod_lt_of_pos _ hn⟩
set_option maxRecDepth 100000 in
theorem pick_any (c n : Int) (hn : 0 < n) (h1 : -9223372036854775808 ≤ c) (h2 : c ≤ 9223372036854775807) (hn2 : n ≤ 9223372036854775807) (w : World) :
    Calls Try.prog 11 #[.int .i64 c, .int .i64 n] w fun e w' => e = .returned (.int .i64 (pk c n)) ∧ w' = w := by
  have hn0 : ¬ n = 0 := by omega
  have hn1 : ¬ n = -1 := by omega
  have hr := pk_range c n hn
  by_cases hc : c < 0
  · have e1 : Hid (pk c n = (-(c + 1)) % n) := by show _ = _; unfold pk; rw [if_pos hc]
    have e3 : (-(c + 1)).tmod n = pk c n := by rw [e1.out]; exact Int.tmod_eq_emod_of_nonneg (by omega)
    have e4 : (-1 + -c).tmod n = pk c n := by rw [show -1 + -c = -(c + 1) by omega]; exact e3
    have e5 : (-c + -1).tmod n = pk c n := by rw [show -c + -1 = -(c + 1) by omega]; exact e3
    generalize pk c n = r at *
    go_enter Try.func11, Try.ntmps11
    go_wp2
    go_ret
    exact ⟨by first | rfl | (simp; omega), rfl⟩
  · have e1 : Hid (pk c n = c % n) := by show _ = _; unfold pk; rw [if_neg hc]
    have e3 : c.tmod n = pk c n := by rw [e1.out]; exact Int.tmod_eq_emod_of_nonneg (by omega)
    generalize pk c n = r at *
    go_enter Try.func11, Try.ntmps11
    go_wp2
    go_ret
    exact ⟨by first | rfl | (simp; omega), rfl⟩

/-! ### known -/
def k0 : St := ⟨fun _ => none, fun _ => 0, 0⟩
def kA : St := { k0 with T := upd k0.T 3 (some (false, 0)) }
def kB : St := { kA with T := upd kA.T 3 (some (false, 9)) }
def kC : St := { kB with T := upd kB.T 3 (some (false, 5)), U := puts kB.U 7 }
def kD : St := { kC with L := 2 }
theorem kn1 : sList k0 3 = (kA, 0) := rfl
theorem kn2 : sDep kA 3 9 = (kB, 0) := rfl
theorem kn3 : sPay kB 7 3 4 = (kC, 0) := rfl
theorem kn4 : sPay kC 7 3 1 = (kC, 147) := rfl
theorem kn5 : sLock kC 2 = (kD, 0) := rfl
theorem kn6 : fnd kD.T 3 = (false, 5, 0) := rfl
theorem kn7 : paid kD.U 7 = true := rfl
set_option maxRecDepth 100000 in
set_option maxHeartbeats 4000000 in
theorem known_any (w : World) : Calls Try.prog 8 #[] w fun e w' => e = .returned (.bool true) ∧ Below w.heap.size w w' := by
  go_enter Try.func8, Try.ntmps8
  go_upto_region 2 with (go_at_call 9; refine Calls.mono (new_l w w (Below.refl _ _)) ?_; rintro e X1 ⟨p, rfl, _, v, _⟩; have VX1 : Hid (Vl w X1 p 0 k0) := v; clear v)
  go_upto_region 5 with (go_at_call 23; refine Calls.mono (list_l VX1.out (by decide) 3 kn1) ?_; rintro e X2 ⟨rfl, v, k⟩; have VX2 : Hid (Vl w X2 p 2 kA) := v; clear v k)
  go_upto_region 6 with (go_at_call 24; refine Calls.mono (dep_l VX2.out (by decide) 3 9 (by decide) kn2) ?_; rintro e X3 ⟨rfl, v, k⟩; have VX3 : Hid (Vl w X3 p 4 kB) := v; clear v k)
  go_upto_region 7 with (go_at_call 25; refine Calls.mono (pay_l VX3.out (by decide) 7 3 4 (by decide) kn3) ?_; rintro e X4 ⟨rfl, v, k⟩; have VX4 : Hid (Vl w X4 p 6 kC) := v; clear v k)
  go_upto_region 8 with (go_at_call 25; refine Calls.mono (pay_l VX4.out (by decide) 7 3 1 (by decide) kn4) ?_; rintro e X5 ⟨rfl, v, k⟩; have VX5 : Hid (Vl w X5 p 8 kC) := v; clear v k)
  go_upto_region 9 with (go_at_call 28; refine Calls.mono (lock_l VX5.out 2 (by decide) kn5) ?_; rintro e X6 ⟨rfl, v, k⟩; have VX6 : Hid (Vl w X6 p 10 kD) := v; clear v k)
  go_upto_region 10 with (go_at_call 30; refine Calls.mono (listed_l VX6.out 3 kn6) ?_; rintro e X7 ⟨rfl, v, k⟩; have VX7 : Hid (Vl w X7 p 10 kD) := v; clear v k)
  go_upto_region 11 with (first
    | (go_at_call 20; refine Calls.mono (held_l VX7.out 3 kn6) ?_; rintro e X8 ⟨rfl, v, k⟩; have VX8 : Hid (Vl w X8 p 10 kD) := v; clear v k)
    | (go_at_call 21; refine Calls.mono (paid_l VX8.out 7 ((i64_iff 7).2 (by decide))) ?_; rw [kn7]; rintro e X9 ⟨rfl, v, k⟩; have VX9 : Hid (Vl w X9 p 10 kD) := v; clear v k)
    | (go_at_call 19; refine Calls.mono (locked_l VX9.out) ?_; rintro e Y1 ⟨rfl, v, k⟩; have VY1 : Hid (Vl w Y1 p 10 kD) := v; clear v k)
    | (refine wpList_eql_c rfl (.tmp 39) (.tmp 40) _ rfl (c := vQ (dgs 5 4)) (d := vQ (dgs 5 4)) (m := 5) (n := 5) rfl rfl (by decide) (by decide) rfl rfl (B := true) (by decide) ?_)
    | (refine wpList_eql_c rfl (.tmp 49) (.tmp 50) _ rfl (c := vQ (dgs 2 4)) (d := vQ (dgs 2 4)) (m := 2) (n := 2) rfl rfl (by decide) (by decide) rfl rfl (B := true) (by decide) ?_))
  go_wp2_with fail
  go_ret
  exact ⟨rfl, VY1.out.below⟩


end Go.Proofs.Ytkbdnebmekhcdaa
