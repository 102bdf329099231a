/-
  The vault's calls, over its state.
-/
import Derived.Test.YtefjonidpmpjbaaEsF
namespace Go.Proofs.Ytefjonidpmpjbaa
open Go Go.RowKit Go.Maps
open Wd

set_option maxRecDepth 100000 in
set_option maxHeartbeats 4000000 in
theorem pay_any {w : World} {p c : Nat} {m1 m2 : Value} {s : St} (hV : Vt w p c m1 m2 s) (hc : c + 1 < maxLen) (i x : Int) (m : Nat) (hm : m < 2 ^ 256) :
    Calls Try.prog 25 #[.pointer (some ⟨p, 0, none⟩), .int .i64 i, .int .i64 x, .agg (vQ (dgs m 4)).toArray] w (VtC w p c m1 m2 (sPay s i x m)) := by
  have HV : Hid (Vt w p c m1 m2 s) := hV
  have HC : Hid (c + 1 < maxLen) := hc
  obtain ⟨s1, h1, E, hf⟩ : ∃ s1 h1 E, fnd s.T x = (s1, h1, E) := ⟨_, _, _, rfl⟩
  have HF : Hid (fnd s.T x = (s1, h1, E)) := hf
  have HH : Hid (h1 < 2 ^ 256) := fnd_lt hV.ok hf
  have HM : Hid (m < 2 ^ 256) := hm
  obtain ⟨cm, hcm⟩ : ∃ c, c = vQ (dgs m 4) := ⟨_, rfl⟩
  have HWM : Hid (Wc cm m) := hcm
  obtain ⟨ch, hch⟩ : ∃ c, c = vQ (dgs h1 4) := ⟨_, rfl⟩
  have HWH : Hid (Wc ch h1) := hch
  rw [← hcm]
  clear hcm hch
  have hE := fnd_cases hf
  obtain ⟨rs, hrs⟩ : ∃ r, r = sPay s i x m := ⟨_, rfl⟩
  have HRS : Hid (rs = sPay s i x m) := hrs
  rw [← hrs]
  clear hV hc hf hm hrs
  go_enter Try.func25, Try.ntmps25
  go_upto_region 1 with (refine wpList_boxG 33 rfl (.tmp 3) rfl cm rfl ?_; intro X1 q1 q2; have RM0 : Hid (Row X1 w.heap.size cm 33) := q1; have B1 : Hid (Below w.heap.size w X1) := q2; clear q1 q2)
  obtain ⟨bm, hbm⟩ : ∃ b, b = w.heap.size := ⟨_, rfl⟩
  rw [← hbm] at RM0 ⊢
  clear hbm
  have V1 : Hid (Vt X1 p c m1 m2 s) := HV.out.be B1.out
  by_cases hi0 : i < 0
  · have HI : Hid (i < 0) := hi0
    go_wp2_with fail
    go_ret
    rw [show rs = (s, 148) by rw [HRS.out, sPay]; exact if_pos (.inl HI.out)]
    exact VtC.same HV.out B1.out
  · by_cases hi1 : 1099511627776 ≤ i
    · have HI : Hid (1099511627776 ≤ i) := hi1
      go_wp2_with fail
      go_ret
      rw [show rs = (s, 148) by rw [HRS.out, sPay]; exact if_pos (.inr HI.out)]
      exact VtC.same HV.out B1.out
    · have HI : Hid (¬ (i < 0 ∨ 1099511627776 ≤ i)) := by show ¬ _; omega
      have HIX : Hid (I64 i) := (i64_iff i).2 (by omega)
      go_upto_region 6 with (first
    | (go_at_call 47; refine Calls.mono (find_any V1.out x s1 h1 E HF.out) ?_; rintro e X2 ⟨rfl, q⟩; have B2 : Hid (Below X1.heap.size X1 X2) := q; clear q)
    | (refine wpList_allocH rfl rfl ?_; intro X3 q1 q2; have R3 : Hid (Row X3 X2.heap.size (hcs false 0) tH) := q1; have B3 : Hid (Below X1.heap.size X1 X3) := B2.out.trans (q2.mono B2.out.size); clear q1 q2)
    | (refine wpList_storeL rfl tH (.tmp 9) (.tmp 25) rfl X2.heap.size (hcs s1 h1) (hcs false 0) tH rfl rfl R3.out ((hcs_len _ _).trans (hcs_len _ _).symm) (hcs_info _ _) (hcs_all _ _) ?_; intro X4 q1 q2; have R4 : Hid (Row X4 X2.heap.size (hcs s1 h1) tH) := q1; have B4 : Hid (Below X1.heap.size X1 X4) := gro_new B3.out B2.out.size q2; clear q1 q2))
      clear hi0 hi1
      obtain ⟨bh, hbh⟩ : ∃ b, b = X2.heap.size := ⟨_, rfl⟩
      rw [← hbh] at R4 ⊢
      have HBbh : Hid (X1.heap.size ≤ bh) := by show _ ≤ _; rw [hbh]; exact B2.out.size
      clear hbh B2 B3 R3
      have RM : Hid (Row X4 bm cm 33) := Row.below RM0.out B4.out RM0.out.lt
      have V4 : Hid (Vt X4 p c m1 m2 s) := V1.out.be B4.out
      have B5 : Hid (Below w.heap.size w X4) := B1.out.trans (B4.out.mono B1.out.size)
      have HBB : Hid (w.heap.size ≤ bh) := Nat.le_trans B1.out.size HBbh.out
      clear RM0 V1 B1 B4 HBbh
      rcases hE with ⟨rfl, hx0, hx1, _⟩ | ⟨rfl, _⟩ | ⟨rfl, _⟩
      · have HX : Hid (I64 x) := (i64_iff x).2 (by omega)
        have RV : Hid (X4.rangeAt p 1 [m2]) := V4.out.row.range 1 [m2] (fun j v hv => by rcases j with _ | j; exact hv; simp at hv)
        clear hx0 hx1
        by_cases hp : paid s.U i = true
        · have HP : Hid (paid s.U i = true) := hp
          clear hp
          go_wp2_with (first
            | (refine wpList_load_w rfl tSt (.tmp 34) rfl p 1 rfl [m2] _ RV.out Try.underlying70 rfl info_St ?_)
            | (go_at_call 48; refine Calls.mono (has_any V4.out i HIX.out) ?_; rw [HP.out]; rintro e X6 ⟨rfl, q⟩; have B6 : Hid (Below w.heap.size w X6) := B5.out.trans (q.mono B5.out.size); clear q))
          go_ret
          rw [show rs = (s, 147) by rw [HRS.out, sPay, HF.out, if_neg HI.out]; simp [HP.out]]
          exact VtC.same HV.out B6.out
        · have hp2 : paid s.U i = false := by simpa using hp
          have HP : Hid (paid s.U i = false) := hp2
          obtain ⟨r, hr⟩ : ∃ r, subR h1 m = r := ⟨_, rfl⟩
          obtain ⟨er, her⟩ : ∃ r, subE h1 m = r := ⟨_, rfl⟩
          have HR : Hid (subR h1 m = r) := hr
          have HER : Hid (subE h1 m = er) := her
          have hec : er = 0 ∨ er = 23 := her ▸ subE_cases h1 m
          have HRL : Hid (r < 2 ^ 256) := hr ▸ subR_lt' h1 m HH.out
          clear hp hp2 hr her
          go_upto_region 11 with (first
            | (refine wpList_load_w rfl tSt (.tmp 34) rfl p 1 rfl [m2] _ RV.out Try.underlying70 rfl info_St ?_)
            | (go_at_call 48; refine Calls.mono (has_any V4.out i HIX.out) ?_; rw [HP.out]; rintro e X6 ⟨rfl, q⟩; have R6 : Hid (Row X6 bh (hcs s1 h1) tH) := Row.below R4.out q R4.out.lt; have M6 : Hid (Row X6 bm cm 33) := Row.below RM.out q RM.out.lt; have B6 : Hid (Below w.heap.size w X6) := B5.out.trans (q.mono B5.out.size); clear q RM)
            | (first
              | (refine wpList_load_w rfl 33 (.tmp 39) rfl bh 1 rfl ch _ (hcs_rng R6.out HWH.out) Try.underlying33 rfl HWH.out.info ?_)
              | (refine wpList_load_w rfl 33 (.tmp 7) rfl bm 0 rfl cm _ M6.out.all Try.underlying33 rfl HWM.out.info ?_)
              | (go_at_call 52; refine Calls.mono (sub_c HWH.out HWM.out HH.out HM.out HR.out HER.out X6) ?_; rintro e X7 ⟨cr, hcr, rfl, q⟩; have HWR : Hid (Wc cr r) := hcr; have R7 : Hid (Row X7 bh (hcs s1 h1) tH) := Row.below R6.out q R6.out.lt; have B7 : Hid (Below w.heap.size w X7) := B6.out.trans (q.mono B6.out.size); clear q hcr)
              | (refine wpList_storeM rfl 33 (.tmp 45) (.tmp 43) rfl bh 1 cr (hcs s1 h1) tH rfl rfl R7.out (by rw [HWR.out.len, hcs_len]; exact Nat.le_refl _) HWR.out.info HWR.out.one ?_; intro X8 q1 q2; have R5 : Hid (Row X8 bh (hcs s1 r) tH) := (by rw [← hcs_put HWR.out s1 h1]; exact q1); have B8 : Hid (Below w.heap.size w X8) := gro_new B7.out HBB.out q2; clear q1 q2)))
          have V8 : Hid (Vt X8 p c m1 m2 s) := HV.out.be B8.out
          clear R4 R6 M6 B6 R7 B7 V4 B5 RV
          rcases hec with rfl | rfl
          · clear HWR HWM HWH
            go_upto_region 14 with (first
              | (refine wpList_load_w rfl tH (.tmp 9) rfl bh 0 rfl (hcs s1 r) _ R5.out.all Try.underlying78 rfl (hcs_info _ _) ?_)
              | (go_at_call 49; refine Calls.mono (lay_any V8.out (by have := HC.out; omega) x HX.out s1 r HRL.out) ?_; rintro e X9 ⟨m1', rfl, v5, n5, g5⟩; have V9 : Hid (Vt X9 p (c + 1) m1' m2 { s with T := upd s.T x (some (s1, r)) }) := v5; have N9 : Hid (Nw X8 m1 m1') := n5; have G9 : Hid (Gro (Vb p m1 m2) X8 X9) := g5; clear v5 n5 g5))
            go_wp2_with (go_at_call 53; refine Calls.mono (put_any V9.out HC.out i HIX.out) ?_; rintro e Z ⟨m2', rfl, v5, n5, g5⟩; have VZ : Hid (Vt Z p (c + 1 + 1) m1' m2' { s with T := upd s.T x (some (s1, r)), U := puts s.U i }) := v5; have NZ : Hid (Nw X9 m2 m2') := n5; have GZ : Hid (Gro (Vb p m1' m2) X9 Z) := g5; clear v5 n5 g5)
            go_ret
            rw [show rs = ({ s with T := upd s.T x (some (s1, r)), U := puts s.U i }, 0) by rw [HRS.out, sPay, HF.out, if_neg HI.out]; simp [HP.out, HER.out, HR.out]]
            exact VtC.put B8.out N9.out G9.out VZ.out NZ.out GZ.out
          · go_wp2_with fail
            go_ret
            rw [show rs = (s, 146) by rw [HRS.out, sPay, HF.out, if_neg HI.out]; simp [HP.out, HER.out]]
            exact VtC.same HV.out B8.out
      · go_wp2_with fail
        go_ret
        rw [show rs = (s, 141) by rw [HRS.out, sPay, HF.out, if_neg HI.out]; rfl]
        exact VtC.same HV.out B5.out
      · go_wp2_with fail
        go_ret
        rw [show rs = (s, 140) by rw [HRS.out, sPay, HF.out, if_neg HI.out]; rfl]
        exact VtC.same HV.out B5.out


end Go.Proofs.Ytefjonidpmpjbaa
