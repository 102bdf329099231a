/-
  causewayref10.Text.
-/
import Derived.Test.YtclbiophgnkggaaGreatDoorMtF
namespace Go.Proofs.YtclbiophgnkggaaGreatDoor
open Go Go.RowKit
open Sha
open Wd
open Go.Lib (decDigits)

theorem ch_of_list {w : World} {N y c : Nat} {bs : List (BitVec 8)} (h : Lw w 3 1 (.slice (some ⟨N, 0, none⟩) y c) y (vI (bs.map (fun x => x.toNat)))) (hy : bs.length = y) (h32 : y ≤ 32) : Ch w N 0 y (nb bs) := by
  refine ⟨Lw.lt h N rfl, fun t ht' => ?_⟩
  have := Lw.range h t _ (vI_get _ t (by rw [List.length_map, hy]; exact ht'))
  rw [this]
  have e := mnb_ht bs (by omega) t (by omega)
  rw [hy] at e
  rw [e]
  congr 3
  rw [List.getD_eq_getElem?_getD, List.getD_eq_getElem?_getD, List.getElem?_map]
  cases hq : bs[t]? with
  | none => have := List.getElem?_eq_none_iff.1 hq; omega
  | some v => rfl
theorem opT_two {c a n : Nat} (h : c = 4 ∨ c = 5 ∨ c = 16) : opT c a n = 32 :: decDigits n := by rcases h with rfl | rfl | rfl <;> rfl
theorem opT_jump {c a n : Nat} (h : c = 14 ∨ c = 15) : opT c a n = 32 :: 76 :: decDigits n := by rcases h with rfl | rfl <;> rfl
theorem opT_push {a n : Nat} : opT 2 a n = 32 :: decDigits a := rfl
theorem opT_none (c a n : Nat) (hc : c < 28) (h2 : c ≠ 2) (h4 : c ≠ 4) (h5 : c ≠ 5) (h14 : c ≠ 14) (h15 : c ≠ 15) (h16 : c ≠ 16) : opT c a n = [] := by
  unfold opT
  rw [if_pos (oper_one c hc h2 h4 h5 h16 h14 h15)]
set_option maxRecDepth 100000 in
set_option maxHeartbeats 4000000 in
theorem rText_no (v : Value) (d : List (BitVec 8)) (hls : chk d = none) (w : World) (hck : Calls Tryz.prog 7 #[v] w fun e w' => e = .returned (.int .i64 (ec d)) ∧ Below w.heap.size w w') : Calls Tryz.prog 4 #[v] w fun e w' => e = .returned (.tuple #[.string ⟨#[]⟩, .int .i64 100]) ∧ Below w.heap.size w w' := by
  rw [ec_no hls] at hck
  have HC : Hid _ := hck
  clear hck
  go_enter Tryz.func4, Tryz.ntmps4
  go_wp2_with (go_at_call 7; refine Calls.mono HC.out ?_; rintro e X1 ⟨rfl, q⟩; have B1 : Hid (Below w.heap.size w X1) := q; clear q)
  go_ret2
  exact ⟨rfl, B1.out⟩
set_option maxRecDepth 100000 in
set_option maxHeartbeats 4000000 in
theorem rText_ok (g o n cap : Nat) (d : List (BitVec 8)) (hd : d.length = n) (hc : n ≤ cap) (ls : List Ins) (hls : chk d = some ls) (w : World) (hr : w.rangeAt g o (vB d)) : Calls Tryz.prog 4 #[.slice (some ⟨g, o, none⟩) n cap] w fun e w' => e = .returned (.tuple #[.string ⟨(txT ls ls.length).toArray⟩, .int .i64 0]) ∧ Below w.heap.size w w' := by
  have hn1 := (mchk_pg hls).2.2
  rw [hd] at hn1
  have hlen := chk_len hls
  have HCK : Hid _ := refCheck_any (some ⟨g, o, none⟩) n cap d hd (by omega) w (.inr ⟨g, o, cap, by rw [hd], by omega, hr⟩)
  rw [ec_yes hls] at HCK
  have HPL : Hid (∀ X, Below w.heap.size w X → Calls Tryz.prog 8 #[.slice (some ⟨g, o, none⟩) n cap] X fun e w' => ∃ A c, e = .returned (.tuple #[.slice A ls.length c, .bool true]) ∧ Lw w' 3 1 (.slice A ls.length c) ls.length (vI (ls.map (·.p))) ∧ Below X.heap.size X w') := by
    intro X q
    refine Calls.mono (places_any g o n cap d hd hn1 X (range_be hr q)) ?_
    rintro e w' ⟨q1, q3⟩
    have h1 := (mchk_pg hls).1
    rw [hd] at h1
    rcases q1 with ⟨ls', v, q1, _, q2, q4⟩ | ⟨q1, _⟩
    · rw [h1] at q1
      obtain rfl := Option.some.inj q1
      obtain ⟨A, c, rfl, _, _⟩ := Lw.form q4
      exact ⟨A, c, q2, q4, q3⟩
    · rw [h1] at q1; cases q1
  have HGD : Hid (Gd ls n) := by
    intro y hy
    obtain ⟨k, hk⟩ := List.getElem?_of_mem hy
    obtain ⟨h1, h2, h3, _, b, r, e1, e2, e3, e4, _⟩ := mins_at hd hls hk
    obtain ⟨q1, s, q2⟩ := pg_mem (mchk_pg hls).1 y hy
    have q3 := ri_vals q2
    exact ⟨h2, h3, q3.1, q3.2⟩
  have HLS : Hid (chk d = some ls) := hls
  have HR : Hid (w.rangeAt g o (vB d)) := hr
  have HDL : Hid (d.length = n) := hd
  clear hls hr hd hc
  go_enter Tryz.func4, Tryz.ntmps4
  go_wp2_with (first
    | (go_at_call 7; refine Calls.mono HCK.out ?_; rintro e X1 ⟨rfl, q⟩; have B1 : Hid (Below w.heap.size w X1) := q; clear q)
    | (go_at_call 8; refine Calls.mono (HPL.out X1 B1.out) ?_; rintro e X2 ⟨A, cl, rfl, q1, q2⟩; have LV2 : Hid (Lw X2 3 1 (.slice A ls.length cl) ls.length (vI (ls.map (·.p)))) := q1; have B2 : Hid (Below w.heap.size w X2) := B1.out.trans (q2.mono B1.out.size); clear q1 q2))
  have HW2 : Hid (Below w.heap.size w X2) := B2
  clear HPL HCK B1
  go_loopw [6, 7] (fun v6 v7 wr => ∃ t : Nat, t ≤ ls.length ∧ v6 = .string ⟨(txT ls t).toArray⟩ ∧ v7 = .int .i64 (t : Int) ∧ Hid (Below w.heap.size w wr ∧ Below X2.heap.size X2 wr)) (fun _ v _ => ls.length - (intOf v).toNat)
  case atStart => exact ⟨0, Nat.zero_le _, rfl, rfl, B2.out, Below.refl _ _⟩
  case round =>
    obtain ⟨t, ht, h6, rfl, HB⟩ := hrel
    subst h6
    clear B2
    by_cases hlt : t < ls.length
    · obtain ⟨x, hx⟩ : ∃ x, ls[t]? = some x := ⟨_, List.getElem?_eq_getElem hlt⟩
      have LVr : Hid (Lw wr 3 1 (.slice A ls.length cl) ls.length (vI (ls.map (·.p)))) := Lw.be LV2.out HB.out.2
      obtain ⟨g2, cap', e, hcc⟩ := Lw.open LVr.out (by omega)
      simp only [Value.slice.injEq] at e
      obtain ⟨rfl, _, rfl⟩ := e
      have RR : Hid (wr.rangeAt g o (vB d)) := range_be HR.out HB.out.1
      obtain ⟨i1, i2, i3⟩ := ins_headD HLS.out hx
      have hxm := HGD.out x (List.mem_of_getElem? hx)
      have cp := (Lw.range LVr.out) t (.int .i64 (x.p : Int)) (by rw [vI_get _ _ (by rw [List.length_map]; exact hlt)]; simp [hx])
      rw [Nat.zero_add] at cp
      have HX : Hid (ls[t]? = some x) := hx
      have HI3 : Hid (x.p < d.length ∧ (d.getD x.p 0#8).toNat = x.c) := ⟨i1, i3⟩
      have hpn : x.p < n := by rw [← HDL.out]; exact i1
      have HGO : Hid (Calls Tryz.prog 9 #[.slice (some ⟨g, o, none⟩) n cap, .slice (some ⟨g2, 0, none⟩) ls.length cl, .int .i64 (x.p : Int)] wr fun e w' => e = .returned (.bool (goT ls x.p)) ∧ Below wr.heap.size wr w') := goesTo_any g o n cap x.p d HDL.out ls HLS.out _ wr RR.out LVr.out
      have hTL := txT_len ls n HGD.out hn1 t
      have hTL2 : (txT ls t).length ≤ 184320 := by omega
      clear hTL
      have hLP1 := dec_len x.p (Nat.lt_trans (Nat.lt_of_lt_of_le hpn hn1) (by decide))
      have hTN := nmL_len x.c i2
      have hEL := dec_len x.n (Nat.lt_trans hxm.2.2.1 (by decide))
      have hDL := dec_len x.a hxm.2.2.2
      have HXM : Hid (x.p < n ∧ x.c < 28 ∧ x.n < 65536 ∧ x.a < 2 ^ 256) := hxm
      have hxn := hxm.2.2.1
      have HEE : Hid (txT ls (t + 1) = txT ls t ++ ((if goT ls x.p = true then labT x.p ++ [58, 10] else []) ++ (nmL x.c ++ opT x.c x.a x.n ++ [10]))) := txT_succ HX.out
      have HNM : Hid (∀ X, Calls Tryz.prog 11 #[.int .i64 (x.c : Int)] X fun e w' => e = .returned (.string ⟨(nmL x.c).toArray⟩) ∧ Below X.heap.size X w') := fun X => name_g x.c HXM.out.2.1 X
      have HPP : Hid (∀ X, Calls Tryz.prog 10 #[.int .i64 (x.p : Int)] X fun e w' => e = .returned (.string ⟨(decDigits x.p).toArray⟩) ∧ Below X.heap.size X w') := fun X => plain_any x.p (by omega) X
      have HPN : Hid (∀ X, Calls Tryz.prog 10 #[.int .i64 (x.n : Int)] X fun e w' => e = .returned (.string ⟨(decDigits x.n).toArray⟩) ∧ Below X.heap.size X w') := fun X => plain_any x.n (by omega) X
      obtain ⟨NM, hNM⟩ : ∃ NM, NM = nmL x.c := ⟨_, rfl⟩
      obtain ⟨LP, hLPd⟩ : ∃ LP, LP = decDigits x.p := ⟨_, rfl⟩
      obtain ⟨E, hEd⟩ : ∃ E, E = decDigits x.n := ⟨_, rfl⟩
      obtain ⟨DA, hDAd⟩ : ∃ DA, DA = decDigits x.a := ⟨_, rfl⟩
      obtain ⟨B, hBd⟩ : ∃ B, B = goT ls x.p := ⟨_, rfl⟩
      obtain ⟨TT, hTT⟩ : ∃ TT, TT = txT ls t := ⟨_, rfl⟩
      have HEQ : Hid (E = decDigits x.n ∧ DA = decDigits x.a) := ⟨hEd, hDAd⟩
      rw [show labT x.p = 76 :: decDigits x.p from rfl] at HEE
      rw [← hNM] at hTN HEE HNM
      rw [← hLPd] at hLP1 HEE HPP
      rw [← hEd] at hEL HPN
      rw [← hDAd] at hDL
      rw [← hBd] at HEE HGO
      rw [← hTT] at hTL2 HEE ⊢
      obtain ⟨xp, hxp⟩ : ∃ xp, xp = x.p := ⟨_, rfl⟩
      obtain ⟨xn, hxnd⟩ : ∃ xn, xn = x.n := ⟨_, rfl⟩
      have HXP : Hid (xp = x.p ∧ xn = x.n) := ⟨hxp, hxnd⟩
      rw [← hxp] at cp hpn HGO HPP
      rw [← hxnd] at hxn HPN
      clear hNM hLPd hEd hDAd hBd hTT hx hcc i1 i2 i3 hxp hxnd hxm
      go_upto_if 33 with (go_at_call 9; refine Calls.mono HGO.out ?_; rintro e Y1 ⟨rfl, q⟩; have BY1 : Hid (Below w.heap.size w Y1) := HB.out.1.trans (q.mono HB.out.1.size); have CY1 : Hid (Below X2.heap.size X2 Y1) := HB.out.2.trans (q.mono HB.out.2.size); clear q)
      obtain ⟨O1, hO1⟩ : ∃ O1, O1 = TT ++ (if B = true then (76 :: LP) ++ [58, 10] else []) := ⟨_, rfl⟩
      have HO1 : Hid (O1 = TT ++ (if B = true then (76 :: LP) ++ [58, 10] else [])) := hO1
      have hO1L : O1.length ≤ 184500 := by
        rw [hO1, List.length_append]
        split
        · simp only [List.length_append, List.length_cons, List.length_nil]; omega
        · simp only [List.length_nil]; omega
      clear hO1 cp
      go_cut [6] from 20 to 104 (fun c6 wz => c6 = .string ⟨O1.toArray⟩ ∧ Below w.heap.size w wz ∧ Below X2.heap.size X2 wz)
      case first =>
        cases B with
        | false =>
          go_wp2_with fail
          go_meet
          exact ⟨by rw [HO1.out, if_neg (by decide), List.append_nil], BY1.out, CY1.out⟩
        | true =>
          go_wp2_with (first
            | (go_at_call 10; refine Calls.mono (HPP.out Y1) ?_; rintro e Y2 ⟨rfl, q⟩; have BY2 : Hid (Below w.heap.size w Y2) := BY1.out.trans (q.mono BY1.out.size); have CY2 : Hid (Below X2.heap.size X2 Y2) := CY1.out.trans (q.mono CY1.out.size); clear q)
            | (refine wpList_cat rfl _ _ _ _ rfl [76] LP rfl rfl (by decide) (by omega) ?_; simp only [Act.put, List.setIfInBounds_toArray, List.set_cons_zero, List.set_cons_succ])
            | (refine wpList_cat rfl _ _ _ _ rfl (76 :: LP) [58, 10] rfl rfl (by simp <;> omega) (by decide) ?_; simp only [Act.put, List.setIfInBounds_toArray, List.set_cons_zero, List.set_cons_succ])
            | (refine wpList_cat rfl _ _ _ _ rfl TT (76 :: LP ++ [58, 10]) rfl rfl (by omega) (by simp <;> omega) ?_; simp only [Act.put, List.setIfInBounds_toArray, List.set_cons_zero, List.set_cons_succ]))
          go_meet
          exact ⟨by rw [HO1.out]; simp, BY2.out, CY2.out⟩
      case rest =>
        obtain ⟨rfl, hcB, hcC⟩ := hcut
        have BC : Hid (Below w.heap.size w wc) := hcB
        have CC : Hid (Below X2.heap.size X2 wc) := hcC
        have RC : Hid (wc.rangeAt g o (vB d)) := range_be HR.out hcB
        have HE1 : Hid (txT ls (t + 1) = O1 ++ (NM ++ opT x.c x.a x.n ++ [10])) := by show _ = _; rw [HEE.out, HO1.out]; simp only [List.append_assoc]
        have cc := code_cell RC.out x.p HI3.out.1
        rw [HI3.out.2, ← HXP.out.1] at cc
        have hx28 : x.c < 28 := HXM.out.2.1
        clear hcB hcC HB BY1 CY1 HGO HEE HO1 LVr RR
        obtain ⟨xc, hxc⟩ : ∃ xc, xc = x.c := ⟨_, rfl⟩
        have HXC : Hid (xc = x.c) := hxc
        rw [← hxc] at cc hx28 HNM
        clear hxc
        go_upto_region 13 with (first
          | (go_at_call 11; refine Calls.mono (HNM.out wc) ?_; rintro e Y3 ⟨rfl, q⟩; have B2 : Hid (Below w.heap.size w Y3) := BC.out.trans (q.mono BC.out.size); have C2 : Hid (Below X2.heap.size X2 Y3) := CC.out.trans (q.mono CC.out.size); clear q)
          | (refine wpList_cat rfl _ _ _ _ rfl O1 NM rfl rfl (by omega) (by omega) ?_; simp only [Act.put, List.setIfInBounds_toArray, List.set_cons_zero, List.set_cons_succ]))
        have R3 : Hid (Y3.rangeAt g o (vB d)) := range_be HR.out B2.out
        obtain ⟨O2, hO2⟩ : ∃ O2, O2 = O1 ++ NM := ⟨_, rfl⟩
        have HE2 : Hid (txT ls (t + 1) = O2 ++ (opT xc x.a x.n ++ [10])) := by show _ = _; rw [HE1.out, hO2, HXC.out]; simp only [List.append_assoc]
        have hO2L : O2.length ≤ 184600 := by rw [hO2, List.length_append]; omega
        rw [← hO2]
        clear hO2 cc HE1 BC CC RC hO1L
        by_cases hj2 : xc = 2
        · obtain ⟨y, bs, y1, y2, y3, y4, y5, y6, y7⟩ := ins_pushD HLS.out HX.out (by rw [← HXC.out]; exact hj2)
          have HE : Hid (txT ls (t + 1) = O2 ++ (32 :: DA) ++ [10]) := by show _ = _; rw [HE2.out, hj2, HEQ.out.2, opT_push, List.append_assoc]
          have HY3 : Hid (x.p + 1 + y < d.length) := y3
          have HY4 : Hid ((d.getD (x.p + 1) 0#8).toNat = y) := y4
          have HY5 : Hid (bs.length = y) := y5
          have HY6 : Hid (x.a = nb bs) := y6
          have HY7 : Hid (∀ j, j < y → d.getD (x.p + 2 + j) 0#8 = bs.getD j 0#8) := y7
          have hpy : xp + 1 + y < n := by rw [HXP.out.1, ← HDL.out]; exact y3
          obtain ⟨cw, hcw⟩ : ∃ cw, cw = wq x.a := ⟨_, rfl⟩
          have HWA : Hid (Wc cw x.a) := hcw
          clear y3 y4 y5 y6 y7 hcw
          subst hj2
          go_wp2_with fail
          go_loopw [10, 11] (fun v10 v11 wr => ∃ (k : Nat) (v : Value), k ≤ y ∧ v = v10 ∧ v11 = .int .i64 (k : Int) ∧ Hid (Lw wr 3 1 v k (vI ((bs.take k).map (fun x => x.toNat)))) ∧ Hid (∀ g, v.ownBlock = some g → X2.heap.size ≤ g) ∧ Hid (Below w.heap.size w wr ∧ Below X2.heap.size X2 wr)) (fun _ v _ => y - (intOf v).toNat)
          case atStart => exact ⟨0, _, Nat.zero_le _, rfl, rfl, Lw.nil _ _ _, (fun g e => by cases e), B2.out, C2.out⟩
          case round =>
            obtain ⟨k, v, hky, hv10, rfl, HL, HO, HB2⟩ := hrel
            subst hv10
            have RK : Hid (wr.rangeAt g o (vB d)) := range_be HR.out HB2.out.1
            have cy := code_cell RK.out (x.p + 1) (by have := HY3.out; omega)
            rw [HY4.out, ← HXP.out.1] at cy
            by_cases hk : k < y
            · have ck := code_cell RK.out (x.p + 2 + k) (by have := HY3.out; omega)
              rw [HY7.out k hk, ← HXP.out.1] at ck
              obtain ⟨bk, hbk⟩ : ∃ bk, bk = (bs.getD k 0#8).toNat := ⟨_, rfl⟩
              have hb256 : bk < 256 := by rw [hbk]; exact BitVec.isLt _
              have HTK : Hid ((bs.take (k + 1)).map (fun x => x.toNat) = (bs.take k).map (fun x => x.toNat) ++ [bk]) := by
                show _ = _
                have e : bs[k]? = some (bs.getD k 0#8) := by
                  rw [List.getD_eq_getElem?_getD]
                  cases hq : bs[k]? with
                  | none => have := List.getElem?_eq_none_iff.1 hq; have := HY5.out; omega
                  | some z => rfl
                rw [List.take_add_one, e, List.map_append, hbk]
                rfl
              rw [← hbk] at ck
              clear hbk
              go_wp2_with (first
                | (refine wpList_buildInt rfl (.tmp 70) rfl (bk : Int) rfl ?_; intro U2 q1 q2 q3; have RU2 : Hid (Row U2 wr.heap.size [.int .i64 (bk : Int)] 3) := q1; have BU2 : Hid (Below wr.heap.size wr U2) := q2; have LU2 : Hid (Lw U2 3 1 v k (vI ((bs.take k).map (fun x => x.toNat)))) := Lw.be HL.out q2; clear q1 q2 q3; simp only [Act.put, List.setIfInBounds_toArray, List.set_cons_zero, List.set_cons_succ])
                | (refine wpList_appL 29 3 1 8 Tryz.underlying29 info_int_open (by decide) (by decide) rfl (.tmp 62) (.tmp 71) rfl v k (vI ((bs.take k).map (fun x => x.toNat))) [.int .i64 (bk : Int)] rfl LU2.out wr.heap.size rfl rfl RU2.out.all (fun u hu => by obtain rfl := List.mem_singleton.1 hu; rfl) (by omega) ?_; intro v' U3 q1 q2 q3; have L3 : Hid (Lw U3 3 1 v' (k + 1) (vI ((bs.take k).map (fun x => x.toNat)) ++ [.int .i64 (bk : Int)])) := q1; have C3 : Hid (Below X2.heap.size X2 U3) := below_gb (HB2.out.2.trans (BU2.out.mono HB2.out.2.size)) q2 HO.out; have O3 : Hid (v'.ownBlock = v.ownBlock ∨ v'.ownBlock = some U2.heap.size) := q3; clear q1 q2 q3; simp only [Act.put, List.setIfInBounds_toArray, List.set_cons_zero, List.set_cons_succ]))
              have LU4 : Hid (Lw U3 3 1 v' (k + 1) (vI ((bs.take (k + 1)).map (fun x => x.toNat)))) := by rw [HTK.out, vI_app]; exact L3.out
              have O4 : Hid (∀ g, v'.ownBlock = some g → X2.heap.size ≤ g) := fun g e => by
                rcases O3.out with h | h
                · exact HO.out g (by rw [← h]; exact e)
                · rw [h] at e; cases e; exact Nat.le_trans HB2.out.2.size BU2.out.size
              have B3 : Hid (Below w.heap.size w U3) := HW2.out.trans (C3.out.mono HW2.out.size)
              exact ⟨⟨k + 1, _, hk, rfl, by go_num, LU4, O4, B3.out, C3.out⟩, by simp [intOf]; omega⟩
            · have ek : k = y := by omega
              have HL2 : Hid (Lw wr 3 1 v y (vI (bs.map (fun x => x.toNat)))) := by
                have := HL.out
                rw [ek, List.take_of_length_le (by rw [HY5.out]; exact Nat.le_refl _)] at this
                exact this
              obtain ⟨gn, cn, rfl, _⟩ := Lw.open HL2.out (by omega)
              have HCH : Hid (Ch wr gn 0 y (nb bs)) := ch_of_list HL2.out HY5.out y2
              have HNU : Hid (Calls Tryz.prog 13 #[.slice (some ⟨gn, 0, none⟩) y cn] wr fun e w' => e = .returned (.agg cw.toArray) ∧ Below wr.heap.size wr w') := number_c HWA.out gn 0 y cn y2 (by rw [HY6.out, ← HY5.out]; exact mnb_bound bs (by rw [HY5.out]; exact y2)) wr (.inl (by rw [HY6.out]; exact HCH.out))
              have HDC : Hid (∀ X, Calls Tryz.prog 12 #[.agg cw.toArray] X fun e w' => e = .returned (.string ⟨DA.toArray⟩) ∧ Below X.heap.size X w') := fun X => by rw [HEQ.out.2]; exact decimals_any HWA.out HXM.out.2.2.2 X
              have e4 : (k : Int) = (y : Int) := by omega
              rw [e4]
              clear e4 ek hk hky HL HO HCH
              go_wp2_with (first
                | (go_at_call 13; refine Calls.mono HNU.out ?_; rintro e V1 ⟨rfl, q⟩; have BV1 : Hid (Below w.heap.size w V1 ∧ Below X2.heap.size X2 V1) := ⟨HB2.out.1.trans (q.mono HB2.out.1.size), HB2.out.2.trans (q.mono HB2.out.2.size)⟩; clear q)
                | (go_at_call 12; refine Calls.mono (HDC.out V1) ?_; rintro e V2 ⟨rfl, q⟩; have BV2 : Hid (Below w.heap.size w V2 ∧ Below X2.heap.size X2 V2) := ⟨BV1.out.1.trans (q.mono BV1.out.1.size), BV1.out.2.trans (q.mono BV1.out.2.size)⟩; clear q)
                | (refine wpList_cat rfl _ _ _ _ rfl [32] DA rfl rfl (by decide) (by omega) ?_; simp only [Act.put, List.setIfInBounds_toArray, List.set_cons_zero, List.set_cons_succ])
                | (refine wpList_cat rfl _ _ _ _ rfl O2 (32 :: DA) rfl rfl (by omega) (by simp <;> omega) ?_; simp only [Act.put, List.setIfInBounds_toArray, List.set_cons_zero, List.set_cons_succ])
                | (refine wpList_cat rfl _ _ _ _ rfl (O2 ++ 32 :: DA) [10] rfl rfl (by simp <;> omega) (by decide) ?_; simp only [Act.put, List.setIfInBounds_toArray, List.set_cons_zero, List.set_cons_succ]))
              exact ⟨⟨t + 1, hlt, (by rw [HE.out]), by go_num, BV2⟩, by simp [intOf]; omega⟩
        · by_cases hjt : xc = 4 ∨ xc = 5 ∨ xc = 16
          · have HE : Hid (txT ls (t + 1) = O2 ++ (32 :: E) ++ [10]) := by show _ = _; rw [HE2.out, opT_two hjt, HEQ.out.1, List.append_assoc]
            obtain ⟨z1, z2⟩ := ins_twoD HLS.out HX.out (by rw [← HXC.out]; exact hjt)
            have ct := code_cell R3.out (x.p + 1) z1
            have hx256 : xn < 256 := by rw [HXP.out.2, ← z2]; exact BitVec.isLt _
            have hp1 : xp + 1 < n := by rw [HXP.out.1, ← HDL.out]; exact z1
            rw [z2, ← HXP.out.1, ← HXP.out.2] at ct
            clear z1 z2 hj2
            rcases hjt with rfl | rfl | rfl
            · go_wp2_with (first
                | (go_at_call 10; refine Calls.mono (HPN.out Y3) ?_; rintro e V1 ⟨rfl, q⟩; have BV1 : Hid (Below w.heap.size w V1) := B2.out.trans (q.mono B2.out.size); have CV1 : Hid (Below X2.heap.size X2 V1) := C2.out.trans (q.mono C2.out.size); clear q)
                | (refine wpList_cat rfl _ _ _ _ rfl [32] E rfl rfl (by decide) (by omega) ?_; simp only [Act.put, List.setIfInBounds_toArray, List.set_cons_zero, List.set_cons_succ])
                | (refine wpList_cat rfl _ _ _ _ rfl O2 (32 :: E) rfl rfl (by omega) (by simp <;> omega) ?_; simp only [Act.put, List.setIfInBounds_toArray, List.set_cons_zero, List.set_cons_succ])
                | (refine wpList_cat rfl _ _ _ _ rfl (O2 ++ 32 :: E) [10] rfl rfl (by simp <;> omega) (by decide) ?_; simp only [Act.put, List.setIfInBounds_toArray, List.set_cons_zero, List.set_cons_succ]))
              exact ⟨⟨t + 1, hlt, (by rw [HE.out]), by go_num, BV1.out, CV1.out⟩, by simp [intOf]; omega⟩
            · go_wp2_with (first
                | (go_at_call 10; refine Calls.mono (HPN.out Y3) ?_; rintro e V1 ⟨rfl, q⟩; have BV1 : Hid (Below w.heap.size w V1) := B2.out.trans (q.mono B2.out.size); have CV1 : Hid (Below X2.heap.size X2 V1) := C2.out.trans (q.mono C2.out.size); clear q)
                | (refine wpList_cat rfl _ _ _ _ rfl [32] E rfl rfl (by decide) (by omega) ?_; simp only [Act.put, List.setIfInBounds_toArray, List.set_cons_zero, List.set_cons_succ])
                | (refine wpList_cat rfl _ _ _ _ rfl O2 (32 :: E) rfl rfl (by omega) (by simp <;> omega) ?_; simp only [Act.put, List.setIfInBounds_toArray, List.set_cons_zero, List.set_cons_succ])
                | (refine wpList_cat rfl _ _ _ _ rfl (O2 ++ 32 :: E) [10] rfl rfl (by simp <;> omega) (by decide) ?_; simp only [Act.put, List.setIfInBounds_toArray, List.set_cons_zero, List.set_cons_succ]))
              exact ⟨⟨t + 1, hlt, (by rw [HE.out]), by go_num, BV1.out, CV1.out⟩, by simp [intOf]; omega⟩
            · go_wp2_with (first
                | (go_at_call 10; refine Calls.mono (HPN.out Y3) ?_; rintro e V1 ⟨rfl, q⟩; have BV1 : Hid (Below w.heap.size w V1) := B2.out.trans (q.mono B2.out.size); have CV1 : Hid (Below X2.heap.size X2 V1) := C2.out.trans (q.mono C2.out.size); clear q)
                | (refine wpList_cat rfl _ _ _ _ rfl [32] E rfl rfl (by decide) (by omega) ?_; simp only [Act.put, List.setIfInBounds_toArray, List.set_cons_zero, List.set_cons_succ])
                | (refine wpList_cat rfl _ _ _ _ rfl O2 (32 :: E) rfl rfl (by omega) (by simp <;> omega) ?_; simp only [Act.put, List.setIfInBounds_toArray, List.set_cons_zero, List.set_cons_succ])
                | (refine wpList_cat rfl _ _ _ _ rfl (O2 ++ 32 :: E) [10] rfl rfl (by simp <;> omega) (by decide) ?_; simp only [Act.put, List.setIfInBounds_toArray, List.set_cons_zero, List.set_cons_succ]))
              exact ⟨⟨t + 1, hlt, (by rw [HE.out]), by go_num, BV1.out, CV1.out⟩, by simp [intOf]; omega⟩
          · by_cases hjj : xc = 14 ∨ xc = 15
            · have HE : Hid (txT ls (t + 1) = O2 ++ (32 :: 76 :: E) ++ [10]) := by show _ = _; rw [HE2.out, opT_jump hjj, HEQ.out.1, List.append_assoc]
              have HT : Hid (Calls Tryz.prog 14 #[.slice (some ⟨g, o, none⟩) n cap, .int .i64 (xp : Int)] Y3 fun e w' => e = .returned (.int .i64 (xn : Int)) ∧ Below Y3.heap.size Y3 w') := by
                obtain ⟨j1, j2⟩ := ins_jumpD HLS.out HX.out (by rw [← HXC.out]; exact hjj)
                rw [HXP.out.1, HXP.out.2, ← j2]
                exact target_any g o n cap x.p _ _ (by rw [← HDL.out]; exact j1) hn1 (by exact BitVec.isLt _) (by exact BitVec.isLt _) Y3 (by exact code_cell R3.out _ (by omega)) (by exact code_cell R3.out _ j1)
              clear hj2 hjt
              rcases hjj with rfl | rfl
              · go_wp2_with (first
                  | (go_at_call 14; refine Calls.mono HT.out ?_; rintro e V0 ⟨rfl, q⟩; have BV0 : Hid (Below w.heap.size w V0) := B2.out.trans (q.mono B2.out.size); have CV0 : Hid (Below X2.heap.size X2 V0) := C2.out.trans (q.mono C2.out.size); clear q)
                  | (go_at_call 10; refine Calls.mono (HPN.out V0) ?_; rintro e V1 ⟨rfl, q⟩; have BV1 : Hid (Below w.heap.size w V1) := BV0.out.trans (q.mono BV0.out.size); have CV1 : Hid (Below X2.heap.size X2 V1) := CV0.out.trans (q.mono CV0.out.size); clear q)
                  | (refine wpList_cat rfl _ _ _ _ rfl [32, 76] E rfl rfl (by decide) (by omega) ?_; simp only [Act.put, List.setIfInBounds_toArray, List.set_cons_zero, List.set_cons_succ])
                  | (refine wpList_cat rfl _ _ _ _ rfl O2 (32 :: 76 :: E) rfl rfl (by omega) (by simp <;> omega) ?_; simp only [Act.put, List.setIfInBounds_toArray, List.set_cons_zero, List.set_cons_succ])
                  | (refine wpList_cat rfl _ _ _ _ rfl (O2 ++ 32 :: 76 :: E) [10] rfl rfl (by simp <;> omega) (by decide) ?_; simp only [Act.put, List.setIfInBounds_toArray, List.set_cons_zero, List.set_cons_succ]))
                exact ⟨⟨t + 1, hlt, (by rw [HE.out]), by go_num, BV1.out, CV1.out⟩, by simp [intOf]; omega⟩
              · go_wp2_with (first
                  | (go_at_call 14; refine Calls.mono HT.out ?_; rintro e V0 ⟨rfl, q⟩; have BV0 : Hid (Below w.heap.size w V0) := B2.out.trans (q.mono B2.out.size); have CV0 : Hid (Below X2.heap.size X2 V0) := C2.out.trans (q.mono C2.out.size); clear q)
                  | (go_at_call 10; refine Calls.mono (HPN.out V0) ?_; rintro e V1 ⟨rfl, q⟩; have BV1 : Hid (Below w.heap.size w V1) := BV0.out.trans (q.mono BV0.out.size); have CV1 : Hid (Below X2.heap.size X2 V1) := CV0.out.trans (q.mono CV0.out.size); clear q)
                  | (refine wpList_cat rfl _ _ _ _ rfl [32, 76] E rfl rfl (by decide) (by omega) ?_; simp only [Act.put, List.setIfInBounds_toArray, List.set_cons_zero, List.set_cons_succ])
                  | (refine wpList_cat rfl _ _ _ _ rfl O2 (32 :: 76 :: E) rfl rfl (by omega) (by simp <;> omega) ?_; simp only [Act.put, List.setIfInBounds_toArray, List.set_cons_zero, List.set_cons_succ])
                  | (refine wpList_cat rfl _ _ _ _ rfl (O2 ++ 32 :: 76 :: E) [10] rfl rfl (by simp <;> omega) (by decide) ?_; simp only [Act.put, List.setIfInBounds_toArray, List.set_cons_zero, List.set_cons_succ]))
                exact ⟨⟨t + 1, hlt, (by rw [HE.out]), by go_num, BV1.out, CV1.out⟩, by simp [intOf]; omega⟩
            · have HE : Hid (txT ls (t + 1) = O2 ++ [10]) := by
                show _ = _
                rw [HE2.out, opT_none xc _ _ hx28 (by omega) (by omega) (by omega) (by omega) (by omega) (by omega)]
                rfl
              have k1 : ¬ (xc : Int) = 2 := by omega
              have k2 : ¬ (xc : Int) = 4 := by omega
              have k3 : ¬ (xc : Int) = 5 := by omega
              have k4 : ¬ (xc : Int) = 16 := by omega
              have k5 : ¬ (xc : Int) = 14 := by omega
              have k6 : ¬ (xc : Int) = 15 := by omega
              clear hj2 hjt hjj
              go_wp2_with (refine wpList_cat rfl _ _ _ _ rfl O2 [10] rfl rfl (by omega) (by decide) ?_; simp only [Act.put, List.setIfInBounds_toArray, List.set_cons_zero, List.set_cons_succ])
              exact ⟨⟨t + 1, hlt, (by rw [HE.out]), by go_num, B2.out, C2.out⟩, by simp [intOf]; omega⟩
    · have et : t = ls.length := by omega
      have HE : Hid (txT ls t = txT ls ls.length) := by show _ = _; rw [et]
      have e4 : (t : Int) = (ls.length : Int) := by omega
      rw [e4, HE.out]
      clear e4 et ht hlt
      go_wp2
      go_ret2
      exact ⟨rfl, HB.out.1⟩

end Go.Proofs.YtclbiophgnkggaaGreatDoor
