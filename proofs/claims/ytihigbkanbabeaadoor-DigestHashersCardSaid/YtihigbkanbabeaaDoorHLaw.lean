/-
  The law DigestHashers.
-/
import Derived.Test.YtihigbkanbabeaaDoorHLaw0
namespace Go.Proofs.YtihigbkanbabeaaDoor
open Go Go.RowKit
open Sha

set_option maxRecDepth 100000 in
set_option maxHeartbeats 4000000 in
theorem hashers_walk (A : Option Addr) (n cap : Nat) (os : List OpV) (w : World) (hI : Scr w A n os) (hn : n ≤ 140737488351232) (hG : Given w) :
    Calls Tryd.prog 8 #[.slice A n cap] w fun e w' => e = .returned (.bool true) ∧ Below w.heap.size w w' := by
  have HI : Hid (Scr w A n os) := hI
  have HG : Hid (Given w) := hG
  have HNUM : Hid (os.length = n) := hI.num
  clear hI hG
  go_enter Tryd.func8, Tryd.ntmps8
  go_wp2_with fail
  refine (awake_any w HG.out.cub).mono ?_
  rintro e W1 ⟨rfl, hW1⟩
  go_wp2_with fail
  refine (written_any A n cap os W1 (HI.out.low hW1) hn).mono ?_
  rintro e W0 ⟨bb, rfl, hE, hfew⟩
  obtain rfl : W0 = W1 := hE
  cases bb with
  | false =>
    go_wp2
    go_ret
    exact ⟨rfl, hW1⟩
  | true =>
    have HFEW : Hid ((dat os).flatten.length ≤ 1048576) := hfew rfl
    clear hfew
    go_wp2
    have hW2 : Below w.heap.size w ((W0.alloc (Obj.cells #[.pointer none, .pointer none, .pointer none, .pointer none] 48)).alloc (Obj.cells #[.slice none 0 0, .slice none 0 0, .slice none 0 0, .slice none 0 0] 49)) := (hW1.alloc hW1.size _).alloc (Nat.le_trans hW1.size (by simp)) _
    have P0 : Pre4 ((W0.alloc (Obj.cells #[.pointer none, .pointer none, .pointer none, .pointer none] 48)).alloc (Obj.cells #[.slice none 0 0, .slice none 0 0, .slice none 0 0, .slice none 0 0] 49)) w.heap.size W0.heap.size (W0.heap.size + 1) 0 [] :=
      ⟨rfl, Row.alloc (Row.new' rfl rfl) _, Row.new' (by simp) rfl, fun i hi => by omega, fun i j hi => by omega, hW1.size, Nat.le_trans hW1.size (by omega), fun i hi => by omega⟩
    have HS0 : Hid (w.heap.size ≤ W0.heap.size) := hW1.size
    clear hW1
    generalize (W0.alloc (Obj.cells #[.pointer none, .pointer none, .pointer none, .pointer none] 48)).alloc (Obj.cells #[.slice none 0 0, .slice none 0 0, .slice none 0 0, .slice none 0 0] 49) = W2 at *
    have HPK : Hid (W0.heap.size + 1 = W0.heap.size + 1) := rfl
    generalize W0.heap.size + 1 = pk at *
    generalize W0.heap.size = ph at *
    clear HPK HS0
    go_loopw [7] (fun i wr => ∃ (t : Nat) (bs : List Nat), t ≤ 4 ∧ i = .int .i64 (t : Int) ∧ Below w.heap.size w wr ∧ Hid (Pre4 wr w.heap.size ph pk t bs))
      (fun i _ => 4 - (intOf i).toNat)
    case atStart => exact ⟨0, [], by omega, rfl, hW2, P0⟩
    case round =>
      clear hW2 P0
      obtain ⟨t, bs, ht, rfl, hb, hP⟩ := hrel
      by_cases hlt : t < 4
      · go_wp2_with fail
        refine (new_any wr).mono ?_
        rintro e W3 ⟨b', rfl, hb', hH, hB3⟩
        have hP3 := hP.out.more hlt b' hb.size hB3 hb' hH
        have Rh := (hP.out.hrow.below hB3 hP.out.hrow.lt)
        have gh := Rh.cell t _ (mine_get _ _ t 4 (by rw [List.length_map, hP.out.lb]) hlt)
        have gf := Rh.thaw t
        have HP3 : Hid _ := hP3
        have hb3 := hb.trans (hB3.mono hb.size)
        have hph := hP.out.low.1
        clear Rh hP3 hP
        go_wp2
        exact ⟨⟨t + 1, bs ++ [b'], hlt, by go_num, hb3.setCell (by simpa using hph) _, HP3.out⟩, by simp [intOf]; omega⟩
      · have et : t = 4 := by omega
        have e4 : (t : Int) = 4 := by omega
        rw [et] at hP
        rw [e4]
        have S0 := hP.out.done
        have HS0 : Hid _ := S0
        clear S0 hP et e4 ht hlt
        go_wp2
        go_loopw [8, 9, 10, 11, 12, 13, 14, 15, 16, 17, 18, 19] (fun i _ _ _ _ _ _ _ _ _ _ _ w' => ∃ (t : Nat) (bs : List Nat) (ts : List (List (BitVec 8))) (vs : List Value), t ≤ n ∧ i = .int .i64 (t : Int) ∧ Below w.heap.size w w' ∧ Hid (St4 w' w.heap.size ph pk bs ts vs) ∧ Hid (∀ j, j < 4 → (ts.getD j []).length ≤ ((dat os).take t).flatten.length))
          (fun i _ _ _ _ _ _ _ _ _ _ _ _ => n - (intOf i).toNat)
        case atStart => exact ⟨0, bs, List.replicate 4 [], List.replicate 4 (.slice none 0 0), by omega, rfl, hb, HS0, fun j hj => by rw [four_getD _ _ _ hj]; simp⟩
        case round =>
          clear HS0 hb
          obtain ⟨t, bs, ts, vs, ht, rfl, hb, hS, hM⟩ := hrel
          by_cases hlt : t < n
          · obtain ⟨pb, po, hA, hr⟩ := (HI.out.low hb).lies (by omega)
            subst hA
            have hO := (HI.out.low hb).each t hlt
            have hrt := hr t hlt
            have HSUM : Hid (((dat os).take (t + 1)).flatten.length = ((dat os).take t).flatten.length + (os.getD t op0).d.length) := flat_more os t (by rw [HNUM.out]; exact hlt)
            have HLE : Hid (((dat os).take (t + 1)).flatten.length ≤ 1048576) := Nat.le_trans (flat_le os (t + 1)) HFEW.out
            generalize hoe : os.getD t op0 = o at *
            have HOE : Hid (os.getD t op0 = o) := hoe
            clear hoe
            have HSD : Hid (∀ W, Below w.heap.size w W → SlAt W (.slice o.A o.d.length o.c) o.d) := by
              intro W hW
              have := ((HI.out.low hW).each t hlt).sl
              rw [HOE.out] at this
              exact this
            have HO : Hid (OpOk wr o) := hO
            clear hr hO
            obtain ⟨cs, hcs⟩ : ∃ cs, cs = o.cells := ⟨_, rfl⟩
            rw [← hcs] at hrt
            have i4 : (Tryd.prog.info? 52).map (·.size) = some cs.length := by rw [hcs]; exact info_op
            have i4' : (Tryd.prog.info? 52).map (·.size) = some cs.toArray.size := by rw [hcs]; exact info_op
            have hone := all_oneCell_toArray (show ∀ v ∈ cs, v.oneCell' = true by rw [hcs]; simp [OpV.cells, OpV.dv, Value.oneCell'])
            have T := Row.there (Row.new' (w := wr) (cs := [.int .i64 0, .int .i64 0, .int .i64 0, .slice none 0 0]) (t := 52) rfl rfl) 0 cs.toArray.size (by rw [hcs]; exact Nat.le_refl 4)
            have R9 : Row (World.setCells (wr.alloc (Obj.cells #[.int .i64 0, .int .i64 0, .int .i64 0, .slice none 0 0] 52)) wr.heap.size 0 cs) wr.heap.size cs 52 := Row.over (Row.new' (cs := [.int .i64 0, .int .i64 0, .int .i64 0, .slice none 0 0]) rfl rfl) (by rw [hcs]; rfl)
            have hB3 : Below wr.heap.size wr (World.setCells (wr.alloc (Obj.cells #[.int .i64 0, .int .i64 0, .int .i64 0, .slice none 0 0] 52)) wr.heap.size 0 cs) := below_setCells ((Below.refl _ _).alloc (Nat.le_refl _) _) (Nat.le_refl _) _
            have S3 := hS.out.below hB3 (Nat.le_refl _)
            have hW3 := hb.trans (hB3.mono hb.size)
            have HS3 : Hid _ := S3
            have HCS : Hid (cs = o.cells) := hcs
            clear hcs hB3 S3 hS hb
            go_wp2_with (first
              | (refine wpList_load_mid rfl 52 (.tmp 50) rfl pb (po + t * 4) rfl cs _ hrt Tryd.underlying52 rfl i4 ?_; simp only [Act.put, List.setIfInBounds_toArray, List.set_cons_zero, List.set_cons_succ])
              | (refine wpList_store_mid rfl 52 (.tmp 9) (.tmp 51) rfl wr.heap.size 0 cs.toArray rfl rfl T i4' hone ?_; simp only [Act.put]; clear T hrt i4 i4' hone; (change wpList _ _ _ _ _ (World.setCells (wr.alloc (Obj.cells #[.int .i64 0, .int .i64 0, .int .i64 0, .slice none 0 0] 52)) wr.heap.size 0 cs)); (generalize World.setCells (wr.alloc (Obj.cells #[.int .i64 0, .int .i64 0, .int .i64 0, .slice none 0 0] 52)) wr.heap.size 0 cs = W3 at *); (generalize wr.heap.size = p9 at *); (have g91 : W3.cell? ⟨p9, 1, none⟩ = some (.int .i64 o.on) := R9.cell 1 _ (by rw [HCS.out]; rfl))))
            have hto := HO.out.to
            refine (pick_z o.on 4 4 rfl HO.out.on.1 HO.out.on.2 (by decide) (by decide) W3).mono ?_
            rintro e W5 ⟨k, hk, rfl, hE⟩
            obtain rfl : W5 = W3 := hE
            clear g91
            have g90 : W5.cell? ⟨p9, 0, none⟩ = some (.int .i64 o.kind) := R9.cell 0 _ (by rw [HCS.out]; rfl)
            by_cases hk1 : o.kind = 1
            · rw [hk1] at g90
              clear hk1
              have gh := HS3.out.hcell k hk
              have HH : Hid (HAt W5 (bs.getD k 0) (ts.getD k [])) := HS3.out.hat k hk
              have hlk : (ts.getD k []).length ≤ 1048576 := by have h1 := hM.out k hk; have h2 := HSUM.out; have h3 := HLE.out; omega
              have hd := HO.out.len
              have hnil := HO.out.nil
              have g93 : W5.cell? ⟨p9, 3, none⟩ = some (.slice o.A o.d.length o.c) := R9.cell 3 _ (by rw [HCS.out]; rfl)
              have hc3 : cs[3]? = some (.slice o.A o.d.length o.c) := by rw [HCS.out]; rfl
              have HC3 : Hid _ := hc3
              have hdl : (ts.getD k []).length + o.d.length ≤ 1048576 := by have h1 := hM.out k hk; have h2 := HSUM.out; have h3 := HLE.out; omega
              have hbk := HS3.out.low.2.2 k hk
              have hpk := HS3.out.low.2.1
              have hgk : 1 ≠ bs.getD k 0 := by have := HG.out.cub.lt; omega
              have HNIL : Hid _ := hnil
              clear hc3 hnil
              generalize o.d = d at *
              generalize o.A = oA at *
              generalize o.c = oc at *
              go_wp2_with fail
              refine (lent_x d hd oA oc W5 (HSD.out W5 hW3)).mono ?_
              rintro e W6 ⟨g, rfl, hg, Rg, hB6⟩
              have S6 := HS3.out.below hB6 (Nat.le_refl _)
              have hW6 := hW3.trans (hB6.mono hW3.size)
              have R96 := Row.below R9 hB6 (Row.lt R9)
              have gh6 := S6.hcell k hk
              have g936 := R96.cell 3 _ HC3.out
              have HH6 : Hid (HAt W6 (bs.getD k 0) (ts.getD k [])) := S6.hat k hk
              have BT6 : Hid (But (bs.getD k 0) W5 W6) := But.of_below hB6
              have HRG : Hid (Row W6 g (vB (d ++ marks)) 5) := Rg
              have HR9 : Hid (Row W6 p9 cs 52) := R96
              have hgb : g ≠ bs.getD k 0 := Row.ne Rg HH6.out (by decide)
              have h9b : p9 ≠ bs.getD k 0 := Row.ne R96 HH6.out (by decide)
              clear hB6 Rg R96 S6 g93 gh
              go_wp2
              refine wp_region_quiet_tail (C := fun w' => ∃ n, w' = W6.drewN n) 8 (by kernel_rfl) (by kernel_rfl) ⟨1, rfl⟩ ?_
              simp only [List.take_succ_cons, List.take_zero, List.drop_succ_cons, List.drop_zero]
              iterate 7 (go_big_quiet_step (fail))
              refine quiet_val rfl (.slice (some ⟨g, 0, none⟩) d.length (d.length + 80)) (fun w' _ => exec_slice_k 22 (.tmp 65) (.tmp 68) rfl 5 g (d.length + 80) (d.length + 80) d.length rfl rfl (by omega) Tryd.underlying22 info_u8 w') ?_
              simp only [Act.put, List.setIfInBounds_toArray, List.set_cons_zero, List.set_cons_succ]
              refine wpQuiet_nil ?_
              intro w' hw'
              obtain ⟨nq, rfl⟩ := hw'
              clear g936 gh6
              go_wp2_with (go_at_call 30; refine (write_any (ts.getD k []) d (by omega) (bs.getD k 0) (.slice (some ⟨g, 0, none⟩) d.length (d.length + 80)) (W6.drewN nq) (Tab.drewN (HG.out.low hW6).cub nq) hgk (Row.drewN HH6.out nq) (.inr ⟨g, 0, d.length + 80, rfl, by omega, hgb, range_drewN (mv_slAt_range HRG.out) nq⟩)).mono ?_; rintro e W7 ⟨rfl, hH7, hB7⟩; (have R97 := Row.but (Row.drewN HR9.out nq) hB7 h9b); (have g937 := R97.cell 3 _ HC3.out); (have HR97 : Hid (Row W7 p9 cs 52) := R97); (have HRG7 : Hid (Row W7 g (vB (d ++ marks)) 5) := Row.but (Row.drewN HRG.out nq) hB7 hgb); (have BT7 : Hid (But (bs.getD k 0) W5 W7) := (BT6.out.trans (But.drewN _ nq _)).trans hB7); (have HH7 : Hid (HAt W7 (bs.getD k 0) (ts.getD k [] ++ d)) := hH7); clear R97 hB7 hH7)
              have hW7 := But.below hW3 BT7.out hbk hW3.size
              refine (kept_any d hd g oA oc W7 HRG7.out (HSD.out W7 hW7)).mono ?_
              rintro e W8 ⟨rfl, hE⟩
              obtain rfl : W8 = W7 := hE
              go_wp2_with fail
              refine (other_x d hd oA oc W8 (HSD.out W8 hW7)).mono ?_
              rintro e W9 ⟨g2, rfl, hg2, R2, hB9⟩
              have hthere : W9.there g 0 (oth d).length := Row.there (Row.below HRG7.out hB9 (Row.lt HRG7.out)) 0 _ (by simp [vB_length, oth_length])
              have HSO : Hid (SlAt W9 (.slice (some ⟨g2, 0, none⟩) d.length d.length) (oth d)) := .inr ⟨g2, 0, d.length, by rw [oth_length], by rw [oth_length]; exact Nat.le_refl _, R2.all⟩
              have hoN : (oth d).length ≤ d.length + 80 := by rw [oth_length]; omega
              have RG9 := Row.below HRG7.out hB9 (Row.lt HRG7.out)
              have BT9 : Hid (But (bs.getD k 0) W5 (W9.setCells g 0 (vB (oth d)))) := (BT7.out.trans (But.of_below hB9)).new_write hg _
              have hW10 := But.below hW3 BT9.out hbk hW3.size
              have HH9' := Row.below HH7.out hB9 (Row.lt HH7.out)
              have HH9 : Hid (HAt (W9.setCells g 0 (vB (oth d))) (bs.getD k 0) (ts.getD k [] ++ d)) := Row.setCells_other HH9' _ _ _ (Row.ne HH9' RG9 (by decide))
              have R99' := Row.below HR97.out hB9 (Row.lt HR97.out)
              have HR99 : Hid (Row (W9.setCells g 0 (vB (oth d))) p9 cs 52) := Row.setCells_other R99' _ _ _ (Row.ne R99' RG9 (by decide))
              obtain ⟨htr, At, ct, gt, hst⟩ := HS3.out.tcell_but k hk BT9.out
              have HST : Hid (SlAt (W9.setCells g 0 (vB (oth d))) (.slice At (ts.getD k []).length ct) (ts.getD k [])) := hst
              clear htr hst HH9' R99' RG9 R2 hB9 hW6
              go_wp2_with (refine wpList_copy_sl rfl (.tmp 77) (.tmp 80) 22 22 rfl 5 g (d.length + 80) (d.length + 80) (.slice (some ⟨g2, 0, none⟩) d.length d.length) (oth d) hoN rfl rfl HSO.out Tryd.underlying22 info_u8 hthere ?_; simp only [Act.put, List.setIfInBounds_toArray, List.set_cons_zero, List.set_cons_succ]; clear hthere HSO; (generalize W9.setCells g 0 (vB (oth d)) = W10 at *))
              refine (twin_k (ts.getD k []) (ts.getD k []).length rfl (by omega) At ct W10 HST.out).mono ?_
              rintro e W11 ⟨g3, rfl, hg3, R3, hB11⟩
              have BT11 : Hid (But (bs.getD k 0) W5 W11) := BT9.out.trans (But.of_below hB11)
              have hW11 := But.below hW3 BT11.out hbk hW3.size
              have HH11 : Hid (HAt W11 (bs.getD k 0) (ts.getD k [] ++ d)) := Row.below HH9.out hB11 (Row.lt HH9.out)
              have R911 := Row.below HR99.out hB11 (Row.lt HR99.out)
              have g9311 := R911.cell 3 _ HC3.out
              have HOWN : Hid (W11.ownsRow w.heap.size 5 1 (.slice (some ⟨g3, 0, none⟩) (ts.getD k []).length (ts.getD k []).length) (ts.getD k []).length (vB (ts.getD k []))) := row_owns (Nat.le_trans hW10.size hg3) rfl (by omega) R3
              have h3b : bs.getD k 0 ≠ g3 := Row.ne HH11.out R3 (by decide)
              have h53 : W5.heap.size ≤ g3 := Nat.le_trans BT9.out.size hg3
              clear R911 hB11 R3 gt hW10
              go_wp2_with (refine wpList_append_bytes rfl (.tmp 86) (.tmp 88) rfl W11 w w.heap.size w.heap.size _ (ts.getD k []).length d.length (ts.getD k []) d HOWN.out rfl oA oc rfl rfl (HSD.out W11 hW11) HNIL.out (by omega) hW11.size (Nat.le_refl _) hW11 ?_; intro v12 W12 ho12 hW12 hg12; (obtain ⟨_, A13, c13, rfl⟩ := owns_slAt ho12); (have BT12 : Hid (But (bs.getD k 0) W5 W12) := BT11.out.grown hg12 h53); (obtain ⟨htr12, A12, c12, gt12, _⟩ := HS3.out.tcell_but k hk BT12.out); (have gtf12 := htr12.thaw k); (have HH12 : Hid (HAt W12 (bs.getD k 0) (ts.getD k [] ++ d)) := (hg12.block _ (Row.lt HH11.out) (fun he => h3b (Option.some.inj he))).trans HH11.out); (have HO12 : Hid _ := ho12); clear htr12 hg12 ho12; simp only [Act.put, List.setIfInBounds_toArray, List.set_cons_zero, List.set_cons_succ])
              have HT : Hid _ := HS3.out.turn k hk (ts.getD k [] ++ d) (.slice A13 ((ts.getD k []).length + d.length) c13) BT12.out HH12.out (by rw [List.length_append]; exact HO12.out)
              exact ⟨⟨t + 1, bs, _, _, hlt, by go_num, hW12.setCell (by simpa using hpk) _, HT, len_set ts k _ _ _ HS3.out.lt hk hM.out (by rw [HSUM.out]; omega) (by rw [List.length_append, HSUM.out]; have := hM.out k hk; omega)⟩, by simp [intOf]; omega⟩
            by_cases hk2 : o.kind = 2
            · rw [hk2] at g90
              clear hk1 hk2
              have gh := HS3.out.hcell k hk
              have HH : Hid (HAt W5 (bs.getD k 0) (ts.getD k [])) := HS3.out.hat k hk
              have hlk : (ts.getD k []).length ≤ 1048576 := by have h1 := hM.out k hk; have h2 := HSUM.out; have h3 := HLE.out; omega
              obtain ⟨At, ct, hvt, gt, hst⟩ := HS3.out.tcell k hk
              generalize bs.getD k 0 = bk at gh HH
              generalize ts.getD k [] = tk at gt HH
              clear hvt hst
              go_wp2_with (go_at_call 31; refine (len_any tk bk W5 HH.out).mono ?_; rintro e W5 ⟨rfl, rfl⟩)
              exact ⟨⟨t + 1, bs, ts, vs, hlt, by go_num, hW3, HS3, fun j hj => Nat.le_trans (hM.out j hj) (by rw [HSUM.out]; omega)⟩, by simp [intOf]; omega⟩
            by_cases hk3 : o.kind = 3
            · rw [hk3] at g90
              clear hk1 hk2 hk3
              have gh := HS3.out.hcell k hk
              have HH : Hid (HAt W5 (bs.getD k 0) (ts.getD k [])) := HS3.out.hat k hk
              have hlk : (ts.getD k []).length ≤ 1048576 := by have h1 := hM.out k hk; have h2 := HSUM.out; have h3 := HLE.out; omega
              obtain ⟨x, hx⟩ : ∃ x, x = dig (ts.getD k []) := ⟨_, rfl⟩
              have Hx : Hid (x = dig (ts.getD k [])) := hx
              have Lx : x.length = 32 := by rw [hx]; exact dig_length _
              clear hx
              have Ix : (Tryd.prog.info? 26).map (·.size) = some (vB x).toArray.size := by rw [info_dig]; simp [vB_length, Lx]
              have Jx : (Tryd.prog.info? 26).map (·.size) = some (vB x).length := by rw [info_dig, vB_length, Lx]
              have Ox := all_oneCell_toArray (vB_one x)
              have Kx : Hid (x.length = 32) := Lx
              clear Lx
              generalize bs.getD k 0 = bk at gh HH
              go_wp2_with fail
              refine (hsum_d (ts.getD k []) x Hx.out (by omega) bk W5 (HG.out.low hW3).cub HH.out).mono ?_
              rintro e v6 ⟨rfl, hD6⟩
              obtain ⟨hS6, R15⟩ := digest_laid x Kx.out hD6
              have T6 := digest_there v6 x Kx.out
              have hW6 := hW3.trans (hS6.mono hW3.size)
              have S6 := HS3.out.below hS6 (Nat.le_refl _)
              have HS6 : Hid _ := S6
              obtain ⟨At, ct, hvt, gt, hst⟩ := S6.tcell k hk
              have HST : Hid (SlAt _ _ _) := hst
              clear S6 hst hvt
              clear hD6 hS6 hW3
              go_wp2_with (first
                | (refine wpList_store_mid rfl 26 (.tmp 15) (.tmp 110) rfl v6.heap.size 0 (vB x).toArray rfl rfl T6 Ix Ox ?_; simp only [Act.put]; (change wpList _ _ _ _ _ (World.setCells (v6.alloc (Obj.cells (vB (List.replicate 32 0#8)).toArray 26)) v6.heap.size 0 (vB x))); clear T6; (generalize World.setCells (v6.alloc (Obj.cells (vB (List.replicate 32 0#8)).toArray 26)) v6.heap.size 0 (vB x) = W6 at *); (generalize v6.heap.size = p15 at *); clear v6))
              refine (rsum_any (ts.getD k []) x Hx.out (by omega) _ W6 HST.out (HG.out.low hW6)).mono ?_
              rintro e v7 ⟨rfl, hD7⟩
              obtain ⟨hS7, R16⟩ := digest_laid x Kx.out hD7
              have T7 := digest_there v7 x Kx.out
              have hW7 := hW6.trans (hS7.mono hW6.size)
              replace R15 := Row.below R15 hS7 (Row.lt R15)
              have S7 := HS6.out.below hS7 (Nat.le_refl _)
              have HS7 : Hid _ := S7
              clear S7
              clear hD7 hS7 hW6
              go_wp2_with (first
                | (refine wpList_store_mid rfl 26 (.tmp 16) (.tmp 114) rfl v7.heap.size 0 (vB x).toArray rfl rfl T7 Ix Ox ?_; simp only [Act.put]; (change wpList _ _ _ _ _ (World.setCells (v7.alloc (Obj.cells (vB (List.replicate 32 0#8)).toArray 26)) v7.heap.size 0 (vB x))); clear T7; (generalize World.setCells (v7.alloc (Obj.cells (vB (List.replicate 32 0#8)).toArray 26)) v7.heap.size 0 (vB x) = W7 at *); (generalize v7.heap.size = p16 at *); clear v7)
                | (refine wpList_load_w rfl 26 (.tmp 15) rfl p15 0 rfl (vB x) _ R15.all Tryd.underlying26 rfl Jx ?_; simp only [Act.put, List.setIfInBounds_toArray, List.set_cons_zero, List.set_cons_succ])
                | (refine wpList_load_w rfl 26 (.tmp 16) rfl p16 0 rfl (vB x) _ R16.all Tryd.underlying26 rfl Jx ?_; simp only [Act.put, List.setIfInBounds_toArray, List.set_cons_zero, List.set_cons_succ])
                | (refine wpList_neq_same rfl 26 (.tmp 115) (.tmp 116) 26 rfl 5 32 x rfl rfl Tryd.underlying26 Tryd.underlying5 info_u8 Kx.out guard_dig ?_; simp only [Act.put, List.setIfInBounds_toArray, List.set_cons_zero, List.set_cons_succ]))
              exact ⟨⟨t + 1, bs, ts, vs, hlt, by go_num, hW7, HS7, fun j hj => Nat.le_trans (hM.out j hj) (by rw [HSUM.out]; omega)⟩, by simp [intOf]; omega⟩
            by_cases hk4 : o.kind = 4
            · rw [hk4] at g90
              clear hk1 hk2 hk3 hk4
              have gh := HS3.out.hcell k hk
              have HH : Hid (HAt W5 (bs.getD k 0) (ts.getD k [])) := HS3.out.hat k hk
              have hlk : (ts.getD k []).length ≤ 1048576 := by have h1 := hM.out k hk; have h2 := HSUM.out; have h3 := HLE.out; omega
              have hpk := HS3.out.low.2.1
              have hph := HS3.out.low.1
              go_wp2_with fail
              refine (copy_any (ts.getD k []) (bs.getD k 0) W5 HH.out).mono ?_
              rintro e W6 ⟨b', rfl, hb', hH6, hB6⟩
              have S6 := HS3.out.below hB6 (Nat.le_refl _)
              have HS6 : Hid _ := S6
              have R96 := Row.below R9 hB6 (Row.lt R9)
              have g926 : W6.cell? ⟨p9, 2, none⟩ = some (.int .i64 o.to) := R96.cell 2 _ (by rw [HCS.out]; rfl)
              have hW6 := hW3.trans (hB6.mono hW3.size)
              have HB6 : Hid _ := hB6
              have HH6 : Hid (HAt W6 b' (ts.getD k [])) := hH6
              clear S6 R96 hB6 hH6 gh
              go_wp2_with fail
              refine (pick_z o.to 4 4 rfl hto.1 hto.2 (by decide) (by decide) W6).mono ?_
              rintro e W7 ⟨k2, hk2, rfl, hE⟩
              obtain rfl : W7 = W6 := hE
              have gh7 := HS6.out.hcell k2 hk2
              have gf7 := HS6.out.hrow.thaw k2
              have hne : ph ≠ pk := HS6.out.hrow.ne HS6.out.trow (by decide)
              have htr8 : Row (W7.setCell ⟨ph, k2, none⟩ (.pointer (some ⟨b', 0, none⟩))) pk vs 49 := HS6.out.trow.set_other _ _ _ (Ne.symm hne)
              have hb8 := But.setCell ph k2 W7 (.pointer (some ⟨b', 0, none⟩))
              obtain ⟨hst, At, ct, hvt⟩ := owns_slAt (owns_but (HS6.out.own k hk) hb8 HS6.out.hrow (by decide))
              rw [hvt] at hst
              have gt8 : (W7.setCell ⟨ph, k2, none⟩ (.pointer (some ⟨b', 0, none⟩))).cell? ⟨pk, k, none⟩ = some (.slice At (ts.getD k []).length ct) := by rw [← hvt]; exact htr8.cell k _ (vs_get vs k (by rw [HS6.out.lv]; exact hk))
              have HST : Hid (SlAt (W7.setCell ⟨ph, k2, none⟩ (.pointer (some ⟨b', 0, none⟩))) (.slice At (ts.getD k []).length ct) (ts.getD k [])) := hst
              have HTR : Hid (Row (W7.setCell ⟨ph, k2, none⟩ (.pointer (some ⟨b', 0, none⟩))) pk vs 49) := htr8
              have hW8 := hW6.setCell (p := ⟨ph, k2, none⟩) (by simpa using hph) (.pointer (some ⟨b', 0, none⟩))
              clear hst hvt htr8 hb8 g926
              go_wp2_with fail
              refine (twin_k (ts.getD k []) (ts.getD k []).length rfl (by omega) At ct _ HST.out).mono ?_
              rintro e W9 ⟨g3, rfl, hg3, R3, hB9⟩
              have htr9 := HTR.out.below hB9 HTR.out.lt
              have gt9 := htr9.cell k2 _ (vs_get vs k2 (by rw [HS6.out.lv]; exact hk2))
              have gtf9 := htr9.thaw k2
              have hW9 := hW8.trans (hB9.mono hW8.size)
              have HT : Hid (St4 (W9.setCell ⟨pk, k2, none⟩ (.slice (some ⟨g3, 0, none⟩) (ts.getD k []).length (ts.getD k []).length)) _ _ _ _ _ _) := HS3.out.hang k2 hk2 b' (ts.getD k []) (.slice (some ⟨g3, 0, none⟩) (ts.getD k []).length (ts.getD k []).length) hW3.size HB6.out hb' HH6.out W9 hB9 (row_owns (Nat.le_trans hW8.size hg3) rfl (by omega) R3)
              clear htr9 hB9 R3 gt8
              go_wp2
              exact ⟨⟨t + 1, _, _, _, hlt, by go_num, hW9.setCell (by simpa using hpk) _, HT, len_set ts k2 _ _ _ HS3.out.lt hk2 hM.out (by rw [HSUM.out]; omega) (Nat.le_trans (hM.out k hk) (by rw [HSUM.out]; omega))⟩, by simp [intOf]; omega⟩
            by_cases hk5 : o.kind = 5
            · rw [hk5] at g90
              clear hk1 hk2 hk3 hk4 hk5
              have gh := HS3.out.hcell k hk
              have HH : Hid (HAt W5 (bs.getD k 0) (ts.getD k [])) := HS3.out.hat k hk
              have hlk : (ts.getD k []).length ≤ 1048576 := by have h1 := hM.out k hk; have h2 := HSUM.out; have h3 := HLE.out; omega
              go_wp2_with (go_at_call 34; refine (reset_any (ts.getD k []) (bs.getD k 0) W5 HH.out).mono ?_; rintro e W6 ⟨rfl, hH6, hB6⟩; (obtain ⟨htr, At, ct, g6, _⟩ := HS3.out.tcell_but k hk hB6); (have gf6 := htr.thaw k); (have HT : Hid _ := HS3.out.turn k hk [] (.slice none 0 0) hB6 hH6 (World.ownsRow_nil _ _ _ _)); (have hW6 := But.below hW3 hB6 (HS3.out.low.2.2 k hk) hW3.size); clear htr hB6 hH6)
              have hpk := HS3.out.low.2.1
              exact ⟨⟨t + 1, bs, ts.set k [], vs.set k (.slice none 0 0), hlt, by go_num, hW6.setCell (by simpa using hpk) _, HT, len_set ts k [] _ _ HS3.out.lt hk hM.out (by rw [HSUM.out]; omega) (by simp)⟩, by simp [intOf]; omega⟩
            by_cases hk6 : o.kind = 6
            · rw [hk6] at g90
              clear hk1 hk2 hk3 hk4 hk5 hk6
              have hpk := HS3.out.low.2.1
              have hph := HS3.out.low.1
              go_wp2_with fail
              refine (new_any W5).mono ?_
              rintro e W6 ⟨b', rfl, hb', hH6, hB6⟩
              have S6 := HS3.out.below hB6 (Nat.le_refl _)
              have gh6 := S6.hcell k hk
              have gf6 := S6.hrow.thaw k
              have hne : ph ≠ pk := S6.hrow.ne S6.trow (by decide)
              have htr7 : Row (W6.setCell ⟨ph, k, none⟩ (.pointer (some ⟨b', 0, none⟩))) pk vs 49 := S6.trow.set_other _ _ _ (Ne.symm hne)
              have gt7 := htr7.cell k _ (vs_get vs k (by rw [S6.lv]; exact hk))
              have gtf7 := htr7.thaw k
              have hW6 := hW3.trans (hB6.mono hW3.size)
              have HT : Hid (St4 ((W6.setCell ⟨ph, k, none⟩ (.pointer (some ⟨b', 0, none⟩))).setCell ⟨pk, k, none⟩ (.slice none 0 0)) _ _ _ _ _ _) := HS3.out.hang k hk b' [] (.slice none 0 0) hW3.size hB6 hb' hH6 _ (Below.refl _ _) (World.ownsRow_nil _ _ _ _)
              clear htr7 hB6 hH6 S6
              go_wp2
              exact ⟨⟨t + 1, bs.set k b', ts.set k [], vs.set k (.slice none 0 0), hlt, by go_num, (hW6.setCell (by simpa using hph) _).setCell (by simpa using hpk) _, HT, len_set ts k [] _ _ HS3.out.lt hk hM.out (by rw [HSUM.out]; omega) (by simp)⟩, by simp [intOf]; omega⟩
            go_wp2
            exact ⟨⟨t + 1, bs, ts, vs, hlt, by go_num, hW3, HS3, fun j hj => Nat.le_trans (hM.out j hj) (by rw [HSUM.out]; omega)⟩, by simp [intOf]; omega⟩
          · have e0 : (t : Int) = (n : Int) := by omega
            have HM : Hid (∀ j, j < 4 → (ts.getD j []).length ≤ 1048576) := fun j hj => Nat.le_trans (hM.out j hj) (Nat.le_trans (flat_le os t) HFEW.out)
            rw [e0]
            clear hM e0 ht hlt
            go_wp2
            go_loopw [20, 21, 22, 23, 24] (fun i _ _ _ _ w' => ∃ s : Nat, s ≤ 4 ∧ i = .int .i64 (s : Int) ∧ Below w.heap.size w w' ∧ Hid (St4 w' w.heap.size ph pk bs ts vs))
              (fun i _ _ _ _ _ => 4 - (intOf i).toNat)
            case atStart => exact ⟨0, by omega, rfl, hb, hS⟩
            case round =>
              clear hb hS
              obtain ⟨s, hs, rfl, hb, hS⟩ := hrel
              by_cases hlt : s < 4
              · have gh := hS.out.hcell s hlt
                have HH : Hid (HAt wr (bs.getD s 0) (ts.getD s [])) := hS.out.hat s hlt
                have hlk := HM.out s hlt
                obtain ⟨x, hx⟩ : ∃ x, x = dig (ts.getD s []) := ⟨_, rfl⟩
                have Hx : Hid (x = dig (ts.getD s [])) := hx
                have Lx : x.length = 32 := by rw [hx]; exact dig_length _
                clear hx
                have Ix : (Tryd.prog.info? 26).map (·.size) = some (vB x).toArray.size := by rw [info_dig]; simp [vB_length, Lx]
                have Jx : (Tryd.prog.info? 26).map (·.size) = some (vB x).length := by rw [info_dig, vB_length, Lx]
                have Ox := all_oneCell_toArray (vB_one x)
                have Kx : Hid (x.length = 32) := Lx
                clear Lx
                go_wp2_with (go_at_call 31; refine (len_any (ts.getD s []) (bs.getD s 0) wr HH.out).mono ?_; rintro e wr ⟨rfl, rfl⟩)
                refine (hsum_d (ts.getD s []) x Hx.out (by omega) (bs.getD s 0) wr (HG.out.low hb).cub HH.out).mono ?_
                rintro e v6 ⟨rfl, hD6⟩
                obtain ⟨hS6, R22⟩ := digest_laid x Kx.out hD6
                have T6 := digest_there v6 x Kx.out
                have hW6 := hb.trans (hS6.mono hb.size)
                have S6 := hS.out.below hS6 (Nat.le_refl _)
                have HS6 : Hid _ := S6
                have gh6 := S6.hcell s hlt
                have HH6 : Hid (HAt _ (bs.getD s 0) (ts.getD s [])) := S6.hat s hlt
                clear S6 gh
                clear hD6 hS6 hb
                go_wp2_with (first
                  | (refine wpList_store_mid rfl 26 (.tmp 22) (.tmp 167) rfl v6.heap.size 0 (vB x).toArray rfl rfl T6 Ix Ox ?_; simp only [Act.put]; (change wpList _ _ _ _ _ (World.setCells (v6.alloc (Obj.cells (vB (List.replicate 32 0#8)).toArray 26)) v6.heap.size 0 (vB x))); clear T6; (generalize World.setCells (v6.alloc (Obj.cells (vB (List.replicate 32 0#8)).toArray 26)) v6.heap.size 0 (vB x) = W6 at *); (generalize v6.heap.size = p22 at *); clear v6))
                refine (hsum_d (ts.getD s []) x Hx.out (by omega) (bs.getD s 0) W6 (HG.out.low hW6).cub HH6.out).mono ?_
                rintro e v7 ⟨rfl, hD7⟩
                obtain ⟨hS7, R23⟩ := digest_laid x Kx.out hD7
                have T7 := digest_there v7 x Kx.out
                have hW7 := hW6.trans (hS7.mono hW6.size)
                replace R22 := Row.below R22 hS7 (Row.lt R22)
                have S7 := HS6.out.below hS7 (Nat.le_refl _)
                have HS7 : Hid _ := S7
                obtain ⟨At, ct, hvt, gt, hst⟩ := S7.tcell s hlt
                have HST : Hid (SlAt _ _ _) := hst
                clear S7 hst hvt gh6
                clear hD7 hS7 hW6
                go_wp2_with (first
                  | (refine wpList_store_mid rfl 26 (.tmp 23) (.tmp 171) rfl v7.heap.size 0 (vB x).toArray rfl rfl T7 Ix Ox ?_; simp only [Act.put]; (change wpList _ _ _ _ _ (World.setCells (v7.alloc (Obj.cells (vB (List.replicate 32 0#8)).toArray 26)) v7.heap.size 0 (vB x))); clear T7; (generalize World.setCells (v7.alloc (Obj.cells (vB (List.replicate 32 0#8)).toArray 26)) v7.heap.size 0 (vB x) = W7 at *); (generalize v7.heap.size = p23 at *); clear v7))
                refine (rsum_any (ts.getD s []) x Hx.out (by omega) _ W7 HST.out (HG.out.low hW7)).mono ?_
                rintro e v8 ⟨rfl, hD8⟩
                obtain ⟨hS8, R24⟩ := digest_laid x Kx.out hD8
                have T8 := digest_there v8 x Kx.out
                have hW8 := hW7.trans (hS8.mono hW7.size)
                replace R22 := Row.below R22 hS8 (Row.lt R22)
                replace R23 := Row.below R23 hS8 (Row.lt R23)
                have S8 := HS7.out.below hS8 (Nat.le_refl _)
                have HS8 : Hid _ := S8
                obtain ⟨At8, ct8, hvt8, gt8, _⟩ := S8.tcell s hlt
                clear S8 hvt8 gt
                clear hD8 hS8 hW7
                go_wp2_with (first
                  | (refine wpList_store_mid rfl 26 (.tmp 24) (.tmp 175) rfl v8.heap.size 0 (vB x).toArray rfl rfl T8 Ix Ox ?_; simp only [Act.put]; (change wpList _ _ _ _ _ (World.setCells (v8.alloc (Obj.cells (vB (List.replicate 32 0#8)).toArray 26)) v8.heap.size 0 (vB x))); clear T8; (generalize World.setCells (v8.alloc (Obj.cells (vB (List.replicate 32 0#8)).toArray 26)) v8.heap.size 0 (vB x) = W8 at *); (generalize v8.heap.size = p24 at *); clear v8)
                  | (refine wpList_load_w rfl 26 (.tmp 22) rfl p22 0 rfl (vB x) _ R22.all Tryd.underlying26 rfl Jx ?_; simp only [Act.put, List.setIfInBounds_toArray, List.set_cons_zero, List.set_cons_succ])
                  | (refine wpList_load_w rfl 26 (.tmp 23) rfl p23 0 rfl (vB x) _ R23.all Tryd.underlying26 rfl Jx ?_; simp only [Act.put, List.setIfInBounds_toArray, List.set_cons_zero, List.set_cons_succ])
                  | (refine wpList_load_w rfl 26 (.tmp 24) rfl p24 0 rfl (vB x) _ R24.all Tryd.underlying26 rfl Jx ?_; simp only [Act.put, List.setIfInBounds_toArray, List.set_cons_zero, List.set_cons_succ])
                  | (refine wpList_neq_same rfl 26 (.tmp 183) (.tmp 184) 26 rfl 5 32 x rfl rfl Tryd.underlying26 Tryd.underlying5 info_u8 Kx.out guard_dig ?_; simp only [Act.put, List.setIfInBounds_toArray, List.set_cons_zero, List.set_cons_succ])
                  | (refine wpList_neq_same rfl 26 (.tmp 188) (.tmp 189) 26 rfl 5 32 x rfl rfl Tryd.underlying26 Tryd.underlying5 info_u8 Kx.out guard_dig ?_; simp only [Act.put, List.setIfInBounds_toArray, List.set_cons_zero, List.set_cons_succ]))
                exact ⟨⟨s + 1, by omega, by go_num, hW8, HS8⟩, by simp [intOf]; omega⟩
              · have e4 : (s : Int) = 4 := by omega
                rw [e4]
                clear hs hlt e4
                go_wp2
                go_ret
                exact ⟨rfl, hb⟩

end Go.Proofs.YtihigbkanbabeaaDoor
