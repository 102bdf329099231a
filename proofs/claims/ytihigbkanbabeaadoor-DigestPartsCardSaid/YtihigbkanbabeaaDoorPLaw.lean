/-
  The law DigestParts.
-/
import Derived.Test.YtihigbkanbabeaaDoorPLaw0
namespace Go.Proofs.YtihigbkanbabeaaDoor
open Go Go.RowKit
open Sha

set_option maxRecDepth 100000 in
set_option maxHeartbeats 4000000 in
theorem parts_walk (A : Option Addr) (n cap : Nat) (ps : List (List (BitVec 8))) (vs : List Value) (w : World) (hI : Ins w A n ps vs) (hn : n * 24 ≤ 140737488351232) (hp : ∀ i, i < n → (ps.getD i []).length ≤ 140737488351232) (hG : Given w) :
    Calls Tryd.prog 4 #[.slice A n cap] w fun e w' => e = .returned (.bool true) ∧ Below w.heap.size w w' := by
  have hj := fun (W : World) (h : Ins W A n ps vs) (hp : ps.flatten.length ≤ 1048576) => joined_any A n cap ps vs W h (by omega) hp
  obtain ⟨F, hF⟩ : ∃ F, F = ps.flatten := ⟨_, rfl⟩
  rw [← hF] at hj
  have HJ : Hid _ := hj
  have HFF : Hid (F = ps.flatten) := hF
  have HMO : Hid ((ps.map oth).length = n) := by show _ = _; rw [List.length_map, hI.num]
  have HMP : Hid (∀ i, i < n → ((ps.map oth).getD i []).length = (ps.getD i []).length) := by
    intro i hi
    have h0 := hI.num
    rw [List.getD_eq_getElem?_getD, List.getElem?_map, List.getD_eq_getElem?_getD, List.getElem?_eq_getElem (by omega)]
    exact oth_length _
  clear hj hF
  obtain ⟨x, hx⟩ : ∃ x, x = dig F := ⟨_, rfl⟩
  have Hx0 : Hid (x = dig F) := hx
  have Hx : Hid (x = dig ps.flatten) := by show _ = _; rw [← HFF.out]; exact hx
  have Lx : x.length = 32 := by rw [hx]; exact dig_length _
  have Ix : (Tryd.prog.info? 26).map (·.size) = some (vB x).toArray.size := by rw [info_dig]; simp [vB_length, Lx]
  have Jx : (Tryd.prog.info? 26).map (·.size) = some (vB x).length := by rw [info_dig, vB_length, Lx]
  have Ox := all_oneCell_toArray (vB_one x)
  have Kx : Hid (x.length = 32) := Lx
  clear Lx
  obtain ⟨y, hy⟩ : ∃ y, y = dig (oth F) := ⟨_, rfl⟩
  have Hy : Hid (y = dig (oth F)) := hy
  have Hy2 : Hid (y = dig (ps.map oth).flatten) := by show _ = _; rw [oth_flat, ← HFF.out]; exact hy
  have Ly : y.length = 32 := by rw [hy]; exact dig_length _
  have Iy : (Tryd.prog.info? 26).map (·.size) = some (vB y).toArray.size := by rw [info_dig]; simp [vB_length, Ly]
  have Jy : (Tryd.prog.info? 26).map (·.size) = some (vB y).length := by rw [info_dig, vB_length, Ly]
  have Oy := all_oneCell_toArray (vB_one y)
  have Ky : Hid (y.length = 32) := Ly
  clear Ly
  obtain ⟨z, hz⟩ : ∃ z, z = dig [] := ⟨_, rfl⟩
  have Hz : Hid (z = dig []) := hz
  have Lz : z.length = 32 := by rw [hz]; exact dig_length _
  have Iz : (Tryd.prog.info? 26).map (·.size) = some (vB z).toArray.size := by rw [info_dig]; simp [vB_length, Lz]
  have Jz : (Tryd.prog.info? 26).map (·.size) = some (vB z).length := by rw [info_dig, vB_length, Lz]
  have Oz := all_oneCell_toArray (vB_one z)
  have Kz : Hid (z.length = 32) := Lz
  clear Lz
  clear hx hy hz
  have HI : Hid (Ins w A n ps vs) := hI
  have HP : Hid _ := hp
  have HG : Hid (Given w) := hG
  have HNUM : Hid (ps.length = n) := hI.num
  clear hI hp hG
  go_enter Tryd.func4, Tryd.ntmps4
  go_wp2_with fail
  refine (awake_any w HG.out.cub).mono ?_
  rintro e W1 ⟨rfl, hW1⟩
  go_wp2_with fail
  refine (small_any A n cap ps vs W1 (HI.out.low hW1) (by omega) HP.out).mono ?_
  rintro e W0 ⟨bb, rfl, hE, hfew⟩
  obtain rfl : W0 = W1 := hE
  cases bb with
  | false =>
    go_wp2
    go_ret
    exact ⟨rfl, hW1⟩
  | true =>
    have HFEW : Hid (ps.flatten.length ≤ 1048576) := hfew rfl
    clear hfew
    obtain ⟨gm, hgm⟩ : ∃ gm, gm = W0.heap.size := ⟨_, rfl⟩
    obtain ⟨nl, hnl⟩ : ∃ nl, nl = Value.slice none 0 0 := ⟨_, rfl⟩
    have Rm0 : Row (W0.alloc (.cells (List.replicate (n + 8) (Value.slice none 0 0)).toArray 22)) gm (mL [] (ps.take 0) ++ List.replicate (n + 8 - 0) nl) 22 := by rw [hnl]; exact Row.new' hgm rfl
    have hW2 : Below w.heap.size w (W0.alloc (.cells (List.replicate (n + 8) (Value.slice none 0 0)).toArray 22)) := hW1.alloc hW1.size _
    have hgw : w.heap.size ≤ gm := by rw [hgm]; exact hW1.size
    have hs2 : gm + 1 ≤ (W0.alloc (.cells (List.replicate (n + 8) (Value.slice none 0 0)).toArray 22)).heap.size := by rw [hgm]; simp
    have HNL : Hid (nl = Value.slice none 0 0) := hnl
    clear hnl hW1
    go_wp2_with (refine wpList_make_sl rfl 30 (.tmp 29) (.tmp 29) rfl 22 (n + 8) _ _ (by omega) (by omega) rfl rfl (by omega) Tryd.underlying30 info_all_slb ?_; simp only [Act.put, List.setIfInBounds_toArray, List.set_cons_zero, List.set_cons_succ]; rw [← hgm]; clear hgm; (generalize W0.alloc (.cells (List.replicate (n + 8) (Value.slice none 0 0)).toArray 22) = W2 at *); clear W0)
    go_loopw [5, 7, 8] (fun vo i _ wr => ∃ (t : Nat) (gs : List Nat), t ≤ n ∧ i = .int .i64 (t : Int) ∧ Below w.heap.size w wr ∧ gm + 1 ≤ wr.heap.size ∧ wr.ownsRow (gm + 1) 22 1 vo t (oL gs (ps.take t)) ∧ Row wr gm (mL gs (ps.take t) ++ List.replicate (n + 8 - t) nl) 22 ∧ Lent wr (gm + 1) gs (ps.take t))
      (fun _ i _ _ => n - (intOf i).toNat)
    case atStart => exact ⟨0, [], by omega, rfl, hW2, hs2, World.ownsRow_nil _ _ _ _, Rm0, ⟨rfl, fun i hi => by simp at hi, fun i hi => by simp at hi, fun i j _ hj => by simp at hj⟩⟩
    case round =>
      clear hW2 hs2 Rm0
      obtain ⟨t, gs, ht, rfl, hb, hsz, hown, Rm, hL⟩ := hrel
      by_cases hlt : t < n
      · obtain ⟨pb, po, A', c', hA, gz, hS, _⟩ := (HI.out.low hb).one t hlt
        subst hA
        obtain ⟨q, hq⟩ : ∃ q, q = ps.getD t [] := ⟨_, rfl⟩
        have HQ : Hid (ps.take (t + 1) = ps.take t ++ [q]) := by show _ = _; rw [hq]; exact take_one ps t (by rw [HNUM.out]; exact hlt)
        have HQ0 : Hid (q = ps.getD t []) := hq
        have hql : q.length ≤ 140737488351232 := by rw [hq]; exact HP.out t hlt
        rw [← hq] at gz hS
        have HTL : Hid ((ps.take t).length = t) := by show _ = _; rw [List.length_take, HNUM.out]; omega
        obtain ⟨pt, hpt⟩ : ∃ pt, pt = ps.take t := ⟨_, rfl⟩
        rw [← hpt] at hown Rm hL
        have HPT : Hid (pt = ps.take t) := hpt
        have HS : Hid (SlAt wr (.slice A' q.length c') q) := hS
        have HOWN : Hid _ := hown
        have HRM : Hid (Row wr gm (mL gs pt ++ List.replicate (n + 8 - t) nl) 22) := Rm
        have HL : Hid (Lent wr (gm + 1) gs pt) := hL
        clear hq hpt hS hown Rm hL
        go_wp2_with fail
        refine (lent_x q hql A' c' wr HS.out).mono ?_
        rintro e W4 ⟨g, rfl, hg, hr, hB4⟩
        have hb4 := hb.trans (hB4.mono hb.size)
        have hsz4 : gm + 1 ≤ W4.heap.size := Nat.le_trans hsz hB4.size
        have HOWN4 : Hid _ := ownsRow_below HOWN.out hB4 (Nat.le_refl _)
        have HRM4 : Hid (Row W4 gm (mL gs pt ++ List.replicate (n + 8 - t) nl) 22) := Row.below HRM.out hB4 (Row.lt HRM.out)
        have HL4 : Hid (Lent W4 (gm + 1) (gs ++ [g]) (pt ++ [q])) := HL.out.more hB4 hsz hg hr
        have HGL : Hid (gs.length = pt.length) := HL.out.len
        have HML : Hid ((mL gs pt).length = t) := by show _ = _; rw [mL_length gs pt HL.out.len, HPT.out]; exact HTL.out
        clear hr hg HS HOWN HRM HL gz hB4 hb
        go_wp2_with (first
          | (refine wpList_append_one rfl (.tmp 42) (.tmp 44) rfl W4 (gm + 1) _ (.slice (some ⟨g, 0, none⟩) (q.length + 80) (q.length + 80)) t (oL gs pt) HOWN4.out rfl rfl rfl (by omega) hsz4 ?_; intro v5 W5 ho5 hB5 hk5; (have hb5 := hb4.trans (hB5.mono (by omega))); (obtain ⟨pb5, po5, A5, c5, hA5, gz5, _, _⟩ := (HI.out.low hb5).one t hlt); (simp only [Option.some.injEq, Addr.mk.injEq] at hA5); (obtain ⟨rfl, rfl, _⟩ := hA5); (rw [← HQ0.out] at gz5); (have Rm5 := Row.below HRM4.out hB5 (Nat.lt_succ_self gm)); (have gm5 := Rm5.cell t nl (mine_get (mL gs pt) nl t (n + 8) HML.out (by omega))); (have gf5 := Rm5.thaw t); (have HRM5 : Hid (Row W5 gm (mL gs pt ++ List.replicate (n + 8 - t) nl) 22) := Rm5); (have HO5 : Hid _ := ho5); (have HK5 : Hid (Lent W5 (gm + 1) (gs ++ [g]) (pt ++ [q])) := HL4.out.map (fun b cs h => hk5 b cs _ h (by decide))); (have hsz5 := Nat.le_trans hsz4 hB5.size); clear Rm5 ho5 hk5 hB5 HOWN4 HRM4 HL4 hb4; simp only [Act.put, List.setIfInBounds_toArray, List.set_cons_zero, List.set_cons_succ])
          | (refine wpList_slice_k rfl 22 (.tmp 48) (.tmp 53) rfl 5 g (q.length + 80) (q.length + 80) q.length _ rfl rfl rfl (by omega) Tryd.underlying22 info_u8 ?_; simp only [Act.put, List.setIfInBounds_toArray, List.set_cons_zero, List.set_cons_succ]))
        refine ⟨⟨t + 1, gs ++ [g], hlt, by go_num, hb5.setCell (by simpa using hgw) _, by simpa [World.setCell] using hsz5, ?_, ?_, ?_⟩, by simp [intOf]; omega⟩
        · rw [HQ.out, ← HPT.out, oL_more gs pt g q HGL.out]
          exact ownsRow_setCell HO5.out _ _ _ (Nat.lt_succ_self gm)
        · rw [HQ.out, ← HPT.out, mL_more gs pt g q HGL.out]
          have := HRM5.out.set t (mv g q.length)
          rw [mine_fill (mL gs pt) _ nl t (n + 8) HML.out (by omega)] at this
          exact this
        · rw [HQ.out, ← HPT.out]
          exact HK5.out.set _ _ _ HRM5.out (by decide)
      · have et : t = n := by omega
        have e0 : (t : Int) = (n : Int) := by omega
        have hpn : ps.take t = ps := List.take_of_length_le (by rw [HNUM.out]; omega)
        rw [hpn] at hown Rm hL
        rw [et] at hown Rm
        rw [e0]
        rw [show n + 8 - n = 8 by omega] at Rm
        clear et e0 hpn hlt ht
        have HGL : Hid (gs.length = ps.length) := hL.len
        have HML : Hid ((mL gs ps).length = n) := by show _ = _; rw [mL_length gs ps hL.len, HNUM.out]
        obtain ⟨wq, rfl⟩ : ∃ wq, wq = wr := ⟨_, rfl⟩
        have kc := Lib.run_convert_bytes_const (P := Tryd.prog) wq 22 5 #[Value.int IntKind.u8 109, Value.int IntKind.u8 97, Value.int IntKind.u8 114, Value.int IntKind.u8 107] 4 4 Tryd.underlying22 Tryd.underlying5
        have HOWN : Hid _ := hown
        have HRM : Hid (Row wq gm (mL gs ps ++ List.replicate 8 nl) 22) := Rm
        have HL : Hid (Lent wq (gm + 1) gs ps) := hL
        have HBQ : Hid (Below w.heap.size w wq) := hb
        clear hown Rm hL hb
        go_wp2
        go_loopw [10] (fun i w' => ∃ s : Nat, s ≤ 8 ∧ i = .int .i64 ((n : Int) + (s : Int)) ∧ Below w.heap.size w w' ∧ gm + 1 ≤ w'.heap.size ∧ Hid (w'.ownsRow (gm + 1) 22 1 u5 n (oL gs ps)) ∧ Row w' gm (mL gs ps ++ (List.replicate s (Value.slice (some ⟨wq.heap.size, 0, none⟩) 4 4) ++ List.replicate (8 - s) nl)) 22 ∧ Hid (Lent w' (gm + 1) gs (ps)) ∧ Hid (w'.rangeAt wq.heap.size 0 (vB mk4)))
          (fun i _ => n + 8 - (intOf i).toNat)
        case atStart =>
          have hal : ∀ o, Below wq.heap.size wq (wq.alloc o) := fun o => (Below.refl _ _).alloc (Nat.le_refl _) _
          exact ⟨0, by omega, by simp, HBQ.out.alloc HBQ.out.size _, by simp; omega, ownsRow_below HOWN.out (hal _) (Nat.le_refl _), Row.alloc HRM.out _, HL.out.below (hal _) (Nat.le_refl _), range_mark wq _⟩
        case round =>
          clear HOWN HRM HL HBQ kc
          obtain ⟨s, hs, rfl, hb, hsz2, hO, Rm, hL, hM⟩ := hrel
          by_cases hlt : s < 8
          · have g := Rm.cell (n + s) nl (mine_nl _ _ _ _ _ HML.out hlt)
            have gf := Rm.thaw (n + s)
            go_wp2
            refine ⟨⟨s + 1, by omega, by go_num, hb.setCell (by simpa using hgw) _, by simpa [World.setCell] using hsz2, ownsRow_setCell hO.out _ _ _ (Nat.lt_succ_self gm), ?_, hL.out.set _ _ _ Rm (by decide), range_setCell hM.out _ _ _ (by omega)⟩, by simp [intOf]; omega⟩
            have := Rm.set (n + s) (Value.slice (some ⟨wq.heap.size, 0, none⟩) 4 4)
            rw [mine_set _ _ _ _ _ HML.out hlt] at this
            exact this
          · have es : s = 8 := by omega
            have e8 : (n : Int) + (s : Int) = (n : Int) + 8 := by omega
            rw [es] at Rm
            rw [e8]
            have Rm8 : Row wr gm (mL gs ps ++ List.replicate 8 (Value.slice (some ⟨wq.heap.size, 0, none⟩) 4 4)) 22 := by simpa using Rm
            have hra := row_front Rm8
            have HRA : Hid _ := hra
            clear Rm hra es e8 hs hlt
            go_wp2_with (refine wpList_slice_k rfl 30 (.tmp 70) (.tmp 72) rfl 22 gm (n + 8) (n + 8) n _ rfl rfl rfl (by omega) Tryd.underlying30 info_slb ?_; simp only [Act.put, List.setIfInBounds_toArray, List.set_cons_zero, List.set_cons_succ])
            refine (parts_lent ps ps gs n (gm + 1) gm (n + 8) x Hx.out HNUM.out HNUM.out (fun _ _ => rfl) (by have := HFEW.out; omega) (by omega) wr (HG.out.low hb).cub hL.out HRA.out).mono ?_
            rintro e v11 ⟨rfl, hD11⟩
            obtain ⟨hS11, R11⟩ := digest_laid x Kx.out hD11
            have T11 := digest_there v11 x Kx.out
            have hW11 := hb.trans (hS11.mono hb.size)
            replace Rm8 := Row.below Rm8 hS11 (Row.lt Rm8)
            replace hO := ownsRow_below hO.out hS11 (Nat.le_refl _)
            replace hL := Lent.below hL.out hS11 (Nat.le_refl _)
            replace hM := range_below hM.out hS11 (Nat.le_refl _)
            replace hsz2 := Nat.le_trans hsz2 hS11.size
            have HO : Hid _ := hO
            have HL : Hid (Lent _ _ _ _) := hL
            have HM : Hid (World.rangeAt _ _ _ _) := hM
            clear hO hL hM
            clear hD11 hS11 hb
            go_wp2_with (first
              | (refine wpList_store_mid rfl 26 (.tmp 11) (.tmp 74) rfl v11.heap.size 0 (vB x).toArray rfl rfl T11 Ix Ox ?_; simp only [Act.put]; (change wpList _ _ _ _ _ (World.setCells (v11.alloc (Obj.cells (vB (List.replicate 32 0#8)).toArray 26)) v11.heap.size 0 (vB x))); clear T11; (generalize World.setCells (v11.alloc (Obj.cells (vB (List.replicate 32 0#8)).toArray 26)) v11.heap.size 0 (vB x) = W11 at *); (generalize v11.heap.size = p11 at *); clear v11))
            go_loopw [12, 13] (fun i _ w' => ∃ t : Nat, t ≤ n ∧ i = .int .i64 (t : Int) ∧ Below w.heap.size w w' ∧ gm + 1 ≤ w'.heap.size ∧ Hid (w'.ownsRow (gm + 1) 22 1 u5 n (oL gs ps)) ∧ Row w' gm (mL gs ps ++ List.replicate 8 (Value.slice (some ⟨wq.heap.size, 0, none⟩) 4 4)) 22 ∧ Hid (Lent w' (gm + 1) gs (ps)) ∧ Hid (w'.rangeAt wq.heap.size 0 (vB mk4)) ∧ Row w' p11 (vB x) 26)
              (fun i _ _ => n - (intOf i).toNat)
            case atStart => exact ⟨0, by omega, rfl, hW11, hsz2, HO, Rm8, HL, HM, R11⟩
            case round =>
              clear hW11 hsz2 HO Rm8 HL HM R11
              obtain ⟨t, ht, rfl, hb, hsz2, hO, Rm, hL, hM, R11⟩ := hrel
              by_cases hlt : t < n
              · obtain ⟨pb, po, A', c', hA, gz, hS, _⟩ := (HI.out.low hb).one t hlt
                subst hA
                obtain ⟨go, co, hu5, gcell⟩ := owns_cell hO.out t _ (oL_get gs ps t HGL.out (by rw [HNUM.out]; exact hlt))
                subst hu5
                have gmine := Rm.cell t _ (by rw [List.getElem?_append_left (by rw [HML.out]; exact hlt)]; exact mL_get gs ps t HGL.out (by rw [HNUM.out]; exact hlt))
                have Rg := hL.out.row t (by rw [HGL.out, HNUM.out]; exact hlt)
                have hql := HP.out t hlt
                generalize ps.getD t [] = q at *
                generalize gs.getD t 0 = g at *
                have HRG : Hid (Row wr g (vB (q ++ marks)) 5) := Rg
                have HS : Hid (SlAt wr (.slice A' q.length c') q) := hS
                have HMV : Hid (SlAt wr (mv g q.length) q) := mv_slAt rfl Rg
                unfold ov at gcell
                unfold mv at gmine HMV
                clear Rg hS
                go_wp2
                go_quiet (first | (go_at_call 12; exact (kept_any q hql g A' c' (wr.drewN _) (Row.drewN HRG.out _) (SlAt.drewN HS.out _)).mono (fun _ _ h => ⟨h.1, _, h.2⟩)))
                go_wp2
                go_quiet (first | (go_at_call 17; exact (same_any q _ _ (wr.drewN _) (SlAt.drewN HMV.out _) (SlAt.drewN HS.out _)).mono (fun _ _ h => ⟨h.1, _, h.2⟩)))
                go_wp2
                exact ⟨⟨t + 1, hlt, by go_num, below_drewN hb _, hsz2, ownsRow_drewN hO.out _, Rm.drewN _, hL.out.drewN _, range_drewN hM.out _, R11.drewN _⟩, by simp [intOf]; omega⟩
              · have e0 : (t : Int) = (n : Int) := by omega
                rw [e0]
                clear ht hlt e0
                go_wp2
                go_loopw [14] (fun i w' => ∃ s : Nat, s ≤ 8 ∧ i = .int .i64 ((n : Int) + (s : Int)) ∧ Below w.heap.size w w' ∧ gm + 1 ≤ w'.heap.size ∧ Hid (w'.ownsRow (gm + 1) 22 1 u5 n (oL gs ps)) ∧ Row w' gm (mL gs ps ++ List.replicate 8 (Value.slice (some ⟨wq.heap.size, 0, none⟩) 4 4)) 22 ∧ Hid (Lent w' (gm + 1) gs (ps)) ∧ Hid (w'.rangeAt wq.heap.size 0 (vB mk4)) ∧ Row w' p11 (vB x) 26)
                  (fun i _ => n + 8 - (intOf i).toNat)
                case atStart => exact ⟨0, by omega, by simp, hb, hsz2, hO, Rm, hL, hM, R11⟩
                case round =>
                  clear hb hsz2 hO Rm hL hM R11
                  obtain ⟨s, hs, rfl, hb, hsz2, hO, Rm, hL, hM, R11⟩ := hrel
                  by_cases hlt : s < 8
                  · have gmine := Rm.cell (n + s) (Value.slice (some ⟨wq.heap.size, 0, none⟩) 4 4) (mine_mark _ _ _ _ HML.out hlt)
                    have HMK : Hid (SlAt wr (Value.slice (some ⟨wq.heap.size, 0, none⟩) 4 4) mk4) := .inr ⟨wq.heap.size, 0, 4, rfl, by decide, hM.out⟩
                    go_wp2_with (go_at_call 17; refine (same_any mk4 _ _ wr HMK.out HMK.out).mono ?_; rintro e wr ⟨rfl, rfl⟩)
                    exact ⟨⟨s + 1, by omega, by go_num, hb, hsz2, hO, Rm, hL, hM, R11⟩, by simp [intOf]; omega⟩
                  · have e8 : (n : Int) + (s : Int) = (n : Int) + 8 := by omega
                    rw [e8]
                    clear hs hlt e8
                    go_wp2
                    go_loopw [15] (fun i w' => ∃ t : Nat, t ≤ n ∧ i = .int .i64 (t : Int) ∧ Below w.heap.size w w' ∧ gm + 1 ≤ w'.heap.size ∧ Hid (w'.ownsRow (gm + 1) 22 1 u5 n (oL gs ps)) ∧ Row w' gm (mL gs ps ++ List.replicate 8 (Value.slice (some ⟨wq.heap.size, 0, none⟩) 4 4)) 22 ∧ Hid (Lent w' (gm + 1) gs (turnT ps t)) ∧ Row w' p11 (vB x) 26)
                      (fun i _ => n - (intOf i).toNat)
                    case atStart => exact ⟨0, by omega, rfl, hb, hsz2, hO, Rm, by simpa [turnT] using hL, R11⟩
                    case round =>
                      clear hb hsz2 hO Rm hL hM R11
                      obtain ⟨t, ht, rfl, hb, hsz2, hO, Rm, hL, R11⟩ := hrel
                      by_cases hlt : t < n
                      · obtain ⟨pb, po, A', c', hA, gz, hS, _⟩ := (HI.out.low hb).one t hlt
                        subst hA
                        obtain ⟨go, co, hu5, gcell⟩ := owns_cell hO.out t _ (oL_get gs ps t HGL.out (by rw [HNUM.out]; exact hlt))
                        subst hu5
                        have hgl : t < gs.length := by rw [HGL.out, HNUM.out]; exact hlt
                        have Rg := hL.out.row t hgl
                        have HLW : Hid (∀ W', Lent W' (gm + 1) gs (turnT ps t) → Lent (W'.setCells (gs.getD t 0) 0 (vB (oth (ps.getD t [])))) (gm + 1) gs (turnT ps (t + 1))) := by
                          intro W' h'
                          have := h'.write t hgl
                          rw [turnT_get ps t (by rw [HNUM.out]; exact hlt), turnT_set ps t (by rw [HNUM.out]; exact hlt)] at this
                          exact this
                        rw [turnT_get ps t (by rw [HNUM.out]; exact hlt)] at Rg
                        have hql := HP.out t hlt
                        have hgn : gm + 1 ≤ gs.getD t 0 := hL.out.low t hgl
                        generalize ps.getD t [] = q at *
                        generalize gs.getD t 0 = g at *
                        have HRG : Hid (Row wr g (vB (q ++ marks)) 5) := Rg
                        have HS : Hid (SlAt wr (.slice A' q.length c') q) := hS
                        unfold ov at gcell
                        have hgow : go < wr.heap.size := World.block_lt_of_cell? wr _ gcell
                        clear Rg hS
                        go_wp2
                        go_region_law (first
                          | (refine step_fcall rfl 13 #[.slice A' q.length c'] (by go_simp) ((other_x q hql A' c' (World.drew wr) HS.out).mono ?_); rintro e W6 ⟨g6, rfl, hg6, R6, hB5⟩; (have hB6 : Below wr.heap.size wr W6 := ⟨hB5.os, hB5.tape, hB5.output, hB5.size, hB5.block⟩); clear hB5; refine ⟨_, rfl, ?_⟩; (have gc6 : W6.cell? ⟨go, t, none⟩ = some (.slice (some ⟨g, 0, none⟩) (q.length + 80) (q.length + 80)) := (Below.cell hB6 (p := ⟨go, t, none⟩) hgow).trans gcell); (have RG6 := Row.below HRG.out hB6 (Row.lt HRG.out)))
                          | (refine step_copy rfl (.tmp 128) (.tmp 133) 22 22 rfl 5 g 0 (q.length + 80) (q.length + 80) ⟨g6, 0, none⟩ q.length q.length (vB (oth q)) (by simp [Act.eval]) (by simp [Act.eval]) Tryd.underlying22 info_u8 (by rw [vB_length, oth_length]; exact (Nat.min_eq_left (by omega)).symm) (fun j v hj => by rw [Addr.add_mid]; exact R6.all j v hj) (Row.there RG6 0 _ (by simp [vB_length, oth_length])) (vB_one _) ?_))
                        all_goals
                          go_wp2
                          have hb6 := hb.trans (hB6.mono hb.size)
                          have Rm6 := Row.below Rm hB6 (Row.lt Rm)
                          have R116 := Row.below R11 hB6 (Row.lt R11)
                          refine ⟨⟨t + 1, hlt, by go_num, below_setCells hb6 (by omega) _, by rw [size_setCells]; exact Nat.le_trans hsz2 hB6.size, ownsRow_setCells (ownsRow_below hO.out hB6 (Nat.le_refl _)) g _ _ _ RG6 (by decide), Row.setCells_other Rm6 _ _ _ (by omega), HLW.out W6 (hL.out.below hB6 (Nat.le_refl _)), Row.setCells_other R116 _ _ _ (Row.ne R116 RG6 (by decide))⟩, by simp [intOf]; omega⟩
                      · have et : t = n := by omega
                        have e0 : (t : Int) = (n : Int) := by omega
                        have HL5 : Hid (Lent wr (gm + 1) gs (ps.map oth)) := by
                          have := hL.out
                          rw [et, turnT_all ps n HNUM.out] at this
                          exact this
                        rw [e0]
                        have hra := row_front Rm
                        have HRA : Hid _ := hra
                        clear hra et e0 ht hlt hL hO Rm
                        go_wp2_with (refine wpList_slice_k rfl 30 (.tmp 135) (.tmp 137) rfl 22 gm (n + 8) (n + 8) n _ rfl rfl rfl (by omega) Tryd.underlying30 info_slb ?_; simp only [Act.put, List.setIfInBounds_toArray, List.set_cons_zero, List.set_cons_succ])
                        refine (parts_lent (ps.map oth) ps gs n (gm + 1) gm (n + 8) y Hy2.out HMO.out HNUM.out HMP.out (by rw [oth_flat, oth_length]; have := HFEW.out; omega) (by omega) wr (HG.out.low hb).cub HL5.out HRA.out).mono ?_
                        rintro e v16 ⟨rfl, hD16⟩
                        obtain ⟨hS16, R16⟩ := digest_laid y Ky.out hD16
                        have T16 := digest_there v16 y Ky.out
                        have hW16 := hb.trans (hS16.mono hb.size)
                        replace R11 := Row.below R11 hS16 (Row.lt R11)
                        clear hD16 hS16 hb
                        go_wp2_with (first
                          | (refine wpList_store_mid rfl 26 (.tmp 16) (.tmp 139) rfl v16.heap.size 0 (vB y).toArray rfl rfl T16 Iy Oy ?_; simp only [Act.put]; (change wpList _ _ _ _ _ (World.setCells (v16.alloc (Obj.cells (vB (List.replicate 32 0#8)).toArray 26)) v16.heap.size 0 (vB y))); clear T16; (generalize World.setCells (v16.alloc (Obj.cells (vB (List.replicate 32 0#8)).toArray 26)) v16.heap.size 0 (vB y) = W16 at *); (generalize v16.heap.size = p16 at *); clear v16))
                        refine (parts_nil z Hz.out W16 (HG.out.low hW16).cub).mono ?_
                        rintro e v17 ⟨rfl, hD17⟩
                        obtain ⟨hS17, R17⟩ := digest_laid z Kz.out hD17
                        have T17 := digest_there v17 z Kz.out
                        have hW17 := hW16.trans (hS17.mono hW16.size)
                        replace R11 := Row.below R11 hS17 (Row.lt R11)
                        replace R16 := Row.below R16 hS17 (Row.lt R16)
                        clear hD17 hS17 hW16
                        go_wp2_with (first
                          | (refine wpList_store_mid rfl 26 (.tmp 17) (.tmp 140) rfl v17.heap.size 0 (vB z).toArray rfl rfl T17 Iz Oz ?_; simp only [Act.put]; (change wpList _ _ _ _ _ (World.setCells (v17.alloc (Obj.cells (vB (List.replicate 32 0#8)).toArray 26)) v17.heap.size 0 (vB z))); clear T17; (generalize World.setCells (v17.alloc (Obj.cells (vB (List.replicate 32 0#8)).toArray 26)) v17.heap.size 0 (vB z) = W17 at *); (generalize v17.heap.size = p17 at *); clear v17))
                        refine (rparts_any A n cap ps vs x Hx.out W17 (HI.out.low hW17) (by omega) HFEW.out (HG.out.low hW17)).mono ?_
                        rintro e v18 ⟨rfl, hD18⟩
                        obtain ⟨hS18, R18⟩ := digest_laid x Kx.out hD18
                        have T18 := digest_there v18 x Kx.out
                        have hW18 := hW17.trans (hS18.mono hW17.size)
                        replace R11 := Row.below R11 hS18 (Row.lt R11)
                        replace R16 := Row.below R16 hS18 (Row.lt R16)
                        replace R17 := Row.below R17 hS18 (Row.lt R17)
                        clear hD18 hS18 hW17
                        go_wp2_with (first
                          | (refine wpList_store_mid rfl 26 (.tmp 18) (.tmp 142) rfl v18.heap.size 0 (vB x).toArray rfl rfl T18 Ix Ox ?_; simp only [Act.put]; (change wpList _ _ _ _ _ (World.setCells (v18.alloc (Obj.cells (vB (List.replicate 32 0#8)).toArray 26)) v18.heap.size 0 (vB x))); clear T18; (generalize World.setCells (v18.alloc (Obj.cells (vB (List.replicate 32 0#8)).toArray 26)) v18.heap.size 0 (vB x) = W18 at *); (generalize v18.heap.size = p18 at *); clear v18))
                        refine (HJ.out W18 (HI.out.low hW18) (by rw [HFF.out]; exact HFEW.out)).mono ?_
                        rintro e W19 ⟨v19, rfl, ho19, hB19⟩
                        obtain ⟨hs19, A19, c19, rfl⟩ := owns_slAt ho19
                        have hW19 := hW18.trans (hB19.mono hW18.size)
                        have HS19 : Hid (SlAt W19 (.slice A19 F.length c19) F) := hs19
                        replace R11 := Row.below R11 hB19 (Row.lt R11)
                        replace R16 := Row.below R16 hB19 (Row.lt R16)
                        replace R17 := Row.below R17 hB19 (Row.lt R17)
                        replace R18 := Row.below R18 hB19 (Row.lt R18)
                        clear ho19 hs19 hB19 hW18
                        have hFl : F.length ≤ 140737488351232 := by rw [HFF.out]; have := HFEW.out; omega
                        go_wp2_with fail
                        refine (other_x F hFl A19 c19 W19 HS19.out).mono ?_
                        rintro e W20 ⟨g20, rfl, hg20, R20, hB20⟩
                        have hW20 := hW19.trans (hB20.mono hW19.size)
                        replace R11 := Row.below R11 hB20 (Row.lt R11)
                        replace R16 := Row.below R16 hB20 (Row.lt R16)
                        replace R17 := Row.below R17 hB20 (Row.lt R17)
                        replace R18 := Row.below R18 hB20 (Row.lt R18)
                        have HS20 : Hid (SlAt W20 (.slice (some ⟨g20, 0, none⟩) F.length F.length) (oth F)) := .inr ⟨g20, 0, F.length, by rw [oth_length], by rw [oth_length]; exact Nat.le_refl _, R20.all⟩
                        clear hB20 hW19 R20 HS19
                        go_wp2_with fail
                        refine (rsum_any (oth F) y Hy.out (by rw [oth_length]; exact hFl) _ W20 HS20.out (HG.out.low hW20)).mono ?_
                        rintro e v21 ⟨rfl, hD21⟩
                        obtain ⟨hS21, R19⟩ := digest_laid y Ky.out hD21
                        have T21 := digest_there v21 y Ky.out
                        have hW21 := hW20.trans (hS21.mono hW20.size)
                        replace R11 := Row.below R11 hS21 (Row.lt R11)
                        replace R16 := Row.below R16 hS21 (Row.lt R16)
                        replace R17 := Row.below R17 hS21 (Row.lt R17)
                        replace R18 := Row.below R18 hS21 (Row.lt R18)
                        clear hD21 hS21 hW20
                        go_wp2_with (first
                          | (refine wpList_store_mid rfl 26 (.tmp 19) (.tmp 146) rfl v21.heap.size 0 (vB y).toArray rfl rfl T21 Iy Oy ?_; simp only [Act.put]; (change wpList _ _ _ _ _ (World.setCells (v21.alloc (Obj.cells (vB (List.replicate 32 0#8)).toArray 26)) v21.heap.size 0 (vB y))); clear T21; (generalize World.setCells (v21.alloc (Obj.cells (vB (List.replicate 32 0#8)).toArray 26)) v21.heap.size 0 (vB y) = W21 at *); (generalize v21.heap.size = p19 at *); clear v21))
                        refine (rsum_any [] z Hz.out (by simp) _ W21 (.inl ⟨rfl, none, 0, rfl⟩) (HG.out.low hW21)).mono ?_
                        rintro e v22 ⟨rfl, hD22⟩
                        obtain ⟨hS22, R20⟩ := digest_laid z Kz.out hD22
                        have T22 := digest_there v22 z Kz.out
                        have hW22 := hW21.trans (hS22.mono hW21.size)
                        replace R11 := Row.below R11 hS22 (Row.lt R11)
                        replace R16 := Row.below R16 hS22 (Row.lt R16)
                        replace R17 := Row.below R17 hS22 (Row.lt R17)
                        replace R18 := Row.below R18 hS22 (Row.lt R18)
                        replace R19 := Row.below R19 hS22 (Row.lt R19)
                        clear hD22 hS22 hW21
                        go_wp2_with (first
                          | (refine wpList_store_mid rfl 26 (.tmp 20) (.tmp 147) rfl v22.heap.size 0 (vB z).toArray rfl rfl T22 Iz Oz ?_; simp only [Act.put]; (change wpList _ _ _ _ _ (World.setCells (v22.alloc (Obj.cells (vB (List.replicate 32 0#8)).toArray 26)) v22.heap.size 0 (vB z))); clear T22; (generalize World.setCells (v22.alloc (Obj.cells (vB (List.replicate 32 0#8)).toArray 26)) v22.heap.size 0 (vB z) = W22 at *); (generalize v22.heap.size = p20 at *); clear v22)
                          | (refine wpList_load_w rfl 26 (.tmp 11) rfl p11 0 rfl (vB x) _ R11.all Tryd.underlying26 rfl Jx ?_; simp only [Act.put, List.setIfInBounds_toArray, List.set_cons_zero, List.set_cons_succ])
                          | (refine wpList_load_w rfl 26 (.tmp 18) rfl p18 0 rfl (vB x) _ R18.all Tryd.underlying26 rfl Jx ?_; simp only [Act.put, List.setIfInBounds_toArray, List.set_cons_zero, List.set_cons_succ])
                          | (refine wpList_load_w rfl 26 (.tmp 16) rfl p16 0 rfl (vB y) _ R16.all Tryd.underlying26 rfl Jy ?_; simp only [Act.put, List.setIfInBounds_toArray, List.set_cons_zero, List.set_cons_succ])
                          | (refine wpList_load_w rfl 26 (.tmp 19) rfl p19 0 rfl (vB y) _ R19.all Tryd.underlying26 rfl Jy ?_; simp only [Act.put, List.setIfInBounds_toArray, List.set_cons_zero, List.set_cons_succ])
                          | (refine wpList_load_w rfl 26 (.tmp 17) rfl p17 0 rfl (vB z) _ R17.all Tryd.underlying26 rfl Jz ?_; simp only [Act.put, List.setIfInBounds_toArray, List.set_cons_zero, List.set_cons_succ])
                          | (refine wpList_load_w rfl 26 (.tmp 20) rfl p20 0 rfl (vB z) _ R20.all Tryd.underlying26 rfl Jz ?_; simp only [Act.put, List.setIfInBounds_toArray, List.set_cons_zero, List.set_cons_succ])
                          | (refine wpList_eql_same rfl 26 (.tmp 150) (.tmp 151) 26 rfl 5 32 x rfl rfl Tryd.underlying26 Tryd.underlying5 info_u8 Kx.out guard_dig ?_; simp only [Act.put, List.setIfInBounds_toArray, List.set_cons_zero, List.set_cons_succ])
                          | (refine wpList_eql_same rfl 26 (.tmp 155) (.tmp 156) 26 rfl 5 32 y rfl rfl Tryd.underlying26 Tryd.underlying5 info_u8 Ky.out guard_dig ?_; simp only [Act.put, List.setIfInBounds_toArray, List.set_cons_zero, List.set_cons_succ])
                          | (refine wpList_eql_same rfl 26 (.tmp 160) (.tmp 161) 26 rfl 5 32 z rfl rfl Tryd.underlying26 Tryd.underlying5 info_u8 Kz.out guard_dig ?_; simp only [Act.put, List.setIfInBounds_toArray, List.set_cons_zero, List.set_cons_succ]))
                        go_ret
                        exact ⟨rfl, hW22⟩

end Go.Proofs.YtihigbkanbabeaaDoor
