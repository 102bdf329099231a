/-
  clash: two unlike texts of one digest.
-/
import Derived.Test.YtnogjhbohljjnabDoorTStr
import Derived.Test.YtnogjhbohljjnabDoorTAwk
import Derived.Test.YtnogjhbohljjnabDoorTChkO
namespace Go.Proofs.YtnogjhbohljjnabDoor
open Go Go.RowKit
open Sha

theorem run_load_slb (w : World) (b f : Nat) (v : Value) (h : w.cell? ⟨b, f, none⟩ = some v) : (loadVar 38 ⟨b, f, none⟩).run Tryd.prog w = .ok v w := by
  simp [loadVar, isAgg, run_underlying Tryd.underlying38, h]
theorem digs_flat (ds : List (List (BitVec 8))) (h : ∀ d ∈ ds, d.length = 32) {w : World} {M : Nat} {A : Option Addr} {cap : Nat} (ho : w.ownsRow M 28 32 (.slice A ds.length cap) ds.length (ds.flatMap vB)) (t : Nat) (ht : t < ds.length) : ∃ g, A = some ⟨g, 0, none⟩ ∧ w.rangeAt g (0 + t * 32) (vB (ds.getD t [])) := by
  obtain ⟨b, o, e, hr⟩ := pat_range (PAt.of_own ho h) t ht
  rcases ho.2 with ⟨_, h0⟩ | ⟨g, cap', cur, hv, _⟩
  · omega
  · simp only [Value.slice.injEq] at hv
    have := hv.1.symm.trans e
    simp only [Option.some.injEq, Addr.mk.injEq] at this
    obtain ⟨rfl, rfl, _⟩ := this
    exact ⟨g, hv.1, hr⟩
/-- Two unlike texts of one digest. -/
def Clsh (ts : List (List (BitVec 8))) (i k : Nat) : Prop := dig (ts.getD i []) = dig (ts.getD k []) ∧ ts.getD i [] ≠ ts.getD k []
theorem map_take (ts : List (List (BitVec 8))) (t : Nat) (h : t < ts.length) : (ts.take (t + 1)).map dig = (ts.take t).map dig ++ [dig (ts.getD t [])] := by
  rw [List.take_succ_eq_append_getElem h, List.map_append]
  simp [List.getD_eq_getElem?_getD, h]

set_option maxRecDepth 100000 in
set_option maxHeartbeats 8000000 in
theorem clash_true (ts : List (List (BitVec 8))) (n : Nat) (hn : ts.length = n) (hs : n ≤ 4398046511100) (hlen : ∀ i, i < n → (ts.getD i []).length < 1152921504606846976) (hcl : ∃ i k, k < i ∧ i < n ∧ Clsh ts i k) (b o cap : Nat) (w : World) (hK : Tab w 3) (hv : LsAt w b o ts) :
    Calls Tryd.prog 23 #[.slice (some ⟨b, o, none⟩) n cap] w fun e w' => e = .returned (.bool true) ∧ Below w.heap.size w w' := by
  obtain ⟨vs, hvl, hvr, hve⟩ := hv
  rw [hn] at hvl hve
  have HK : Hid (Tab w 3) := hK
  have HN : Hid (ts.length = n) := hn
  have HLE : Hid (∀ i, _ → _) := hlen
  have HC : Hid (∃ i k, _) := hcl
  have HVR : Hid (∀ W, Below w.heap.size w W → ∀ t, t < n → W.cell? ⟨b, o + t, none⟩ = some (vs.getD t undef)) := fun W hB t ht => by
    refine range_below hvr hB (Nat.le_refl _) t _ ?_
    simp [List.getD_eq_getElem?_getD, List.getElem?_eq_getElem (show t < vs.length by omega)]
  have HVE : Hid (∀ W, Below w.heap.size w W → ∀ t, t < n → SlAt W (vs.getD t undef) (ts.getD t [])) := fun W hB t ht => (hve t ht).be hB
  have HFO : Hid (∀ t, t < n → ∃ A l c, vs.getD t undef = .slice A l c) := fun t ht => by
    rcases hve t ht with ⟨_, A, c, e⟩ | ⟨ab, ao, c, e, _⟩
    · exact ⟨A, _, c, e⟩
    · exact ⟨_, _, c, e⟩
  clear hn hlen hcl hK hvl hvr hve
  go_enter Tryd.func23, Tryd.ntmps23
  go_wp2
  go_loopw [3, 4] (fun vl k wr => ∃ t : Nat, t ≤ n ∧ k = .int .i64 (t : Int) ∧ wr.ownsRow w.heap.size 28 32 vl t (((ts.take t).map dig).flatMap vB) ∧ Below w.heap.size w wr) (fun _ k _ => n - (intOf k).toNat)
  case atStart => exact ⟨0, Nat.zero_le _, rfl, ⟨rfl, .inl ⟨rfl, rfl⟩⟩, Below.refl _ _⟩
  case round =>
    obtain ⟨t, ht, rfl, hO, hb⟩ := hrel
    by_cases hlt : t < n
    · have b2 := HVR.out wr hb t hlt
      have hS := HVE.out wr hb t hlt
      obtain ⟨A3, l3, c3, e3⟩ := HFO.out t hlt
      rw [e3] at b2 hS
      obtain ⟨dd, hdd⟩ : ∃ dd, dd = dig (ts.getD t []) := ⟨_, rfl⟩
      have HDD : Hid (dd = dig (ts.getD t [])) := hdd
      have Hdd : Dl dd := by rw [hdd]; exact dl_dig _
      have HMT : Hid (((ts.take (t + 1)).map dig).flatMap vB = ((ts.take t).map dig).flatMap vB ++ vB dd) := by
        show _ = _
        rw [map_take ts t (by rw [HN.out]; exact hlt), List.flatMap_append, hdd]; simp
      have htb : t ≤ 4398046511100 := Nat.le_trans ht hs
      clear hdd
      generalize ((ts.take t).map dig).flatMap vB = fl at *
      go_wp2_with fail
      refine (sum_any _ dd HDD.out (HLE.out t hlt) _ wr (HK.out.below hb HK.out.lt) hS).mono ?_
      rintro e V0 ⟨rfl, hB⟩
      replace hb := hb.trans (hB.mono hb.size)
      replace hO := ownsRow_below hO hB (Nat.le_refl _)
      clear hB
      clear hS b2
      have o_r5 : w.heap.size ≤ V0.heap.size := hb.size
      have n0 : Row (V0.alloc (Obj.cells z32.toArray 28)) V0.heap.size z32 28 := Row.new' rfl rfl
      have T0 := Hdd.there n0 rfl
      replace n0 := n0.over (vs := vB dd) (Hdd.over rfl)
      have hB : Below V0.heap.size V0 ((V0.alloc (Obj.cells z32.toArray 28)).setCells V0.heap.size 0 (vB dd)) := below_setCells ((Below.refl _ _).alloc (Nat.le_refl _) (Obj.cells z32.toArray 28)) (b := V0.heap.size) (o := 0) (Nat.le_refl _) (vB dd)
      replace hb := hb.trans (hB.mono hb.size)
      replace hO := ownsRow_below hO hB (Nat.le_refl _)
      clear hB
      have r5 := n0
      clear n0
      go_wp2_with (first
        | (refine wpList_store_mid rfl 28 (.tmp 5) (.tmp 18) rfl V0.heap.size 0 (vB dd).toArray rfl rfl T0 Hdd.info' Hdd.one ?_; simp only [Act.put]; clear T0; (change wpList _ _ _ _ _ ((V0.alloc (Obj.cells z32.toArray 28)).setCells V0.heap.size 0 (vB dd))); (generalize ((V0.alloc (Obj.cells z32.toArray 28)).setCells V0.heap.size 0 (vB dd)) = X1 at *); (generalize hN : V0.heap.size = N5 at *; clear hN))
        | (refine wpList_load_w rfl 28 (.tmp 5) rfl N5 0 rfl (vB dd) _ r5.all Tryd.underlying28 rfl Hdd.info ?_; simp only [Act.put, List.setIfInBounds_toArray, List.set_cons_zero, List.set_cons_succ])
        | (refine wpList_build_d rfl (.tmp 20) rfl dd Hdd rfl ?_; simp only [Act.put, List.setIfInBounds_toArray, List.set_cons_zero, List.set_cons_succ])
        | (refine wpList_append_d rfl (.tmp 19) (.tmp 21) rfl w.heap.size X1.heap.size t _ fl dd Hdd (ownsRow_below hO ((Below.refl _ _).alloc (Nat.le_refl _) _) (Nat.le_refl _)) rfl rfl (Row.new' rfl rfl) (by omega) (Nat.le_trans hb.size (by simp)) ?_; intro v3 w3 hO3 hG3; (have hb3 := (hb.alloc hb.size _).grown hG3 (Nat.le_trans hb.size (by simp)) (own_block hO)); clear hO hG3 hb; simp only [Act.put, List.setIfInBounds_toArray, List.set_cons_zero, List.set_cons_succ]))
      rw [← HMT.out] at hO3
      exact ⟨⟨t + 1, hlt, by go_num, hO3, hb3⟩, by simp [intOf]; omega⟩
    · obtain rfl : t = n := by omega
      rw [List.take_of_length_le (by rw [HN.out]; exact Nat.le_refl _)] at hO
      clear hlt ht
      go_wp2
      obtain ⟨A5, c5, e5⟩ := own_form hO
      subst e5
      have HF : Hid (∀ W, Below wr.heap.size wr W → ∀ s, s < t → ∃ g, A5 = some ⟨g, 0, none⟩ ∧ W.rangeAt g (0 + s * 32) (vB (dig (ts.getD s [])))) := fun W hB s hs => by
        have h := digs_flat (ts.map dig) (fun d hd => by obtain ⟨x, _, rfl⟩ := List.mem_map.1 hd; exact dig_length x) (A := A5) (cap := c5) (w := wr) (M := w.heap.size) (by rw [List.length_map, HN.out]; exact hO) s (by rw [List.length_map, HN.out]; exact hs)
        obtain ⟨g, e, hr⟩ := h
        refine ⟨g, e, range_below ?_ hB (Nat.le_refl _)⟩
        rw [show (ts.map dig).getD s [] = dig (ts.getD s []) by simp [List.getD_eq_getElem?_getD, show s < ts.length by rw [HN.out]; exact hs]] at hr
        exact hr
      obtain ⟨w5, hw5⟩ : ∃ w5, w5 = wr := ⟨_, rfl⟩
      have HB5 : Hid (Below w.heap.size w w5) := by rw [hw5]; exact hb
      rw [← hw5] at HF ⊢
      clear hO hb hw5
      go_loopw [6] (fun k wq => ∃ i : Nat, i ≤ t ∧ k = .int .i64 (i : Int) ∧ Below w5.heap.size w5 wq ∧ ∀ i' k', k' < i' → i' < i → ¬ Clsh ts i' k') (fun k _ => t - (intOf k).toNat)
      case atStart => exact ⟨0, Nat.zero_le _, rfl, Below.refl _ _, fun _ _ _ h => by omega⟩
      case round =>
        obtain ⟨i, hi, rfl, hq, hno⟩ := hrel
        have HNO : Hid (∀ i' k', _) := hno
        clear hno
        by_cases hlt : i < t
        · go_wp2
          go_loopw [7] (fun k wq => ∃ j : Nat, j ≤ i ∧ k = .int .i64 (j : Int) ∧ Below w5.heap.size w5 wq ∧ ∀ k', k' < j → ¬ Clsh ts i k') (fun k _ => i - (intOf k).toNat)
          case atStart => exact ⟨0, Nat.zero_le _, rfl, hq, fun _ h => by omega⟩
          case round =>
            clear hq
            obtain ⟨j, hj, rfl, hq, hno⟩ := hrel
            have HNJ : Hid (∀ k', _) := hno
            clear hno
            by_cases hltj : j < i
            · obtain ⟨g, eA, _⟩ := HF.out w5 (Below.refl _ _) i hlt
              subst eA
              have HRI : Hid (∀ W, Below w5.heap.size w5 W → W.rangeAt g (0 + i * 32) (vB (dig (ts.getD i [])))) := fun W hB => by
                obtain ⟨g', e, hr⟩ := HF.out W hB i hlt
                simp only [Option.some.injEq, Addr.mk.injEq] at e
                rw [← e.1] at hr; exact hr
              have HRJ : Hid (∀ W, Below w5.heap.size w5 W → W.rangeAt g (0 + j * 32) (vB (dig (ts.getD j [])))) := fun W hB => by
                obtain ⟨g', e, hr⟩ := HF.out W hB j (Nat.lt_trans hltj hlt)
                simp only [Option.some.injEq, Addr.mk.injEq] at e
                rw [← e.1] at hr; exact hr
              have hjt : j < t := Nat.lt_trans hltj hlt
              have HCI : Hid (∀ W, Below w5.heap.size w5 W → W.cell? ⟨b, o + i * 1, none⟩ = some (vs.getD i undef)) := fun W hB => by rw [Nat.mul_one]; exact HVR.out W (HB5.out.trans (hB.mono HB5.out.size)) i hlt
              have HCJ : Hid (∀ W, Below w5.heap.size w5 W → W.cell? ⟨b, o + j * 1, none⟩ = some (vs.getD j undef)) := fun W hB => by rw [Nat.mul_one]; exact HVR.out W (HB5.out.trans (hB.mono HB5.out.size)) j hjt
              have HSI : Hid (∀ W, Below w5.heap.size w5 W → SlAt W (vs.getD i undef) (ts.getD i [])) := fun W hB => HVE.out W (HB5.out.trans (hB.mono HB5.out.size)) i hlt
              have HSJ : Hid (∀ W, Below w5.heap.size w5 W → SlAt W (vs.getD j undef) (ts.getD j [])) := fun W hB => HVE.out W (HB5.out.trans (hB.mono HB5.out.size)) j hjt
              have HCL : Hid (Clsh ts i j ↔ dig (ts.getD i []) = dig (ts.getD j []) ∧ ts.getD i [] ≠ ts.getD j []) := Iff.rfl
              generalize vs.getD i undef = vi at *
              generalize vs.getD j undef = vj at *
              generalize ts.getD i [] = xi at *
              generalize ts.getD j [] = xj at *
              have Hdi : Dl (dig xi) := dl_dig _
              have Hdj : Dl (dig xj) := dl_dig _
              have HCL2 : Hid (Clsh ts i j ↔ dig xi = dig xj ∧ xi ≠ xj) := HCL.out
              obtain ⟨di, hdi⟩ : ∃ di, di = dig xi := ⟨_, rfl⟩
              obtain ⟨dj, hdj⟩ : ∃ dj, dj = dig xj := ⟨_, rfl⟩
              rw [← hdi] at HRI HCL2 Hdi
              rw [← hdj] at HRJ HCL2 Hdj
              have HU : Hid (ts.length = t) := HN.out
              have htb : t ≤ 4398046511100 := hs
              clear hdi hdj HCL HF HVR HVE HFO HN HLE HC
              go_wp2_with fail
              by_cases hd : di = dj
              · obtain ⟨B2, HB2⟩ : ∃ B2, Hid ((!((str xi).toList == (str xj).toList)) = B2) := ⟨_, rfl⟩
                have HD1 : Hid (di = dj) := hd
                clear hd
                refine wp_named fun a0 ha0 => ?_
                have hsz : a0.tmps.size = 56 := by rw [ha0]; rfl
                have zs0 : a0.eval (.tmp 0) = .slice (some ⟨b, o, none⟩) t cap := by rw [ha0]; rfl
                have zs3 : a0.eval (.tmp 3) = .slice (some ⟨g, 0, none⟩) t c5 := by rw [ha0]; rfl
                have zs6 : a0.eval (.tmp 6) = .int .i64 (i : Int) := by rw [ha0]; rfl
                have zs7 : a0.eval (.tmp 7) = .int .i64 (j : Int) := by rw [ha0]; rfl
                obtain ⟨D, hD⟩ : ∃ D : List (Tmp × SP), D = [(34, SP.is (.slice (some ⟨g, 0, none⟩) t c5)), (35, SP.is (.int .i64 (i : Int))), (36, SP.is (.pointer (some ⟨g, 0 + i * 32, none⟩))), (37, SP.is (.agg (vB di).toArray)), (38, SP.is (.slice (some ⟨g, 0, none⟩) t c5)), (39, SP.is (.int .i64 (j : Int))), (40, SP.is (.pointer (some ⟨g, 0 + j * 32, none⟩))), (41, SP.is (.agg (vB dj).toArray)), (42, SP.is (.bool true)), (43, SP.is (.bool true)), (44, SP.is (.slice (some ⟨b, o, none⟩) t cap)), (45, SP.is (.int .i64 (i : Int))), (46, SP.is (.pointer (some ⟨b, o + i * 1, none⟩))), (47, SP.is (vi)), (48, SP.is (.string (str xi))), (49, SP.is (.slice (some ⟨b, o, none⟩) t cap)), (50, SP.is (.int .i64 (j : Int))), (51, SP.is (.pointer (some ⟨b, o + j * 1, none⟩))), (52, SP.is (vj)), (53, SP.is (.string (str xj))), (54, SP.is (.bool B2)), (55, SP.is (.bool B2))] := ⟨_, rfl⟩
                refine wp_region_down (by kernel_rfl) (fun listed ac W => listed.size = 22 ∧ Fp D a0 listed ac W ∧ Below w5.heap.size w5 W) ?_ ?_ ?_
                · exact ⟨by simp, Fp.start D a0 _ _, Below.drew hq⟩
                · clear ha0 hq  
                  intro listed ac W k hI hdn hk
                  obtain ⟨hl, hF, hq⟩ := hI
                  have hk1 : k < 22 := List.mem_range.1 (List.mem_filter.1 hk).1
                  have hl2 : ∀ j, (listed.setIfInBounds j true).size = 22 := fun j => by rw [Array.size_setIfInBounds]; exact hl
                  rcases (show k = 0 ∨ k = 1 ∨ k = 2 ∨ k = 3 ∨ k = 4 ∨ k = 5 ∨ k = 6 ∨ k = 7 ∨ k = 8 ∨ k = 9 ∨ k = 10 ∨ k = 11 ∨ k = 12 ∨ k = 13 ∨ k = 14 ∨ k = 15 ∨ k = 16 ∨ k = 17 ∨ k = 18 ∨ k = 19 ∨ k = 20 ∨ k = 21 by omega) with rfl | rfl | rfl | rfl | rfl | rfl | rfl | rfl | rfl | rfl | rfl | rfl | rfl | rfl | rfl | rfl | rfl | rfl | rfl | rfl | rfl | rfl
                  · have hk3 := hk
                    exact wpOp_plain rfl rfl (wp_move_v (ac.eval (.tmp 3)) rfl rfl ⟨hl2 0, (hF.put 0 34 (SP.is (.slice (some ⟨g, 0, none⟩) t c5)) (ac.eval (.tmp 3)) (by rw [hD]; rfl) (((hF.keep 3 (by rw [hD]; rfl)).trans zs3)) (by rw [hD]; rfl) (by rw [hsz]; decide) (by rw [hl]; decide)), hq⟩)
                  · have hk3 := hk
                    exact wpOp_plain rfl rfl (wp_move_v (ac.eval (.tmp 6)) rfl rfl ⟨hl2 1, (hF.put 1 35 (SP.is (.int .i64 (i : Int))) (ac.eval (.tmp 6)) (by rw [hD]; rfl) (((hF.keep 6 (by rw [hD]; rfl)).trans zs6)) (by rw [hD]; rfl) (by rw [hsz]; decide) (by rw [hl]; decide)), hq⟩)
                  · have hk3 := hk
                    have ea := (hF.done 0 (34, SP.is (.slice (some ⟨g, 0, none⟩) t c5)) (by rw [hD]; rfl) (ready_dep hk 0 (by kernel_rfl)))
                    have eb := (hF.done 1 (35, SP.is (.int .i64 (i : Int))) (by rw [hD]; rfl) (ready_dep hk 1 (by kernel_rfl)))
                    exact wpOp_plain rfl rfl (wp_index_s 30 28 rfl g 0 t c5 i 32 ea eb hlt Tryd.underlying30 info_dig ⟨hl2 2, (hF.put 2 36 (SP.is (.pointer (some ⟨g, 0 + i * 32, none⟩))) (.pointer (some ⟨g, 0 + i * 32, none⟩)) (by rw [hD]; rfl) rfl (by rw [hD]; rfl) (by rw [hsz]; decide) (by rw [hl]; decide)), hq⟩)
                  · have hk3 := hk
                    have ea := (hF.done 2 (36, SP.is (.pointer (some ⟨g, 0 + i * 32, none⟩))) (by rw [hD]; rfl) (ready_dep hk 2 (by kernel_rfl)))
                    exact wpOp_plain rfl rfl (wp_load_mid 28 (.tmp 36) rfl g (0 + i * 32) ea (vB di) _ (HRI.out W hq) Tryd.underlying28 rfl Hdi.info ⟨hl2 3, (hF.put 3 37 (SP.is (.agg (vB di).toArray)) (.agg (vB di).toArray) (by rw [hD]; rfl) rfl (by rw [hD]; rfl) (by rw [hsz]; decide) (by rw [hl]; decide)), hq⟩)
                  · have hk3 := hk
                    exact wpOp_plain rfl rfl (wp_move_v (ac.eval (.tmp 3)) rfl rfl ⟨hl2 4, (hF.put 4 38 (SP.is (.slice (some ⟨g, 0, none⟩) t c5)) (ac.eval (.tmp 3)) (by rw [hD]; rfl) (((hF.keep 3 (by rw [hD]; rfl)).trans zs3)) (by rw [hD]; rfl) (by rw [hsz]; decide) (by rw [hl]; decide)), hq⟩)
                  · have hk3 := hk
                    exact wpOp_plain rfl rfl (wp_move_v (ac.eval (.tmp 7)) rfl rfl ⟨hl2 5, (hF.put 5 39 (SP.is (.int .i64 (j : Int))) (ac.eval (.tmp 7)) (by rw [hD]; rfl) (((hF.keep 7 (by rw [hD]; rfl)).trans zs7)) (by rw [hD]; rfl) (by rw [hsz]; decide) (by rw [hl]; decide)), hq⟩)
                  · have hk3 := hk
                    have ea := (hF.done 4 (38, SP.is (.slice (some ⟨g, 0, none⟩) t c5)) (by rw [hD]; rfl) (ready_dep hk 4 (by kernel_rfl)))
                    have eb := (hF.done 5 (39, SP.is (.int .i64 (j : Int))) (by rw [hD]; rfl) (ready_dep hk 5 (by kernel_rfl)))
                    exact wpOp_plain rfl rfl (wp_index_s 30 28 rfl g 0 t c5 j 32 ea eb hjt Tryd.underlying30 info_dig ⟨hl2 6, (hF.put 6 40 (SP.is (.pointer (some ⟨g, 0 + j * 32, none⟩))) (.pointer (some ⟨g, 0 + j * 32, none⟩)) (by rw [hD]; rfl) rfl (by rw [hD]; rfl) (by rw [hsz]; decide) (by rw [hl]; decide)), hq⟩)
                  · have hk3 := hk
                    have ea := (hF.done 6 (40, SP.is (.pointer (some ⟨g, 0 + j * 32, none⟩))) (by rw [hD]; rfl) (ready_dep hk 6 (by kernel_rfl)))
                    exact wpOp_plain rfl rfl (wp_load_mid 28 (.tmp 40) rfl g (0 + j * 32) ea (vB dj) _ (HRJ.out W hq) Tryd.underlying28 rfl Hdj.info ⟨hl2 7, (hF.put 7 41 (SP.is (.agg (vB dj).toArray)) (.agg (vB dj).toArray) (by rw [hD]; rfl) rfl (by rw [hD]; rfl) (by rw [hsz]; decide) (by rw [hl]; decide)), hq⟩)
                  · have hk3 := hk
                    have ea := (hF.done 3 (37, SP.is (.agg (vB di).toArray)) (by rw [hD]; rfl) (ready_dep hk 3 (by kernel_rfl)))
                    have eb := (hF.done 7 (41, SP.is (.agg (vB dj).toArray)) (by rw [hD]; rfl) (ready_dep hk 7 (by kernel_rfl)))
                    exact wpOp_plain rfl rfl (wp_eql_d (.tmp 37) (.tmp 41) _ rfl di dj Hdi Hdj ea eb true (decide_eq_true HD1.out) ⟨hl2 8, (hF.put 8 42 (SP.is (.bool true)) (.bool true) (by rw [hD]; rfl) rfl (by rw [hD]; rfl) (by rw [hsz]; decide) (by rw [hl]; decide)), hq⟩)
                  · have hk3 := hk
                    exact wpOp_plain rfl rfl (wp_move_v (ac.eval (.tmp 42)) rfl rfl ⟨hl2 9, (hF.put 9 43 (SP.is (.bool true)) (ac.eval (.tmp 42)) (by rw [hD]; rfl) ((hF.done 8 (42, SP.is (.bool true)) (by rw [hD]; rfl) (ready_dep hk 8 (by kernel_rfl)))) (by rw [hD]; rfl) (by rw [hsz]; decide) (by rw [hl]; decide)), hq⟩)
                  · have hk3 := hk
                    exact wpOp_wanted rfl (wanted_g (g := 9) (b := true) rfl rfl (hF.done 9 (43, SP.is (.bool true)) (by rw [hD]; rfl) (ready_dep hk 9 (by kernel_rfl))) (by rw [hF.size, hsz]; decide)) (wp_move_v (ac.eval (.tmp 0)) rfl rfl ⟨hl2 10, (hF.put 10 44 (SP.is (.slice (some ⟨b, o, none⟩) t cap)) (ac.eval (.tmp 0)) (by rw [hD]; rfl) (((hF.keep 0 (by rw [hD]; rfl)).trans zs0)) (by rw [hD]; rfl) (by rw [hsz]; decide) (by rw [hl]; decide)), hq⟩)
                  · have hk3 := hk
                    exact wpOp_wanted rfl (wanted_g (g := 9) (b := true) rfl rfl (hF.done 9 (43, SP.is (.bool true)) (by rw [hD]; rfl) (ready_dep hk 9 (by kernel_rfl))) (by rw [hF.size, hsz]; decide)) (wp_move_v (ac.eval (.tmp 6)) rfl rfl ⟨hl2 11, (hF.put 11 45 (SP.is (.int .i64 (i : Int))) (ac.eval (.tmp 6)) (by rw [hD]; rfl) (((hF.keep 6 (by rw [hD]; rfl)).trans zs6)) (by rw [hD]; rfl) (by rw [hsz]; decide) (by rw [hl]; decide)), hq⟩)
                  · have hk3 := hk
                    have ea := (hF.done 10 (44, SP.is (.slice (some ⟨b, o, none⟩) t cap)) (by rw [hD]; rfl) (ready_dep hk 10 (by kernel_rfl)))
                    have eb := (hF.done 11 (45, SP.is (.int .i64 (i : Int))) (by rw [hD]; rfl) (ready_dep hk 11 (by kernel_rfl)))
                    exact wpOp_wanted rfl (wanted_g (g := 9) (b := true) rfl rfl (hF.done 9 (43, SP.is (.bool true)) (by rw [hD]; rfl) (ready_dep hk 9 (by kernel_rfl))) (by rw [hF.size, hsz]; decide)) (wp_index_s 22 38 rfl b o t cap i 1 ea eb hlt Tryd.underlying22 info_slb ⟨hl2 12, (hF.put 12 46 (SP.is (.pointer (some ⟨b, o + i * 1, none⟩))) (.pointer (some ⟨b, o + i * 1, none⟩)) (by rw [hD]; rfl) rfl (by rw [hD]; rfl) (by rw [hsz]; decide) (by rw [hl]; decide)), hq⟩)
                  · have hk3 := hk
                    have ea := (hF.done 12 (46, SP.is (.pointer (some ⟨b, o + i * 1, none⟩))) (by rw [hD]; rfl) (ready_dep hk 12 (by kernel_rfl)))
                    exact wpOp_wanted rfl (wanted_g (g := 9) (b := true) rfl rfl (hF.done 9 (43, SP.is (.bool true)) (by rw [hD]; rfl) (ready_dep hk 9 (by kernel_rfl))) (by rw [hF.size, hsz]; decide)) (wp_load_1 b (o + i * 1) vi rfl ea (run_load_slb W b (o + i * 1) vi (HCI.out W hq)) ⟨hl2 13, (hF.put 13 47 (SP.is (vi)) vi (by rw [hD]; rfl) rfl (by rw [hD]; rfl) (by rw [hsz]; decide) (by rw [hl]; decide)), hq⟩)
                  · have hk3 := hk
                    have ea := (hF.done 13 (47, SP.is (vi)) (by rw [hD]; rfl) (ready_dep hk 13 (by kernel_rfl)))
                    exact wpOp_wanted rfl (wanted_g (g := 9) (b := true) rfl rfl (hF.done 9 (43, SP.is (.bool true)) (by rw [hD]; rfl) (ready_dep hk 9 (by kernel_rfl))) (by rw [hF.size, hsz]; decide)) (wp_conv_s rfl xi (by rw [show ac.eval (.tmp 47) = _ from ea]; exact HSI.out W hq) ⟨hl2 14, (hF.put 14 48 (SP.is (.string (str xi))) (.string (str xi)) (by rw [hD]; rfl) rfl (by rw [hD]; rfl) (by rw [hsz]; decide) (by rw [hl]; decide)), hq⟩)
                  · have hk3 := hk
                    exact wpOp_wanted rfl (wanted_g (g := 9) (b := true) rfl rfl (hF.done 9 (43, SP.is (.bool true)) (by rw [hD]; rfl) (ready_dep hk 9 (by kernel_rfl))) (by rw [hF.size, hsz]; decide)) (wp_move_v (ac.eval (.tmp 0)) rfl rfl ⟨hl2 15, (hF.put 15 49 (SP.is (.slice (some ⟨b, o, none⟩) t cap)) (ac.eval (.tmp 0)) (by rw [hD]; rfl) (((hF.keep 0 (by rw [hD]; rfl)).trans zs0)) (by rw [hD]; rfl) (by rw [hsz]; decide) (by rw [hl]; decide)), hq⟩)
                  · have hk3 := hk
                    exact wpOp_wanted rfl (wanted_g (g := 9) (b := true) rfl rfl (hF.done 9 (43, SP.is (.bool true)) (by rw [hD]; rfl) (ready_dep hk 9 (by kernel_rfl))) (by rw [hF.size, hsz]; decide)) (wp_move_v (ac.eval (.tmp 7)) rfl rfl ⟨hl2 16, (hF.put 16 50 (SP.is (.int .i64 (j : Int))) (ac.eval (.tmp 7)) (by rw [hD]; rfl) (((hF.keep 7 (by rw [hD]; rfl)).trans zs7)) (by rw [hD]; rfl) (by rw [hsz]; decide) (by rw [hl]; decide)), hq⟩)
                  · have hk3 := hk
                    have ea := (hF.done 15 (49, SP.is (.slice (some ⟨b, o, none⟩) t cap)) (by rw [hD]; rfl) (ready_dep hk 15 (by kernel_rfl)))
                    have eb := (hF.done 16 (50, SP.is (.int .i64 (j : Int))) (by rw [hD]; rfl) (ready_dep hk 16 (by kernel_rfl)))
                    exact wpOp_wanted rfl (wanted_g (g := 9) (b := true) rfl rfl (hF.done 9 (43, SP.is (.bool true)) (by rw [hD]; rfl) (ready_dep hk 9 (by kernel_rfl))) (by rw [hF.size, hsz]; decide)) (wp_index_s 22 38 rfl b o t cap j 1 ea eb hjt Tryd.underlying22 info_slb ⟨hl2 17, (hF.put 17 51 (SP.is (.pointer (some ⟨b, o + j * 1, none⟩))) (.pointer (some ⟨b, o + j * 1, none⟩)) (by rw [hD]; rfl) rfl (by rw [hD]; rfl) (by rw [hsz]; decide) (by rw [hl]; decide)), hq⟩)
                  · have hk3 := hk
                    have ea := (hF.done 17 (51, SP.is (.pointer (some ⟨b, o + j * 1, none⟩))) (by rw [hD]; rfl) (ready_dep hk 17 (by kernel_rfl)))
                    exact wpOp_wanted rfl (wanted_g (g := 9) (b := true) rfl rfl (hF.done 9 (43, SP.is (.bool true)) (by rw [hD]; rfl) (ready_dep hk 9 (by kernel_rfl))) (by rw [hF.size, hsz]; decide)) (wp_load_1 b (o + j * 1) vj rfl ea (run_load_slb W b (o + j * 1) vj (HCJ.out W hq)) ⟨hl2 18, (hF.put 18 52 (SP.is (vj)) vj (by rw [hD]; rfl) rfl (by rw [hD]; rfl) (by rw [hsz]; decide) (by rw [hl]; decide)), hq⟩)
                  · have hk3 := hk
                    have ea := (hF.done 18 (52, SP.is (vj)) (by rw [hD]; rfl) (ready_dep hk 18 (by kernel_rfl)))
                    exact wpOp_wanted rfl (wanted_g (g := 9) (b := true) rfl rfl (hF.done 9 (43, SP.is (.bool true)) (by rw [hD]; rfl) (ready_dep hk 9 (by kernel_rfl))) (by rw [hF.size, hsz]; decide)) (wp_conv_s rfl xj (by rw [show ac.eval (.tmp 52) = _ from ea]; exact HSJ.out W hq) ⟨hl2 19, (hF.put 19 53 (SP.is (.string (str xj))) (.string (str xj)) (by rw [hD]; rfl) rfl (by rw [hD]; rfl) (by rw [hsz]; decide) (by rw [hl]; decide)), hq⟩)
                  · have hk3 := hk
                    have ea := (hF.done 14 (48, SP.is (.string (str xi))) (by rw [hD]; rfl) (ready_dep hk 14 (by kernel_rfl)))
                    have eb := (hF.done 19 (53, SP.is (.string (str xj))) (by rw [hD]; rfl) (ready_dep hk 19 (by kernel_rfl)))
                    exact wpOp_wanted rfl (wanted_g (g := 9) (b := true) rfl rfl (hF.done 9 (43, SP.is (.bool true)) (by rw [hD]; rfl) (ready_dep hk 9 (by kernel_rfl))) (by rw [hF.size, hsz]; decide)) (wp_neqstr_v rfl ea eb HB2.out ⟨hl2 20, (hF.put 20 54 (SP.is (.bool B2)) (.bool B2) (by rw [hD]; rfl) rfl (by rw [hD]; rfl) (by rw [hsz]; decide) (by rw [hl]; decide)), hq⟩)
                  · have hk3 := hk
                    have ea := (hF.done 9 (43, SP.is (.bool true)) (by rw [hD]; rfl) (ready_dep hk 9 (by kernel_rfl)))
                    have eb := (hF.done 20 (54, SP.is (.bool B2)) (by rw [hD]; rfl) (ready_dep hk 20 (by kernel_rfl)))
                    exact wpOp_plain rfl rfl (wp_pick_v (.bool B2) rfl ea eb ⟨hl2 21, (hF.put 21 55 (SP.is (.bool B2)) (.bool B2) (by rw [hD]; rfl) rfl (by rw [hD]; rfl) (by rw [hsz]; decide) (by rw [hl]; decide)), hq⟩)
                · clear hq  
                  intro listed ac W hI hr
                  obtain ⟨hl, hF, hq⟩ := hI
                  have hall := all_listed (by kernel_rfl) hl hr
                  have h34 : ac.eval (.tmp 34) = .slice (some ⟨g, 0, none⟩) t c5 := hF.done 0 (34, SP.is (.slice (some ⟨g, 0, none⟩) t c5)) (by rw [hD]; rfl) (hall 0 (by decide))
                  have h35 : ac.eval (.tmp 35) = .int .i64 (i : Int) := hF.done 1 (35, SP.is (.int .i64 (i : Int))) (by rw [hD]; rfl) (hall 1 (by decide))
                  have h36 : ac.eval (.tmp 36) = .pointer (some ⟨g, 0 + i * 32, none⟩) := hF.done 2 (36, SP.is (.pointer (some ⟨g, 0 + i * 32, none⟩))) (by rw [hD]; rfl) (hall 2 (by decide))
                  have h37 : ac.eval (.tmp 37) = .agg (vB di).toArray := hF.done 3 (37, SP.is (.agg (vB di).toArray)) (by rw [hD]; rfl) (hall 3 (by decide))
                  have h38 : ac.eval (.tmp 38) = .slice (some ⟨g, 0, none⟩) t c5 := hF.done 4 (38, SP.is (.slice (some ⟨g, 0, none⟩) t c5)) (by rw [hD]; rfl) (hall 4 (by decide))
                  have h39 : ac.eval (.tmp 39) = .int .i64 (j : Int) := hF.done 5 (39, SP.is (.int .i64 (j : Int))) (by rw [hD]; rfl) (hall 5 (by decide))
                  have h40 : ac.eval (.tmp 40) = .pointer (some ⟨g, 0 + j * 32, none⟩) := hF.done 6 (40, SP.is (.pointer (some ⟨g, 0 + j * 32, none⟩))) (by rw [hD]; rfl) (hall 6 (by decide))
                  have h41 : ac.eval (.tmp 41) = .agg (vB dj).toArray := hF.done 7 (41, SP.is (.agg (vB dj).toArray)) (by rw [hD]; rfl) (hall 7 (by decide))
                  have h42 : ac.eval (.tmp 42) = .bool true := hF.done 8 (42, SP.is (.bool true)) (by rw [hD]; rfl) (hall 8 (by decide))
                  have h43 : ac.eval (.tmp 43) = .bool true := hF.done 9 (43, SP.is (.bool true)) (by rw [hD]; rfl) (hall 9 (by decide))
                  have h44 : ac.eval (.tmp 44) = .slice (some ⟨b, o, none⟩) t cap := hF.done 10 (44, SP.is (.slice (some ⟨b, o, none⟩) t cap)) (by rw [hD]; rfl) (hall 10 (by decide))
                  have h45 : ac.eval (.tmp 45) = .int .i64 (i : Int) := hF.done 11 (45, SP.is (.int .i64 (i : Int))) (by rw [hD]; rfl) (hall 11 (by decide))
                  have h46 : ac.eval (.tmp 46) = .pointer (some ⟨b, o + i * 1, none⟩) := hF.done 12 (46, SP.is (.pointer (some ⟨b, o + i * 1, none⟩))) (by rw [hD]; rfl) (hall 12 (by decide))
                  have h47 : ac.eval (.tmp 47) = vi := hF.done 13 (47, SP.is (vi)) (by rw [hD]; rfl) (hall 13 (by decide))
                  have h48 : ac.eval (.tmp 48) = .string (str xi) := hF.done 14 (48, SP.is (.string (str xi))) (by rw [hD]; rfl) (hall 14 (by decide))
                  have h49 : ac.eval (.tmp 49) = .slice (some ⟨b, o, none⟩) t cap := hF.done 15 (49, SP.is (.slice (some ⟨b, o, none⟩) t cap)) (by rw [hD]; rfl) (hall 15 (by decide))
                  have h50 : ac.eval (.tmp 50) = .int .i64 (j : Int) := hF.done 16 (50, SP.is (.int .i64 (j : Int))) (by rw [hD]; rfl) (hall 16 (by decide))
                  have h51 : ac.eval (.tmp 51) = .pointer (some ⟨b, o + j * 1, none⟩) := hF.done 17 (51, SP.is (.pointer (some ⟨b, o + j * 1, none⟩))) (by rw [hD]; rfl) (hall 17 (by decide))
                  have h52 : ac.eval (.tmp 52) = vj := hF.done 18 (52, SP.is (vj)) (by rw [hD]; rfl) (hall 18 (by decide))
                  have h53 : ac.eval (.tmp 53) = .string (str xj) := hF.done 19 (53, SP.is (.string (str xj))) (by rw [hD]; rfl) (hall 19 (by decide))
                  have h54 : ac.eval (.tmp 54) = .bool B2 := hF.done 20 (54, SP.is (.bool B2)) (by rw [hD]; rfl) (hall 20 (by decide))
                  have h55 : ac.eval (.tmp 55) = .bool B2 := hF.done 21 (55, SP.is (.bool B2)) (by rw [hD]; rfl) (hall 21 (by decide))
                  have ea := hF.lay [(34, .slice (some ⟨g, 0, none⟩) t c5), (35, .int .i64 (i : Int)), (36, .pointer (some ⟨g, 0 + i * 32, none⟩)), (37, .agg (vB di).toArray), (38, .slice (some ⟨g, 0, none⟩) t c5), (39, .int .i64 (j : Int)), (40, .pointer (some ⟨g, 0 + j * 32, none⟩)), (41, .agg (vB dj).toArray), (42, .bool true), (43, .bool true), (44, .slice (some ⟨b, o, none⟩) t cap), (45, .int .i64 (i : Int)), (46, .pointer (some ⟨b, o + i * 1, none⟩)), (47, vi), (48, .string (str xi)), (49, .slice (some ⟨b, o, none⟩) t cap), (50, .int .i64 (j : Int)), (51, .pointer (some ⟨b, o + j * 1, none⟩)), (52, vj), (53, .string (str xj)), (54, .bool B2), (55, .bool B2)] (by rw [hD, hsz]; rfl) (by simp only [List.forall_mem_cons, List.not_mem_nil, false_implies, implies_true, and_true]; exact ⟨h34, h35, h36, h37, h38, h39, h40, h41, h42, h43, h44, h45, h46, h47, h48, h49, h50, h51, h52, h53, h54, h55⟩)
                  rw [ha0] at ea
                  simp only [List.foldl_cons, List.foldl_nil, List.setIfInBounds_toArray, List.set_cons_zero, List.set_cons_succ] at ea
                  clear hF hall hr hl hD  zs0 zs3 zs6 zs7 ha0 hsz h34 h35 h36 h37 h38 h39 h40 h41 h42 h43 h44 h45 h46 h47 h48 h49 h50 h51 h52 h53 h54 h55
                  subst ea
                  cases B2
                  · have hne : ¬ Clsh ts i j := fun h => by
                      have h1 := (HCL2.out.1 h).2
                      have h2 := HB2.out
                      rw [str_beq] at h2
                      simp at h2
                      exact h1 h2
                    have HNE : Hid (¬ Clsh ts i j) := hne
                    clear hne
                    go_wp2_with fail
                    refine ⟨⟨j + 1, hltj, by go_num, hq, fun k' h => ?_⟩, by simp [intOf]; omega⟩
                    by_cases e : k' < j
                    · exact HNJ.out k' e
                    · obtain rfl : k' = j := by omega
                      exact HNE.out
                  · go_wp2_with fail
                    go_ret
                    exact ⟨rfl, HB5.out.trans (hq.mono HB5.out.size)⟩
              · have HNE : Hid (¬ Clsh ts i j) := fun h => hd (HCL2.out.1 h).1
                have HD0 : Hid (decide (di = dj) = false) := decide_eq_false hd
                clear hd
                refine wp_named fun a0 ha0 => ?_
                have hsz : a0.tmps.size = 56 := by rw [ha0]; rfl
                have zs0 : a0.eval (.tmp 0) = .slice (some ⟨b, o, none⟩) t cap := by rw [ha0]; rfl
                have zs3 : a0.eval (.tmp 3) = .slice (some ⟨g, 0, none⟩) t c5 := by rw [ha0]; rfl
                have zs6 : a0.eval (.tmp 6) = .int .i64 (i : Int) := by rw [ha0]; rfl
                have zs7 : a0.eval (.tmp 7) = .int .i64 (j : Int) := by rw [ha0]; rfl
                obtain ⟨D, hD⟩ : ∃ D : List (Tmp × SP), D = [(34, SP.is (.slice (some ⟨g, 0, none⟩) t c5)), (35, SP.is (.int .i64 (i : Int))), (36, SP.is (.pointer (some ⟨g, 0 + i * 32, none⟩))), (37, SP.is (.agg (vB di).toArray)), (38, SP.is (.slice (some ⟨g, 0, none⟩) t c5)), (39, SP.is (.int .i64 (j : Int))), (40, SP.is (.pointer (some ⟨g, 0 + j * 32, none⟩))), (41, SP.is (.agg (vB dj).toArray)), (42, SP.is (.bool false)), (43, SP.is (.bool false)), (44, SP.is (undef)), (45, SP.is (undef)), (46, SP.is (undef)), (47, SP.is (undef)), (48, SP.is (undef)), (49, SP.is (undef)), (50, SP.is (undef)), (51, SP.is (undef)), (52, SP.is (undef)), (53, SP.is (undef)), (54, SP.is (undef)), (55, SP.is (.bool false))] := ⟨_, rfl⟩
                refine wp_region_down (by kernel_rfl) (fun listed ac W => listed.size = 22 ∧ Fp D a0 listed ac W ∧ Below w5.heap.size w5 W) ?_ ?_ ?_
                · exact ⟨by simp, Fp.start D a0 _ _, Below.drew hq⟩
                · clear ha0 hq  
                  intro listed ac W k hI hdn hk
                  obtain ⟨hl, hF, hq⟩ := hI
                  have hk1 : k < 22 := List.mem_range.1 (List.mem_filter.1 hk).1
                  have hl2 : ∀ j, (listed.setIfInBounds j true).size = 22 := fun j => by rw [Array.size_setIfInBounds]; exact hl
                  rcases (show k = 0 ∨ k = 1 ∨ k = 2 ∨ k = 3 ∨ k = 4 ∨ k = 5 ∨ k = 6 ∨ k = 7 ∨ k = 8 ∨ k = 9 ∨ k = 10 ∨ k = 11 ∨ k = 12 ∨ k = 13 ∨ k = 14 ∨ k = 15 ∨ k = 16 ∨ k = 17 ∨ k = 18 ∨ k = 19 ∨ k = 20 ∨ k = 21 by omega) with rfl | rfl | rfl | rfl | rfl | rfl | rfl | rfl | rfl | rfl | rfl | rfl | rfl | rfl | rfl | rfl | rfl | rfl | rfl | rfl | rfl | rfl
                  · have hk3 := hk
                    exact wpOp_plain rfl rfl (wp_move_v (ac.eval (.tmp 3)) rfl rfl ⟨hl2 0, (hF.put 0 34 (SP.is (.slice (some ⟨g, 0, none⟩) t c5)) (ac.eval (.tmp 3)) (by rw [hD]; rfl) (((hF.keep 3 (by rw [hD]; rfl)).trans zs3)) (by rw [hD]; rfl) (by rw [hsz]; decide) (by rw [hl]; decide)), hq⟩)
                  · have hk3 := hk
                    exact wpOp_plain rfl rfl (wp_move_v (ac.eval (.tmp 6)) rfl rfl ⟨hl2 1, (hF.put 1 35 (SP.is (.int .i64 (i : Int))) (ac.eval (.tmp 6)) (by rw [hD]; rfl) (((hF.keep 6 (by rw [hD]; rfl)).trans zs6)) (by rw [hD]; rfl) (by rw [hsz]; decide) (by rw [hl]; decide)), hq⟩)
                  · have hk3 := hk
                    have ea := (hF.done 0 (34, SP.is (.slice (some ⟨g, 0, none⟩) t c5)) (by rw [hD]; rfl) (ready_dep hk 0 (by kernel_rfl)))
                    have eb := (hF.done 1 (35, SP.is (.int .i64 (i : Int))) (by rw [hD]; rfl) (ready_dep hk 1 (by kernel_rfl)))
                    exact wpOp_plain rfl rfl (wp_index_s 30 28 rfl g 0 t c5 i 32 ea eb hlt Tryd.underlying30 info_dig ⟨hl2 2, (hF.put 2 36 (SP.is (.pointer (some ⟨g, 0 + i * 32, none⟩))) (.pointer (some ⟨g, 0 + i * 32, none⟩)) (by rw [hD]; rfl) rfl (by rw [hD]; rfl) (by rw [hsz]; decide) (by rw [hl]; decide)), hq⟩)
                  · have hk3 := hk
                    have ea := (hF.done 2 (36, SP.is (.pointer (some ⟨g, 0 + i * 32, none⟩))) (by rw [hD]; rfl) (ready_dep hk 2 (by kernel_rfl)))
                    exact wpOp_plain rfl rfl (wp_load_mid 28 (.tmp 36) rfl g (0 + i * 32) ea (vB di) _ (HRI.out W hq) Tryd.underlying28 rfl Hdi.info ⟨hl2 3, (hF.put 3 37 (SP.is (.agg (vB di).toArray)) (.agg (vB di).toArray) (by rw [hD]; rfl) rfl (by rw [hD]; rfl) (by rw [hsz]; decide) (by rw [hl]; decide)), hq⟩)
                  · have hk3 := hk
                    exact wpOp_plain rfl rfl (wp_move_v (ac.eval (.tmp 3)) rfl rfl ⟨hl2 4, (hF.put 4 38 (SP.is (.slice (some ⟨g, 0, none⟩) t c5)) (ac.eval (.tmp 3)) (by rw [hD]; rfl) (((hF.keep 3 (by rw [hD]; rfl)).trans zs3)) (by rw [hD]; rfl) (by rw [hsz]; decide) (by rw [hl]; decide)), hq⟩)
                  · have hk3 := hk
                    exact wpOp_plain rfl rfl (wp_move_v (ac.eval (.tmp 7)) rfl rfl ⟨hl2 5, (hF.put 5 39 (SP.is (.int .i64 (j : Int))) (ac.eval (.tmp 7)) (by rw [hD]; rfl) (((hF.keep 7 (by rw [hD]; rfl)).trans zs7)) (by rw [hD]; rfl) (by rw [hsz]; decide) (by rw [hl]; decide)), hq⟩)
                  · have hk3 := hk
                    have ea := (hF.done 4 (38, SP.is (.slice (some ⟨g, 0, none⟩) t c5)) (by rw [hD]; rfl) (ready_dep hk 4 (by kernel_rfl)))
                    have eb := (hF.done 5 (39, SP.is (.int .i64 (j : Int))) (by rw [hD]; rfl) (ready_dep hk 5 (by kernel_rfl)))
                    exact wpOp_plain rfl rfl (wp_index_s 30 28 rfl g 0 t c5 j 32 ea eb hjt Tryd.underlying30 info_dig ⟨hl2 6, (hF.put 6 40 (SP.is (.pointer (some ⟨g, 0 + j * 32, none⟩))) (.pointer (some ⟨g, 0 + j * 32, none⟩)) (by rw [hD]; rfl) rfl (by rw [hD]; rfl) (by rw [hsz]; decide) (by rw [hl]; decide)), hq⟩)
                  · have hk3 := hk
                    have ea := (hF.done 6 (40, SP.is (.pointer (some ⟨g, 0 + j * 32, none⟩))) (by rw [hD]; rfl) (ready_dep hk 6 (by kernel_rfl)))
                    exact wpOp_plain rfl rfl (wp_load_mid 28 (.tmp 40) rfl g (0 + j * 32) ea (vB dj) _ (HRJ.out W hq) Tryd.underlying28 rfl Hdj.info ⟨hl2 7, (hF.put 7 41 (SP.is (.agg (vB dj).toArray)) (.agg (vB dj).toArray) (by rw [hD]; rfl) rfl (by rw [hD]; rfl) (by rw [hsz]; decide) (by rw [hl]; decide)), hq⟩)
                  · have hk3 := hk
                    have ea := (hF.done 3 (37, SP.is (.agg (vB di).toArray)) (by rw [hD]; rfl) (ready_dep hk 3 (by kernel_rfl)))
                    have eb := (hF.done 7 (41, SP.is (.agg (vB dj).toArray)) (by rw [hD]; rfl) (ready_dep hk 7 (by kernel_rfl)))
                    exact wpOp_plain rfl rfl (wp_eql_d (.tmp 37) (.tmp 41) _ rfl di dj Hdi Hdj ea eb false HD0.out ⟨hl2 8, (hF.put 8 42 (SP.is (.bool false)) (.bool false) (by rw [hD]; rfl) rfl (by rw [hD]; rfl) (by rw [hsz]; decide) (by rw [hl]; decide)), hq⟩)
                  · have hk3 := hk
                    exact wpOp_plain rfl rfl (wp_move_v (ac.eval (.tmp 42)) rfl rfl ⟨hl2 9, (hF.put 9 43 (SP.is (.bool false)) (ac.eval (.tmp 42)) (by rw [hD]; rfl) ((hF.done 8 (42, SP.is (.bool false)) (by rw [hD]; rfl) (ready_dep hk 8 (by kernel_rfl)))) (by rw [hD]; rfl) (by rw [hsz]; decide) (by rw [hl]; decide)), hq⟩)
                  · have hk3 := hk
                    exact wpOp_off rfl (unwanted_g (g := 9) (b := true) rfl rfl (hF.done 9 (43, SP.is (.bool false)) (by rw [hD]; rfl) (ready_dep hk 9 (by kernel_rfl))) (by rw [hF.size, hsz]; decide)) ⟨hl2 10, (hF.put 10 44 (SP.is (undef)) undef (by rw [hD]; rfl) rfl (by rw [hD]; rfl) (by rw [hsz]; decide) (by rw [hl]; decide)), hq⟩
                  · have hk3 := hk
                    exact wpOp_off rfl (unwanted_g (g := 9) (b := true) rfl rfl (hF.done 9 (43, SP.is (.bool false)) (by rw [hD]; rfl) (ready_dep hk 9 (by kernel_rfl))) (by rw [hF.size, hsz]; decide)) ⟨hl2 11, (hF.put 11 45 (SP.is (undef)) undef (by rw [hD]; rfl) rfl (by rw [hD]; rfl) (by rw [hsz]; decide) (by rw [hl]; decide)), hq⟩
                  · have hk3 := hk
                    exact wpOp_off rfl (unwanted_g (g := 9) (b := true) rfl rfl (hF.done 9 (43, SP.is (.bool false)) (by rw [hD]; rfl) (ready_dep hk 9 (by kernel_rfl))) (by rw [hF.size, hsz]; decide)) ⟨hl2 12, (hF.put 12 46 (SP.is (undef)) undef (by rw [hD]; rfl) rfl (by rw [hD]; rfl) (by rw [hsz]; decide) (by rw [hl]; decide)), hq⟩
                  · have hk3 := hk
                    exact wpOp_off rfl (unwanted_g (g := 9) (b := true) rfl rfl (hF.done 9 (43, SP.is (.bool false)) (by rw [hD]; rfl) (ready_dep hk 9 (by kernel_rfl))) (by rw [hF.size, hsz]; decide)) ⟨hl2 13, (hF.put 13 47 (SP.is (undef)) undef (by rw [hD]; rfl) rfl (by rw [hD]; rfl) (by rw [hsz]; decide) (by rw [hl]; decide)), hq⟩
                  · have hk3 := hk
                    exact wpOp_off rfl (unwanted_g (g := 9) (b := true) rfl rfl (hF.done 9 (43, SP.is (.bool false)) (by rw [hD]; rfl) (ready_dep hk 9 (by kernel_rfl))) (by rw [hF.size, hsz]; decide)) ⟨hl2 14, (hF.put 14 48 (SP.is (undef)) undef (by rw [hD]; rfl) rfl (by rw [hD]; rfl) (by rw [hsz]; decide) (by rw [hl]; decide)), hq⟩
                  · have hk3 := hk
                    exact wpOp_off rfl (unwanted_g (g := 9) (b := true) rfl rfl (hF.done 9 (43, SP.is (.bool false)) (by rw [hD]; rfl) (ready_dep hk 9 (by kernel_rfl))) (by rw [hF.size, hsz]; decide)) ⟨hl2 15, (hF.put 15 49 (SP.is (undef)) undef (by rw [hD]; rfl) rfl (by rw [hD]; rfl) (by rw [hsz]; decide) (by rw [hl]; decide)), hq⟩
                  · have hk3 := hk
                    exact wpOp_off rfl (unwanted_g (g := 9) (b := true) rfl rfl (hF.done 9 (43, SP.is (.bool false)) (by rw [hD]; rfl) (ready_dep hk 9 (by kernel_rfl))) (by rw [hF.size, hsz]; decide)) ⟨hl2 16, (hF.put 16 50 (SP.is (undef)) undef (by rw [hD]; rfl) rfl (by rw [hD]; rfl) (by rw [hsz]; decide) (by rw [hl]; decide)), hq⟩
                  · have hk3 := hk
                    exact wpOp_off rfl (unwanted_g (g := 9) (b := true) rfl rfl (hF.done 9 (43, SP.is (.bool false)) (by rw [hD]; rfl) (ready_dep hk 9 (by kernel_rfl))) (by rw [hF.size, hsz]; decide)) ⟨hl2 17, (hF.put 17 51 (SP.is (undef)) undef (by rw [hD]; rfl) rfl (by rw [hD]; rfl) (by rw [hsz]; decide) (by rw [hl]; decide)), hq⟩
                  · have hk3 := hk
                    exact wpOp_off rfl (unwanted_g (g := 9) (b := true) rfl rfl (hF.done 9 (43, SP.is (.bool false)) (by rw [hD]; rfl) (ready_dep hk 9 (by kernel_rfl))) (by rw [hF.size, hsz]; decide)) ⟨hl2 18, (hF.put 18 52 (SP.is (undef)) undef (by rw [hD]; rfl) rfl (by rw [hD]; rfl) (by rw [hsz]; decide) (by rw [hl]; decide)), hq⟩
                  · have hk3 := hk
                    exact wpOp_off rfl (unwanted_g (g := 9) (b := true) rfl rfl (hF.done 9 (43, SP.is (.bool false)) (by rw [hD]; rfl) (ready_dep hk 9 (by kernel_rfl))) (by rw [hF.size, hsz]; decide)) ⟨hl2 19, (hF.put 19 53 (SP.is (undef)) undef (by rw [hD]; rfl) rfl (by rw [hD]; rfl) (by rw [hsz]; decide) (by rw [hl]; decide)), hq⟩
                  · have hk3 := hk
                    exact wpOp_off rfl (unwanted_g (g := 9) (b := true) rfl rfl (hF.done 9 (43, SP.is (.bool false)) (by rw [hD]; rfl) (ready_dep hk 9 (by kernel_rfl))) (by rw [hF.size, hsz]; decide)) ⟨hl2 20, (hF.put 20 54 (SP.is (undef)) undef (by rw [hD]; rfl) rfl (by rw [hD]; rfl) (by rw [hsz]; decide) (by rw [hl]; decide)), hq⟩
                  · have hk3 := hk
                    have ea := (hF.done 9 (43, SP.is (.bool false)) (by rw [hD]; rfl) (ready_dep hk 9 (by kernel_rfl)))
                    exact wpOp_plain rfl rfl (wp_pick_f (.bool false) rfl ea rfl ⟨hl2 21, (hF.put 21 55 (SP.is (.bool false)) (.bool false) (by rw [hD]; rfl) rfl (by rw [hD]; rfl) (by rw [hsz]; decide) (by rw [hl]; decide)), hq⟩)
                · clear hq  
                  intro listed ac W hI hr
                  obtain ⟨hl, hF, hq⟩ := hI
                  have hall := all_listed (by kernel_rfl) hl hr
                  have h34 : ac.eval (.tmp 34) = .slice (some ⟨g, 0, none⟩) t c5 := hF.done 0 (34, SP.is (.slice (some ⟨g, 0, none⟩) t c5)) (by rw [hD]; rfl) (hall 0 (by decide))
                  have h35 : ac.eval (.tmp 35) = .int .i64 (i : Int) := hF.done 1 (35, SP.is (.int .i64 (i : Int))) (by rw [hD]; rfl) (hall 1 (by decide))
                  have h36 : ac.eval (.tmp 36) = .pointer (some ⟨g, 0 + i * 32, none⟩) := hF.done 2 (36, SP.is (.pointer (some ⟨g, 0 + i * 32, none⟩))) (by rw [hD]; rfl) (hall 2 (by decide))
                  have h37 : ac.eval (.tmp 37) = .agg (vB di).toArray := hF.done 3 (37, SP.is (.agg (vB di).toArray)) (by rw [hD]; rfl) (hall 3 (by decide))
                  have h38 : ac.eval (.tmp 38) = .slice (some ⟨g, 0, none⟩) t c5 := hF.done 4 (38, SP.is (.slice (some ⟨g, 0, none⟩) t c5)) (by rw [hD]; rfl) (hall 4 (by decide))
                  have h39 : ac.eval (.tmp 39) = .int .i64 (j : Int) := hF.done 5 (39, SP.is (.int .i64 (j : Int))) (by rw [hD]; rfl) (hall 5 (by decide))
                  have h40 : ac.eval (.tmp 40) = .pointer (some ⟨g, 0 + j * 32, none⟩) := hF.done 6 (40, SP.is (.pointer (some ⟨g, 0 + j * 32, none⟩))) (by rw [hD]; rfl) (hall 6 (by decide))
                  have h41 : ac.eval (.tmp 41) = .agg (vB dj).toArray := hF.done 7 (41, SP.is (.agg (vB dj).toArray)) (by rw [hD]; rfl) (hall 7 (by decide))
                  have h42 : ac.eval (.tmp 42) = .bool false := hF.done 8 (42, SP.is (.bool false)) (by rw [hD]; rfl) (hall 8 (by decide))
                  have h43 : ac.eval (.tmp 43) = .bool false := hF.done 9 (43, SP.is (.bool false)) (by rw [hD]; rfl) (hall 9 (by decide))
                  have h44 : ac.eval (.tmp 44) = undef := hF.done 10 (44, SP.is (undef)) (by rw [hD]; rfl) (hall 10 (by decide))
                  have h45 : ac.eval (.tmp 45) = undef := hF.done 11 (45, SP.is (undef)) (by rw [hD]; rfl) (hall 11 (by decide))
                  have h46 : ac.eval (.tmp 46) = undef := hF.done 12 (46, SP.is (undef)) (by rw [hD]; rfl) (hall 12 (by decide))
                  have h47 : ac.eval (.tmp 47) = undef := hF.done 13 (47, SP.is (undef)) (by rw [hD]; rfl) (hall 13 (by decide))
                  have h48 : ac.eval (.tmp 48) = undef := hF.done 14 (48, SP.is (undef)) (by rw [hD]; rfl) (hall 14 (by decide))
                  have h49 : ac.eval (.tmp 49) = undef := hF.done 15 (49, SP.is (undef)) (by rw [hD]; rfl) (hall 15 (by decide))
                  have h50 : ac.eval (.tmp 50) = undef := hF.done 16 (50, SP.is (undef)) (by rw [hD]; rfl) (hall 16 (by decide))
                  have h51 : ac.eval (.tmp 51) = undef := hF.done 17 (51, SP.is (undef)) (by rw [hD]; rfl) (hall 17 (by decide))
                  have h52 : ac.eval (.tmp 52) = undef := hF.done 18 (52, SP.is (undef)) (by rw [hD]; rfl) (hall 18 (by decide))
                  have h53 : ac.eval (.tmp 53) = undef := hF.done 19 (53, SP.is (undef)) (by rw [hD]; rfl) (hall 19 (by decide))
                  have h54 : ac.eval (.tmp 54) = undef := hF.done 20 (54, SP.is (undef)) (by rw [hD]; rfl) (hall 20 (by decide))
                  have h55 : ac.eval (.tmp 55) = .bool false := hF.done 21 (55, SP.is (.bool false)) (by rw [hD]; rfl) (hall 21 (by decide))
                  have ea := hF.lay [(34, .slice (some ⟨g, 0, none⟩) t c5), (35, .int .i64 (i : Int)), (36, .pointer (some ⟨g, 0 + i * 32, none⟩)), (37, .agg (vB di).toArray), (38, .slice (some ⟨g, 0, none⟩) t c5), (39, .int .i64 (j : Int)), (40, .pointer (some ⟨g, 0 + j * 32, none⟩)), (41, .agg (vB dj).toArray), (42, .bool false), (43, .bool false), (44, undef), (45, undef), (46, undef), (47, undef), (48, undef), (49, undef), (50, undef), (51, undef), (52, undef), (53, undef), (54, undef), (55, .bool false)] (by rw [hD, hsz]; rfl) (by simp only [List.forall_mem_cons, List.not_mem_nil, false_implies, implies_true, and_true]; exact ⟨h34, h35, h36, h37, h38, h39, h40, h41, h42, h43, h44, h45, h46, h47, h48, h49, h50, h51, h52, h53, h54, h55⟩)
                  rw [ha0] at ea
                  simp only [List.foldl_cons, List.foldl_nil, List.setIfInBounds_toArray, List.set_cons_zero, List.set_cons_succ] at ea
                  clear hF hall hr hl hD  zs0 zs3 zs6 zs7 ha0 hsz h34 h35 h36 h37 h38 h39 h40 h41 h42 h43 h44 h45 h46 h47 h48 h49 h50 h51 h52 h53 h54 h55
                  subst ea
                  go_wp2_with fail
                  refine ⟨⟨j + 1, hltj, by go_num, hq, fun k' h => ?_⟩, by simp [intOf]; omega⟩
                  by_cases e : k' < j
                  · exact HNJ.out k' e
                  · obtain rfl : k' = j := by omega
                    exact HNE.out
            · obtain rfl : j = i := by omega
              have htb : j ≤ 4398046511100 := Nat.le_trans (Nat.le_of_lt hlt) hs
              go_wp2
              refine ⟨⟨j + 1, hlt, by go_num, hq, fun i' k' h1 h2 => ?_⟩, by simp [intOf]; omega⟩
              by_cases e : i' < j
              · exact HNO.out i' k' h1 e
              · obtain rfl : i' = j := by omega
                exact HNJ.out k' h1
        · obtain rfl : i = t := by omega
          obtain ⟨i', k', h1, h2, h3⟩ := HC.out
          exact absurd h3 (HNO.out i' k' h1 h2)
end Go.Proofs.YtnogjhbohljjnabDoor
