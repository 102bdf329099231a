/-
  The document's Texts.
-/
import Derived.Test.YtfkcmeafddhmkaaGreatDoorTTxs
namespace Go.Proofs.YtfkcmeafddhmkaaGreatDoor
open Go Go.RowKit
open Sha

theorem own_form {w : World} {N e size n : Nat} {v : Value} {xs : List Value} (h : w.ownsRow N e size v n xs) : ∃ A cap, v = .slice A n cap := by
  rcases h.2 with ⟨h2, h0⟩ | ⟨g, cap, cur, hv, _⟩
  · exact ⟨none, 0, by rw [h2, h0]⟩
  · exact ⟨_, cap, hv⟩
theorem own_at {w : World} {N e n : Nat} {A : Option Addr} {cap : Nat} {xs : List Value} (h : w.ownsRow N e 1 (.slice A n cap) n xs) (hn : 0 < n) : ∃ g, A = some ⟨g, 0, none⟩ ∧ N ≤ g ∧ w.rangeAt g 0 xs := by
  rcases h.2 with ⟨_, h0⟩ | ⟨g, cap', cur, hv, hg, hh, hc, hm, hs, ht⟩
  · omega
  · simp only [Value.slice.injEq] at hv
    have hr : Row w g cur.toList e := by unfold Row; rw [hh]
    refine ⟨g, hv.1, hg, fun j u hj => hr.all j u ?_⟩
    rw [← ht] at hj
    have hjl : j < n * 1 := by have := (List.getElem?_eq_some_iff.1 hj).1; rw [List.length_take] at this; omega
    rwa [List.getElem?_take_of_lt hjl] at hj
theorem cell_beT {w w' : World} {p : Addr} {v : Value} (h : w.cell? p = some v) (k : Below w.heap.size w w') : w'.cell? p = some v := (k.cell (World.block_lt_of_cell? w _ h)).trans h
theorem vT_get (l : List Bool) (i : Nat) (h : i < l.length) : (vT l)[i]? = some (.bool (l.getD i false)) := by simp [vT, h]
/-- Bytes that were made here. -/
def SP.by8 (M n : Nat) (l : List Value) : SP := ⟨fun W v => W.ownsRow M 5 1 v n l, fun _ _ _ hB h => ownsRow_below h hB (Nat.le_refl _)⟩
theorem pat_range {w : World} {A : Option Addr} {cap : Nat} {ds : List (List (BitVec 8))} (h : PAt w (.slice A ds.length cap) ds) (t : Nat) (ht : t < ds.length) : ∃ b o, A = some ⟨b, o, none⟩ ∧ w.rangeAt b (o + t * 32) (vB (ds.getD t [])) := by
  obtain ⟨h1, A', cap', e, hc, h2⟩ := h
  simp only [Value.slice.injEq] at e
  obtain ⟨rfl, _, rfl⟩ := e
  rcases h2 with h2 | ⟨b, o, rfl, hr⟩
  · rw [h2] at ht; simp at ht
  · refine ⟨b, o, rfl, ?_⟩
    have e1 : ds = ds.take t ++ (ds.getD t [] :: ds.drop (t + 1)) := by
      rw [show ds.getD t [] = ds[t] by simp [List.getD_eq_getElem?_getD, ht], ← List.drop_eq_getElem_cons ht, List.take_append_drop]
    rw [e1, List.flatMap_append, List.flatMap_cons] at hr
    exact ran_left (ran_right hr (by rw [flat_length _ (fun d hd => h1 d (List.mem_of_mem_take hd)), List.length_take, Nat.min_eq_left (by omega)]))
theorem pat_each {w : World} {v : Value} {ds : List (List (BitVec 8))} (h : PAt w v ds) (t : Nat) (ht : t < ds.length) : Dl (ds.getD t []) := by
  rw [List.getD_eq_getElem?_getD, List.getElem?_eq_getElem ht]; exact h.1 _ (List.getElem_mem _)

set_option maxRecDepth 100000 in
set_option maxHeartbeats 8000000 in
theorem texts_any (n i : Nat) (hin : i < n) (hn : n ≤ 1099511627776) (lf : List (BitVec 8)) (L : Nat) (hL : lf.length = L) (hlf : L + 1 ≤ 140737488355000) (ds : List (List (BitVec 8))) (hds : ds.length = pl n i) (A PA : Option Addr) (cap pc : Nat) (hnil : A = none → cap = 0) (w : World) (hG : Given w) (hv : SlAtT w (.slice A L cap) lf) (hp : PAt w (.slice PA ds.length pc) ds) :
    Calls Tryz.prog 12 #[.int .i64 (n : Int), .int .i64 (i : Int), .slice A L cap, .slice PA ds.length pc] w fun e w' => ∃ v vs, e = .returned v ∧ Txs w' w.heap.size v (txs (sd n i) ds lf (ds.length + 1)) vs ∧ Below w.heap.size w w' := by
  have HV : Hid (SlAtT w (.slice A L cap) lf) := hv
  have HP : Hid (PAt w (.slice PA ds.length pc) ds) := hp
  have HG : Hid (Given w) := hG
  have HNL : Hid (A = none → cap = 0) := hnil
  have HL : Hid (lf.length = L) := hL
  have HLF : Hid (L + 1 ≤ 140737488355000) := hlf
  have HL8 : Hid (L + 1 ≤ 140737488355328) := by show _ ≤ _; omega
  have HS : Hid (∀ W : World, _) := fun W => sides_any n i hin hn W
  have hm : (sd n i).length = ds.length := by rw [sd_length n i (by omega) (by omega), hds]
  obtain ⟨ss, hss⟩ : ∃ ss, ss = sd n i := ⟨_, rfl⟩
  rw [← hss] at HS hm ⊢
  have HMB : Hid (ds.length ≤ 1099511627776) := by
    show _ ≤ _
    rw [hds]; have := pl_lt n i (by omega) (by omega); omega
  clear hv hp hG hnil hlf hss hds hL
  obtain ⟨m, em⟩ : ∃ m, m = ds.length := ⟨_, rfl⟩
  rw [← em] at hm HMB HP ⊢
  have HM : Hid (ss.length = m) := hm
  have HE : Hid (m = ds.length) := em
  rw [hm] at HS
  clear hm em hin hn
  go_enter Tryz.func12, Tryz.ntmps12
  go_wp2_with (first
    | (go_at_call 24; refine (leafText_any lf L HL.out HL8.out A cap w HV.out HNL.out).mono ?_; rintro e w1 ⟨v1, rfl, hO1, hB1⟩; obtain ⟨g1, c1, rfl⟩ := owns_some hO1 (by omega))
    | (go_at_call 25; refine (HS.out _).mono ?_; rintro e w2 ⟨v2, rfl, hO2, hB2⟩; obtain ⟨A2, c2, rfl⟩ := own_form hO2))
  have hN1 := hB1.size
  have T1 : Txs w2 w.heap.size (.slice (some ⟨w1.heap.size, 0, none⟩) 1 1) (txs ss ds lf (0 + 1)) [.slice (some ⟨g1, 0, none⟩) (1 + L) c1] :=
    (Txs.one hN1 (Row.new' rfl rfl) (by
      rw [show txk ss ds lf 0 = [0#8] ++ lf from rfl, show ([0#8] ++ lf).length = 1 + L by rw [List.length_append, HL.out]; rfl]
      exact ownsRow_below hO1 ((Below.refl _ _).alloc (Nat.le_refl _) _) (Nat.le_refl _))).below hB2
  have R1 : w2.ownsRow w.heap.size 4 1 (.slice A2 m c2) m (vT ss) := own_less hO2 (by simp; omega)
  have hB3 : Below w.heap.size w w2 := (hB1.alloc hN1 _).trans (hB2.mono (by simp; omega))
  clear hO1 hO2 hB1 hB2 HS
  go_loopw [10, 12] (fun vl k wr => ∃ (t : Nat) (vs : List Value), t ≤ m ∧ k = .int .i64 (t : Int) ∧ Txs wr w.heap.size vl (txs ss ds lf (t + 1)) vs ∧ wr.ownsRow w.heap.size 4 1 (.slice A2 m c2) m (vT ss) ∧ Below w.heap.size w wr) (fun _ k _ => m - (intOf k).toNat)
  case atStart => exact ⟨0, _, Nat.zero_le _, rfl, T1, R1, hB3⟩
  case round =>
    clear T1 R1 hB3
    obtain ⟨t, vs, ht, rfl, hT, hR, hb⟩ := hrel
    by_cases hlt : t < m
    · obtain ⟨g2, rfl, hg2, hRc⟩ := own_at hR (by omega)
      have b1 : wr.cell? ⟨g2, t, none⟩ = some (.bool (ss.getD t false)) := by
        have := hRc t _ (vT_get ss t (by rw [HM.out]; exact hlt))
        rwa [Nat.zero_add] at this
      obtain ⟨g, gc, ev, hgN, hgc, hTc⟩ := hT.form (by rw [txs_length]; omega)
      rw [txs_length] at ev
      subst ev
      have b2 := hT.cell hTc t (by rw [txs_length]; omega)
      have hE := hT.each t (by rw [txs_length]; omega)
      rw [txs_get _ _ _ _ _ (Nat.lt_succ_self t)] at hE
      have hEl : 0 < (txk ss ds lf t).length := by cases t <;> simp [txk]; split <;> simp
      obtain ⟨g3, c3, e3⟩ := owns_some hE hEl
      rw [e3] at b2 hE
      have hLen : (txk ss ds lf t).length ≤ 140737488355000 := by
        cases t with
        | zero => rw [show txk ss ds lf 0 = [0#8] ++ lf from rfl, List.length_append, HL.out]; have := HLF.out; simp; omega
        | succ k =>
          have hk : (ds.getD k []).length = 32 := pat_each HP.out k (by rw [← HE.out]; omega)
          unfold txk
          split <;> simp only [List.length_append, dig_length, hk, List.length_cons, List.length_nil] <;> decide
      obtain ⟨x, ex⟩ : ∃ x, x = txk ss ds lf t := ⟨_, rfl⟩
      rw [← ex] at hE hLen b2
      obtain ⟨dd, hdd⟩ : ∃ dd, dd = dig x := ⟨_, rfl⟩
      have HDD : Hid (dd = dig x) := hdd
      have Hdd : Dl dd := by rw [hdd]; exact dl_dig _
      have hS3 := (owns_slAt hE).1
      have HX : Hid (x = txk ss ds lf t) := ex
      have Hp : Dl (ds.getD t []) := pat_each HP.out t (by rw [← HE.out]; exact hlt)
      obtain ⟨pb, po, ePA, hrange⟩ := pat_range (A := PA) (cap := pc) (by rw [← HE.out]; exact HP.out) t (by rw [← HE.out]; exact hlt)
      subst ePA
      have HPR : Hid (∀ W, Below w.heap.size w W → W.rangeAt pb (po + t * 32) (vB (ds.getD t []))) := fun W hB => range_below hrange hB (Nat.le_refl _)
      have HY : Hid (txs ss ds lf (t + 1 + 1) = txs ss ds lf (t + 1) ++ [txk ss ds lf (t + 1)]) := txs_succ ss ds lf (t + 1)
      have HZ : Hid (txk ss ds lf (t + 1) = if ss.getD t false then [1#8] ++ (dd ++ ds.getD t []) else [1#8] ++ (ds.getD t [] ++ dd)) := by show _ = _; rw [txk, ← ex, ← hdd]
      have HTL : Hid ((txs ss ds lf (t + 1)).length = t + 1) := txs_length _ _ _ _
      generalize ds.getD t [] = p at *
      have HLEN : Hid (x.length ≤ 140737488355000) := hLen
      clear hTc hRc ex hdd hrange hLen hE
      cases hsb : ss.getD t false
      · rw [hsb] at b1 HZ
        rw [if_neg (by decide)] at HZ
        go_wp2_with fail
        refine (rsum_any x dd HDD.out HLEN.out _ wr hS3 (HG.out.low hb)).mono ?_
        rintro e V0 ⟨rfl, hB⟩
        replace hb := hb.trans (hB.mono hb.size)
        replace hT := hT.below hB
        replace hR := ownsRow_below hR hB (Nat.le_refl _)
        replace b1 := cell_beT b1 hB
        clear hB
        have o_r13 : w.heap.size ≤ V0.heap.size := hb.size
        have n0 : Row (V0.alloc (Obj.cells z32T.toArray 39)) V0.heap.size z32T 39 := Row.new' rfl rfl
        have T0 := Hdd.there n0 rfl
        replace n0 := n0.over (vs := vB dd) (Hdd.over rfl)
        have hB : Below V0.heap.size V0 ((V0.alloc (Obj.cells z32T.toArray 39)).setCells V0.heap.size 0 (vB dd)) := below_setCells ((Below.refl _ _).alloc (Nat.le_refl _) (Obj.cells z32T.toArray 39)) (b := V0.heap.size) (o := 0) (Nat.le_refl _) (vB dd)
        replace hb := hb.trans (hB.mono hb.size)
        replace hT := hT.below hB
        replace hR := ownsRow_below hR hB (Nat.le_refl _)
        replace b1 := cell_beT b1 hB
        clear hB
        have r13 := n0
        clear n0
        go_wp2_with (refine wpList_store_mid rfl 39 (.tmp 13) (.tmp 31) rfl V0.heap.size 0 (vB dd).toArray rfl rfl T0 Hdd.info' Hdd.one ?_; simp only [Act.put]; clear T0; (change wpList _ _ _ _ _ ((V0.alloc (Obj.cells z32T.toArray 39)).setCells V0.heap.size 0 (vB dd))); (generalize ((V0.alloc (Obj.cells z32T.toArray 39)).setCells V0.heap.size 0 (vB dd)) = X1 at *); (generalize hN : V0.heap.size = N13 at *; clear hN))
        have HB0 : Hid (Below w.heap.size w X1) := hb
        have HT0 : Hid (Txs X1 _ _ _ _) := hT
        have HR0 : Hid (X1.ownsRow _ _ _ _ _ _) := hR
        clear hb hT hR b1 hsb HDD hS3
        have hx : Below X1.heap.size X1 X1 := Below.refl _ _
        refine wp_named fun a0 ha0 => ?_
        have hsz : a0.tmps.size = 53 := by rw [ha0]; rfl
        have s3 : a0.eval (.tmp 3) = .slice (some ⟨pb, po, none⟩) m pc := by rw [ha0]; rfl
        have s12 : a0.eval (.tmp 12) = .int .i64 (t : Int) := by rw [ha0]; rfl
        have s13 : a0.eval (.tmp 13) = .pointer (some ⟨N13, 0, none⟩) := by rw [ha0]; rfl
        obtain ⟨D, hD⟩ : ∃ D : List (Tmp × SP), D = [(42, SP.is (.slice (some ⟨pb, po, none⟩) m pc)), (43, SP.is (.int .i64 (t : Int))), (44, SP.is (.pointer (some ⟨pb, po + t * 32, none⟩))), (45, SP.is (.agg (vB p).toArray)), (46, SP.is (.agg (vB dd).toArray)), (47, SP.by8 w.heap.size 65 (vB ([1#8] ++ (p ++ dd)))), (9, SP.by8 w.heap.size 65 (vB ([1#8] ++ (p ++ dd))))] := ⟨_, rfl⟩
        refine wp_region_down (by kernel_rfl) (fun listed ac W => listed.size = 7 ∧ Fp D a0 listed ac W ∧ Below X1.heap.size X1 W ∧ Row W N13 ((vB dd)) 39) ?_ ?_ ?_
        · exact ⟨by simp, Fp.start D a0 _ _, Below.drew hx, Row.drew r13⟩
        · clear ha0 hx r13 
          intro listed ac W k hI hdn hk
          obtain ⟨hl, hF, hx, r13⟩ := hI
          have hk1 : k < 7 := List.mem_range.1 (List.mem_filter.1 hk).1
          have hl2 : ∀ j, (listed.setIfInBounds j true).size = 7 := fun j => by rw [Array.size_setIfInBounds]; exact hl
          rcases (show k = 0 ∨ k = 1 ∨ k = 2 ∨ k = 3 ∨ k = 4 ∨ k = 5 ∨ k = 6 by omega) with rfl | rfl | rfl | rfl | rfl | rfl | rfl
          · have hk3 := hk
            exact wpOp_plain rfl rfl (wp_move_v (ac.eval (.tmp 3)) rfl rfl ⟨hl2 0, (hF.put 0 42 (SP.is (.slice (some ⟨pb, po, none⟩) m pc)) (ac.eval (.tmp 3)) (by rw [hD]; rfl) (((hF.keep 3 (by rw [hD]; rfl)).trans s3)) (by rw [hD]; rfl) (by rw [hsz]; decide) (by rw [hl]; decide)), hx, r13⟩)
          · have hk3 := hk
            exact wpOp_plain rfl rfl (wp_move_v (ac.eval (.tmp 12)) rfl rfl ⟨hl2 1, (hF.put 1 43 (SP.is (.int .i64 (t : Int))) (ac.eval (.tmp 12)) (by rw [hD]; rfl) (((hF.keep 12 (by rw [hD]; rfl)).trans s12)) (by rw [hD]; rfl) (by rw [hsz]; decide) (by rw [hl]; decide)), hx, r13⟩)
          · have hk3 := hk
            have ea := (hF.done 0 (42, SP.is (.slice (some ⟨pb, po, none⟩) m pc)) (by rw [hD]; rfl) (ready_dep hk 0 (by kernel_rfl)))
            have eb := (hF.done 1 (43, SP.is (.int .i64 (t : Int))) (by rw [hD]; rfl) (ready_dep hk 1 (by kernel_rfl)))
            exact wpOp_plain rfl rfl (wp_index_s 30 39 rfl pb po m pc t 32 ea eb hlt Tryz.underlying30 info_dig ⟨hl2 2, (hF.put 2 44 (SP.is (.pointer (some ⟨pb, po + t * 32, none⟩))) (.pointer (some ⟨pb, po + t * 32, none⟩)) (by rw [hD]; rfl) rfl (by rw [hD]; rfl) (by rw [hsz]; decide) (by rw [hl]; decide)), hx, r13⟩)
          · have hk3 := hk
            have ea := (hF.done 2 (44, SP.is (.pointer (some ⟨pb, po + t * 32, none⟩))) (by rw [hD]; rfl) (ready_dep hk 2 (by kernel_rfl)))
            exact wpOp_plain rfl rfl (wp_load_mid 39 (.tmp 44) rfl pb (po + t * 32) ea (vB p) _ (HPR.out W (HB0.out.trans (hx.mono HB0.out.size))) Tryz.underlying39 rfl Hp.info ⟨hl2 3, (hF.put 3 45 (SP.is (.agg (vB p).toArray)) (.agg (vB p).toArray) (by rw [hD]; rfl) rfl (by rw [hD]; rfl) (by rw [hsz]; decide) (by rw [hl]; decide)), hx, r13⟩)
          · have hk3 := hk
            exact wpOp_plain rfl rfl (wp_load_mid 39 (.tmp 13) rfl N13 0 ((hF.keep 13 (by rw [hD]; rfl)).trans s13) ((vB dd)) _ r13.all Tryz.underlying39 rfl Hdd.info ⟨hl2 4, (hF.put 4 46 (SP.is (.agg (vB dd).toArray)) (.agg (vB dd).toArray) (by rw [hD]; rfl) rfl (by rw [hD]; rfl) (by rw [hsz]; decide) (by rw [hl]; decide)), hx, r13⟩)
          · have hk3 := hk
            have ea := (hF.done 3 (45, SP.is (.agg (vB p).toArray)) (by rw [hD]; rfl) (ready_dep hk 3 (by kernel_rfl)))
            have eb := (hF.done 4 (46, SP.is (.agg (vB dd).toArray)) (by rw [hD]; rfl) (ready_dep hk 4 (by kernel_rfl)))
            refine wpOp_plain rfl rfl (wp_fcall_v 27 #[.agg (vB p).toArray, .agg (vB dd).toArray] rfl rfl (by show [ac.eval (.tmp 45), ac.eval (.tmp 46)] = _; rw [show ac.eval (.tmp 45) = _ from ea, show ac.eval (.tmp 46) = _ from eb]) (by go_simp) ((nodeText_any p dd Hp Hdd W).mono ?_))
            rintro e W2 ⟨v2, rfl, hO, hB⟩
            exact ⟨_, rfl, hl2 5, ((hF.world hB).put 5 47 (SP.by8 w.heap.size 65 (vB ([1#8] ++ (p ++ dd)))) v2 (by rw [hD]; rfl) (own_less hO (Nat.le_trans HB0.out.size hx.size)) (by rw [hD]; rfl) (by rw [hsz]; decide) (by rw [hl]; decide)), hx.trans (hB.mono hx.size), Row.below r13 hB (Row.lt r13)⟩
          · have hk3 := hk
            exact wpOp_plain rfl rfl (wp_assign_v (ac.eval (.tmp 47)) rfl rfl ⟨hl2 6, (hF.put 6 9 (SP.by8 w.heap.size 65 (vB ([1#8] ++ (p ++ dd)))) (ac.eval (.tmp 47)) (by rw [hD]; rfl) ((hF.done 5 (47, SP.by8 w.heap.size 65 (vB ([1#8] ++ (p ++ dd)))) (by rw [hD]; rfl) (ready_dep hk 5 (by kernel_rfl)))) (by rw [hD]; rfl) (by rw [hsz]; decide) (by rw [hl]; decide)), hx, r13⟩)
        · clear hx r13 
          intro listed ac W hI hr
          obtain ⟨hl, hF, hx, r13⟩ := hI
          have hall := all_listed (by kernel_rfl) hl hr
          have h42 : ac.eval (.tmp 42) = .slice (some ⟨pb, po, none⟩) m pc := hF.done 0 (42, SP.is (.slice (some ⟨pb, po, none⟩) m pc)) (by rw [hD]; rfl) (hall 0 (by decide))
          have h43 : ac.eval (.tmp 43) = .int .i64 (t : Int) := hF.done 1 (43, SP.is (.int .i64 (t : Int))) (by rw [hD]; rfl) (hall 1 (by decide))
          have h44 : ac.eval (.tmp 44) = .pointer (some ⟨pb, po + t * 32, none⟩) := hF.done 2 (44, SP.is (.pointer (some ⟨pb, po + t * 32, none⟩))) (by rw [hD]; rfl) (hall 2 (by decide))
          have h45 : ac.eval (.tmp 45) = .agg (vB p).toArray := hF.done 3 (45, SP.is (.agg (vB p).toArray)) (by rw [hD]; rfl) (hall 3 (by decide))
          have h46 : ac.eval (.tmp 46) = .agg (vB dd).toArray := hF.done 4 (46, SP.is (.agg (vB dd).toArray)) (by rw [hD]; rfl) (hall 4 (by decide))
          obtain ⟨x47, h47⟩ : ∃ x, ac.eval (.tmp 47) = x := ⟨_, rfl⟩
          have f9 := hF.done 6 (9, SP.by8 w.heap.size 65 (vB ([1#8] ++ (p ++ dd)))) (by rw [hD]; rfl) (hall 6 (by decide))
          obtain ⟨x9, h9⟩ : ∃ x, ac.eval (.tmp 9) = x := ⟨_, rfl⟩
          replace f9 : (SP.by8 w.heap.size 65 (vB ([1#8] ++ (p ++ dd)))).P W x9 := by rw [← h9]; exact f9
          have ea := hF.lay [(42, .slice (some ⟨pb, po, none⟩) m pc), (43, .int .i64 (t : Int)), (44, .pointer (some ⟨pb, po + t * 32, none⟩)), (45, .agg (vB p).toArray), (46, .agg (vB dd).toArray), (47, x47), (9, x9)] (by rw [hD, hsz]; rfl) (by simp only [List.forall_mem_cons, List.not_mem_nil, false_implies, implies_true, and_true]; exact ⟨h42, h43, h44, h45, h46, h47, h9⟩)
          rw [ha0] at ea
          simp only [List.foldl_cons, List.foldl_nil, List.setIfInBounds_toArray, List.set_cons_zero, List.set_cons_succ] at ea
          clear hF hall hr hl hD  s3 s12 s13 ha0 hsz h42 h43 h44 h45 h46 h47 h9
          subst ea
          obtain ⟨g9, c9, e9⟩ := owns_some f9 (by decide)
          subst e9
          have hb := HB0.out.trans (hx.mono HB0.out.size)
          have hT := HT0.out.below hx
          have hR := ownsRow_below HR0.out hx (Nat.le_refl _)
          have hA : Below W.heap.size W (W.alloc (.cells #[.slice (some ⟨g9, 0, none⟩) 65 c9] 52)) := (Below.refl _ _).alloc (Nat.le_refl _) _
          have hT1 := hT.below hA
          have hR1 := ownsRow_below hR hA (Nat.le_refl _)
          have hO1 : Txs (W.alloc (.cells #[.slice (some ⟨g9, 0, none⟩) 65 c9] 52)) w.heap.size (.slice (some ⟨W.heap.size, 0, none⟩) 1 1) [[1#8] ++ (p ++ dd)] [.slice (some ⟨g9, 0, none⟩) 65 c9] := Txs.one hb.size (Row.new' rfl rfl) (by
            rw [show ([1#8] ++ (p ++ dd)).length = 65 by simp [show dd.length = 32 from Hdd, show p.length = 32 from Hp]]
            exact ownsRow_below f9 hA (Nat.le_refl _))
          have hb1 := hb.alloc hb.size (.cells #[.slice (some ⟨g9, 0, none⟩) 65 c9] 52)
          have htb : t ≤ 1099511627776 := Nat.le_trans ht HMB.out
          clear hT hR hx f9
          go_wp2_with (refine wpList_join rfl (.tmp 48) (.tmp 50) rfl _ w w.heap.size w.heap.size _ _ _ _ _ _ hT1 hO1 (by simp) rfl rfl (by rw [HTL.out]; have := HMB.out; simp; omega) hb1.size (Nat.le_refl _) hb1 ?_; intro v3 w3 hT3 hB3 hG3; simp only [Act.put, List.setIfInBounds_toArray, List.set_cons_zero, List.set_cons_succ])
          have hR3 := own_grown hR1 hT1.own (by decide) hG3
          rw [← HZ.out, ← HY.out] at hT3
          exact ⟨⟨t + 1, _, hlt, by go_num, hT3, hR3, hB3⟩, by simp [intOf]; omega⟩
      · rw [hsb] at b1 HZ
        rw [if_pos rfl] at HZ
        go_wp2_with fail
        refine (rsum_any x dd HDD.out HLEN.out _ wr hS3 (HG.out.low hb)).mono ?_
        rintro e V0 ⟨rfl, hB⟩
        replace hb := hb.trans (hB.mono hb.size)
        replace hT := hT.below hB
        replace hR := ownsRow_below hR hB (Nat.le_refl _)
        replace b1 := cell_beT b1 hB
        clear hB
        have o_r13 : w.heap.size ≤ V0.heap.size := hb.size
        have n0 : Row (V0.alloc (Obj.cells z32T.toArray 39)) V0.heap.size z32T 39 := Row.new' rfl rfl
        have T0 := Hdd.there n0 rfl
        replace n0 := n0.over (vs := vB dd) (Hdd.over rfl)
        have hB : Below V0.heap.size V0 ((V0.alloc (Obj.cells z32T.toArray 39)).setCells V0.heap.size 0 (vB dd)) := below_setCells ((Below.refl _ _).alloc (Nat.le_refl _) (Obj.cells z32T.toArray 39)) (b := V0.heap.size) (o := 0) (Nat.le_refl _) (vB dd)
        replace hb := hb.trans (hB.mono hb.size)
        replace hT := hT.below hB
        replace hR := ownsRow_below hR hB (Nat.le_refl _)
        replace b1 := cell_beT b1 hB
        clear hB
        have r13 := n0
        clear n0
        go_wp2_with (refine wpList_store_mid rfl 39 (.tmp 13) (.tmp 31) rfl V0.heap.size 0 (vB dd).toArray rfl rfl T0 Hdd.info' Hdd.one ?_; simp only [Act.put]; clear T0; (change wpList _ _ _ _ _ ((V0.alloc (Obj.cells z32T.toArray 39)).setCells V0.heap.size 0 (vB dd))); (generalize ((V0.alloc (Obj.cells z32T.toArray 39)).setCells V0.heap.size 0 (vB dd)) = X1 at *); (generalize hN : V0.heap.size = N13 at *; clear hN))
        have HB0 : Hid (Below w.heap.size w X1) := hb
        have HT0 : Hid (Txs X1 _ _ _ _) := hT
        have HR0 : Hid (X1.ownsRow _ _ _ _ _ _) := hR
        clear hb hT hR b1 hsb HDD hS3
        have hx : Below X1.heap.size X1 X1 := Below.refl _ _
        refine wp_named fun a0 ha0 => ?_
        have hsz : a0.tmps.size = 53 := by rw [ha0]; rfl
        have s3 : a0.eval (.tmp 3) = .slice (some ⟨pb, po, none⟩) m pc := by rw [ha0]; rfl
        have s12 : a0.eval (.tmp 12) = .int .i64 (t : Int) := by rw [ha0]; rfl
        have s13 : a0.eval (.tmp 13) = .pointer (some ⟨N13, 0, none⟩) := by rw [ha0]; rfl
        obtain ⟨D, hD⟩ : ∃ D : List (Tmp × SP), D = [(36, SP.is (.agg (vB dd).toArray)), (37, SP.is (.slice (some ⟨pb, po, none⟩) m pc)), (38, SP.is (.int .i64 (t : Int))), (39, SP.is (.pointer (some ⟨pb, po + t * 32, none⟩))), (40, SP.is (.agg (vB p).toArray)), (41, SP.by8 w.heap.size 65 (vB ([1#8] ++ (dd ++ p)))), (9, SP.by8 w.heap.size 65 (vB ([1#8] ++ (dd ++ p))))] := ⟨_, rfl⟩
        refine wp_region_down (by kernel_rfl) (fun listed ac W => listed.size = 7 ∧ Fp D a0 listed ac W ∧ Below X1.heap.size X1 W ∧ Row W N13 ((vB dd)) 39) ?_ ?_ ?_
        · exact ⟨by simp, Fp.start D a0 _ _, Below.drew hx, Row.drew r13⟩
        · clear ha0 hx r13 
          intro listed ac W k hI hdn hk
          obtain ⟨hl, hF, hx, r13⟩ := hI
          have hk1 : k < 7 := List.mem_range.1 (List.mem_filter.1 hk).1
          have hl2 : ∀ j, (listed.setIfInBounds j true).size = 7 := fun j => by rw [Array.size_setIfInBounds]; exact hl
          rcases (show k = 0 ∨ k = 1 ∨ k = 2 ∨ k = 3 ∨ k = 4 ∨ k = 5 ∨ k = 6 by omega) with rfl | rfl | rfl | rfl | rfl | rfl | rfl
          · have hk3 := hk
            exact wpOp_plain rfl rfl (wp_load_mid 39 (.tmp 13) rfl N13 0 ((hF.keep 13 (by rw [hD]; rfl)).trans s13) ((vB dd)) _ r13.all Tryz.underlying39 rfl Hdd.info ⟨hl2 0, (hF.put 0 36 (SP.is (.agg (vB dd).toArray)) (.agg (vB dd).toArray) (by rw [hD]; rfl) rfl (by rw [hD]; rfl) (by rw [hsz]; decide) (by rw [hl]; decide)), hx, r13⟩)
          · have hk3 := hk
            exact wpOp_plain rfl rfl (wp_move_v (ac.eval (.tmp 3)) rfl rfl ⟨hl2 1, (hF.put 1 37 (SP.is (.slice (some ⟨pb, po, none⟩) m pc)) (ac.eval (.tmp 3)) (by rw [hD]; rfl) (((hF.keep 3 (by rw [hD]; rfl)).trans s3)) (by rw [hD]; rfl) (by rw [hsz]; decide) (by rw [hl]; decide)), hx, r13⟩)
          · have hk3 := hk
            exact wpOp_plain rfl rfl (wp_move_v (ac.eval (.tmp 12)) rfl rfl ⟨hl2 2, (hF.put 2 38 (SP.is (.int .i64 (t : Int))) (ac.eval (.tmp 12)) (by rw [hD]; rfl) (((hF.keep 12 (by rw [hD]; rfl)).trans s12)) (by rw [hD]; rfl) (by rw [hsz]; decide) (by rw [hl]; decide)), hx, r13⟩)
          · have hk3 := hk
            have ea := (hF.done 1 (37, SP.is (.slice (some ⟨pb, po, none⟩) m pc)) (by rw [hD]; rfl) (ready_dep hk 1 (by kernel_rfl)))
            have eb := (hF.done 2 (38, SP.is (.int .i64 (t : Int))) (by rw [hD]; rfl) (ready_dep hk 2 (by kernel_rfl)))
            exact wpOp_plain rfl rfl (wp_index_s 30 39 rfl pb po m pc t 32 ea eb hlt Tryz.underlying30 info_dig ⟨hl2 3, (hF.put 3 39 (SP.is (.pointer (some ⟨pb, po + t * 32, none⟩))) (.pointer (some ⟨pb, po + t * 32, none⟩)) (by rw [hD]; rfl) rfl (by rw [hD]; rfl) (by rw [hsz]; decide) (by rw [hl]; decide)), hx, r13⟩)
          · have hk3 := hk
            have ea := (hF.done 3 (39, SP.is (.pointer (some ⟨pb, po + t * 32, none⟩))) (by rw [hD]; rfl) (ready_dep hk 3 (by kernel_rfl)))
            exact wpOp_plain rfl rfl (wp_load_mid 39 (.tmp 39) rfl pb (po + t * 32) ea (vB p) _ (HPR.out W (HB0.out.trans (hx.mono HB0.out.size))) Tryz.underlying39 rfl Hp.info ⟨hl2 4, (hF.put 4 40 (SP.is (.agg (vB p).toArray)) (.agg (vB p).toArray) (by rw [hD]; rfl) rfl (by rw [hD]; rfl) (by rw [hsz]; decide) (by rw [hl]; decide)), hx, r13⟩)
          · have hk3 := hk
            have ea := (hF.done 0 (36, SP.is (.agg (vB dd).toArray)) (by rw [hD]; rfl) (ready_dep hk 0 (by kernel_rfl)))
            have eb := (hF.done 4 (40, SP.is (.agg (vB p).toArray)) (by rw [hD]; rfl) (ready_dep hk 4 (by kernel_rfl)))
            refine wpOp_plain rfl rfl (wp_fcall_v 27 #[.agg (vB dd).toArray, .agg (vB p).toArray] rfl rfl (by show [ac.eval (.tmp 36), ac.eval (.tmp 40)] = _; rw [show ac.eval (.tmp 36) = _ from ea, show ac.eval (.tmp 40) = _ from eb]) (by go_simp) ((nodeText_any dd p Hdd Hp W).mono ?_))
            rintro e W2 ⟨v2, rfl, hO, hB⟩
            exact ⟨_, rfl, hl2 5, ((hF.world hB).put 5 41 (SP.by8 w.heap.size 65 (vB ([1#8] ++ (dd ++ p)))) v2 (by rw [hD]; rfl) (own_less hO (Nat.le_trans HB0.out.size hx.size)) (by rw [hD]; rfl) (by rw [hsz]; decide) (by rw [hl]; decide)), hx.trans (hB.mono hx.size), Row.below r13 hB (Row.lt r13)⟩
          · have hk3 := hk
            exact wpOp_plain rfl rfl (wp_assign_v (ac.eval (.tmp 41)) rfl rfl ⟨hl2 6, (hF.put 6 9 (SP.by8 w.heap.size 65 (vB ([1#8] ++ (dd ++ p)))) (ac.eval (.tmp 41)) (by rw [hD]; rfl) ((hF.done 5 (41, SP.by8 w.heap.size 65 (vB ([1#8] ++ (dd ++ p)))) (by rw [hD]; rfl) (ready_dep hk 5 (by kernel_rfl)))) (by rw [hD]; rfl) (by rw [hsz]; decide) (by rw [hl]; decide)), hx, r13⟩)
        · clear hx r13 
          intro listed ac W hI hr
          obtain ⟨hl, hF, hx, r13⟩ := hI
          have hall := all_listed (by kernel_rfl) hl hr
          have h36 : ac.eval (.tmp 36) = .agg (vB dd).toArray := hF.done 0 (36, SP.is (.agg (vB dd).toArray)) (by rw [hD]; rfl) (hall 0 (by decide))
          have h37 : ac.eval (.tmp 37) = .slice (some ⟨pb, po, none⟩) m pc := hF.done 1 (37, SP.is (.slice (some ⟨pb, po, none⟩) m pc)) (by rw [hD]; rfl) (hall 1 (by decide))
          have h38 : ac.eval (.tmp 38) = .int .i64 (t : Int) := hF.done 2 (38, SP.is (.int .i64 (t : Int))) (by rw [hD]; rfl) (hall 2 (by decide))
          have h39 : ac.eval (.tmp 39) = .pointer (some ⟨pb, po + t * 32, none⟩) := hF.done 3 (39, SP.is (.pointer (some ⟨pb, po + t * 32, none⟩))) (by rw [hD]; rfl) (hall 3 (by decide))
          have h40 : ac.eval (.tmp 40) = .agg (vB p).toArray := hF.done 4 (40, SP.is (.agg (vB p).toArray)) (by rw [hD]; rfl) (hall 4 (by decide))
          obtain ⟨x41, h41⟩ : ∃ x, ac.eval (.tmp 41) = x := ⟨_, rfl⟩
          have f9 := hF.done 6 (9, SP.by8 w.heap.size 65 (vB ([1#8] ++ (dd ++ p)))) (by rw [hD]; rfl) (hall 6 (by decide))
          obtain ⟨x9, h9⟩ : ∃ x, ac.eval (.tmp 9) = x := ⟨_, rfl⟩
          replace f9 : (SP.by8 w.heap.size 65 (vB ([1#8] ++ (dd ++ p)))).P W x9 := by rw [← h9]; exact f9
          have ea := hF.lay [(36, .agg (vB dd).toArray), (37, .slice (some ⟨pb, po, none⟩) m pc), (38, .int .i64 (t : Int)), (39, .pointer (some ⟨pb, po + t * 32, none⟩)), (40, .agg (vB p).toArray), (41, x41), (9, x9)] (by rw [hD, hsz]; rfl) (by simp only [List.forall_mem_cons, List.not_mem_nil, false_implies, implies_true, and_true]; exact ⟨h36, h37, h38, h39, h40, h41, h9⟩)
          rw [ha0] at ea
          simp only [List.foldl_cons, List.foldl_nil, List.setIfInBounds_toArray, List.set_cons_zero, List.set_cons_succ] at ea
          clear hF hall hr hl hD  s3 s12 s13 ha0 hsz h36 h37 h38 h39 h40 h41 h9
          subst ea
          obtain ⟨g9, c9, e9⟩ := owns_some f9 (by decide)
          subst e9
          have hb := HB0.out.trans (hx.mono HB0.out.size)
          have hT := HT0.out.below hx
          have hR := ownsRow_below HR0.out hx (Nat.le_refl _)
          have hA : Below W.heap.size W (W.alloc (.cells #[.slice (some ⟨g9, 0, none⟩) 65 c9] 52)) := (Below.refl _ _).alloc (Nat.le_refl _) _
          have hT1 := hT.below hA
          have hR1 := ownsRow_below hR hA (Nat.le_refl _)
          have hO1 : Txs (W.alloc (.cells #[.slice (some ⟨g9, 0, none⟩) 65 c9] 52)) w.heap.size (.slice (some ⟨W.heap.size, 0, none⟩) 1 1) [[1#8] ++ (dd ++ p)] [.slice (some ⟨g9, 0, none⟩) 65 c9] := Txs.one hb.size (Row.new' rfl rfl) (by
            rw [show ([1#8] ++ (dd ++ p)).length = 65 by simp [show dd.length = 32 from Hdd, show p.length = 32 from Hp]]
            exact ownsRow_below f9 hA (Nat.le_refl _))
          have hb1 := hb.alloc hb.size (.cells #[.slice (some ⟨g9, 0, none⟩) 65 c9] 52)
          have htb : t ≤ 1099511627776 := Nat.le_trans ht HMB.out
          clear hT hR hx f9
          go_wp2_with (refine wpList_join rfl (.tmp 48) (.tmp 50) rfl _ w w.heap.size w.heap.size _ _ _ _ _ _ hT1 hO1 (by simp) rfl rfl (by rw [HTL.out]; have := HMB.out; simp; omega) hb1.size (Nat.le_refl _) hb1 ?_; intro v3 w3 hT3 hB3 hG3; simp only [Act.put, List.setIfInBounds_toArray, List.set_cons_zero, List.set_cons_succ])
          have hR3 := own_grown hR1 hT1.own (by decide) hG3
          rw [← HZ.out, ← HY.out] at hT3
          exact ⟨⟨t + 1, _, hlt, by go_num, hT3, hR3, hB3⟩, by simp [intOf]; omega⟩
    · obtain rfl : t = m := by omega
      go_wp2
      go_ret
      exact ⟨_, vs, rfl, hT, hb⟩
end Go.Proofs.YtfkcmeafddhmkaaGreatDoor
