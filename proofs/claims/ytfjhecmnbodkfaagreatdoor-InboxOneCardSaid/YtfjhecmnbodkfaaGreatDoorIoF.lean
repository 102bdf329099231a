/-
  clash.
-/
import Derived.Test.YtfjhecmnbodkfaaGreatDoorIoE
namespace Go.Proofs.YtfjhecmnbodkfaaGreatDoor
open Go Go.RowKit
open Sha

def SP.tx (t : List (BitVec 8)) : SP := ⟨fun W u => (∃ A N c, u = .slice A N c) ∧ SlAt W u t, fun _ _ _ hB h => ⟨h.1, h.2.be hB⟩⟩
theorem wpList_neq_sJ {ops : Array Oper} {rest : List Oper} {op : Oper} {a : Act} {w : World} {Q : Exit → Act → World → Prop} (hw : Region.wanted op (yielded ops a.tmps) = true) (x y : Operand) (yt : TypeId) (ho : op.op = .binOp .neq 9 x y yt) (l r : List (BitVec 8)) (hx : a.eval x = .string (str l)) (hy : a.eval y = .string (str r)) (B : Bool) (hB : (!decide (l = r)) = B) (h : wpList Tryz.prog ops Q rest (a.put op.dst (.bool B)) w) : wpList Tryz.prog ops Q (op :: rest) a w :=
  BigFrame.wpList_want hw fun _ hK => by
    subst hB
    rw [← istr_beq] at h
    unfold Oper.wp execOp
    simp only [ho, hx, hy]
    simp [go_sem]
    exact hK _ _ h
theorem clN_true (k : List (BitVec 8)) (es fs : List Ev) (n i : Nat) (hi : i < n) (h : clB k es fs i = true) : clN k es fs n = true := List.any_eq_true.2 ⟨i, List.mem_range.2 hi, h⟩
theorem txt_at (k : List (BitVec 8)) (es : List Ev) (i : Nat) (e : Ev) (h : es[i]? = some e) : txt k es i = lkf k (es.take i) ++ e.bytes := by unfold txt; rw [h]
set_option maxRecDepth 100000 in
set_option maxHeartbeats 8000000 in
theorem clash_any (k : List (BitVec 8)) (hk : k.length = 32) (es fs : List Ev) (ho : ∀ e ∈ es, e.Wf ∧ e.May) (ho2 : ∀ e ∈ fs, e.Wf ∧ e.May) (A1 A2 : Option Addr) (N c1 c2 : Nat) (hN : N = es.length) (hN2 : N = fs.length) (hNb : N ≤ 100000) (w : World) (hG : Given w) (h1 : EsAt w A1 es) (h2 : EsAt w A2 fs) (KK : List Value) (hKK : KK = vB k) (T : Bool) (hT : T = clN k es fs N) :
    Calls Tryz.prog 24 #[.agg KK.toArray, .slice A1 N c1, .slice A2 N c2] w fun r w' => r = .returned (.bool T) ∧ Below w.heap.size w w' := by
  have HO : Hid (∀ e ∈ es, e.Wf ∧ e.May) := ho
  have HO2 : Hid (∀ e ∈ fs, e.Wf ∧ e.May) := ho2
  have HK : Hid (k.length = 32) := hk
  have HN : Hid (N = es.length) := hN
  have HN2 : Hid (N = fs.length) := hN2
  have H1 : Hid (EsAt w A1 es) := h1
  have H2 : Hid (EsAt w A2 fs) := h2
  have HT : Hid (T = clN k es fs N) := hT
  have HKI : Hid ((Tryz.prog.info? 51).map (·.size) = some KK.length) := by show _ = _; rw [hKK, vB_length, hk]; exact info_dg
  have HGW : Hid (∀ X, Below w.heap.size w X → Given X) := fun X k => hG.below k (Nat.le_refl _)
  have HL1 : Hid (∀ X, Below w.heap.size w X → Calls Tryz.prog 13 #[.agg KK.toArray, .slice A1 N c1] X fun r w' => ∃ g c, r = .returned (.slice (some ⟨g, 0, none⟩) (N + 1) c) ∧ Lw w' 51 32 (.slice (some ⟨g, 0, none⟩) (N + 1) c) (N + 1) (dcs k es N) ∧ X.heap.size ≤ g ∧ Below X.heap.size X w') := fun X b => links_any k hk es ho A1 N c1 hN hNb X (HGW.out X b) (h1.be b) KK hKK
  have HL2 : Hid (∀ X, Below w.heap.size w X → Calls Tryz.prog 13 #[.agg KK.toArray, .slice A2 N c2] X fun r w' => ∃ g c, r = .returned (.slice (some ⟨g, 0, none⟩) (N + 1) c) ∧ Lw w' 51 32 (.slice (some ⟨g, 0, none⟩) (N + 1) c) (N + 1) (dcs k fs N) ∧ X.heap.size ≤ g ∧ Below X.heap.size X w') := fun X b => links_any k hk fs ho2 A2 N c2 hN2 hNb X (HGW.out X b) (h2.be b) KK hKK
  clear ho ho2 hN hN2 h1 h2 hk hKK hG hT
  go_enter Tryz.func24, Tryz.ntmps24
  go_upto_region 2 with (first
    | (refine wpList_boxG 51 rfl (.tmp 0) rfl KK rfl ?_; intro X1 q1 q2 q3; have R1 : Hid (Row X1 w.heap.size KK 51) := q1; have B1 : Hid (Below w.heap.size w X1) := q2; clear q1 q2 q3; simp only [Act.put, List.setIfInBounds_toArray, List.set_cons_zero, List.set_cons_succ])
    | (refine wpList_load_w rfl 51 (.tmp 3) rfl w.heap.size 0 rfl (KK) _ R1.out.all Tryz.underlying51 rfl HKI.out ?_; simp only [Act.put, List.setIfInBounds_toArray, List.set_cons_zero, List.set_cons_succ])
    | (go_at_call 13; refine Calls.mono (HL1.out X1 B1.out) ?_; rintro r X2 ⟨g1, d1, rfl, q1, q2, q3⟩; have L1 : Hid (Lw X2 51 32 (.slice (some ⟨g1, 0, none⟩) (N + 1) d1) (N + 1) (dcs k es N)) := q1; have B2 : Hid (Below w.heap.size w X2) := B1.out.trans (q3.mono B1.out.size); have R2 : Hid (Row X2 w.heap.size KK 51) := Row.below R1.out q3 R1.out.lt; clear q1 q2 q3))
  clear HL1 R1 B1
  go_upto_region 3 with (first
    | (refine wpList_load_w rfl 51 (.tmp 3) rfl w.heap.size 0 rfl (KK) _ R2.out.all Tryz.underlying51 rfl HKI.out ?_; simp only [Act.put, List.setIfInBounds_toArray, List.set_cons_zero, List.set_cons_succ])
    | (go_at_call 13; refine Calls.mono (HL2.out X2 B2.out) ?_; rintro r X3 ⟨g2, d2, rfl, q1, q2, q3⟩; have L2 : Hid (Lw X3 51 32 (.slice (some ⟨g2, 0, none⟩) (N + 1) d2) (N + 1) (dcs k fs N)) := q1; have B3 : Hid (Below w.heap.size w X3) := B2.out.trans (q3.mono B2.out.size); have L3 : Hid (Lw X3 51 32 (.slice (some ⟨g1, 0, none⟩) (N + 1) d1) (N + 1) (dcs k es N)) := Lw.be L1.out q3; clear q1 q2 q3))
  clear HL2 R2 B2 L1
  go_wp2_with fail
  go_loopw [9] (fun v9 wr => ∃ (i : Nat), i ≤ N ∧ v9 = .int .i64 (i : Int) ∧ Hid (Below X3.heap.size X3 wr ∧ clN k es fs i = false)) (fun v9 _ => N - (intOf v9).toNat)
  case atStart => exact ⟨0, Nat.zero_le _, rfl, Below.refl _ _, rfl⟩
  case round =>
    obtain ⟨i, hi, rfl, HI0⟩ := hrel
    have HBX : Hid (Below X3.heap.size X3 wr) := HI0.out.1
    have HFI : Hid (clN k es fs i = false) := HI0.out.2
    have HB : Hid (Below w.heap.size w wr) := B3.out.trans (HBX.out.mono B3.out.size)
    clear HI0
    by_cases hlt : i < N
    · have hlt2 : (i : Int) < (N : Int) := by omega
      obtain ⟨e, he⟩ : ∃ e, es[i]? = some e := ⟨_, List.getElem?_eq_getElem (by have := HN.out; omega)⟩
      obtain ⟨f, hf⟩ : ∃ f, fs[i]? = some f := ⟨_, List.getElem?_eq_getElem (by have := HN2.out; omega)⟩
      obtain ⟨b, o, A', c', hA1, hrg, hsl, hnil⟩ := H1.out i e he
      obtain ⟨b2, o2, A2', c2', hA2, hrg2, hsl2, hnil2⟩ := H2.out i f hf
      subst hA1 hA2
      obtain ⟨we, me⟩ := HO.out e (List.mem_of_getElem? he)
      obtain ⟨wf, mf⟩ := HO2.out f (List.mem_of_getElem? hf)
      obtain ⟨n1, hn1⟩ : ∃ n, n = e.d.length := ⟨_, rfl⟩
      obtain ⟨n2, hn2⟩ : ∃ n, n = f.d.length := ⟨_, rfl⟩
      rw [← hn1] at hrg hsl
      rw [← hn2] at hrg2 hsl2
      obtain ⟨L, hL⟩ : ∃ L, L = e.cells (.slice A' n1 c') := ⟨_, rfl⟩
      obtain ⟨M, hM⟩ : ∃ L, L = f.cells (.slice A2' n2 c2') := ⟨_, rfl⟩
      rw [← hL] at hrg
      rw [← hM] at hrg2
      obtain ⟨q, hq⟩ : ∃ q, q = o + i * 49 := ⟨_, rfl⟩
      obtain ⟨q2, hq2⟩ : ∃ q, q = o2 + i * 49 := ⟨_, rfl⟩
      have HQ : Hid (o + i * 49 = q) := hq.symm
      have HQ2 : Hid (o2 + i * 49 = q2) := hq2.symm
      rw [← hq] at hrg
      rw [← hq2] at hrg2
      have HIN : Hid (i < N) := hlt
      have HI1 : Hid (i < N + 1) := Nat.lt_succ_of_lt hlt
      have HI : Hid ((Tryz.prog.info? 46).map (·.size) = some L.length) := by rw [hL]; exact Ev.info we _
      have HI2 : Hid ((Tryz.prog.info? 46).map (·.size) = some M.length) := by rw [hM]; exact Ev.info wf _
      have HR : Hid (∀ X, Below w.heap.size w X → X.rangeAt b q L) := fun X k => range_be hrg k
      have HR2 : Hid (∀ X, Below w.heap.size w X → X.rangeAt b2 q2 M) := fun X k => range_be hrg2 k
      obtain ⟨ka, hka⟩ : ∃ z, z = lkf k (es.take i) := ⟨_, rfl⟩
      obtain ⟨kb, hkb⟩ : ∃ z, z = lkf k (fs.take i) := ⟨_, rfl⟩
      have la : ka.length = 32 := by rw [hka]; exact lkf_len k HK.out _
      have lb : kb.length = 32 := by rw [hkb]; exact lkf_len k HK.out _
      obtain ⟨q5, hq5⟩ : ∃ q, q = 0 + i * 32 := ⟨_, rfl⟩
      have HQ5 : Hid (0 + i * 32 = q5) := hq5.symm
      have HRA : Hid (∀ X, Below X3.heap.size X3 X → X.rangeAt g1 q5 (vB ka)) := fun X k2 j u hj => by
        have := (Lw.be L3.out k2).range (i * 32 + j) u (dcs_at k HK.out es N i (Nat.le_of_lt hlt) j u (by rw [← hka]; exact hj))
        rw [show q5 + j = 0 + (i * 32 + j) by omega]
        exact this
      have HRB : Hid (∀ X, Below X3.heap.size X3 X → X.rangeAt g2 q5 (vB kb)) := fun X k2 j u hj => by
        have := (Lw.be L2.out k2).range (i * 32 + j) u (dcs_at k HK.out fs N i (Nat.le_of_lt hlt) j u (by rw [← hkb]; exact hj))
        rw [show q5 + j = 0 + (i * 32 + j) by omega]
        exact this
      have HIA : Hid ((Tryz.prog.info? 51).map (·.size) = some (vB ka).length) := by show _ = _; rw [vB_length, la]; exact info_dg
      have HIB : Hid ((Tryz.prog.info? 51).map (·.size) = some (vB kb).length) := by show _ = _; rw [vB_length, lb]; exact info_dg
      obtain ⟨ta, hta⟩ : ∃ z, z = ka ++ e.bytes := ⟨_, rfl⟩
      obtain ⟨tb, htb⟩ : ∃ z, z = kb ++ f.bytes := ⟨_, rfl⟩
      have HTA : Hid (∀ X, Below w.heap.size w X → Calls Tryz.prog 44 #[.agg (vB ka).toArray, .agg L.toArray] X fun r w' => ∃ A' N c', r = .returned (.slice A' N c') ∧ SlAt w' (.slice A' N c') ta ∧ Below X.heap.size X w') := fun X k2 => (rtext_ok e we me ka la A' n1 c' hn1.symm hnil L hL X (hsl.be k2)).mono (fun r w' ⟨a1, a2, a3, h1, _, h3, _, _, h6⟩ => ⟨a1, a2, a3, h1, by rw [hta]; exact Bw.sl h3, h6⟩)
      have HTB : Hid (∀ X, Below w.heap.size w X → Calls Tryz.prog 44 #[.agg (vB kb).toArray, .agg M.toArray] X fun r w' => ∃ A' N c', r = .returned (.slice A' N c') ∧ SlAt w' (.slice A' N c') tb ∧ Below X.heap.size X w') := fun X k2 => (rtext_ok f wf mf kb lb A2' n2 c2' hn2.symm hnil2 M hM X (hsl2.be k2)).mono (fun r w' ⟨a1, a2, a3, h1, _, h3, _, _, h6⟩ => ⟨a1, a2, a3, h1, by rw [htb]; exact Bw.sl h3, h6⟩)
      have tla : ta.length ≤ 100000 := by rw [hta, List.length_append, la]; have := Ev.bytes_len we me; omega
      have tlb : tb.length ≤ 100000 := by rw [htb, List.length_append, lb]; have := Ev.bytes_len wf mf; omega
      obtain ⟨da, hda⟩ : ∃ z, z = dig ta := ⟨_, rfl⟩
      obtain ⟨db, hdb⟩ : ∃ z, z = dig tb := ⟨_, rfl⟩
      have HSA : Hid (∀ X v, Below w.heap.size w X → SlAt X v ta → Calls Tryz.prog 43 #[v] X fun r w' => r = .returned (.agg (vB da).toArray) ∧ Below X.heap.size X w') := fun X v k2 hv => rsum_any ta da hda (by omega) v X (slTo hv) (HGW.out X k2)
      have HSB : Hid (∀ X v, Below w.heap.size w X → SlAt X v tb → Calls Tryz.prog 43 #[v] X fun r w' => r = .returned (.agg (vB db).toArray) ∧ Below X.heap.size X w') := fun X v k2 hv => rsum_any tb db hdb (by omega) v X (slTo hv) (HGW.out X k2)
      have HDA : Hid (da.length = 32) := by rw [hda]; exact dig_length _
      have HDB : Hid (db.length = 32) := by rw [hdb]; exact dig_length _
      have HCB : Hid (clB k es fs i = (!decide (ta = tb) && decide (da = db))) := by
        show _ = _
        unfold clB
        rw [txt_at k es i e he, txt_at k fs i f hf, ← hka, ← hkb, ← hta, ← htb, ← hda, ← hdb]
      clear he hf hrg hsl hnil we me wf mf hn1 hn2 hL hq hrg2 hsl2 hnil2 hM hq2 hka hkb la lb hq5 hta htb tla tlb hda hdb
      go_upto_region 6 with fail
      have hb1 := Below.refl wr.heap.size wr
      refine wp_named fun a0 ha0 => ?_
      have hsz : a0.tmps.size = 54 := by rw [ha0]; rfl
      have zs1 : a0.eval (.tmp 1) = .slice (some ⟨b, o, none⟩) N c1 := by rw [ha0]; rfl
      have zs2 : a0.eval (.tmp 2) = .slice (some ⟨b2, o2, none⟩) N c2 := by rw [ha0]; rfl
      have zs7 : a0.eval (.tmp 7) = .slice (some ⟨g1, 0, none⟩) (N + 1) d1 := by rw [ha0]; rfl
      have zs8 : a0.eval (.tmp 8) = .slice (some ⟨g2, 0, none⟩) (N + 1) d2 := by rw [ha0]; rfl
      have zs9 : a0.eval (.tmp 9) = .int .i64 (i : Int) := by rw [ha0]; rfl
      obtain ⟨D, hD⟩ : ∃ D : List (Tmp × SP), D = [(24, SP.is (.slice (some ⟨g1, 0, none⟩) (N + 1) d1)), (25, SP.is (.int .i64 (i : Int))), (26, SP.is (.pointer (some ⟨g1, q5, none⟩))), (27, SP.is (.agg (vB ka).toArray)), (28, SP.is (.slice (some ⟨b, o, none⟩) N c1)), (29, SP.is (.int .i64 (i : Int))), (30, SP.is (.pointer (some ⟨b, q, none⟩))), (31, SP.is (.agg L.toArray)), (32, SP.tx ta), (10, SP.tx ta)] := ⟨_, rfl⟩
      refine wp_region_down (by kernel_rfl) (fun listed ac W => listed.size = 10 ∧ Fp D a0 listed ac W ∧ Below wr.heap.size wr W) ?_ ?_ ?_
      · exact ⟨by simp, Fp.start D a0 _ _, Below.drew hb1⟩
      · clear ha0 hb1  
        intro listed ac W k hI hdn hk
        obtain ⟨hl, hF, hb1⟩ := hI
        have hk1 : k < 10 := List.mem_range.1 (List.mem_filter.1 hk).1
        have hl2 : ∀ j, (listed.setIfInBounds j true).size = 10 := fun j => by rw [Array.size_setIfInBounds]; exact hl
        rcases (show k = 0 ∨ k = 1 ∨ k = 2 ∨ k = 3 ∨ k = 4 ∨ k = 5 ∨ k = 6 ∨ k = 7 ∨ k = 8 ∨ k = 9 by omega) with rfl | rfl | rfl | rfl | rfl | rfl | rfl | rfl | rfl | rfl
        · have hk3 := hk
          exact wpOp_plain rfl rfl (wp_move_v (ac.eval (.tmp 7)) rfl rfl ⟨hl2 0, (hF.put 0 24 (SP.is (.slice (some ⟨g1, 0, none⟩) (N + 1) d1)) (ac.eval (.tmp 7)) (by rw [hD]; rfl) (((hF.keep 7 (by rw [hD]; rfl)).trans zs7)) (by rw [hD]; rfl) (by rw [hsz]; decide) (by rw [hl]; decide)), hb1⟩)
        · have hk3 := hk
          exact wpOp_plain rfl rfl (wp_move_v (ac.eval (.tmp 9)) rfl rfl ⟨hl2 1, (hF.put 1 25 (SP.is (.int .i64 (i : Int))) (ac.eval (.tmp 9)) (by rw [hD]; rfl) (((hF.keep 9 (by rw [hD]; rfl)).trans zs9)) (by rw [hD]; rfl) (by rw [hsz]; decide) (by rw [hl]; decide)), hb1⟩)
        · have hk3 := hk
          have ea := (hF.done 0 (24, SP.is (.slice (some ⟨g1, 0, none⟩) (N + 1) d1)) (by rw [hD]; rfl) (ready_dep hk 0 (by kernel_rfl)))
          have eb := (hF.done 1 (25, SP.is (.int .i64 (i : Int))) (by rw [hD]; rfl) (ready_dep hk 1 (by kernel_rfl)))
          exact wpOp_plain rfl rfl (wp_ixO 54 51 rfl g1 0 (N + 1) d1 i 32 q5 HQ5.out ea eb HI1.out Tryz.underlying54 info_dg ⟨hl2 2, (hF.put 2 26 (SP.is (.pointer (some ⟨g1, q5, none⟩))) (.pointer (some ⟨g1, q5, none⟩)) (by rw [hD]; rfl) rfl (by rw [hD]; rfl) (by rw [hsz]; decide) (by rw [hl]; decide)), hb1⟩)
        · have hk3 := hk
          have ea := (hF.done 2 (26, SP.is (.pointer (some ⟨g1, q5, none⟩))) (by rw [hD]; rfl) (ready_dep hk 2 (by kernel_rfl)))
          exact wpOp_plain rfl rfl (wp_load_mid 51 (.tmp 26) rfl g1 q5 ea (vB ka) _ (HRA.out W (HBX.out.trans (hb1.mono HBX.out.size))) Tryz.underlying51 rfl HIA.out ⟨hl2 3, (hF.put 3 27 (SP.is (.agg (vB ka).toArray)) (.agg (vB ka).toArray) (by rw [hD]; rfl) rfl (by rw [hD]; rfl) (by rw [hsz]; decide) (by rw [hl]; decide)), hb1⟩)
        · have hk3 := hk
          exact wpOp_plain rfl rfl (wp_move_v (ac.eval (.tmp 1)) rfl rfl ⟨hl2 4, (hF.put 4 28 (SP.is (.slice (some ⟨b, o, none⟩) N c1)) (ac.eval (.tmp 1)) (by rw [hD]; rfl) (((hF.keep 1 (by rw [hD]; rfl)).trans zs1)) (by rw [hD]; rfl) (by rw [hsz]; decide) (by rw [hl]; decide)), hb1⟩)
        · have hk3 := hk
          exact wpOp_plain rfl rfl (wp_move_v (ac.eval (.tmp 9)) rfl rfl ⟨hl2 5, (hF.put 5 29 (SP.is (.int .i64 (i : Int))) (ac.eval (.tmp 9)) (by rw [hD]; rfl) (((hF.keep 9 (by rw [hD]; rfl)).trans zs9)) (by rw [hD]; rfl) (by rw [hsz]; decide) (by rw [hl]; decide)), hb1⟩)
        · have hk3 := hk
          have ea := (hF.done 4 (28, SP.is (.slice (some ⟨b, o, none⟩) N c1)) (by rw [hD]; rfl) (ready_dep hk 4 (by kernel_rfl)))
          have eb := (hF.done 5 (29, SP.is (.int .i64 (i : Int))) (by rw [hD]; rfl) (ready_dep hk 5 (by kernel_rfl)))
          exact wpOp_plain rfl rfl (wp_ixO 52 46 rfl b o N c1 i 49 q HQ.out ea eb HIN.out Tryz.underlying52 info_ent ⟨hl2 6, (hF.put 6 30 (SP.is (.pointer (some ⟨b, q, none⟩))) (.pointer (some ⟨b, q, none⟩)) (by rw [hD]; rfl) rfl (by rw [hD]; rfl) (by rw [hsz]; decide) (by rw [hl]; decide)), hb1⟩)
        · have hk3 := hk
          have ea := (hF.done 6 (30, SP.is (.pointer (some ⟨b, q, none⟩))) (by rw [hD]; rfl) (ready_dep hk 6 (by kernel_rfl)))
          exact wpOp_plain rfl rfl (wp_load_mid 46 (.tmp 30) rfl b q ea L _ (HR.out W (HB.out.trans (hb1.mono HB.out.size))) Tryz.underlying46 rfl HI.out ⟨hl2 7, (hF.put 7 31 (SP.is (.agg L.toArray)) (.agg L.toArray) (by rw [hD]; rfl) rfl (by rw [hD]; rfl) (by rw [hsz]; decide) (by rw [hl]; decide)), hb1⟩)
        · have hk3 := hk
          have e27 := (hF.done 3 (27, SP.is (.agg (vB ka).toArray)) (by rw [hD]; rfl) (ready_dep hk 3 (by kernel_rfl)))
          have e31 := (hF.done 7 (31, SP.is (.agg L.toArray)) (by rw [hD]; rfl) (ready_dep hk 7 (by kernel_rfl)))
          refine wpOp_plain rfl rfl (wp_fcall_v 44 #[.agg (vB ka).toArray, .agg L.toArray] rfl rfl (by show [ac.eval (.tmp 27), ac.eval (.tmp 31)] = _; rw [show ac.eval (.tmp 27) = _ from e27, show ac.eval (.tmp 31) = _ from e31]) (by go_simp) ((HTA.out W (HB.out.trans (hb1.mono HB.out.size))).mono ?_))
          rintro e W2 ⟨A9, N9, c9, rfl, hS9, hB⟩
          exact ⟨_, rfl, hl2 8, ((hF.world hB).put 8 32 (SP.tx ta) (.slice A9 N9 c9) (by rw [hD]; rfl) (⟨⟨A9, N9, c9, rfl⟩, hS9⟩) (by rw [hD]; rfl) (by rw [hsz]; decide) (by rw [hl]; decide)), hb1.trans (hB.mono hb1.size)⟩
        · have hk3 := hk
          exact wpOp_plain rfl rfl (wp_assign_v (ac.eval (.tmp 32)) rfl rfl ⟨hl2 9, (hF.put 9 10 (SP.tx ta) (ac.eval (.tmp 32)) (by rw [hD]; rfl) ((hF.done 8 (32, SP.tx ta) (by rw [hD]; rfl) (ready_dep hk 8 (by kernel_rfl)))) (by rw [hD]; rfl) (by rw [hsz]; decide) (by rw [hl]; decide)), hb1⟩)
      · clear hb1  
        intro listed ac W hI hr
        obtain ⟨hl, hF, hb1⟩ := hI
        have hall := all_listed (by kernel_rfl) hl hr
        have h24 : ac.eval (.tmp 24) = .slice (some ⟨g1, 0, none⟩) (N + 1) d1 := hF.done 0 (24, SP.is (.slice (some ⟨g1, 0, none⟩) (N + 1) d1)) (by rw [hD]; rfl) (hall 0 (by decide))
        have h25 : ac.eval (.tmp 25) = .int .i64 (i : Int) := hF.done 1 (25, SP.is (.int .i64 (i : Int))) (by rw [hD]; rfl) (hall 1 (by decide))
        have h26 : ac.eval (.tmp 26) = .pointer (some ⟨g1, q5, none⟩) := hF.done 2 (26, SP.is (.pointer (some ⟨g1, q5, none⟩))) (by rw [hD]; rfl) (hall 2 (by decide))
        have h27 : ac.eval (.tmp 27) = .agg (vB ka).toArray := hF.done 3 (27, SP.is (.agg (vB ka).toArray)) (by rw [hD]; rfl) (hall 3 (by decide))
        have h28 : ac.eval (.tmp 28) = .slice (some ⟨b, o, none⟩) N c1 := hF.done 4 (28, SP.is (.slice (some ⟨b, o, none⟩) N c1)) (by rw [hD]; rfl) (hall 4 (by decide))
        have h29 : ac.eval (.tmp 29) = .int .i64 (i : Int) := hF.done 5 (29, SP.is (.int .i64 (i : Int))) (by rw [hD]; rfl) (hall 5 (by decide))
        have h30 : ac.eval (.tmp 30) = .pointer (some ⟨b, q, none⟩) := hF.done 6 (30, SP.is (.pointer (some ⟨b, q, none⟩))) (by rw [hD]; rfl) (hall 6 (by decide))
        have h31 : ac.eval (.tmp 31) = .agg L.toArray := hF.done 7 (31, SP.is (.agg L.toArray)) (by rw [hD]; rfl) (hall 7 (by decide))
        obtain ⟨x32, h32⟩ : ∃ x, ac.eval (.tmp 32) = x := ⟨_, rfl⟩
        have f10 := hF.done 9 (10, SP.tx ta) (by rw [hD]; rfl) (hall 9 (by decide))
        obtain ⟨x10, h10⟩ : ∃ x, ac.eval (.tmp 10) = x := ⟨_, rfl⟩
        replace f10 : (SP.tx ta).P W x10 := by rw [← h10]; exact f10
        have ea := hF.lay [(24, .slice (some ⟨g1, 0, none⟩) (N + 1) d1), (25, .int .i64 (i : Int)), (26, .pointer (some ⟨g1, q5, none⟩)), (27, .agg (vB ka).toArray), (28, .slice (some ⟨b, o, none⟩) N c1), (29, .int .i64 (i : Int)), (30, .pointer (some ⟨b, q, none⟩)), (31, .agg L.toArray), (32, x32), (10, x10)] (by rw [hD, hsz]; rfl) (by simp only [List.forall_mem_cons, List.not_mem_nil, false_implies, implies_true, and_true]; exact ⟨h24, h25, h26, h27, h28, h29, h30, h31, h32, h10⟩)
        rw [ha0] at ea
        simp only [List.foldl_cons, List.foldl_nil, List.setIfInBounds_toArray, List.set_cons_zero, List.set_cons_succ] at ea
        clear hF hall hr hl hD  zs1 zs2 zs7 zs8 zs9 ha0 hsz h24 h25 h26 h27 h28 h29 h30 h31 h32 h10
        subst ea
        obtain ⟨⟨Aa, Na, ca, hxa⟩, hSa⟩ := f10
        subst hxa
        obtain ⟨Y, hY⟩ : ∃ Y, Y = W := ⟨_, rfl⟩
        rw [← hY] at hb1 hSa ⊢
        have SA : Hid (SlAt Y (.slice Aa Na ca) ta) := hSa
        have BY : Hid (Below w.heap.size w Y) := HB.out.trans (hb1.mono HB.out.size)
        have BXY : Hid (Below X3.heap.size X3 Y) := HBX.out.trans (hb1.mono HBX.out.size)
        clear hY hb1 hSa HR HTA HRA HB HBX
        go_upto_region 7 with fail
        have hb1 := Below.refl Y.heap.size Y
        refine wp_named fun a0 ha0 => ?_
        have hsz : a0.tmps.size = 54 := by rw [ha0]; rfl
        have zs1 : a0.eval (.tmp 1) = .slice (some ⟨b, o, none⟩) N c1 := by rw [ha0]; rfl
        have zs2 : a0.eval (.tmp 2) = .slice (some ⟨b2, o2, none⟩) N c2 := by rw [ha0]; rfl
        have zs7 : a0.eval (.tmp 7) = .slice (some ⟨g1, 0, none⟩) (N + 1) d1 := by rw [ha0]; rfl
        have zs8 : a0.eval (.tmp 8) = .slice (some ⟨g2, 0, none⟩) (N + 1) d2 := by rw [ha0]; rfl
        have zs9 : a0.eval (.tmp 9) = .int .i64 (i : Int) := by rw [ha0]; rfl
        obtain ⟨D, hD⟩ : ∃ D : List (Tmp × SP), D = [(33, SP.is (.slice (some ⟨g2, 0, none⟩) (N + 1) d2)), (34, SP.is (.int .i64 (i : Int))), (35, SP.is (.pointer (some ⟨g2, q5, none⟩))), (36, SP.is (.agg (vB kb).toArray)), (37, SP.is (.slice (some ⟨b2, o2, none⟩) N c2)), (38, SP.is (.int .i64 (i : Int))), (39, SP.is (.pointer (some ⟨b2, q2, none⟩))), (40, SP.is (.agg M.toArray)), (41, SP.tx tb), (11, SP.tx tb)] := ⟨_, rfl⟩
        refine wp_region_down (by kernel_rfl) (fun listed ac W => listed.size = 10 ∧ Fp D a0 listed ac W ∧ Below Y.heap.size Y W) ?_ ?_ ?_
        · exact ⟨by simp, Fp.start D a0 _ _, Below.drew hb1⟩
        · clear ha0 hb1  
          intro listed ac W k hI hdn hk
          obtain ⟨hl, hF, hb1⟩ := hI
          have hk1 : k < 10 := List.mem_range.1 (List.mem_filter.1 hk).1
          have hl2 : ∀ j, (listed.setIfInBounds j true).size = 10 := fun j => by rw [Array.size_setIfInBounds]; exact hl
          rcases (show k = 0 ∨ k = 1 ∨ k = 2 ∨ k = 3 ∨ k = 4 ∨ k = 5 ∨ k = 6 ∨ k = 7 ∨ k = 8 ∨ k = 9 by omega) with rfl | rfl | rfl | rfl | rfl | rfl | rfl | rfl | rfl | rfl
          · have hk3 := hk
            exact wpOp_plain rfl rfl (wp_move_v (ac.eval (.tmp 8)) rfl rfl ⟨hl2 0, (hF.put 0 33 (SP.is (.slice (some ⟨g2, 0, none⟩) (N + 1) d2)) (ac.eval (.tmp 8)) (by rw [hD]; rfl) (((hF.keep 8 (by rw [hD]; rfl)).trans zs8)) (by rw [hD]; rfl) (by rw [hsz]; decide) (by rw [hl]; decide)), hb1⟩)
          · have hk3 := hk
            exact wpOp_plain rfl rfl (wp_move_v (ac.eval (.tmp 9)) rfl rfl ⟨hl2 1, (hF.put 1 34 (SP.is (.int .i64 (i : Int))) (ac.eval (.tmp 9)) (by rw [hD]; rfl) (((hF.keep 9 (by rw [hD]; rfl)).trans zs9)) (by rw [hD]; rfl) (by rw [hsz]; decide) (by rw [hl]; decide)), hb1⟩)
          · have hk3 := hk
            have ea := (hF.done 0 (33, SP.is (.slice (some ⟨g2, 0, none⟩) (N + 1) d2)) (by rw [hD]; rfl) (ready_dep hk 0 (by kernel_rfl)))
            have eb := (hF.done 1 (34, SP.is (.int .i64 (i : Int))) (by rw [hD]; rfl) (ready_dep hk 1 (by kernel_rfl)))
            exact wpOp_plain rfl rfl (wp_ixO 54 51 rfl g2 0 (N + 1) d2 i 32 q5 HQ5.out ea eb HI1.out Tryz.underlying54 info_dg ⟨hl2 2, (hF.put 2 35 (SP.is (.pointer (some ⟨g2, q5, none⟩))) (.pointer (some ⟨g2, q5, none⟩)) (by rw [hD]; rfl) rfl (by rw [hD]; rfl) (by rw [hsz]; decide) (by rw [hl]; decide)), hb1⟩)
          · have hk3 := hk
            have ea := (hF.done 2 (35, SP.is (.pointer (some ⟨g2, q5, none⟩))) (by rw [hD]; rfl) (ready_dep hk 2 (by kernel_rfl)))
            exact wpOp_plain rfl rfl (wp_load_mid 51 (.tmp 35) rfl g2 q5 ea (vB kb) _ (HRB.out W (BXY.out.trans (hb1.mono BXY.out.size))) Tryz.underlying51 rfl HIB.out ⟨hl2 3, (hF.put 3 36 (SP.is (.agg (vB kb).toArray)) (.agg (vB kb).toArray) (by rw [hD]; rfl) rfl (by rw [hD]; rfl) (by rw [hsz]; decide) (by rw [hl]; decide)), hb1⟩)
          · have hk3 := hk
            exact wpOp_plain rfl rfl (wp_move_v (ac.eval (.tmp 2)) rfl rfl ⟨hl2 4, (hF.put 4 37 (SP.is (.slice (some ⟨b2, o2, none⟩) N c2)) (ac.eval (.tmp 2)) (by rw [hD]; rfl) (((hF.keep 2 (by rw [hD]; rfl)).trans zs2)) (by rw [hD]; rfl) (by rw [hsz]; decide) (by rw [hl]; decide)), hb1⟩)
          · have hk3 := hk
            exact wpOp_plain rfl rfl (wp_move_v (ac.eval (.tmp 9)) rfl rfl ⟨hl2 5, (hF.put 5 38 (SP.is (.int .i64 (i : Int))) (ac.eval (.tmp 9)) (by rw [hD]; rfl) (((hF.keep 9 (by rw [hD]; rfl)).trans zs9)) (by rw [hD]; rfl) (by rw [hsz]; decide) (by rw [hl]; decide)), hb1⟩)
          · have hk3 := hk
            have ea := (hF.done 4 (37, SP.is (.slice (some ⟨b2, o2, none⟩) N c2)) (by rw [hD]; rfl) (ready_dep hk 4 (by kernel_rfl)))
            have eb := (hF.done 5 (38, SP.is (.int .i64 (i : Int))) (by rw [hD]; rfl) (ready_dep hk 5 (by kernel_rfl)))
            exact wpOp_plain rfl rfl (wp_ixO 52 46 rfl b2 o2 N c2 i 49 q2 HQ2.out ea eb HIN.out Tryz.underlying52 info_ent ⟨hl2 6, (hF.put 6 39 (SP.is (.pointer (some ⟨b2, q2, none⟩))) (.pointer (some ⟨b2, q2, none⟩)) (by rw [hD]; rfl) rfl (by rw [hD]; rfl) (by rw [hsz]; decide) (by rw [hl]; decide)), hb1⟩)
          · have hk3 := hk
            have ea := (hF.done 6 (39, SP.is (.pointer (some ⟨b2, q2, none⟩))) (by rw [hD]; rfl) (ready_dep hk 6 (by kernel_rfl)))
            exact wpOp_plain rfl rfl (wp_load_mid 46 (.tmp 39) rfl b2 q2 ea M _ (HR2.out W (BY.out.trans (hb1.mono BY.out.size))) Tryz.underlying46 rfl HI2.out ⟨hl2 7, (hF.put 7 40 (SP.is (.agg M.toArray)) (.agg M.toArray) (by rw [hD]; rfl) rfl (by rw [hD]; rfl) (by rw [hsz]; decide) (by rw [hl]; decide)), hb1⟩)
          · have hk3 := hk
            have e36 := (hF.done 3 (36, SP.is (.agg (vB kb).toArray)) (by rw [hD]; rfl) (ready_dep hk 3 (by kernel_rfl)))
            have e40 := (hF.done 7 (40, SP.is (.agg M.toArray)) (by rw [hD]; rfl) (ready_dep hk 7 (by kernel_rfl)))
            refine wpOp_plain rfl rfl (wp_fcall_v 44 #[.agg (vB kb).toArray, .agg M.toArray] rfl rfl (by show [ac.eval (.tmp 36), ac.eval (.tmp 40)] = _; rw [show ac.eval (.tmp 36) = _ from e36, show ac.eval (.tmp 40) = _ from e40]) (by go_simp) ((HTB.out W (BY.out.trans (hb1.mono BY.out.size))).mono ?_))
            rintro e W2 ⟨A9, N9, c9, rfl, hS9, hB⟩
            exact ⟨_, rfl, hl2 8, ((hF.world hB).put 8 41 (SP.tx tb) (.slice A9 N9 c9) (by rw [hD]; rfl) (⟨⟨A9, N9, c9, rfl⟩, hS9⟩) (by rw [hD]; rfl) (by rw [hsz]; decide) (by rw [hl]; decide)), hb1.trans (hB.mono hb1.size)⟩
          · have hk3 := hk
            exact wpOp_plain rfl rfl (wp_assign_v (ac.eval (.tmp 41)) rfl rfl ⟨hl2 9, (hF.put 9 11 (SP.tx tb) (ac.eval (.tmp 41)) (by rw [hD]; rfl) ((hF.done 8 (41, SP.tx tb) (by rw [hD]; rfl) (ready_dep hk 8 (by kernel_rfl)))) (by rw [hD]; rfl) (by rw [hsz]; decide) (by rw [hl]; decide)), hb1⟩)
        · clear hb1  
          intro listed ac W hI hr
          obtain ⟨hl, hF, hb1⟩ := hI
          have hall := all_listed (by kernel_rfl) hl hr
          have h33 : ac.eval (.tmp 33) = .slice (some ⟨g2, 0, none⟩) (N + 1) d2 := hF.done 0 (33, SP.is (.slice (some ⟨g2, 0, none⟩) (N + 1) d2)) (by rw [hD]; rfl) (hall 0 (by decide))
          have h34 : ac.eval (.tmp 34) = .int .i64 (i : Int) := hF.done 1 (34, SP.is (.int .i64 (i : Int))) (by rw [hD]; rfl) (hall 1 (by decide))
          have h35 : ac.eval (.tmp 35) = .pointer (some ⟨g2, q5, none⟩) := hF.done 2 (35, SP.is (.pointer (some ⟨g2, q5, none⟩))) (by rw [hD]; rfl) (hall 2 (by decide))
          have h36 : ac.eval (.tmp 36) = .agg (vB kb).toArray := hF.done 3 (36, SP.is (.agg (vB kb).toArray)) (by rw [hD]; rfl) (hall 3 (by decide))
          have h37 : ac.eval (.tmp 37) = .slice (some ⟨b2, o2, none⟩) N c2 := hF.done 4 (37, SP.is (.slice (some ⟨b2, o2, none⟩) N c2)) (by rw [hD]; rfl) (hall 4 (by decide))
          have h38 : ac.eval (.tmp 38) = .int .i64 (i : Int) := hF.done 5 (38, SP.is (.int .i64 (i : Int))) (by rw [hD]; rfl) (hall 5 (by decide))
          have h39 : ac.eval (.tmp 39) = .pointer (some ⟨b2, q2, none⟩) := hF.done 6 (39, SP.is (.pointer (some ⟨b2, q2, none⟩))) (by rw [hD]; rfl) (hall 6 (by decide))
          have h40 : ac.eval (.tmp 40) = .agg M.toArray := hF.done 7 (40, SP.is (.agg M.toArray)) (by rw [hD]; rfl) (hall 7 (by decide))
          obtain ⟨x41, h41⟩ : ∃ x, ac.eval (.tmp 41) = x := ⟨_, rfl⟩
          have f11 := hF.done 9 (11, SP.tx tb) (by rw [hD]; rfl) (hall 9 (by decide))
          obtain ⟨x11, h11⟩ : ∃ x, ac.eval (.tmp 11) = x := ⟨_, rfl⟩
          replace f11 : (SP.tx tb).P W x11 := by rw [← h11]; exact f11
          have ea := hF.lay [(33, .slice (some ⟨g2, 0, none⟩) (N + 1) d2), (34, .int .i64 (i : Int)), (35, .pointer (some ⟨g2, q5, none⟩)), (36, .agg (vB kb).toArray), (37, .slice (some ⟨b2, o2, none⟩) N c2), (38, .int .i64 (i : Int)), (39, .pointer (some ⟨b2, q2, none⟩)), (40, .agg M.toArray), (41, x41), (11, x11)] (by rw [hD, hsz]; rfl) (by simp only [List.forall_mem_cons, List.not_mem_nil, false_implies, implies_true, and_true]; exact ⟨h33, h34, h35, h36, h37, h38, h39, h40, h41, h11⟩)
          rw [ha0] at ea
          simp only [List.foldl_cons, List.foldl_nil, List.setIfInBounds_toArray, List.set_cons_zero, List.set_cons_succ] at ea
          clear hF hall hr hl hD  zs1 zs2 zs7 zs8 zs9 ha0 hsz h33 h34 h35 h36 h37 h38 h39 h40 h41 h11
          subst ea
          obtain ⟨⟨Ab, Nb, cb, hxb⟩, hSb⟩ := f11
          subst hxb
          obtain ⟨Z, hZ⟩ : ∃ Z, Z = W := ⟨_, rfl⟩
          rw [← hZ] at hb1 hSb ⊢
          have SA2 : Hid (SlAt Z (.slice Aa Na ca) ta) := SA.out.be hb1
          have SB2 : Hid (SlAt Z (.slice Ab Nb cb) tb) := hSb
          have BZ : Hid (Below w.heap.size w Z) := BY.out.trans (hb1.mono BY.out.size)
          have BXZ : Hid (Below X3.heap.size X3 Z) := BXY.out.trans (hb1.mono BXY.out.size)
          clear hZ hb1 hSb HR2 HTB HRB BY BXY SA
          by_cases ht : ta = tb
          · have HC2 : Hid (clN k es fs (i + 1) = false) := by show _ = _; rw [clN_succ, HFI.out, HCB.out, decide_eq_true ht]; rfl
            have HNE : Hid ((!decide (ta = tb)) = false) := by show _ = _; rw [decide_eq_true ht]; rfl
            clear ht HSA HSB HCB
            go_wp2_with (first
              | (refine wpList_convI rfl (.tmp 42) rfl (.slice Aa Na ca) ta rfl SA2.out ?_; simp only [Act.put, List.setIfInBounds_toArray, List.set_cons_zero, List.set_cons_succ])
              | (refine wpList_convI rfl (.tmp 44) rfl (.slice Ab Nb cb) tb rfl SB2.out ?_; simp only [Act.put, List.setIfInBounds_toArray, List.set_cons_zero, List.set_cons_succ])
              | (refine wpList_neq_sJ rfl (.tmp 43) (.tmp 45) _ rfl ta tb rfl rfl false HNE.out ?_; simp only [Act.put, List.setIfInBounds_toArray, List.set_cons_zero, List.set_cons_succ]))
            exact ⟨⟨i + 1, hlt, by go_num, ⟨BXZ.out, HC2.out⟩⟩, by simp [intOf]; omega⟩
          · have HNE : Hid ((!decide (ta = tb)) = true) := by show _ = _; rw [decide_eq_false ht]; rfl
            obtain ⟨E, hE⟩ : ∃ E, decide (da = db) = E := ⟨_, rfl⟩
            have HE : Hid (decide (da = db) = E) := hE
            have HC2 : Hid (clB k es fs i = E) := by show _ = _; rw [HCB.out, decide_eq_false ht, hE]; rfl
            clear ht hE HCB
            cases E with
            | false =>
              have HC3 : Hid (clN k es fs (i + 1) = false) := by show _ = _; rw [clN_succ, HFI.out, HC2.out]; rfl
              go_wp2_with (first
                | (refine wpList_convI rfl (.tmp 42) rfl (.slice Aa Na ca) ta rfl SA2.out ?_; simp only [Act.put, List.setIfInBounds_toArray, List.set_cons_zero, List.set_cons_succ])
                | (refine wpList_convI rfl (.tmp 44) rfl (.slice Ab Nb cb) tb rfl SB2.out ?_; simp only [Act.put, List.setIfInBounds_toArray, List.set_cons_zero, List.set_cons_succ])
                | (refine wpList_neq_sJ rfl (.tmp 43) (.tmp 45) _ rfl ta tb rfl rfl true HNE.out ?_; simp only [Act.put, List.setIfInBounds_toArray, List.set_cons_zero, List.set_cons_succ])
                | (go_at_call 43; refine Calls.mono (HSA.out Z _ BZ.out SA2.out) ?_; rintro r Z1 ⟨rfl, q⟩; have BZ1 : Hid (Below w.heap.size w Z1) := BZ.out.trans (q.mono BZ.out.size); have BX1 : Hid (Below X3.heap.size X3 Z1) := BXZ.out.trans (q.mono BXZ.out.size); have SB3 : Hid (SlAt Z1 (.slice Ab Nb cb) tb) := SB2.out.be q; clear q HSA)
                | (go_at_call 43; refine Calls.mono (HSB.out Z1 _ BZ1.out SB3.out) ?_; rintro r Z2 ⟨rfl, q⟩; have BZ2 : Hid (Below w.heap.size w Z2) := BZ1.out.trans (q.mono BZ1.out.size); have BX2 : Hid (Below X3.heap.size X3 Z2) := BX1.out.trans (q.mono BX1.out.size); clear q HSB)
                | (refine wpList_eql_b rfl 51 (.tmp 49) (.tmp 51) _ rfl 5 32 da db rfl rfl Tryz.underlying51 Tryz.underlying5 info_u8 HDA.out HDB.out guardDE false HE.out ?_; simp only [Act.put, List.setIfInBounds_toArray, List.set_cons_zero, List.set_cons_succ]))
              exact ⟨⟨i + 1, hlt, by go_num, ⟨BX2.out, HC3.out⟩⟩, by simp [intOf]; omega⟩
            | true =>
              have HC3 : Hid (T = true) := by show _ = _; rw [HT.out]; exact clN_true k es fs N i HIN.out HC2.out
              go_wp2_with (first
                | (refine wpList_convI rfl (.tmp 42) rfl (.slice Aa Na ca) ta rfl SA2.out ?_; simp only [Act.put, List.setIfInBounds_toArray, List.set_cons_zero, List.set_cons_succ])
                | (refine wpList_convI rfl (.tmp 44) rfl (.slice Ab Nb cb) tb rfl SB2.out ?_; simp only [Act.put, List.setIfInBounds_toArray, List.set_cons_zero, List.set_cons_succ])
                | (refine wpList_neq_sJ rfl (.tmp 43) (.tmp 45) _ rfl ta tb rfl rfl true HNE.out ?_; simp only [Act.put, List.setIfInBounds_toArray, List.set_cons_zero, List.set_cons_succ])
                | (go_at_call 43; refine Calls.mono (HSA.out Z _ BZ.out SA2.out) ?_; rintro r Z1 ⟨rfl, q⟩; have BZ1 : Hid (Below w.heap.size w Z1) := BZ.out.trans (q.mono BZ.out.size); have BX1 : Hid (Below X3.heap.size X3 Z1) := BXZ.out.trans (q.mono BXZ.out.size); have SB3 : Hid (SlAt Z1 (.slice Ab Nb cb) tb) := SB2.out.be q; clear q HSA)
                | (go_at_call 43; refine Calls.mono (HSB.out Z1 _ BZ1.out SB3.out) ?_; rintro r Z2 ⟨rfl, q⟩; have BZ2 : Hid (Below w.heap.size w Z2) := BZ1.out.trans (q.mono BZ1.out.size); have BX2 : Hid (Below X3.heap.size X3 Z2) := BX1.out.trans (q.mono BX1.out.size); clear q HSB)
                | (refine wpList_eql_b rfl 51 (.tmp 49) (.tmp 51) _ rfl 5 32 da db rfl rfl Tryz.underlying51 Tryz.underlying5 info_u8 HDA.out HDB.out guardDE true HE.out ?_; simp only [Act.put, List.setIfInBounds_toArray, List.set_cons_zero, List.set_cons_succ]))
              go_ret
              exact ⟨by rw [HC3.out]; rfl, BZ2.out⟩
    have hlt2 : ¬ ((i : Int) < (N : Int)) := by omega
    have HF2 : Hid (T = false) := by show _ = _; rw [HT.out, show N = i by omega]; exact HFI.out
    clear hlt
    go_wp2_with fail
    go_ret
    exact ⟨by rw [HF2.out]; rfl, HB.out⟩

end Go.Proofs.YtfjhecmnbodkfaaGreatDoor
