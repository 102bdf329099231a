/-
  sparse: one mark is told, with digests beside it.
-/
import Derived.Test.YtfdgdmehgbmnkaaDoorSpP
namespace Go.Proofs.YtfdgdmehgbmnkaaDoor
open Go Go.RowKit
open Sha

theorem own_ge {W : World} {b e size n : Nat} {v : Value} {xs : List Value} (h : W.ownsRow (b + 1) e size v n xs) (g : Nat) (hg : v.ownBlock = some g) : b ≤ g := by
  rcases h.2 with ⟨h2, _⟩ | ⟨g', cap, cur, hv, hge, _⟩
  · rw [h2] at hg; simp [Value.ownBlock] at hg
  · rw [hv] at hg
    simp only [Value.ownBlock, Option.some.injEq] at hg
    subst hg
    exact Nat.le_of_succ_le hge
set_option maxRecDepth 100000 in
set_option maxHeartbeats 4000000 in
theorem mark_B1 (b H kk s : Nat) (mk : BitVec 8) (w : World) (h : TlAt w b H kk s) (hkb : kk ≤ 1099511627776) (hsb : s ≤ 1099511627776) (hmod : ¬ kk % 4 = 0) (gb m cp : Nat) (news : List Value) (hrow : Row w gb news 29) (hnl : news.length = m * 32) (hn1 : ∀ v ∈ news, v.oneCell' = true) (hmb : m ≤ 1099511627776) :
    Calls Tryd.prog 66 #[pt b, .int .u8 (c mk), (.slice (some ⟨gb, 0, none⟩) m cp)] w fun e w' => e = .returned (.tuple #[]) ∧ TlAt w' b w'.heap.size (kk + 1) (s + m) ∧ KpT w w' ∧ Below b w w' := by
  obtain ⟨va, vb, l0, ys, rT, oM, oS, hH⟩ := h
  obtain ⟨q, hq⟩ : ∃ q, q = kk / 4 := ⟨_, rfl⟩
  have HQ : Hid (q = kk / 4) := hq
  have HKB : Hid (kk < 1152921504606846976) := by show _ < _; omega
  have hbl : b < w.heap.size := rT.lt
  have HBL : Hid (b < w.heap.size) := hbl
  obtain ⟨sh, hsh⟩ : ∃ sh, sh = 8 - 2 * (kk % 4 + 1) := ⟨_, rfl⟩
  have HSL : Hid (sh < 8) := by show _ < _; omega
  have HSH : Hid (∀ W, Calls Tryd.prog 81 #[.int .i64 (kk : Int)] W fun e w' => e = .returned (.int .i64 (sh : Int)) ∧ Below W.heap.size W w') := fun W => (shiftOf_any kk W).mono (by rintro e X ⟨rfl, rfl⟩; exact ⟨by rw [hsh], Below.refl _ _⟩)
  have hrem : (kk : Int).tmod 4 = ((kk % 4 : Nat) : Int) := (Int.ofNat_tmod kk 4).symm
  have HB8 : Hid (s ≤ 1099511627776) := hsb
  have C2 : Hid (w.cell? ⟨b, 2, none⟩ = some (.int .i64 (kk : Int))) := rT.cell 2 _ rfl
  have HROW : Hid (Row w gb news 29) := hrow
  have HNL : Hid (news.length = m * 32) := hnl
  have HN1 : Hid (∀ v ∈ news, v.oneCell' = true) := hn1
  have HMB : Hid (m ≤ 1099511627776) := hmb
  clear hrow hnl hn1 hmb
  have hlen : (kk + 3) / 4 = q + 1 := by omega
  have HHH : Hid (∀ g, vb.ownBlock = some g → g < H) := hH
  have hm0 : ¬ (kk : Int) % 4 = 0 := by omega
  clear hrem hmod hq hsh hkb hsb
  go_enter Tryd.func66, Tryd.ntmps66
  go_upto_region 2 with (refine wpList_plain rfl fun _ hK => wp_ldI b 2 (.int .i64 (kk : Int)) rfl rfl C2.out (hK _ _ ?_); simp only [Act.put, List.setIfInBounds_toArray, List.set_cons_zero, List.set_cons_succ])
  have hK0 : KpT w w := KpT.refl w
  have hb0 : Below b w w := Below.refl _ _
  rw [hlen] at oM
  obtain ⟨l, hl⟩ : ∃ l, l = l0 := ⟨_, rfl⟩
  rw [← hl] at oM
  obtain ⟨g, cap, hvm, hgN, x, hx⟩ := own_q oM
  subst hvm
  have HC0 : Hid (∀ W, Below w.heap.size w W → W.cell? ⟨b, 0, none⟩ = some (.slice (some ⟨g, 0, none⟩) (q + 1) cap)) := fun W k => (Row.below rT k rT.lt).cell 0 _ rfl
  have HC2 : Hid (∀ W, Below w.heap.size w W → W.cell? ⟨b, 2, none⟩ = some (.int .i64 (kk : Int))) := fun W k => (Row.below rT k rT.lt).cell 2 _ rfl
  have HOM : Hid (∀ W, Below w.heap.size w W → W.ownsRow (b + 1) 5 1 (.slice (some ⟨g, 0, none⟩) (q + 1) cap) (q + 1) (vB l)) := fun W k => ownsRow_below oM k (Nat.le_refl _)
  have HCX : Hid (∀ W, Below w.heap.size w W → W.cell? ⟨g, 0 + q * 1, none⟩ = some (.int .u8 (c x))) := fun W k => by rw [Nat.zero_add, Nat.mul_one]; exact own_cell (HOM.out W k) q x hx
  have HGB : Hid (b ≤ g) := Nat.le_of_succ_le hgN
  obtain ⟨PO, hPO⟩ : ∃ PO : World → Prop, PO = fun W => Row W b [(.slice (some ⟨g, 0, none⟩) (q + 1) cap), vb, .int .i64 (kk : Int)] 90 ∧ W.ownsRow (b + 1) 5 1 (.slice (some ⟨g, 0, none⟩) (q + 1) cap) (q + 1) (vB (l.set q (x ||| (mk <<< sh)))) ∧ W.ownsRow (b + 1) 29 32 vb s ys ∧ KpT w W ∧ Row W gb news 29 := ⟨_, rfl⟩
  have HPO : Hid (∀ W, Below w.heap.size w W → PO (W.setCell ⟨g, 0 + q * 1, none⟩ (.int .u8 (c (x ||| (mk <<< sh)))))) := fun W k => by
    rw [hPO]
    obtain ⟨csg, rg⟩ := own_row (HOM.out W k) g rfl
    have hp := own_put (HOM.out W k) q (x ||| (mk <<< sh))
    rw [Nat.zero_add, Nat.mul_one]
    exact ⟨Row.set_other (Row.below rT k rT.lt) _ _ _ (row_ne (Row.below rT k rT.lt) rg (by decide)), hp, own_setc (ownsRow_below oS k (Nat.le_refl _)) rg (by decide) _ _, (hK0.trans (KpT.of k)).trans (KpT.setc rg (.inl rfl) _ _), Row.set_other (Row.below HROW.out k HROW.out.lt) _ _ _ (row_ne (Row.below HROW.out k HROW.out.lt) rg (by decide))⟩
  have HPB : Hid (∀ W, PO W → Row W b [(.slice (some ⟨g, 0, none⟩) (q + 1) cap), vb, .int .i64 (kk : Int)] 90 ∧ W.ownsRow (b + 1) 5 1 (.slice (some ⟨g, 0, none⟩) (q + 1) cap) (q + 1) (vB (l.set q (x ||| (mk <<< sh)))) ∧ W.ownsRow (b + 1) 29 32 vb s ys ∧ KpT w W ∧ Row W gb news 29) := fun W h => by rw [hPO] at h; exact h
  have HCL : Hid (∀ W X, PO W → Below W.heap.size W X → PO X) := fun W X h k => by
    rw [hPO] at h ⊢
    exact ⟨Row.below h.1 k h.1.lt, ownsRow_below h.2.1 k (Nat.le_refl _), ownsRow_below h.2.2.1 k (Nat.le_refl _), h.2.2.2.1.trans (KpT.of k), Row.below h.2.2.2.2 k h.2.2.2.2.lt⟩
  have HBN : Hid (b ≤ w.heap.size) := Nat.le_of_lt rT.lt
  have hb1 : Below b w w := Below.refl _ _
  have HB0 : Hid (Below b w w) := hb0
  have m0 : True := trivial
  clear hPO rT oM oS hK0 hb0 hx hgN hm0
  refine wp_named fun a0 ha0 => ?_
  have hsz : a0.tmps.size = 62 := by rw [ha0]; rfl
  have zs0 : a0.eval (.tmp 0) = .pointer (some ⟨b, 0, none⟩) := by rw [ha0]; rfl
  have zs1 : a0.eval (.tmp 1) = .int .u8 (c mk) := by rw [ha0]; rfl
  obtain ⟨D, hD⟩ : ∃ D : List (Tmp × SP), D = [(23, SP.is (.pointer (some ⟨b, 0, none⟩))), (24, SP.is (.pointer (some ⟨b, 0, none⟩))), (25, SP.is (.pointer (some ⟨b, 0, none⟩))), (26, SP.is (.pointer (some ⟨b, 0, none⟩))), (27, SP.is (.slice (some ⟨g, 0, none⟩) (q + 1) cap)), (28, SP.is (.pointer (some ⟨b, 0, none⟩))), (29, SP.is (.pointer (some ⟨b, 0, none⟩))), (30, SP.is (.pointer (some ⟨b, 2, none⟩))), (31, SP.is (.int .i64 (kk : Int))), (32, SP.is (.int .i64 (q : Int))), (33, SP.is (.pointer (some ⟨g, 0 + q * 1, none⟩))), (34, SP.is (.int .u8 (c x))), (35, SP.is (.int .u8 (c mk))), (36, SP.is (.pointer (some ⟨b, 0, none⟩))), (37, SP.is (.pointer (some ⟨b, 0, none⟩))), (38, SP.is (.pointer (some ⟨b, 2, none⟩))), (39, SP.is (.int .i64 (kk : Int))), (40, SP.is (.int .i64 (sh : Int))), (41, SP.is (.int .u8 (c (mk <<< sh)))), (42, SP.is (.int .u8 (c (x ||| (mk <<< sh))))), (43, SP.is (.pointer (some ⟨g, 0 + q * 1, none⟩))), (1000, SP.any)] := ⟨_, rfl⟩
  refine wp_region_down (by kernel_rfl) (fun listed ac W => listed.size = 22 ∧ Fp D a0 listed ac W ∧ Below b w W ∧ STt w W PO (listed.getD 21 false)) ?_ ?_ ?_
  · exact ⟨by simp, Fp.start D a0 _ _, Below.drew hb1, STt.start (fun h => start_no h) (Below.drew (Below.refl _ _))⟩
  · clear ha0 hb1 m0 
    intro listed ac W k hI hdn hk
    obtain ⟨hl, hF, hb1, m0⟩ := hI
    have hk1 : k < 22 := List.mem_range.1 (List.mem_filter.1 hk).1
    have hl2 : ∀ j, (listed.setIfInBounds j true).size = 22 := fun j => by rw [Array.size_setIfInBounds]; exact hl
    rcases (show k = 0 ∨ k = 1 ∨ k = 2 ∨ k = 3 ∨ k = 4 ∨ k = 5 ∨ k = 6 ∨ k = 7 ∨ k = 8 ∨ k = 9 ∨ k = 10 ∨ k = 11 ∨ k = 12 ∨ k = 13 ∨ k = 14 ∨ k = 15 ∨ k = 16 ∨ k = 17 ∨ k = 18 ∨ k = 19 ∨ k = 20 ∨ k = 21 by omega) with rfl | rfl | rfl | rfl | rfl | rfl | rfl | rfl | rfl | rfl | rfl | rfl | rfl | rfl | rfl | rfl | rfl | rfl | rfl | rfl | rfl | rfl
    · have hk3 := hk
      exact wpOp_plain rfl rfl (wp_move_v (ac.eval (.tmp 0)) rfl rfl ⟨hl2 0, (hF.put 0 23 (SP.is (.pointer (some ⟨b, 0, none⟩))) (ac.eval (.tmp 0)) (by rw [hD]; rfl) (((hF.keep 0 (by rw [hD]; rfl)).trans zs0)) (by rw [hD]; rfl) (by rw [hsz]; decide) (by rw [hl]; decide)), hb1, (by rw [getD_set _ _ _ (by decide)]; exact m0)⟩)
    · have hk3 := hk
      have e := (hF.done 0 (23, SP.is (.pointer (some ⟨b, 0, none⟩))) (by rw [hD]; rfl) (ready_dep hk 0 (by kernel_rfl)))
      exact wpOp_plain rfl rfl (wp_nilS rfl b e ⟨hl2 1, (hF.put 1 24 (SP.is (.pointer (some ⟨b, 0, none⟩))) (.pointer (some ⟨b, 0, none⟩)) (by rw [hD]; rfl) rfl (by rw [hD]; rfl) (by rw [hsz]; decide) (by rw [hl]; decide)), hb1, (by rw [getD_set _ _ _ (by decide)]; exact m0)⟩)
    · have hk3 := hk
      have e := (hF.done 1 (24, SP.is (.pointer (some ⟨b, 0, none⟩))) (by rw [hD]; rfl) (ready_dep hk 1 (by kernel_rfl)))
      exact wpOp_plain rfl rfl (wp_tl0 rfl b e ⟨hl2 2, (hF.put 2 25 (SP.is (.pointer (some ⟨b, 0, none⟩))) (.pointer (some ⟨b, 0, none⟩)) (by rw [hD]; rfl) rfl (by rw [hD]; rfl) (by rw [hsz]; decide) (by rw [hl]; decide)), hb1, (by rw [getD_set _ _ _ (by decide)]; exact m0)⟩)
    · have hk3 := hk
      have e := (hF.done 2 (25, SP.is (.pointer (some ⟨b, 0, none⟩))) (by rw [hD]; rfl) (ready_dep hk 2 (by kernel_rfl)))
      exact wpOp_plain rfl rfl (wp_pr0 rfl b e ⟨hl2 3, (hF.put 3 26 (SP.is (.pointer (some ⟨b, 0, none⟩))) (.pointer (some ⟨b, 0, none⟩)) (by rw [hD]; rfl) rfl (by rw [hD]; rfl) (by rw [hsz]; decide) (by rw [hl]; decide)), hb1, (by rw [getD_set _ _ _ (by decide)]; exact m0)⟩)
    · have hk3 := hk
      have hw := m0.no (fun h => not_yet hk (hdn 21 h 4 (by kernel_rfl)))
      have e := (hF.done 3 (26, SP.is (.pointer (some ⟨b, 0, none⟩))) (by rw [hD]; rfl) (ready_dep hk 3 (by kernel_rfl)))
      exact wpOp_plain rfl rfl (wp_ldV b 0 (.slice (some ⟨g, 0, none⟩) (q + 1) cap) rfl e (ld_B _ _ _ _ (HC0.out W hw)) ⟨hl2 4, (hF.put 4 27 (SP.is (.slice (some ⟨g, 0, none⟩) (q + 1) cap)) (.slice (some ⟨g, 0, none⟩) (q + 1) cap) (by rw [hD]; rfl) rfl (by rw [hD]; rfl) (by rw [hsz]; decide) (by rw [hl]; decide)), hb1, (by rw [getD_set _ _ _ (by decide)]; exact m0)⟩)
    · have hk3 := hk
      exact wpOp_plain rfl rfl (wp_move_v (ac.eval (.tmp 0)) rfl rfl ⟨hl2 5, (hF.put 5 28 (SP.is (.pointer (some ⟨b, 0, none⟩))) (ac.eval (.tmp 0)) (by rw [hD]; rfl) (((hF.keep 0 (by rw [hD]; rfl)).trans zs0)) (by rw [hD]; rfl) (by rw [hsz]; decide) (by rw [hl]; decide)), hb1, (by rw [getD_set _ _ _ (by decide)]; exact m0)⟩)
    · have hk3 := hk
      have e := (hF.done 5 (28, SP.is (.pointer (some ⟨b, 0, none⟩))) (by rw [hD]; rfl) (ready_dep hk 5 (by kernel_rfl)))
      exact wpOp_plain rfl rfl (wp_nilS rfl b e ⟨hl2 6, (hF.put 6 29 (SP.is (.pointer (some ⟨b, 0, none⟩))) (.pointer (some ⟨b, 0, none⟩)) (by rw [hD]; rfl) rfl (by rw [hD]; rfl) (by rw [hsz]; decide) (by rw [hl]; decide)), hb1, (by rw [getD_set _ _ _ (by decide)]; exact m0)⟩)
    · have hk3 := hk
      have e := (hF.done 6 (29, SP.is (.pointer (some ⟨b, 0, none⟩))) (by rw [hD]; rfl) (ready_dep hk 6 (by kernel_rfl)))
      exact wpOp_plain rfl rfl (wp_tl1 rfl b e ⟨hl2 7, (hF.put 7 30 (SP.is (.pointer (some ⟨b, 2, none⟩))) (.pointer (some ⟨b, 2, none⟩)) (by rw [hD]; rfl) rfl (by rw [hD]; rfl) (by rw [hsz]; decide) (by rw [hl]; decide)), hb1, (by rw [getD_set _ _ _ (by decide)]; exact m0)⟩)
    · have hk3 := hk
      have hw := m0.no (fun h => not_yet hk (hdn 21 h 8 (by kernel_rfl)))
      have e := (hF.done 7 (30, SP.is (.pointer (some ⟨b, 2, none⟩))) (by rw [hD]; rfl) (ready_dep hk 7 (by kernel_rfl)))
      exact wpOp_plain rfl rfl (wp_ldI b 2 (.int .i64 (kk : Int)) rfl e (HC2.out W hw) ⟨hl2 8, (hF.put 8 31 (SP.is (.int .i64 (kk : Int))) (.int .i64 (kk : Int)) (by rw [hD]; rfl) rfl (by rw [hD]; rfl) (by rw [hsz]; decide) (by rw [hl]; decide)), hb1, (by rw [getD_set _ _ _ (by decide)]; exact m0)⟩)
    · have hk3 := hk
      have e := (hF.done 8 (31, SP.is (.int .i64 (kk : Int))) (by rw [hD]; rfl) (ready_dep hk 8 (by kernel_rfl)))
      exact wpOp_plain rfl rfl (wp_quo4 rfl kk q HQ.out HKB.out e ⟨hl2 9, (hF.put 9 32 (SP.is (.int .i64 (q : Int))) (.int .i64 (q : Int)) (by rw [hD]; rfl) rfl (by rw [hD]; rfl) (by rw [hsz]; decide) (by rw [hl]; decide)), hb1, (by rw [getD_set _ _ _ (by decide)]; exact m0)⟩)
    · have hk3 := hk
      have e1 := (hF.done 4 (27, SP.is (.slice (some ⟨g, 0, none⟩) (q + 1) cap)) (by rw [hD]; rfl) (ready_dep hk 4 (by kernel_rfl)))
      have e2 := (hF.done 9 (32, SP.is (.int .i64 (q : Int))) (by rw [hD]; rfl) (ready_dep hk 9 (by kernel_rfl)))
      exact wpOp_plain rfl rfl (wp_index_s 46 5 rfl g 0 (q + 1) cap q 1 e1 e2 (Nat.lt_succ_self q) Tryd.underlying46 info_u8 ⟨hl2 10, (hF.put 10 33 (SP.is (.pointer (some ⟨g, 0 + q * 1, none⟩))) (.pointer (some ⟨g, 0 + q * 1, none⟩)) (by rw [hD]; rfl) rfl (by rw [hD]; rfl) (by rw [hsz]; decide) (by rw [hl]; decide)), hb1, (by rw [getD_set _ _ _ (by decide)]; exact m0)⟩)
    · have hk3 := hk
      have hw := m0.no (fun h => not_yet hk (hdn 21 h 11 (by kernel_rfl)))
      have e := (hF.done 10 (33, SP.is (.pointer (some ⟨g, 0 + q * 1, none⟩))) (by rw [hD]; rfl) (ready_dep hk 10 (by kernel_rfl)))
      exact wpOp_plain rfl rfl (wp_ldV g (0 + q * 1) (.int .u8 (c x)) rfl e (ld_U _ _ _ _ (HCX.out W hw)) ⟨hl2 11, (hF.put 11 34 (SP.is (.int .u8 (c x))) (.int .u8 (c x)) (by rw [hD]; rfl) rfl (by rw [hD]; rfl) (by rw [hsz]; decide) (by rw [hl]; decide)), hb1, (by rw [getD_set _ _ _ (by decide)]; exact m0)⟩)
    · have hk3 := hk
      exact wpOp_plain rfl rfl (wp_move_v (ac.eval (.tmp 1)) rfl rfl ⟨hl2 12, (hF.put 12 35 (SP.is (.int .u8 (c mk))) (ac.eval (.tmp 1)) (by rw [hD]; rfl) (((hF.keep 1 (by rw [hD]; rfl)).trans zs1)) (by rw [hD]; rfl) (by rw [hsz]; decide) (by rw [hl]; decide)), hb1, (by rw [getD_set _ _ _ (by decide)]; exact m0)⟩)
    · have hk3 := hk
      exact wpOp_plain rfl rfl (wp_move_v (ac.eval (.tmp 0)) rfl rfl ⟨hl2 13, (hF.put 13 36 (SP.is (.pointer (some ⟨b, 0, none⟩))) (ac.eval (.tmp 0)) (by rw [hD]; rfl) (((hF.keep 0 (by rw [hD]; rfl)).trans zs0)) (by rw [hD]; rfl) (by rw [hsz]; decide) (by rw [hl]; decide)), hb1, (by rw [getD_set _ _ _ (by decide)]; exact m0)⟩)
    · have hk3 := hk
      have e := (hF.done 13 (36, SP.is (.pointer (some ⟨b, 0, none⟩))) (by rw [hD]; rfl) (ready_dep hk 13 (by kernel_rfl)))
      exact wpOp_plain rfl rfl (wp_nilS rfl b e ⟨hl2 14, (hF.put 14 37 (SP.is (.pointer (some ⟨b, 0, none⟩))) (.pointer (some ⟨b, 0, none⟩)) (by rw [hD]; rfl) rfl (by rw [hD]; rfl) (by rw [hsz]; decide) (by rw [hl]; decide)), hb1, (by rw [getD_set _ _ _ (by decide)]; exact m0)⟩)
    · have hk3 := hk
      have e := (hF.done 14 (37, SP.is (.pointer (some ⟨b, 0, none⟩))) (by rw [hD]; rfl) (ready_dep hk 14 (by kernel_rfl)))
      exact wpOp_plain rfl rfl (wp_tl1 rfl b e ⟨hl2 15, (hF.put 15 38 (SP.is (.pointer (some ⟨b, 2, none⟩))) (.pointer (some ⟨b, 2, none⟩)) (by rw [hD]; rfl) rfl (by rw [hD]; rfl) (by rw [hsz]; decide) (by rw [hl]; decide)), hb1, (by rw [getD_set _ _ _ (by decide)]; exact m0)⟩)
    · have hk3 := hk
      have hw := m0.no (fun h => not_yet hk (hdn 21 h 16 (by kernel_rfl)))
      have e := (hF.done 15 (38, SP.is (.pointer (some ⟨b, 2, none⟩))) (by rw [hD]; rfl) (ready_dep hk 15 (by kernel_rfl)))
      exact wpOp_plain rfl rfl (wp_ldI b 2 (.int .i64 (kk : Int)) rfl e (HC2.out W hw) ⟨hl2 16, (hF.put 16 39 (SP.is (.int .i64 (kk : Int))) (.int .i64 (kk : Int)) (by rw [hD]; rfl) rfl (by rw [hD]; rfl) (by rw [hsz]; decide) (by rw [hl]; decide)), hb1, (by rw [getD_set _ _ _ (by decide)]; exact m0)⟩)
    · have hk3 := hk
      have ea := (hF.done 16 (39, SP.is (.int .i64 (kk : Int))) (by rw [hD]; rfl) (ready_dep hk 16 (by kernel_rfl)))
      refine wpOp_plain rfl rfl (wp_fcall_v 81 #[.int .i64 (kk : Int)] rfl rfl (by show [ac.eval (.tmp 39)] = _; rw [show ac.eval (.tmp 39) = _ from ea]) (by go_simp) ((HSH.out W).mono ?_))
      rintro e W2 ⟨rfl, hB⟩
      exact ⟨_, rfl, hl2 17, ((hF.world hB).put 17 40 (SP.is (.int .i64 (sh : Int))) (.int .i64 (sh : Int)) (by rw [hD]; rfl) rfl (by rw [hD]; rfl) (by rw [hsz]; decide) (by rw [hl]; decide)), hb1.trans (hB.mono (Nat.le_trans HBN.out hb1.size)), (by rw [getD_set _ _ _ (by decide)]; exact m0.below HCL.out hB)⟩
    · have hk3 := hk
      have e1 := (hF.done 12 (35, SP.is (.int .u8 (c mk))) (by rw [hD]; rfl) (ready_dep hk 12 (by kernel_rfl)))
      have e2 := (hF.done 17 (40, SP.is (.int .i64 (sh : Int))) (by rw [hD]; rfl) (ready_dep hk 17 (by kernel_rfl)))
      exact wpOp_plain rfl rfl (wp_shlU rfl mk sh HSL.out e1 e2 ⟨hl2 18, (hF.put 18 41 (SP.is (.int .u8 (c (mk <<< sh)))) (.int .u8 (c (mk <<< sh))) (by rw [hD]; rfl) rfl (by rw [hD]; rfl) (by rw [hsz]; decide) (by rw [hl]; decide)), hb1, (by rw [getD_set _ _ _ (by decide)]; exact m0)⟩)
    · have hk3 := hk
      have e1 := (hF.done 11 (34, SP.is (.int .u8 (c x))) (by rw [hD]; rfl) (ready_dep hk 11 (by kernel_rfl)))
      have e2 := (hF.done 18 (41, SP.is (.int .u8 (c (mk <<< sh)))) (by rw [hD]; rfl) (ready_dep hk 18 (by kernel_rfl)))
      exact wpOp_plain rfl rfl (wp_orU rfl x (mk <<< sh) e1 e2 ⟨hl2 19, (hF.put 19 42 (SP.is (.int .u8 (c (x ||| (mk <<< sh))))) (.int .u8 (c (x ||| (mk <<< sh)))) (by rw [hD]; rfl) rfl (by rw [hD]; rfl) (by rw [hsz]; decide) (by rw [hl]; decide)), hb1, (by rw [getD_set _ _ _ (by decide)]; exact m0)⟩)
    · have hk3 := hk
      have e1 := (hF.done 4 (27, SP.is (.slice (some ⟨g, 0, none⟩) (q + 1) cap)) (by rw [hD]; rfl) (ready_dep hk 4 (by kernel_rfl)))
      have e2 := (hF.done 9 (32, SP.is (.int .i64 (q : Int))) (by rw [hD]; rfl) (ready_dep hk 9 (by kernel_rfl)))
      exact wpOp_plain rfl rfl (wp_index_s 46 5 rfl g 0 (q + 1) cap q 1 e1 e2 (Nat.lt_succ_self q) Tryd.underlying46 info_u8 ⟨hl2 20, (hF.put 20 43 (SP.is (.pointer (some ⟨g, 0 + q * 1, none⟩))) (.pointer (some ⟨g, 0 + q * 1, none⟩)) (by rw [hD]; rfl) rfl (by rw [hD]; rfl) (by rw [hsz]; decide) (by rw [hl]; decide)), hb1, (by rw [getD_set _ _ _ (by decide)]; exact m0)⟩)
    · have hk3 := hk
      have hw := m0.no (not_yet hk)
      have e43 : ac.eval (.tmp 43) = .pointer (some ⟨g, 0 + q * 1, none⟩) := (hF.done 20 (43, SP.is (.pointer (some ⟨g, 0 + q * 1, none⟩))) (by rw [hD]; rfl) (ready_dep hk 20 (by kernel_rfl)))
      have e42 : ac.eval (.tmp 42) = .int .u8 (c (x ||| (mk <<< sh))) := (hF.done 19 (42, SP.is (.int .u8 (c (x ||| (mk <<< sh))))) (by rw [hD]; rfl) (ready_dep hk 19 (by kernel_rfl)))
      have hT : Fp D a0 listed ac (W.setCell ⟨g, 0 + q * 1, none⟩ (.int .u8 (c (x ||| (mk <<< sh))))) := hF.turn (by rw [hD]; simp only [List.forall_mem_cons, List.not_mem_nil, false_implies, implies_true, and_true]; exact ⟨fun _ h => h, fun _ h => h, fun _ h => h, fun _ h => h, fun _ h => h, fun _ h => h, fun _ h => h, fun _ h => h, fun _ h => h, fun _ h => h, fun _ h => h, fun _ h => h, fun _ h => h, fun _ h => h, fun _ h => h, fun _ h => h, fun _ h => h, fun _ h => h, fun _ h => h, fun _ h => h, fun _ h => h, fun _ h => h⟩)
      obtain ⟨csg, rg, hlg⟩ := own_len (HOM.out W hw)
      exact wpOp_plain rfl rfl (wp_stG 5 (.tmp 43) (.tmp 42) rfl g (0 + q * 1) (.int .u8 (c (x ||| (mk <<< sh)))) e43 e42 ⟨rfl, rfl⟩ rg (by omega) (by kernel_rfl) ⟨hl2 21, (hT.skip 21 1000 (by rw [hD]; rfl) (by rw [hl]; decide)), below_setC2 hb1 HGB.out _ _, STt.done (getD_same (by rw [hl]; decide)) (HPO.out W hw)⟩)
  · clear hb1 m0 
    intro listed ac W hI hr
    obtain ⟨hl, hF, hb1, m0⟩ := hI
    have hall := all_listed (by kernel_rfl) hl hr
    have h23 : ac.eval (.tmp 23) = .pointer (some ⟨b, 0, none⟩) := hF.done 0 (23, SP.is (.pointer (some ⟨b, 0, none⟩))) (by rw [hD]; rfl) (hall 0 (by decide))
    have h24 : ac.eval (.tmp 24) = .pointer (some ⟨b, 0, none⟩) := hF.done 1 (24, SP.is (.pointer (some ⟨b, 0, none⟩))) (by rw [hD]; rfl) (hall 1 (by decide))
    have h25 : ac.eval (.tmp 25) = .pointer (some ⟨b, 0, none⟩) := hF.done 2 (25, SP.is (.pointer (some ⟨b, 0, none⟩))) (by rw [hD]; rfl) (hall 2 (by decide))
    have h26 : ac.eval (.tmp 26) = .pointer (some ⟨b, 0, none⟩) := hF.done 3 (26, SP.is (.pointer (some ⟨b, 0, none⟩))) (by rw [hD]; rfl) (hall 3 (by decide))
    have h27 : ac.eval (.tmp 27) = .slice (some ⟨g, 0, none⟩) (q + 1) cap := hF.done 4 (27, SP.is (.slice (some ⟨g, 0, none⟩) (q + 1) cap)) (by rw [hD]; rfl) (hall 4 (by decide))
    have h28 : ac.eval (.tmp 28) = .pointer (some ⟨b, 0, none⟩) := hF.done 5 (28, SP.is (.pointer (some ⟨b, 0, none⟩))) (by rw [hD]; rfl) (hall 5 (by decide))
    have h29 : ac.eval (.tmp 29) = .pointer (some ⟨b, 0, none⟩) := hF.done 6 (29, SP.is (.pointer (some ⟨b, 0, none⟩))) (by rw [hD]; rfl) (hall 6 (by decide))
    have h30 : ac.eval (.tmp 30) = .pointer (some ⟨b, 2, none⟩) := hF.done 7 (30, SP.is (.pointer (some ⟨b, 2, none⟩))) (by rw [hD]; rfl) (hall 7 (by decide))
    have h31 : ac.eval (.tmp 31) = .int .i64 (kk : Int) := hF.done 8 (31, SP.is (.int .i64 (kk : Int))) (by rw [hD]; rfl) (hall 8 (by decide))
    have h32 : ac.eval (.tmp 32) = .int .i64 (q : Int) := hF.done 9 (32, SP.is (.int .i64 (q : Int))) (by rw [hD]; rfl) (hall 9 (by decide))
    have h33 : ac.eval (.tmp 33) = .pointer (some ⟨g, 0 + q * 1, none⟩) := hF.done 10 (33, SP.is (.pointer (some ⟨g, 0 + q * 1, none⟩))) (by rw [hD]; rfl) (hall 10 (by decide))
    have h34 : ac.eval (.tmp 34) = .int .u8 (c x) := hF.done 11 (34, SP.is (.int .u8 (c x))) (by rw [hD]; rfl) (hall 11 (by decide))
    have h35 : ac.eval (.tmp 35) = .int .u8 (c mk) := hF.done 12 (35, SP.is (.int .u8 (c mk))) (by rw [hD]; rfl) (hall 12 (by decide))
    have h36 : ac.eval (.tmp 36) = .pointer (some ⟨b, 0, none⟩) := hF.done 13 (36, SP.is (.pointer (some ⟨b, 0, none⟩))) (by rw [hD]; rfl) (hall 13 (by decide))
    have h37 : ac.eval (.tmp 37) = .pointer (some ⟨b, 0, none⟩) := hF.done 14 (37, SP.is (.pointer (some ⟨b, 0, none⟩))) (by rw [hD]; rfl) (hall 14 (by decide))
    have h38 : ac.eval (.tmp 38) = .pointer (some ⟨b, 2, none⟩) := hF.done 15 (38, SP.is (.pointer (some ⟨b, 2, none⟩))) (by rw [hD]; rfl) (hall 15 (by decide))
    have h39 : ac.eval (.tmp 39) = .int .i64 (kk : Int) := hF.done 16 (39, SP.is (.int .i64 (kk : Int))) (by rw [hD]; rfl) (hall 16 (by decide))
    have h40 : ac.eval (.tmp 40) = .int .i64 (sh : Int) := hF.done 17 (40, SP.is (.int .i64 (sh : Int))) (by rw [hD]; rfl) (hall 17 (by decide))
    have h41 : ac.eval (.tmp 41) = .int .u8 (c (mk <<< sh)) := hF.done 18 (41, SP.is (.int .u8 (c (mk <<< sh)))) (by rw [hD]; rfl) (hall 18 (by decide))
    have h42 : ac.eval (.tmp 42) = .int .u8 (c (x ||| (mk <<< sh))) := hF.done 19 (42, SP.is (.int .u8 (c (x ||| (mk <<< sh))))) (by rw [hD]; rfl) (hall 19 (by decide))
    have h43 : ac.eval (.tmp 43) = .pointer (some ⟨g, 0 + q * 1, none⟩) := hF.done 20 (43, SP.is (.pointer (some ⟨g, 0 + q * 1, none⟩))) (by rw [hD]; rfl) (hall 20 (by decide))
    have ea := hF.lay [(23, .pointer (some ⟨b, 0, none⟩)), (24, .pointer (some ⟨b, 0, none⟩)), (25, .pointer (some ⟨b, 0, none⟩)), (26, .pointer (some ⟨b, 0, none⟩)), (27, .slice (some ⟨g, 0, none⟩) (q + 1) cap), (28, .pointer (some ⟨b, 0, none⟩)), (29, .pointer (some ⟨b, 0, none⟩)), (30, .pointer (some ⟨b, 2, none⟩)), (31, .int .i64 (kk : Int)), (32, .int .i64 (q : Int)), (33, .pointer (some ⟨g, 0 + q * 1, none⟩)), (34, .int .u8 (c x)), (35, .int .u8 (c mk)), (36, .pointer (some ⟨b, 0, none⟩)), (37, .pointer (some ⟨b, 0, none⟩)), (38, .pointer (some ⟨b, 2, none⟩)), (39, .int .i64 (kk : Int)), (40, .int .i64 (sh : Int)), (41, .int .u8 (c (mk <<< sh))), (42, .int .u8 (c (x ||| (mk <<< sh)))), (43, .pointer (some ⟨g, 0 + q * 1, none⟩))] (by rw [hD, hsz]; rfl) (by simp only [List.forall_mem_cons, List.not_mem_nil, false_implies, implies_true, and_true]; exact ⟨h23, h24, h25, h26, h27, h28, h29, h30, h31, h32, h33, h34, h35, h36, h37, h38, h39, h40, h41, h42, h43⟩)
    rw [ha0] at ea
    simp only [List.foldl_cons, List.foldl_nil, List.setIfInBounds_toArray, List.set_cons_zero, List.set_cons_succ] at ea
    replace m0 := m0.yes (hall 21 (by decide))
    clear hF hall hr hl hD  zs0 zs1 ha0 hsz h23 h24 h25 h26 h27 h28 h29 h30 h31 h32 h33 h34 h35 h36 h37 h38 h39 h40 h41 h42 h43
    subst ea
    obtain ⟨rT2, oM2, oS2, hK2, rN2⟩ := HPB.out _ m0
    have hbw : Below b w W := HB0.out.trans hb1
    have C22 : Hid (W.cell? ⟨b, 2, none⟩ = some (.int .i64 (kk : Int))) := rT2.cell 2 _ rfl
    have T22 : Hid (W.there b 2 1) := rT2.there 2 1 (show 2 + 1 ≤ 3 from by decide)
    have R3 : Hid (Row (W.setCell ⟨b, 2, none⟩ (.int .i64 ((kk + 1 : Nat) : Int))) b [(.slice (some ⟨g, 0, none⟩) (q + 1) cap), vb, .int .i64 ((kk + 1 : Nat) : Int)] 90) := rT2.set 2 _
    have OM3 : Hid ((W.setCell ⟨b, 2, none⟩ (.int .i64 ((kk + 1 : Nat) : Int))).ownsRow (b + 1) 5 1 (.slice (some ⟨g, 0, none⟩) (q + 1) cap) (q + 1) (vB (l.set q (x ||| (mk <<< sh))))) := own_setc oM2 rT2 (by decide) 2 _
    have OS3 : Hid ((W.setCell ⟨b, 2, none⟩ (.int .i64 ((kk + 1 : Nat) : Int))).ownsRow (b + 1) 29 32 vb s ys) := own_setc oS2 rT2 (by decide) 2 _
    have K3 : Hid (KpT w (W.setCell ⟨b, 2, none⟩ (.int .i64 ((kk + 1 : Nat) : Int)))) := hK2.trans (KpT.setc rT2 (.inr rfl) 2 _)
    have B3 : Hid (Below b w (W.setCell ⟨b, 2, none⟩ (.int .i64 ((kk + 1 : Nat) : Int)))) := below_setC2 hbw (Nat.le_refl _) 2 _
    have RN3 : Hid (Row (W.setCell ⟨b, 2, none⟩ (.int .i64 ((kk + 1 : Nat) : Int))) gb news 29) := Row.set_other rN2 _ _ _ (row_ne rN2 rT2 (by decide))
    have HCELL : Hid (∀ j u, news[j]? = some u → (W.setCell ⟨b, 2, none⟩ (.int .i64 ((kk + 1 : Nat) : Int))).cell? ((⟨gb, 0, none⟩ : Addr).add j) = some u) := fun j u hj => by rw [Addr.add_mid]; exact RN3.out.all j u hj
    have HL63 : Hid (s + m ≤ maxLen) := by show _ ≤ _; have := HB8.out; have := HMB.out; unfold maxLen; omega
    have HBYT : Hid ((s + m) * 32 ≤ 140737488355328) := by show _ ≤ _; have := HB8.out; have := HMB.out; omega
    have HBASE : Hid (b + 1 ≤ (W.setCell ⟨b, 2, none⟩ (.int .i64 ((kk + 1 : Nat) : Int))).heap.size) := R3.out.lt
    clear rN2
    clear rT2 oM2 oS2 hK2 hbw m0 hb1
    obtain ⟨ie, z, hi0, hz0, hsz0, hby0, hzs0⟩ := info_d_open
    have HI0 : Hid _ := hi0
    have HZ0 : Hid _ := hz0
    have HSZ : Hid _ := hsz0
    have HBY : Hid _ := hby0
    have HZS : Hid _ := hzs0
    clear hi0 hz0 hsz0 hby0 hzs0
    go_upto_region 4 with (first
      | (refine wpList_plain rfl fun _ hK => wp_ldI b 2 (.int .i64 (kk : Int)) rfl rfl C22.out (hK _ _ ?_); simp only [Act.put, List.setIfInBounds_toArray, List.set_cons_zero, List.set_cons_succ])
      | (refine wpList_plain rfl fun _ hK => wp_add1S rfl kk HKB.out rfl (hK _ _ ?_); simp only [Act.put, List.setIfInBounds_toArray, List.set_cons_zero, List.set_cons_succ])
      | (refine wpList_store1 rfl 3 (.tmp 50) (.tmp 48) rfl b 2 (.int .i64 ((kk + 1 : Nat) : Int)) rfl rfl rfl T22.out (by kernel_rfl) rfl ?_; simp only [Act.put]))
    go_wp2_with (first
      | (refine wpList_plain rfl fun _ hK => wp_ldV b 1 vb rfl rfl (ld_D _ _ _ _ (R3.out.cell 1 _ rfl)) (hK _ _ ?_); simp only [Act.put, List.setIfInBounds_toArray, List.set_cons_zero, List.set_cons_succ])
      | (refine wpList_append_own _ rfl (.tmp 56) (.tmp 57) 30 rfl (b + 1) 29 ie z 32 32 Tryd.underlying30 HI0.out HZ0.out HSZ.out HBY.out HZS.out (by decide) vb s ys rfl OS3.out ⟨gb, 0, none⟩ m cp news rfl HNL.out HCELL.out HN1.out HL63.out HBYT.out HBASE.out ?_; intro v4 w4 hO4 hG4 hE4; have O4 : Hid _ := hO4; have G4 : Hid _ := hG4; clear hO4 hG4 hE4; have R4 : Hid (Row w4 b [(.slice (some ⟨g, 0, none⟩) (q + 1) cap), vb, .int .i64 ((kk + 1 : Nat) : Int)] 90) := row_grown R3.out G4.out (fun g2 e2 => by obtain ⟨cs, r⟩ := own_row OS3.out g2 e2; exact ⟨cs, _, r, by decide⟩); simp only [Act.put, List.setIfInBounds_toArray, List.set_cons_zero, List.set_cons_succ])
      | (refine wpList_store1 rfl 30 (.tmp 61) (.tmp 58) rfl b 1 v4 rfl rfl (own_cl O4.out).1 (R4.out.there 1 1 (show 1 + 1 ≤ 3 from by decide)) (by kernel_rfl) (own_cl O4.out).2 ?_; simp only [Act.put]))
    have oSf := own_setc O4.out R4.out (by decide) 1 v4
    have oMf := own_setc (own_grown OM3.out G4.out (fun g2 e2 => by obtain ⟨cs, r⟩ := own_row OS3.out g2 e2; exact ⟨cs, _, r, by decide⟩)) R4.out (by decide) 1 v4
    have eq4 : (kk + 1 + 3) / 4 = q + 1 := by have := HQ.out; omega
    have hKf : KpT w (w4.setCell ⟨b, 1, none⟩ v4) := (K3.out.trans (KpT.grown G4.out (fun g2 e2 => by obtain ⟨cs, r⟩ := own_row OS3.out g2 e2; exact ⟨cs, _, r, .inr rfl⟩))).trans (KpT.setc R4.out (.inr rfl) 1 v4)
    have hBf : Below b w (w4.setCell ⟨b, 1, none⟩ v4) := below_setC2 (Below.grown B3.out G4.out (Nat.le_of_lt R3.out.lt) (fun g2 e2 => own_ge OS3.out g2 e2)) (Nat.le_refl _) 1 v4
    exact bodyPost_end (results_none rfl _ _ _) rfl ⟨rfl, ⟨_, v4, _, _, R4.out.set 1 v4, by rw [eq4]; exact oMf, oSf, fun g2 e2 => by
      obtain ⟨cs, r⟩ := own_row oSf g2 e2
      exact r.lt⟩, hKf, hBf⟩

end Go.Proofs.YtfdgdmehgbmnkaaDoor
