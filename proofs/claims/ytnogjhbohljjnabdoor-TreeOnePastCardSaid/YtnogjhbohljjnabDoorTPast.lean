/-
  The law TreeOnePast.
-/
import Derived.Test.YtnogjhbohljjnabDoorTPast0
namespace Go.Proofs.YtnogjhbohljjnabDoor
open Go Go.RowKit
open Sha

set_option maxRecDepth 100000 in
set_option maxHeartbeats 8000000 in
theorem onePast_walk (was root x y : List (BitVec 8)) (ds us vs : List (List (BitVec 8))) (Hw : Dl was) (Hr : Dl root) (m n i : Int) (hx : x.length ≤ 140737488351232) (hy : y.length ≤ 140737488351232) (A1 A2 P0 P1 P2 : Option Addr) (c1 c2 d0 d1 d2 : Nat) (z1 : A1 = none → c1 = 0) (z2 : A2 = none → c2 = 0) (pc cs : List Value) (hpc : pc = past was root m n (.slice P0 ds.length d0)) (hcs : cs = rewr pc i (.slice A1 x.length c1) (.slice P1 us.length d1) (.slice A2 y.length c2) (.slice P2 vs.length d2)) (w : World) (fG : Given w)
    (f1 : SlAt w (.slice A1 x.length c1) x) (f2 : SlAt w (.slice A2 y.length c2) y) (p0 : PAt w (.slice P0 ds.length d0) ds) (p1 : PAt w (.slice P1 us.length d1) us) (p2 : PAt w (.slice P2 vs.length d2) vs) :
    Calls Tryd.prog 5 #[.agg cs.toArray] w fun e w' => e = .returned (.bool true) ∧ Below w.heap.size w w' := by
  obtain ⟨E1, hE1⟩ : ∃ E1, E1 = ck was m i x us := ⟨_, rfl⟩
  obtain ⟨E2, hE2⟩ : ∃ E2, E2 = ck root n i y vs := ⟨_, rfl⟩
  obtain ⟨E3, hE3⟩ : ∃ E3, E3 = gw was root m n ds := ⟨_, rfl⟩
  have HE1 : Hid (E1 = _) := hE1
  have HE2 : Hid (E2 = _) := hE2
  have HE3 : Hid (E3 = _) := hE3
  have HX : Hid (x.length ≤ 140737488351232) := hx
  have HY : Hid (y.length ≤ 140737488351232) := hy
  have HX2 : Hid (x.length < 1152921504606846975) := by show _ < _; omega
  have HY2 : Hid (y.length < 1152921504606846975) := by show _ < _; omega
  have Z1 : Hid (A1 = none → c1 = 0) := z1
  have Z2 : Hid (A2 = none → c2 = 0) := z2
  have HU : Hid (∀ d ∈ us, d.length = 32) := p1.1
  have HV : Hid (∀ d ∈ vs, d.length = 32) := p2.1
  have HDD : Hid (∀ d ∈ ds, d.length = 32) := p0.1
  have hpl : pc.length = 67 := by rw [hpc]; exact past_len Hw Hr _ _ _
  have HPI : Hid ((Tryd.prog.info? 53).map (·.size) = some pc.length) := by show _ = _; rw [info_past, hpl]
  have HPI2 : Hid ((Tryd.prog.info? 53).map (·.size) = some pc.toArray.size) := by show _ = _; rw [info_past, List.size_toArray, hpl]
  have HPO : Hid (pc.toArray.all (·.oneCell') = true) := by show _ = _; rw [hpc]; exact past_one
  have hB0 : Below w.heap.size w (w.alloc (.cells cs.toArray 55)) := (Below.refl _ _).alloc (Nat.le_refl _) _
  have r1 : Row (w.alloc (.cells cs.toArray 55)) w.heap.size cs 55 := Row.new' rfl rfl
  have ra : (w.alloc (.cells cs.toArray 55)).rangeAt w.heap.size 0 (pc ++ [Value.int .i64 i, .slice A1 x.length c1, .slice P1 us.length d1, .slice A2 y.length c2, .slice P2 vs.length d2]) := by have := r1.all; rw [hcs] at this ⊢; exact this
  have q0 : (w.alloc (.cells cs.toArray 55)).rangeAt w.heap.size 0 pc := ran_left ra
  have q3 := ran_right ra hpl
  have g67 : (w.alloc (.cells cs.toArray 55)).cell? ⟨w.heap.size, 67, none⟩ = some (.int .i64 i) := by have := q3 0 _ rfl; simpa using this
  have g68 : (w.alloc (.cells cs.toArray 55)).cell? ⟨w.heap.size, 68, none⟩ = some (.slice A1 x.length c1) := by have := q3 1 _ rfl; simpa using this
  have g69 : (w.alloc (.cells cs.toArray 55)).cell? ⟨w.heap.size, 69, none⟩ = some (.slice P1 us.length d1) := by have := q3 2 _ rfl; simpa using this
  have g70 : (w.alloc (.cells cs.toArray 55)).cell? ⟨w.heap.size, 70, none⟩ = some (.slice A2 y.length c2) := by have := q3 3 _ rfl; simpa using this
  have g71 : (w.alloc (.cells cs.toArray 55)).cell? ⟨w.heap.size, 71, none⟩ = some (.slice P2 vs.length d2) := by have := q3 4 _ rfl; simpa using this
  have FKW : Hid (∀ W, Below w.heap.size w W → Tab W 3) := fun W hB => fG.cub.be hB
  replace f1 := f1.be hB0
  replace f2 := f2.be hB0
  replace p0 := p0.be hB0
  replace p1 := p1.be hB0
  replace p2 := p2.be hB0
  replace fG := fG.be hB0
  have hb := hB0
  obtain ⟨W0, hW0⟩ : ∃ W0, W0 = (w.alloc (.cells cs.toArray 55)) := ⟨_, rfl⟩
  rw [← hW0] at q0 g67 g68 g69 g70 g71 f1 f2 p0 p1 p2 fG hb
  have HCS : Hid (pc = _) := hpc
  clear r1 hB0 hE1 hE2 hE3 hx hy z1 z2 ra q3 hcs hpc hpl
  go_enter Tryd.func5, Tryd.ntmps5
  go_wp2_with fail
  rw [← hW0]
  clear hW0
  refine (awake_any W0 fG.cub).mono ?_
  rintro e V0 ⟨rfl, hB⟩
  replace hb := hb.trans (hB.mono hb.size)
  replace fG := fG.be hB
  replace f1 := f1.be hB
  replace f2 := f2.be hB
  replace p0 := p0.be hB
  replace p1 := p1.be hB
  replace p2 := p2.be hB
  replace q0 := range_below q0 hB (Nat.le_refl _)
  replace g67 := cell_be g67 hB
  replace g68 := cell_be g68 hB
  replace g69 := cell_be g69 hB
  replace g70 := cell_be g70 hB
  replace g71 := cell_be g71 hB
  clear hB
  have n0 : Row (V0.alloc (Obj.cells z67.toArray 53)) V0.heap.size z67 53 := Row.new' rfl rfl
  have hpl : pc.length = 67 := by rw [HCS.out]; exact past_len Hw Hr _ _ _
  have T0 := n0.there 0 pc.toArray.size (by rw [List.size_toArray, hpl]; decide)
  replace n0 := n0.over (vs := pc) (by rw [hpl]; rfl)
  have hB : Below V0.heap.size V0 ((V0.alloc (Obj.cells z67.toArray 53)).setCells V0.heap.size 0 pc) := below_setCells ((Below.refl _ _).alloc (Nat.le_refl _) _) (Nat.le_refl _) _
  have ql := q0
  replace hb := hb.trans (hB.mono hb.size)
  replace fG := fG.be hB
  replace f1 := f1.be hB
  replace f2 := f2.be hB
  replace p0 := p0.be hB
  replace p1 := p1.be hB
  replace p2 := p2.be hB
  replace q0 := range_below q0 hB (Nat.le_refl _)
  replace g67 := cell_be g67 hB
  replace g68 := cell_be g68 hB
  replace g69 := cell_be g69 hB
  replace g70 := cell_be g70 hB
  replace g71 := cell_be g71 hB
  clear hB q0
  have rb0 : World.rangeAt ((V0.alloc (Obj.cells z67.toArray 53)).setCells V0.heap.size 0 pc) V0.heap.size 0 (vB was ++ ([Value.int .i64 m] ++ (vB root ++ [Value.int .i64 n, .slice P0 ds.length d0]))) := by have := n0.all; rw [HCS.out] at this ⊢; exact this
  have qw := ran_left rb0
  have rb2 := ran_right rb0 Hw.len
  have qm := ran_left rb2
  have rb3 := ran_right rb2 (show [Value.int .i64 m].length = 1 from rfl)
  have qr := ran_left rb3
  have qn := ran_right rb3 Hr.len
  have g32 : World.cell? ((V0.alloc (Obj.cells z67.toArray 53)).setCells V0.heap.size 0 pc) ⟨V0.heap.size, 32, none⟩ = some (.int .i64 m) := by have := qm 0 _ rfl; simpa using this
  have g65 : World.cell? ((V0.alloc (Obj.cells z67.toArray 53)).setCells V0.heap.size 0 pc) ⟨V0.heap.size, 65, none⟩ = some (.int .i64 n) := by have := qn 0 _ rfl; simpa using this
  have g66 : World.cell? ((V0.alloc (Obj.cells z67.toArray 53)).setCells V0.heap.size 0 pc) ⟨V0.heap.size, 66, none⟩ = some (.slice P0 ds.length d0) := by have := qn 1 _ rfl; simpa using this
  replace qr : World.rangeAt ((V0.alloc (Obj.cells z67.toArray 53)).setCells V0.heap.size 0 pc) V0.heap.size 33 (vB root) := by simpa using qr
  clear n0 rb0 rb2 qm rb3 qn hpl
  go_wp2_with (first
    | (refine wpList_load_w rfl 53 (.tmp 15) rfl w.heap.size 0 rfl pc _ ql Tryd.underlying53 rfl HPI.out ?_; simp only [Act.put, List.setIfInBounds_toArray, List.set_cons_zero, List.set_cons_succ])
    | (refine wpList_store_mid rfl 53 (.tmp 4) (.tmp 16) rfl V0.heap.size 0 pc.toArray rfl rfl T0 HPI2.out HPO.out ?_; simp only [Act.put]; clear T0 ql; (change wpList _ _ _ _ _ ((V0.alloc (Obj.cells z67.toArray 53)).setCells V0.heap.size 0 pc)); (generalize ((V0.alloc (Obj.cells z67.toArray 53)).setCells V0.heap.size 0 pc) = X1 at *); (generalize hN : V0.heap.size = N4 at *; clear hN))
    | (refine wpList_load_w rfl 28 (.tmp 17) rfl N4 0 rfl (vB was) _ qw Tryd.underlying28 rfl Hw.info ?_; simp only [Act.put, List.setIfInBounds_toArray, List.set_cons_zero, List.set_cons_succ]))
  refine (check_any m i was x us Hw HX2.out _ _ X1 fG.cub p1 f1).mono ?_
  rintro e V1 ⟨rfl, hB⟩
  replace hb := hb.trans (hB.mono hb.size)
  replace fG := fG.be hB
  replace f1 := f1.be hB
  replace f2 := f2.be hB
  replace p0 := p0.be hB
  replace p1 := p1.be hB
  replace p2 := p2.be hB
  replace g67 := cell_be g67 hB
  replace g68 := cell_be g68 hB
  replace g69 := cell_be g69 hB
  replace g70 := cell_be g70 hB
  replace g71 := cell_be g71 hB
  replace qw := range_below qw hB (Nat.le_refl _)
  replace qr := range_below qr hB (Nat.le_refl _)
  replace g32 := cell_be g32 hB
  replace g65 := cell_be g65 hB
  replace g66 := cell_be g66 hB
  clear hB
  rw [← HE1.out]
  go_wp2_with (refine wpList_load_w rfl 28 (.tmp 28) rfl N4 33 rfl (vB root) _ qr Tryd.underlying28 rfl Hr.info ?_; simp only [Act.put, List.setIfInBounds_toArray, List.set_cons_zero, List.set_cons_succ])
  refine (check_any n i root y vs Hr HY2.out _ _ V1 fG.cub p2 f2).mono ?_
  rintro e V2 ⟨rfl, hB⟩
  replace hb := hb.trans (hB.mono hb.size)
  replace fG := fG.be hB
  replace f1 := f1.be hB
  replace f2 := f2.be hB
  replace p0 := p0.be hB
  replace p1 := p1.be hB
  replace p2 := p2.be hB
  replace g67 := cell_be g67 hB
  replace g68 := cell_be g68 hB
  replace g69 := cell_be g69 hB
  replace g70 := cell_be g70 hB
  replace g71 := cell_be g71 hB
  replace qw := range_below qw hB (Nat.le_refl _)
  replace qr := range_below qr hB (Nat.le_refl _)
  replace g32 := cell_be g32 hB
  replace g65 := cell_be g65 hB
  replace g66 := cell_be g66 hB
  clear hB
  rw [← HE2.out]
  go_wp2_with (first
    | (refine wpList_load_w rfl 28 (.tmp 39) rfl N4 0 rfl (vB was) _ qw Tryd.underlying28 rfl Hw.info ?_; simp only [Act.put, List.setIfInBounds_toArray, List.set_cons_zero, List.set_cons_succ])
    | (refine wpList_load_w rfl 28 (.tmp 43) rfl N4 33 rfl (vB root) _ qr Tryd.underlying28 rfl Hr.info ?_; simp only [Act.put, List.setIfInBounds_toArray, List.set_cons_zero, List.set_cons_succ]))
  refine (grew_any m n was root Hw Hr ds P0 d0 V2 fG.cub p0).mono ?_
  rintro e V3 ⟨rfl, hB⟩
  replace hb := hb.trans (hB.mono hb.size)
  replace fG := fG.be hB
  replace f1 := f1.be hB
  replace f2 := f2.be hB
  replace p0 := p0.be hB
  replace p1 := p1.be hB
  replace p2 := p2.be hB
  replace g67 := cell_be g67 hB
  replace g68 := cell_be g68 hB
  replace g69 := cell_be g69 hB
  replace g70 := cell_be g70 hB
  replace g71 := cell_be g71 hB
  replace qw := range_below qw hB (Nat.le_refl _)
  replace qr := range_below qr hB (Nat.le_refl _)
  replace g32 := cell_be g32 hB
  replace g65 := cell_be g65 hB
  replace g66 := cell_be g66 hB
  clear hB
  rw [← HE3.out]
  have k1 := run_convert_sl (P := Tryd.prog) V3 38 5 9 Tryd.underlying38 Tryd.underlying5 Tryd.underlying9 _ x f1
  have k2 := run_convert_sl (P := Tryd.prog) V3 38 5 9 Tryd.underlying38 Tryd.underlying5 Tryd.underlying9 _ y f2
  have HST : Hid (((str x).toList == (str y).toList) = decide (x = y)) := str_beq x y
  generalize str x = s1 at *
  generalize str y = s2 at *
  by_cases e1 : E1 = 0
  · by_cases e2 : E2 = 0
    · by_cases e3 : E3 = 0
      · subst e1; subst e2; subst e3
        by_cases e4 : x = y
        · have hst : (s1.toList == s2.toList) = true := by rw [HST.out]; exact decide_eq_true e4
          clear HST e4
          go_wp2_with fail
          go_ret
          exact ⟨rfl, hb⟩
        · have hst : (s1.toList == s2.toList) = false := by rw [HST.out]; exact decide_eq_false e4
          have HNE : Hid (x ≠ y) := e4
          clear HST e4
          obtain ⟨M, I, rfl, rfl, hIM, hM, lu, ru⟩ := ck_ok HE1.out.symm
          have a2 := ck_ok HE2.out.symm
          obtain ⟨N, I2, rfl, eI, hIN, hN, lv, rv⟩ := a2
          have a3 := gw_ok HE3.out.symm
          obtain ⟨M2, N2, eM, eN, hMN, _, ld, hld⟩ := a3
          obtain rfl : I = I2 := by omega
          obtain rfl : M = M2 := by omega
          obtain rfl : N = N2 := by omega
          rw [show gl M N = gs M N true from if_neg (by omega)] at ld
          have hro := ld_ok (by omega) hld
          have hg1 := gs_true N M true (by omega) hMN (by omega)
          have hgl := gt_len N M true was ds (by omega) hMN (by omega)
          have hpu := pl_short M I (by omega) (by omega)
          have hpv := pl_short N I (by omega) (by omega)
          simp only [if_true, Nat.add_zero] at hg1
          have HSU : Hid ((sd M I).length = us.length) := by show _ = _; rw [sd_length M I (by omega) (by omega), lu]
          have HSV : Hid ((sd N I).length = vs.length) := by show _ = _; rw [sd_length N I (by omega) (by omega), lv]
          have HIM : Hid (I < M) := hIM
          have HIN : Hid (I < N) := hIN
          have HMM : Hid (M ≤ 1099511627776) := hM
          have HNN : Hid (N ≤ 1099511627776) := hN
          have HMN : Hid (M ≤ N) := hMN
          have H1M : Hid (1 ≤ M) := (by omega : 1 ≤ M)
          have LU : Hid (us.length = pl M I) := lu
          have LV : Hid (vs.length = pl N I) := lv
          have LD : Hid (ds.length = gs M N true) := ld
          have HL1 : Hid (us.length + 2 ≤ 1099511627776) := by show _ ≤ _; omega
          have HL2 : Hid (vs.length + 2 ≤ 1099511627776) := by show _ ≤ _; omega
          have HL3 : Hid ((gt M N true was ds).length + 2 ≤ 2199023255552) := by show _ ≤ _; omega
          obtain ⟨L, hL⟩ : ∃ L, L = txs (sd M I) us x (us.length + 1) ++ txs (sd N I) vs y (vs.length + 1) ++ gt M N true was ds := ⟨_, rfl⟩
          have hLL : L.length = us.length + 1 + (vs.length + 1) + (gt M N true was ds).length := by rw [hL, List.length_append, List.length_append, txs_length, txs_length]
          have HLL : Hid (L.length = us.length + 1 + (vs.length + 1) + (gt M N true was ds).length) := hLL
          have hCL := (past_clash N M I true was x y ds us vs Hw hIM hMN (by omega) ld lu lv HDD.out HU.out HV.out HNE.out (ru.trans hro.1.symm) (rv.trans hro.2.symm)).at
          unfold TX at hCL
          rw [← List.append_assoc, ← hL, hLL] at hCL
          have HCL : Hid (∃ i k, k < i ∧ i < us.length + 1 + (vs.length + 1) + (gt M N true was ds).length ∧ Clsh L i k) := hCL
          have HGE0 := gt_each N M true was ds Hw HDD.out (by omega) hMN (by omega) ld
          have HTL : Hid (∀ i, i < us.length + 1 + (vs.length + 1) + (gt M N true was ds).length → (L.getD i []).length < 1152921504606846976) := fun i _ => mem_short L (fun p hp => by
            rw [hL] at hp
            rcases List.mem_append.1 hp with hp | hp
            · rcases List.mem_append.1 hp with hp | hp
              · obtain ⟨k, _, rfl⟩ := List.mem_map.1 hp; exact txk_len _ _ _ HU.out HX.out k
              · obtain ⟨k, _, rfl⟩ := List.mem_map.1 hp; exact txk_len _ _ _ HV.out HY.out k
            · rw [HGE0 p hp]; decide) i
          have HL : Hid (L = txs (sd M I) us x (us.length + 1) ++ txs (sd N I) vs y (vs.length + 1) ++ gt M N true was ds) := hL
          clear hL hLL hCL HGE0
          have HLG : Hid (∀ w, _) := fun w => long_any N M true (by omega) hMN (by omega) w
          rw [← ld] at HLG
          have t1 : ¬ (1099511627776 : Int) < (N : Int) := by omega
          have t1b : (N : Int) ≤ 1099511627776 := by omega
          have t1c : decide ((1099511627776 : Int) < (N : Int)) = false := decide_eq_false t1
          have t2 : ¬ (M : Int) < 1 := by omega
          have t3 : ¬ (N : Int) < (M : Int) := by omega
          have t4 : ¬ (I : Int) < 0 := by omega
          have t5 : ¬ (M : Int) ≤ (I : Int) := by omega
          clear lu lv ld ru rv hIM hIN hM hN hMN eI eM eN hld hro hg1 hgl hpu hpv HE1 HE2 HE3
          go_wp2_with fail
          refine (sides_any M I HIM.out HMM.out V3).mono ?_
          rintro e V4 ⟨v6, rfl, hO6, hB⟩
          replace hb := hb.trans (hB.mono hb.size)
          replace fG := fG.be hB
          replace f1 := f1.be hB
          replace f2 := f2.be hB
          replace p0 := p0.be hB
          replace p1 := p1.be hB
          replace p2 := p2.be hB
          replace g67 := cell_be g67 hB
          replace g68 := cell_be g68 hB
          replace g69 := cell_be g69 hB
          replace g70 := cell_be g70 hB
          replace g71 := cell_be g71 hB
          replace qw := range_below qw hB (Nat.le_refl _)
          replace qr := range_below qr hB (Nat.le_refl _)
          replace g32 := cell_be g32 hB
          replace g65 := cell_be g65 hB
          replace g66 := cell_be g66 hB
          clear hB
          rw [HSU.out] at hO6
          obtain ⟨A6, c6, e6⟩ := own_form hO6
          subst e6
          clear k1 k2 hO6
          go_wp2_with fail
          refine (sides_any N I HIN.out HNN.out V4).mono ?_
          rintro e V5 ⟨v7, rfl, hO7, hB⟩
          replace hb := hb.trans (hB.mono hb.size)
          replace fG := fG.be hB
          replace f1 := f1.be hB
          replace f2 := f2.be hB
          replace p0 := p0.be hB
          replace p1 := p1.be hB
          replace p2 := p2.be hB
          replace g67 := cell_be g67 hB
          replace g68 := cell_be g68 hB
          replace g69 := cell_be g69 hB
          replace g70 := cell_be g70 hB
          replace g71 := cell_be g71 hB
          replace qw := range_below qw hB (Nat.le_refl _)
          replace qr := range_below qr hB (Nat.le_refl _)
          replace g32 := cell_be g32 hB
          replace g65 := cell_be g65 hB
          replace g66 := cell_be g66 hB
          clear hB
          rw [HSV.out] at hO7
          obtain ⟨A7, c7, e7⟩ := own_form hO7
          subst e7
          clear hO7
          go_wp2_with (go_at_call 24; refine (HLG.out _).mono ?_; rintro e V5 ⟨rfl, rfl⟩)
          have HS7 : Hid (w.heap.size ≤ V5.heap.size) := hb.size
          refine (texts_any M I HIM.out HMM.out x _ rfl (by have := HX.out; omega) us LU.out A1 P1 c1 d1 Z1.out V5 fG f1 p1).mono ?_
          rintro e V6 ⟨v8, vs8, rfl, T8, hB⟩
          replace hb := hb.trans (hB.mono hb.size)
          replace fG := fG.be hB
          replace f1 := f1.be hB
          replace f2 := f2.be hB
          replace p0 := p0.be hB
          replace p1 := p1.be hB
          replace p2 := p2.be hB
          replace g67 := cell_be g67 hB
          replace g68 := cell_be g68 hB
          replace g69 := cell_be g69 hB
          replace g70 := cell_be g70 hB
          replace g71 := cell_be g71 hB
          replace qw := range_below qw hB (Nat.le_refl _)
          replace qr := range_below qr hB (Nat.le_refl _)
          replace g32 := cell_be g32 hB
          replace g65 := cell_be g65 hB
          replace g66 := cell_be g66 hB
          clear hB
          obtain ⟨g8, c8, e8, _, _, _⟩ := T8.form (by rw [txs_length]; omega)
          rw [txs_length] at e8
          subst e8
          go_wp2_with fail
          have HS8 : Hid (w.heap.size ≤ V6.heap.size) := hb.size
          refine (texts_any N I HIN.out HNN.out y _ rfl (by have := HY.out; omega) vs LV.out A2 P2 c2 d2 Z2.out V6 fG f2 p2).mono ?_
          rintro e V7 ⟨v9, vs9, rfl, T9, hB⟩
          replace hb := hb.trans (hB.mono hb.size)
          replace fG := fG.be hB
          replace f1 := f1.be hB
          replace f2 := f2.be hB
          replace p0 := p0.be hB
          replace p1 := p1.be hB
          replace p2 := p2.be hB
          replace g67 := cell_be g67 hB
          replace g68 := cell_be g68 hB
          replace g69 := cell_be g69 hB
          replace g70 := cell_be g70 hB
          replace g71 := cell_be g71 hB
          replace qw := range_below qw hB (Nat.le_refl _)
          replace qr := range_below qr hB (Nat.le_refl _)
          replace g32 := cell_be g32 hB
          replace g65 := cell_be g65 hB
          replace g66 := cell_be g66 hB
          replace T8 := T8.below hB
          clear hB
          obtain ⟨g9, c9, e9, _, _, _⟩ := T9.form (by rw [txs_length]; omega)
          rw [txs_length] at e9
          subst e9
          go_wp2_with (refine wpList_load_w rfl 28 (.tmp 152) rfl N4 0 rfl (vB was) _ qw Tryd.underlying28 rfl Hw.info ?_; simp only [Act.put, List.setIfInBounds_toArray, List.set_cons_zero, List.set_cons_succ])
          have HS9 : Hid (w.heap.size ≤ V7.heap.size) := hb.size
          have HB8 : Hid (∀ g, _ → _) := T8.lt
          refine (grewTexts_any M N H1M.out HMN.out HNN.out was Hw ds LD.out P0 d0 V7 fG p0).mono ?_
          rintro e V8 ⟨v10, vs10, rfl, T10, hB⟩
          replace hb := hb.trans (hB.mono hb.size)
          replace fG := fG.be hB
          replace f1 := f1.be hB
          replace f2 := f2.be hB
          replace p0 := p0.be hB
          replace p1 := p1.be hB
          replace p2 := p2.be hB
          replace g67 := cell_be g67 hB
          replace g68 := cell_be g68 hB
          replace g69 := cell_be g69 hB
          replace g70 := cell_be g70 hB
          replace g71 := cell_be g71 hB
          replace qw := range_below qw hB (Nat.le_refl _)
          replace qr := range_below qr hB (Nat.le_refl _)
          replace g32 := cell_be g32 hB
          replace g65 := cell_be g65 hB
          replace g66 := cell_be g66 hB
          replace T8 := T8.below hB
          replace T9 := T9.below hB
          clear hB
          obtain ⟨A10, c10, e10⟩ := own_form T10.own
          subst e10
          have HN10 : Hid (∀ g, _ → _ ≠ _) := fun g (h1 : Value.ownBlock _ = some g) (h2 : Value.ownBlock _ = some g) => Nat.lt_irrefl _ (Nat.lt_of_lt_of_le (HB8.out g h2) (own_block T10.own g h1))
          have T8w := T8.less (M := w.heap.size) HS7.out
          have T9w := T9.less (M := w.heap.size) HS8.out
          have T10w := T10.less (M := w.heap.size) HS9.out
          go_wp2_with (first
            | (refine wpList_join rfl (.tmp 161) (.tmp 162) rfl V8 w w.heap.size w.heap.size _ _ _ _ _ _ T8w T9w (by rw [txs_length]; omega) rfl rfl (by rw [txs_length, txs_length]; have := HL1.out; have := HL2.out; omega) hb.size (Nat.le_refl _) hb ?_; intro v11 w11 T11 hb11 hG11; (have T12 := T10w.grown T8w HN10.out hG11); (obtain ⟨g11, c11, e11, _, _, _⟩ := T11.form (by rw [List.length_append, txs_length]; omega)); (rw [List.length_append, txs_length, txs_length] at e11); subst e11; simp only [Act.put, List.setIfInBounds_toArray, List.set_cons_zero, List.set_cons_succ])
            | (refine wpList_join2 rfl (.tmp 164) (.tmp 165) rfl w11 w w.heap.size w.heap.size _ _ _ _ _ _ T11 T12 rfl rfl (by rw [List.length_append, txs_length, txs_length]; have := HL1.out; have := HL2.out; have := HL3.out; omega) hb11.size (Nat.le_refl _) hb11 ?_; intro v13 w13 T13 hb13; (obtain ⟨g13, c13, e13, _, _, hr13⟩ := T13.form (by rw [List.length_append, List.length_append, txs_length]; omega)); (rw [List.length_append, List.length_append, txs_length, txs_length] at e13); subst e13; simp only [Act.put, List.setIfInBounds_toArray, List.set_cons_zero, List.set_cons_succ]))
          rw [← HL.out] at T13
          refine (clash_true L _ HLL.out (by have := HL1.out; have := HL2.out; have := HL3.out; omega) HTL.out HCL.out g13 0 c13 w13 (FKW.out w13 hb13) (T13.ls hr13)).mono ?_
          rintro e V20 ⟨rfl, hB⟩
          go_wp2_with fail
          go_ret
          exact ⟨rfl, hb13.trans (hB.mono hb13.size)⟩
      · subst e1; subst e2
        clear HST
        go_wp2_with fail
        go_ret
        exact ⟨rfl, hb⟩
    · subst e1
      clear HST
      go_wp2_with fail
      go_ret
      exact ⟨rfl, hb⟩
  · skip
    clear HST
    go_wp2_with fail
    go_ret
    exact ⟨rfl, hb⟩

end Go.Proofs.YtnogjhbohljjnabDoor
