/-
  EscrowPlays: the walk.
-/
import Derived.Test.YtkbdnebmekhcdaaEpH
namespace Go.Proofs.Ytkbdnebmekhcdaa
open Go Go.RowKit Go.Maps
open Wd

theorem wpP_gtr {Q : Exit → Act → World → Prop} {o : Oper} {a : Act} {w : World} {K : Act → World → Prop} {x y : Operand} {yt : TypeId} (ho : o.op = .binOp .gtr 3 x y yt) (m n : Int) (B : Bool) (hB : decide (n < m) = B) (hx : a.eval x = .int .i64 m) (hy : a.eval y = .int .i64 n) (h : K (a.put o.dst (.bool B)) w) : Oper.wp Try.prog o a w K Q := by
  subst hB
  unfold Oper.wp execOp
  simp only [ho, hx, hy]
  simp [go_sem]
  exact h
set_option maxRecDepth 100000 in
set_option maxHeartbeats 16000000 in
theorem plays5_walk (l : List Stv) (A0 : Option Addr) (N c0 : Nat) (hN : N = l.length) (hNb : N < 2199023255500) (w : World) (h0 : ∀ i r, l[i]? = some r → r.Ok ∧ ∃ b o, A0 = some ⟨b, o, none⟩ ∧ w.rangeAt b (o + i * 8) r.cells) :
    Calls Try.prog 3 #[.slice A0 N c0] w fun e w' => e = .returned (.bool true) ∧ Below w.heap.size w w' := by
  have HS : Hid (∀ i r, l[i]? = some r → r.Ok ∧ ∃ b o, A0 = some ⟨b, o, none⟩ ∧ w.rangeAt b (o + i * 8) r.cells) := h0
  have HNl : Hid (N = l.length) := hN
  have HNB : Hid (N < 2199023255500) := hNb
  clear hN h0 hNb
  go_enter Try.func3, Try.ntmps3
  go_wp2_with (first
    | (go_at_call 8; refine Calls.mono (known_any w) ?_; rintro e X1 ⟨rfl, q⟩; have B1 : Hid (Below w.heap.size w X1) := q; clear q)
    | (go_at_call 9; refine Calls.mono (new_any _) ?_; rintro e X2 ⟨p, rfl, q1, q2, q3⟩; have VS : Hid (Vs w X2 0 [⟨p, .map none, .map none, ⟨fun _ => none, fun _ => 0, 0⟩⟩]) := (Vs.none B1.out).more q1 q2 (fun g e => by { cases e }) (fun g e => by { cases e }) q3; clear q1 q2 q3 B1)
    | (refine wpList_buildOne tPVs tPV und_PVs (info_of4 all_PV) rfl (.tmp 24) rfl (ptrV p) rfl rfl ?_; intro X3 q1 q2 q3; have R5 : Hid (Row X3 X2.heap.size [ptrV p] tPV) := q1; have VS3 : Hid (Vs w X3 0 [⟨p, .map none, .map none, ⟨fun _ => none, fun _ => 0, 0⟩⟩]) := VS.out.keep q2; have N5 : Hid (w.heap.size ≤ X2.heap.size) := VS.out.be.size; clear q1 q2 q3 VS; simp only [Act.put, List.setIfInBounds_toArray, List.set_cons_zero, List.set_cons_succ])
    | (go_at_call 10; refine Calls.mono (rnew_any _) ?_; rintro e X4 ⟨q0, rfl, q1, q2, q3⟩; have RO4 : Hid (Ro X4 q0 (.slice none 0 0) []) := q2; have VS4 : Hid (Vs w X4 0 [⟨p, .map none, .map none, ⟨fun _ => none, fun _ => 0, 0⟩⟩]) := VS3.out.keep q3; have R54 : Hid (Row X4 X2.heap.size [ptrV p] tPV) := Row.below R5.out q3 R5.out.lt; have NQ : Hid (w.heap.size ≤ q0) := Nat.le_trans VS3.out.be.size q1; clear q1 q2 q3 VS3 R5)
    | (refine wpList_buildOne tPRs tPR und_PRs (info_of4 all_PR) rfl (.tmp 26) rfl (ptrV q0) rfl rfl ?_; intro X5 q1 q2 q3; have OJ0 : Hid (Oj w X5 0 0 [⟨p, .map none, .map none, ⟨fun _ => none, fun _ => 0, 0⟩⟩] [⟨q0, .slice none 0 0, []⟩] (.slice (some ⟨X2.heap.size, 0, none⟩) 1 1) (.slice (some ⟨X4.heap.size, 0, none⟩) 1 1)) := Oj.start (VS4.out.keep q2) (RO4.out.be q2) NQ.out (Row.below R54.out q2 R54.out.lt) q1 N5.out VS4.out.be.size; clear q1 q2 q3 VS4 R54 N5 RO4 NQ; simp only [Act.put, List.setIfInBounds_toArray, List.set_cons_zero, List.set_cons_succ]))
  go_loopw [5, 6, 7] (fun v5 v6 v7 wr => ∃ (i c : Nat) (L : List Ve) (K : List Re), i ≤ N ∧ c ≤ 2 * i ∧ v7 = .int .i64 (i : Int) ∧ Hid (Oj w wr i c L K v5 v6)) (fun _ _ v7 _ => N - (intOf v7).toNat)
  case atStart => exact ⟨0, 0, _, _, Nat.zero_le _, Nat.le_refl _, rfl, OJ0⟩
  case round =>
    obtain ⟨i, c, L, K, hi, hci, hv7, WW⟩ := hrel
    clear OJ0
    subst hv7
    by_cases hiN : i < N
    · obtain ⟨r, hr⟩ : ∃ r, l[i]? = some r := ⟨_, List.getElem?_eq_getElem (by rw [← HNl.out]; exact hiN)⟩
      obtain ⟨hok, b, o, hA0, hrg0⟩ := HS.out i r hr
      subst hA0
      obtain ⟨m, hm⟩ : ∃ m, m = L.length := ⟨_, rfl⟩
      have HML1 : Hid (m = L.length) := hm
      have hm1 : 1 ≤ m := by rw [hm]; exact WW.out.l1
      have hm6' : m ≤ 6 := by rw [hm]; exact WW.out.l6
      have hpr := pk_range r.wh (m : Int) (by omega)
      obtain ⟨n, hn⟩ : ∃ n : Nat, pk r.wh (m : Int) = (n : Int) := ⟨(pk r.wh (m : Int)).toNat, by omega⟩
      have hnm : n < m := by omega
      obtain ⟨g5, c5, g6, c6, u, ee, hv5, hv6, hu, he⟩ := WW.out.at (n := n) (by omega)
      rw [← hm] at hv5 hv6
      subst hv5 hv6
      obtain ⟨pv, hpv⟩ : ∃ p, p = u.p := ⟨_, rfl⟩
      obtain ⟨qv, hqv⟩ : ∃ p, p = ee.q := ⟨_, rfl⟩
      obtain ⟨wh, hwh⟩ : ∃ x, x = r.wh := ⟨_, rfl⟩
      obtain ⟨kd, hkd⟩ : ∃ x, x = r.kd := ⟨_, rfl⟩
      obtain ⟨ix, hix⟩ : ∃ x, x = r.ix := ⟨_, rfl⟩
      obtain ⟨tk, htk⟩ : ∃ x, x = r.tk := ⟨_, rfl⟩
      obtain ⟨R, hR⟩ : ∃ R, R = r.cells := ⟨_, rfl⟩
      obtain ⟨k, hk⟩ : ∃ k, k = pk kd 11 := ⟨_, rfl⟩
      obtain ⟨s2, hs2⟩ : ∃ x, x = (act u.s k r).1 := ⟨_, rfl⟩
      obtain ⟨E, hE⟩ : ∃ x, x = (act u.s k r).2 := ⟨_, rfl⟩
      obtain ⟨T, hT0⟩ : ∃ x, x = decide (k < 7) := ⟨_, rfl⟩
      have hkr := pk_range kd 11 (by decide)
      rw [← hk] at hkr
      have HNM : Hid (n < m) := hnm
      have HIN : Hid (i < N) := hiN
      have HCI : Hid (c + 2 ≤ 2 * (i + 1)) := by show _ ≤ _; omega
      have hNB2 := HNB.out
      have hI : ∀ {z : Int}, I64 z → -9223372036854775808 ≤ z ∧ z ≤ 9223372036854775807 := fun h => bounds_i64 h
      have HIX : Hid (I64 ix) := by rw [hix]; exact hok.ix
      have HRI : Hid ((Try.prog.info? 35).map (·.size) = some R.length) := by show _ = _; rw [hR, Stv.len]; exact info_S
      have HRG0 : Hid (∀ X, Below w.heap.size w X → X.rangeAt b (o + i * 8) R) := fun X h => by rw [hR]; exact range_be hrg0 h
      have HRG : Hid (∀ W, Below wr.heap.size wr W → W.rangeAt b (o + i * 8) R) := fun W h => HRG0.out W (WW.out.be h).oq.vs.be
      have HCW0 : Hid (∀ X, Below w.heap.size w X → X.cell? ⟨b, o + i * 8, none⟩ = some (.int .i64 wh)) := fun X h => by have := HRG0.out X h 0 (.int .i64 wh) (by rw [hR, hwh]; rfl); rwa [Nat.add_zero] at this
      have HCK0 : Hid (∀ X, Below w.heap.size w X → X.cell? ⟨b, o + i * 8 + 1, none⟩ = some (.int .i64 kd)) := fun X h => HRG0.out X h 1 (.int .i64 kd) (by rw [hR, hkd]; rfl)
      have HCT0 : Hid (∀ X, Below w.heap.size w X → X.cell? ⟨b, o + i * 8 + 2, none⟩ = some (.int .i64 tk)) := fun X h => HRG0.out X h 2 (.int .i64 tk) (by rw [hR, htk]; rfl)
      have HCX0 : Hid (∀ X, Below w.heap.size w X → X.cell? ⟨b, o + i * 8 + 3, none⟩ = some (.int .i64 ix)) := fun X h => HRG0.out X h 3 (.int .i64 ix) (by rw [hR, hix]; rfl)
      have HPK1 : Hid (∀ X, Calls Try.prog 11 #[.int .i64 wh, .int .i64 (m : Int)] X fun e w' => e = .returned (.int .i64 (n : Int)) ∧ w' = X) := fun X => by rw [← hn, hwh]; exact pick_any r.wh (m : Int) (by omega) (hI hok.wh).1 (hI hok.wh).2 (by omega) X
      have HPK2 : Hid (∀ X, Calls Try.prog 11 #[.int .i64 kd, .int .i64 11] X fun e w' => e = .returned (.int .i64 k) ∧ w' = X) := fun X => by rw [hk, hkd]; exact pick_any r.kd 11 (by decide) (hI hok.kd).1 (hI hok.kd).2 (by decide) X
      have HCH : Hid (∀ W, Below wr.heap.size wr W → Calls Try.prog 12 #[.pointer (some ⟨pv, 0, none⟩), .agg R.toArray] W fun e w' => e = .returned (.tuple #[.bool T, .int .i64 E]) ∧ VtB W pv c u.m1 u.m2 s2 w') := fun W h => by
        have := changing_any ((WW.out.be h).oq.vs.v n u hu) (by show c + 1 < 2 ^ 63 - 1; omega) r hok
        rw [hT0, hE, hs2, hk, hkd, hR, hpv]
        exact this
      have HTU : Hid (∀ W W2, Below wr.heap.size wr W → VtB W pv c u.m1 u.m2 s2 W2 → ∃ n1 n2, Oq w W2 (c + 2) (L.set n ⟨pv, n1, n2, s2⟩) K (L.map Ve.p) (K.map Re.q) (.slice (some ⟨g5, 0, none⟩) m c5) (.slice (some ⟨g6, 0, none⟩) m c6)) := fun W W2 h hC => by
        rw [hpv] at hC ⊢
        exact (WW.out.be h).oq.turn hu hC
      have HC5 : Hid (∀ W, Below wr.heap.size wr W → W.cell? ⟨g5, 0 + n * 1, none⟩ = some (.pointer (some ⟨pv, 0, none⟩))) := fun W h => by
        rw [Nat.zero_add, Nat.mul_one]
        exact (WW.out.be h).oq.cell5 (by rw [List.getElem?_map, hu, hpv]; rfl)
      have HQS : Hid ((K.map Re.q)[n]? = some qv) := by show _ = _; rw [List.getElem?_map, he, hqv]; rfl
      have HCG0 : Hid (∀ W, Ro W qv ee.v ee.l → Calls Try.prog 13 #[.pointer (some ⟨qv, 0, none⟩), .agg R.toArray] W fun e w' => e = .returned (.int .i64 E) ∧ Rx W w' qv ee.v ee.l.length s2) := fun W h => by
        rw [hR]
        exact change_any h (WW.out.rl n u ee hu he) (WW.out.oq.vs.v n u hu).ok (by have := WW.out.ln n ee he; omega) r hok k (by rw [hk, hkd]) s2 E (by rw [hs2, hE])
      have HWW : Hid (Oj w wr i c L K (.slice (some ⟨g5, 0, none⟩) m c5) (.slice (some ⟨g6, 0, none⟩) m c6)) := WW.out
      have HUL : Hid (L[n]? = some u ∧ n < L.length) := ⟨hu, by omega⟩
      have HEL : Hid (K[n]? = some ee) := he
      have HPV : Hid (pv = u.p ∧ qv = ee.q) := ⟨hpv, hqv⟩
      have cw := HCW0.out wr WW.out.oq.vs.be
      clear hu he hpv hqv hwh hkd hix htk hR hk hs2 hE hT0 hm hn hnm hrg0 hok hr hpr WW
      go_upto_region 11 with (first
        | (refine wpList_ixs 22 35 (.tmp 34) (.tmp 35) rfl b o N c0 i 8 rfl rfl HIN.out und_Ss info_S rfl ?_; simp only [Act.put, List.setIfInBounds_toArray, List.set_cons_zero, List.set_cons_succ])
        | (go_at_call 11; refine Calls.mono (HPK1.out _) ?_; rintro e wr ⟨rfl, rfl⟩))
      clear cw
      have hb1 := Below.refl wr.heap.size wr
      refine wp_named fun a0 ha0 => ?_
      have hsz : a0.tmps.size = 154 := by rw [ha0]; rfl
      have zs0 : a0.eval (.tmp 0) = .slice (some ⟨b, o, none⟩) N c0 := by rw [ha0]; rfl
      have zs5 : a0.eval (.tmp 5) = .slice (some ⟨g5, 0, none⟩) m c5 := by rw [ha0]; rfl
      have zs7 : a0.eval (.tmp 7) = .int .i64 (i : Int) := by rw [ha0]; rfl
      have zs8 : a0.eval (.tmp 8) = .int .i64 (n : Int) := by rw [ha0]; rfl
      obtain ⟨D, hD⟩ : ∃ D : List (Tmp × SP), D = [(43, SP.is (.slice (some ⟨g5, 0, none⟩) m c5)), (44, SP.is (.int .i64 (n : Int))), (45, SP.is (.pointer (some ⟨g5, 0 + n * 1, none⟩))), (46, SP.is (.pointer (some ⟨pv, 0, none⟩))), (47, SP.is (.slice (some ⟨b, o, none⟩) N c0)), (48, SP.is (.int .i64 (i : Int))), (49, SP.is (.pointer (some ⟨b, o + i * 8, none⟩))), (50, SP.is (.agg R.toArray)), (51, SP.is (.tuple #[.bool T, .int .i64 E])), (42, SP.is (.tuple #[.bool T, .int .i64 E])), (52, SP.is (.bool T)), (53, SP.is (.int .i64 E)), (9, SP.is (.bool T)), (10, SP.is (.int .i64 E))] := ⟨_, rfl⟩
      refine wp_region_then (by kernel_rfl) 8 (by decide) (by kernel_rfl) (fun listed ac W => Fp D a0 listed ac W ∧ Below wr.heap.size wr W) (fun listed ac W => Fp D a0 listed ac W ∧ (∃ n1 n2, Oq w W (c + 2) (L.set n ⟨pv, n1, n2, s2⟩) K (L.map Ve.p) (K.map Re.q) (.slice (some ⟨g5, 0, none⟩) m c5) (.slice (some ⟨g6, 0, none⟩) m c6))) ?_ ?_ ?_ ?_ ?_
      · exact ⟨Fp.start D a0 _ _, Below.drew hb1⟩
      · clear ha0 hb1 
        intro listed ac W k hl hI hdn hk hne hnl
        replace hl : listed.size = 14 := hl
        obtain ⟨hF, hb1⟩ := hI
        have hk1 : k < 14 := List.mem_range.1 (List.mem_filter.1 hk).1
        rcases (show k = 0 ∨ k = 1 ∨ k = 2 ∨ k = 3 ∨ k = 4 ∨ k = 5 ∨ k = 6 ∨ k = 7 ∨ k = 8 ∨ k = 9 ∨ k = 10 ∨ k = 11 ∨ k = 12 ∨ k = 13 by omega) with rfl | rfl | rfl | rfl | rfl | rfl | rfl | rfl | rfl | rfl | rfl | rfl | rfl | rfl
        · have hk3 := hk
          exact wpOp_plain rfl rfl (wp_move_v (ac.eval (.tmp 5)) rfl rfl ⟨(hF.put 0 43 (SP.is (.slice (some ⟨g5, 0, none⟩) m c5)) (ac.eval (.tmp 5)) (by rw [hD]; rfl) (((hF.keep 5 (by rw [hD]; rfl)).trans zs5)) (by rw [hD]; rfl) (by rw [hsz]; decide) (by rw [hl]; decide)), hb1⟩)
        · have hk3 := hk
          exact wpOp_plain rfl rfl (wp_move_v (ac.eval (.tmp 8)) rfl rfl ⟨(hF.put 1 44 (SP.is (.int .i64 (n : Int))) (ac.eval (.tmp 8)) (by rw [hD]; rfl) (((hF.keep 8 (by rw [hD]; rfl)).trans zs8)) (by rw [hD]; rfl) (by rw [hsz]; decide) (by rw [hl]; decide)), hb1⟩)
        · have hk3 := hk
          have ea := (hF.done 0 (43, SP.is (.slice (some ⟨g5, 0, none⟩) m c5)) (by rw [hD]; rfl) (ready_dep hk 0 (by kernel_rfl)))
          have eb := (hF.done 1 (44, SP.is (.int .i64 (n : Int))) (by rw [hD]; rfl) (ready_dep hk 1 (by kernel_rfl)))
          exact wpOp_plain rfl rfl (wp_ixs tPVs tPV rfl g5 0 m c5 n 1 ea eb HNM.out und_PVs sz_PV ⟨(hF.put 2 45 (SP.is (.pointer (some ⟨g5, 0 + n * 1, none⟩))) (.pointer (some ⟨g5, 0 + n * 1, none⟩)) (by rw [hD]; rfl) rfl (by rw [hD]; rfl) (by rw [hsz]; decide) (by rw [hl]; decide)), hb1⟩)
        · have hk3 := hk
          have ea := (hF.done 2 (45, SP.is (.pointer (some ⟨g5, 0 + n * 1, none⟩))) (by rw [hD]; rfl) (ready_dep hk 2 (by kernel_rfl)))
          exact wpOp_plain rfl rfl (wp_load_1 g5 (0 + n * 1) (.pointer (some ⟨pv, 0, none⟩)) rfl ea (ld_PV W g5 (0 + n * 1) (.pointer (some ⟨pv, 0, none⟩)) (HC5.out W hb1)) ⟨(hF.put 3 46 (SP.is (.pointer (some ⟨pv, 0, none⟩))) (.pointer (some ⟨pv, 0, none⟩)) (by rw [hD]; rfl) rfl (by rw [hD]; rfl) (by rw [hsz]; decide) (by rw [hl]; decide)), hb1⟩)
        · have hk3 := hk
          exact wpOp_plain rfl rfl (wp_move_v (ac.eval (.tmp 0)) rfl rfl ⟨(hF.put 4 47 (SP.is (.slice (some ⟨b, o, none⟩) N c0)) (ac.eval (.tmp 0)) (by rw [hD]; rfl) (((hF.keep 0 (by rw [hD]; rfl)).trans zs0)) (by rw [hD]; rfl) (by rw [hsz]; decide) (by rw [hl]; decide)), hb1⟩)
        · have hk3 := hk
          exact wpOp_plain rfl rfl (wp_move_v (ac.eval (.tmp 7)) rfl rfl ⟨(hF.put 5 48 (SP.is (.int .i64 (i : Int))) (ac.eval (.tmp 7)) (by rw [hD]; rfl) (((hF.keep 7 (by rw [hD]; rfl)).trans zs7)) (by rw [hD]; rfl) (by rw [hsz]; decide) (by rw [hl]; decide)), hb1⟩)
        · have hk3 := hk
          have ea := (hF.done 4 (47, SP.is (.slice (some ⟨b, o, none⟩) N c0)) (by rw [hD]; rfl) (ready_dep hk 4 (by kernel_rfl)))
          have eb := (hF.done 5 (48, SP.is (.int .i64 (i : Int))) (by rw [hD]; rfl) (ready_dep hk 5 (by kernel_rfl)))
          exact wpOp_plain rfl rfl (wp_ixs 22 35 rfl b o N c0 i 8 ea eb HIN.out und_Ss info_S ⟨(hF.put 6 49 (SP.is (.pointer (some ⟨b, o + i * 8, none⟩))) (.pointer (some ⟨b, o + i * 8, none⟩)) (by rw [hD]; rfl) rfl (by rw [hD]; rfl) (by rw [hsz]; decide) (by rw [hl]; decide)), hb1⟩)
        · have hk3 := hk
          have ea := (hF.done 6 (49, SP.is (.pointer (some ⟨b, o + i * 8, none⟩))) (by rw [hD]; rfl) (ready_dep hk 6 (by kernel_rfl)))
          exact wpOp_plain rfl rfl (wp_load_mid 35 (.tmp 49) rfl b (o + i * 8) ea R _ (HRG.out W hb1) Try.underlying35 rfl HRI.out ⟨(hF.put 7 50 (SP.is (.agg R.toArray)) (.agg R.toArray) (by rw [hD]; rfl) rfl (by rw [hD]; rfl) (by rw [hsz]; decide) (by rw [hl]; decide)), hb1⟩)
        · exact absurd rfl hne
        · exact absurd (ready_dep hk 8 (by kernel_rfl)) hnl
        · exact absurd (hdn 9 (ready_dep hk 9 (by kernel_rfl)) 8 (by kernel_rfl)) hnl
        · exact absurd (hdn 9 (ready_dep hk 9 (by kernel_rfl)) 8 (by kernel_rfl)) hnl
        · exact absurd (hdn 9 (hdn 10 (ready_dep hk 10 (by kernel_rfl)) 9 (by kernel_rfl)) 8 (by kernel_rfl)) hnl
        · exact absurd (hdn 9 (hdn 11 (ready_dep hk 11 (by kernel_rfl)) 9 (by kernel_rfl)) 8 (by kernel_rfl)) hnl
      · clear ha0 hb1 
        intro listed ac W hl hI hdn hk
        replace hl : listed.size = 14 := hl
        obtain ⟨hF, hb1⟩ := hI
        have e46 := (hF.done 3 (46, SP.is (.pointer (some ⟨pv, 0, none⟩))) (by rw [hD]; rfl) (ready_dep hk 3 (by kernel_rfl)))
        have e50 := (hF.done 7 (50, SP.is (.agg R.toArray)) (by rw [hD]; rfl) (ready_dep hk 7 (by kernel_rfl)))
        refine wpOp_plain rfl rfl (wp_fcall_v 12 #[.pointer (some ⟨pv, 0, none⟩), .agg R.toArray] rfl rfl (by show [ac.eval (.tmp 46), ac.eval (.tmp 50)] = _; rw [show ac.eval (.tmp 46) = _ from e46, show ac.eval (.tmp 50) = _ from e50]) (by go_simp) ((HCH.out W hb1).mono ?_))
        rintro e W2 ⟨rfl, hT2⟩
        have hT : Fp D a0 listed ac W2 := hF.turn (by rw [hD]; simp only [List.forall_mem_cons, List.not_mem_nil, false_implies, implies_true, and_true]; exact ⟨fun _ h => h, fun _ h => h, fun _ h => h, fun _ h => h, fun _ h => h, fun _ h => h, fun _ h => h, fun _ h => h, fun _ h => h, fun _ h => h, fun _ h => h, fun _ h => h, fun _ h => h, fun _ h => h⟩)
        exact ⟨_, rfl, (hT.put 8 51 (SP.is (.tuple #[.bool T, .int .i64 E])) _ (by rw [hD]; rfl) rfl (by rw [hD]; rfl) (by rw [hsz]; decide) (by rw [hl]; decide)), (HTU.out W W2 hb1 hT2)⟩
      · clear ha0 hb1 
        intro listed ac W k hl hJ hdn hk hne hyl
        replace hl : listed.size = 14 := hl
        obtain ⟨hF, hT⟩ := hJ
        have hk1 : k < 14 := List.mem_range.1 (List.mem_filter.1 hk).1
        rcases (show k = 0 ∨ k = 1 ∨ k = 2 ∨ k = 3 ∨ k = 4 ∨ k = 5 ∨ k = 6 ∨ k = 7 ∨ k = 8 ∨ k = 9 ∨ k = 10 ∨ k = 11 ∨ k = 12 ∨ k = 13 by omega) with rfl | rfl | rfl | rfl | rfl | rfl | rfl | rfl | rfl | rfl | rfl | rfl | rfl | rfl
        · exact absurd (hdn 2 (hdn 3 (hdn 8 hyl 3 (by kernel_rfl)) 2 (by kernel_rfl)) 0 (by kernel_rfl)) (not_yet hk)
        · exact absurd (hdn 2 (hdn 3 (hdn 8 hyl 3 (by kernel_rfl)) 2 (by kernel_rfl)) 1 (by kernel_rfl)) (not_yet hk)
        · exact absurd (hdn 3 (hdn 8 hyl 3 (by kernel_rfl)) 2 (by kernel_rfl)) (not_yet hk)
        · exact absurd (hdn 8 hyl 3 (by kernel_rfl)) (not_yet hk)
        · exact absurd (hdn 6 (hdn 7 (hdn 8 hyl 7 (by kernel_rfl)) 6 (by kernel_rfl)) 4 (by kernel_rfl)) (not_yet hk)
        · exact absurd (hdn 6 (hdn 7 (hdn 8 hyl 7 (by kernel_rfl)) 6 (by kernel_rfl)) 5 (by kernel_rfl)) (not_yet hk)
        · exact absurd (hdn 7 (hdn 8 hyl 7 (by kernel_rfl)) 6 (by kernel_rfl)) (not_yet hk)
        · exact absurd (hdn 8 hyl 7 (by kernel_rfl)) (not_yet hk)
        · exact absurd rfl hne
        · exact wpOp_plain rfl rfl (wp_move_v (ac.eval (.tmp 51)) rfl rfl ⟨(hF.put 9 42 (SP.is (.tuple #[.bool T, .int .i64 E])) _ (by rw [hD]; rfl) (hF.done 8 (51, SP.is (.tuple #[.bool T, .int .i64 E])) (by rw [hD]; rfl) (ready_dep hk 8 (by kernel_rfl))) (by rw [hD]; rfl) (by rw [hsz]; decide) (by rw [hl]; decide)), hT⟩)
        · exact wpOp_plain rfl rfl (wp_extract (.tmp 42) 0 rfl _ (hF.done 9 (42, SP.is (.tuple #[.bool T, .int .i64 E])) (by rw [hD]; rfl) (ready_dep hk 9 (by kernel_rfl))) _ rfl ⟨(hF.put 10 52 (SP.is (.bool T)) _ (by rw [hD]; rfl) rfl (by rw [hD]; rfl) (by rw [hsz]; decide) (by rw [hl]; decide)), hT⟩)
        · exact wpOp_plain rfl rfl (wp_extract (.tmp 42) 1 rfl _ (hF.done 9 (42, SP.is (.tuple #[.bool T, .int .i64 E])) (by rw [hD]; rfl) (ready_dep hk 9 (by kernel_rfl))) _ rfl ⟨(hF.put 11 53 (SP.is (.int .i64 E)) _ (by rw [hD]; rfl) rfl (by rw [hD]; rfl) (by rw [hsz]; decide) (by rw [hl]; decide)), hT⟩)
        · exact wpOp_plain rfl rfl (wp_assign_v (ac.eval (.tmp 52)) rfl rfl ⟨(hF.put 12 9 (SP.is (.bool T)) _ (by rw [hD]; rfl) (hF.done 10 (52, SP.is (.bool T)) (by rw [hD]; rfl) (ready_dep hk 10 (by kernel_rfl))) (by rw [hD]; rfl) (by rw [hsz]; decide) (by rw [hl]; decide)), hT⟩)
        · exact wpOp_plain rfl rfl (wp_assign_v (ac.eval (.tmp 53)) rfl rfl ⟨(hF.put 13 10 (SP.is (.int .i64 E)) _ (by rw [hD]; rfl) (hF.done 11 (53, SP.is (.int .i64 E)) (by rw [hD]; rfl) (ready_dep hk 11 (by kernel_rfl))) (by rw [hD]; rfl) (by rw [hsz]; decide) (by rw [hl]; decide)), hT⟩)
      · clear hb1 
        intro listed ac W hl hJ hr
        replace hl : listed.size = 14 := hl
        obtain ⟨hF, hT⟩ := hJ
        have hall := all_listed (by kernel_rfl) hl hr
        have h43 : ac.eval (.tmp 43) = .slice (some ⟨g5, 0, none⟩) m c5 := hF.done 0 (43, SP.is (.slice (some ⟨g5, 0, none⟩) m c5)) (by rw [hD]; rfl) (hall 0 (by decide))
        have h44 : ac.eval (.tmp 44) = .int .i64 (n : Int) := hF.done 1 (44, SP.is (.int .i64 (n : Int))) (by rw [hD]; rfl) (hall 1 (by decide))
        have h45 : ac.eval (.tmp 45) = .pointer (some ⟨g5, 0 + n * 1, none⟩) := hF.done 2 (45, SP.is (.pointer (some ⟨g5, 0 + n * 1, none⟩))) (by rw [hD]; rfl) (hall 2 (by decide))
        have h46 : ac.eval (.tmp 46) = .pointer (some ⟨pv, 0, none⟩) := hF.done 3 (46, SP.is (.pointer (some ⟨pv, 0, none⟩))) (by rw [hD]; rfl) (hall 3 (by decide))
        have h47 : ac.eval (.tmp 47) = .slice (some ⟨b, o, none⟩) N c0 := hF.done 4 (47, SP.is (.slice (some ⟨b, o, none⟩) N c0)) (by rw [hD]; rfl) (hall 4 (by decide))
        have h48 : ac.eval (.tmp 48) = .int .i64 (i : Int) := hF.done 5 (48, SP.is (.int .i64 (i : Int))) (by rw [hD]; rfl) (hall 5 (by decide))
        have h49 : ac.eval (.tmp 49) = .pointer (some ⟨b, o + i * 8, none⟩) := hF.done 6 (49, SP.is (.pointer (some ⟨b, o + i * 8, none⟩))) (by rw [hD]; rfl) (hall 6 (by decide))
        have h50 : ac.eval (.tmp 50) = .agg R.toArray := hF.done 7 (50, SP.is (.agg R.toArray)) (by rw [hD]; rfl) (hall 7 (by decide))
        have h51 : ac.eval (.tmp 51) = .tuple #[.bool T, .int .i64 E] := hF.done 8 (51, SP.is (.tuple #[.bool T, .int .i64 E])) (by rw [hD]; rfl) (hall 8 (by decide))
        have h42 : ac.eval (.tmp 42) = .tuple #[.bool T, .int .i64 E] := hF.done 9 (42, SP.is (.tuple #[.bool T, .int .i64 E])) (by rw [hD]; rfl) (hall 9 (by decide))
        have h52 : ac.eval (.tmp 52) = .bool T := hF.done 10 (52, SP.is (.bool T)) (by rw [hD]; rfl) (hall 10 (by decide))
        have h53 : ac.eval (.tmp 53) = .int .i64 E := hF.done 11 (53, SP.is (.int .i64 E)) (by rw [hD]; rfl) (hall 11 (by decide))
        have h9 : ac.eval (.tmp 9) = .bool T := hF.done 12 (9, SP.is (.bool T)) (by rw [hD]; rfl) (hall 12 (by decide))
        have h10 : ac.eval (.tmp 10) = .int .i64 E := hF.done 13 (10, SP.is (.int .i64 E)) (by rw [hD]; rfl) (hall 13 (by decide))
        have ea := hF.lay [(43, .slice (some ⟨g5, 0, none⟩) m c5), (44, .int .i64 (n : Int)), (45, .pointer (some ⟨g5, 0 + n * 1, none⟩)), (46, .pointer (some ⟨pv, 0, none⟩)), (47, .slice (some ⟨b, o, none⟩) N c0), (48, .int .i64 (i : Int)), (49, .pointer (some ⟨b, o + i * 8, none⟩)), (50, .agg R.toArray), (51, .tuple #[.bool T, .int .i64 E]), (42, .tuple #[.bool T, .int .i64 E]), (52, .bool T), (53, .int .i64 E), (9, .bool T), (10, .int .i64 E)] (by rw [hD, hsz]; rfl) (by simp only [List.forall_mem_cons, List.not_mem_nil, false_implies, implies_true, and_true]; exact ⟨h43, h44, h45, h46, h47, h48, h49, h50, h51, h42, h52, h53, h9, h10⟩)
        rw [ha0] at ea
        simp only [List.foldl_cons, List.foldl_nil, List.setIfInBounds_toArray, List.set_cons_zero, List.set_cons_succ] at ea
        clear hF hall hr hl hD zs0 zs5 zs7 zs8 ha0 hsz h43 h44 h45 h46 h47 h48 h49 h50 h51 h42 h52 h53 h9 h10
        subst ea
        obtain ⟨n1, n2, hO2⟩ := hT
        obtain ⟨Z, hZ⟩ : ∃ V, V = W := ⟨_, rfl⟩
        rw [← hZ] at hO2 ⊢
        clear hZ HC5 HCH HTU HRG
        obtain ⟨L2, hL2⟩ : ∃ X, X = L.set n ⟨pv, n1, n2, s2⟩ := ⟨_, rfl⟩
        rw [← hL2] at hO2
        have HO2 : Hid (Oq w Z (c + 2) L2 K (L.map Ve.p) (K.map Re.q) (.slice (some ⟨g5, 0, none⟩) m c5) (.slice (some ⟨g6, 0, none⟩) m c6)) := hO2
        have HL2 : Hid (L2 = L.set n ⟨pv, n1, n2, s2⟩) := hL2
        have HU2 : Hid (L2[n]? = some ⟨pv, n1, n2, s2⟩) := by show _ = _; rw [hL2, List.getElem?_set_self HUL.out.2]
        have HML : Hid (m = L2.length) := by show _ = _; rw [hL2, List.length_set]; exact HML1.out
        have HRG : Hid (∀ W, Below Z.heap.size Z W → W.rangeAt b (o + i * 8) R) := fun W h => HRG0.out W (HO2.out.below h).vs.be
        have HC6 : Hid (∀ W, Below Z.heap.size Z W → W.cell? ⟨g6, 0 + n * 1, none⟩ = some (.pointer (some ⟨qv, 0, none⟩))) := fun W h => by rw [Nat.zero_add, Nat.mul_one]; exact (HO2.out.below h).cell6 HQS.out
        have HCG : Hid (∀ W, Below Z.heap.size Z W → Calls Try.prog 13 #[.pointer (some ⟨qv, 0, none⟩), .agg R.toArray] W fun e w' => e = .returned (.int .i64 E) ∧ Rx W w' qv ee.v ee.l.length s2) := fun W h => HCG0.out W (by rw [HPV.out.2]; exact (HO2.out.below h).ro n ee HEL.out)
        have HTR : Hid (∀ W W2, Below Z.heap.size Z W → Rx W W2 qv ee.v ee.l.length s2 → ∃ v9 l9, Oj w W2 (i + 1) (c + 2) L2 (K.set n ⟨qv, v9, l9⟩) (.slice (some ⟨g5, 0, none⟩) m c5) (.slice (some ⟨g6, 0, none⟩) m c6) ∧ Rel l9 s2 ∧ l9.length ≤ i + 1) := fun W W2 h hC => by
          obtain ⟨l9, h1, h2, h3⟩ := hC
          rw [HPV.out.2] at h3 ⊢
          obtain ⟨v9, hO⟩ := (HO2.out.below h).rturn HEL.out h3
          have hln := HWW.out.ln n ee HEL.out
          refine ⟨v9, l9, ?_, h1, by omega⟩
          rw [HL2.out, HPV.out.1] at hO ⊢
          exact HWW.out.turn HUL.out.1 HEL.out h1 h2 hO
        clear hO2 hL2 HCG0
        go_upto_region 12 with fail
        have hb1 := Below.refl Z.heap.size Z
        refine wp_named fun a0 ha0 => ?_
        have hsz : a0.tmps.size = 154 := by rw [ha0]; rfl
        have zs0 : a0.eval (.tmp 0) = .slice (some ⟨b, o, none⟩) N c0 := by rw [ha0]; rfl
        have zs6 : a0.eval (.tmp 6) = .slice (some ⟨g6, 0, none⟩) m c6 := by rw [ha0]; rfl
        have zs7 : a0.eval (.tmp 7) = .int .i64 (i : Int) := by rw [ha0]; rfl
        have zs8 : a0.eval (.tmp 8) = .int .i64 (n : Int) := by rw [ha0]; rfl
        obtain ⟨D, hD⟩ : ∃ D : List (Tmp × SP), D = [(54, SP.is (.slice (some ⟨g6, 0, none⟩) m c6)), (55, SP.is (.int .i64 (n : Int))), (56, SP.is (.pointer (some ⟨g6, 0 + n * 1, none⟩))), (57, SP.is (.pointer (some ⟨qv, 0, none⟩))), (58, SP.is (.slice (some ⟨b, o, none⟩) N c0)), (59, SP.is (.int .i64 (i : Int))), (60, SP.is (.pointer (some ⟨b, o + i * 8, none⟩))), (61, SP.is (.agg R.toArray)), (62, SP.is (.int .i64 E)), (11, SP.is (.int .i64 E))] := ⟨_, rfl⟩
        refine wp_region_then (by kernel_rfl) 8 (by decide) (by kernel_rfl) (fun listed ac W => Fp D a0 listed ac W ∧ Below Z.heap.size Z W) (fun listed ac W => Fp D a0 listed ac W ∧ (∃ v9 l9, Oj w W (i + 1) (c + 2) L2 (K.set n ⟨qv, v9, l9⟩) (.slice (some ⟨g5, 0, none⟩) m c5) (.slice (some ⟨g6, 0, none⟩) m c6) ∧ Rel l9 s2 ∧ l9.length ≤ i + 1)) ?_ ?_ ?_ ?_ ?_
        · exact ⟨Fp.start D a0 _ _, Below.drew hb1⟩
        · clear ha0 hb1 
          intro listed ac W k hl hI hdn hk hne hnl
          replace hl : listed.size = 10 := hl
          obtain ⟨hF, hb1⟩ := hI
          have hk1 : k < 10 := List.mem_range.1 (List.mem_filter.1 hk).1
          rcases (show k = 0 ∨ k = 1 ∨ k = 2 ∨ k = 3 ∨ k = 4 ∨ k = 5 ∨ k = 6 ∨ k = 7 ∨ k = 8 ∨ k = 9 by omega) with rfl | rfl | rfl | rfl | rfl | rfl | rfl | rfl | rfl | rfl
          · have hk3 := hk
            exact wpOp_plain rfl rfl (wp_move_v (ac.eval (.tmp 6)) rfl rfl ⟨(hF.put 0 54 (SP.is (.slice (some ⟨g6, 0, none⟩) m c6)) (ac.eval (.tmp 6)) (by rw [hD]; rfl) (((hF.keep 6 (by rw [hD]; rfl)).trans zs6)) (by rw [hD]; rfl) (by rw [hsz]; decide) (by rw [hl]; decide)), hb1⟩)
          · have hk3 := hk
            exact wpOp_plain rfl rfl (wp_move_v (ac.eval (.tmp 8)) rfl rfl ⟨(hF.put 1 55 (SP.is (.int .i64 (n : Int))) (ac.eval (.tmp 8)) (by rw [hD]; rfl) (((hF.keep 8 (by rw [hD]; rfl)).trans zs8)) (by rw [hD]; rfl) (by rw [hsz]; decide) (by rw [hl]; decide)), hb1⟩)
          · have hk3 := hk
            have ea := (hF.done 0 (54, SP.is (.slice (some ⟨g6, 0, none⟩) m c6)) (by rw [hD]; rfl) (ready_dep hk 0 (by kernel_rfl)))
            have eb := (hF.done 1 (55, SP.is (.int .i64 (n : Int))) (by rw [hD]; rfl) (ready_dep hk 1 (by kernel_rfl)))
            exact wpOp_plain rfl rfl (wp_ixs tPRs tPR rfl g6 0 m c6 n 1 ea eb HNM.out und_PRs sz_PR ⟨(hF.put 2 56 (SP.is (.pointer (some ⟨g6, 0 + n * 1, none⟩))) (.pointer (some ⟨g6, 0 + n * 1, none⟩)) (by rw [hD]; rfl) rfl (by rw [hD]; rfl) (by rw [hsz]; decide) (by rw [hl]; decide)), hb1⟩)
          · have hk3 := hk
            have ea := (hF.done 2 (56, SP.is (.pointer (some ⟨g6, 0 + n * 1, none⟩))) (by rw [hD]; rfl) (ready_dep hk 2 (by kernel_rfl)))
            exact wpOp_plain rfl rfl (wp_load_1 g6 (0 + n * 1) (.pointer (some ⟨qv, 0, none⟩)) rfl ea (ld_PR W g6 (0 + n * 1) (.pointer (some ⟨qv, 0, none⟩)) (HC6.out W hb1)) ⟨(hF.put 3 57 (SP.is (.pointer (some ⟨qv, 0, none⟩))) (.pointer (some ⟨qv, 0, none⟩)) (by rw [hD]; rfl) rfl (by rw [hD]; rfl) (by rw [hsz]; decide) (by rw [hl]; decide)), hb1⟩)
          · have hk3 := hk
            exact wpOp_plain rfl rfl (wp_move_v (ac.eval (.tmp 0)) rfl rfl ⟨(hF.put 4 58 (SP.is (.slice (some ⟨b, o, none⟩) N c0)) (ac.eval (.tmp 0)) (by rw [hD]; rfl) (((hF.keep 0 (by rw [hD]; rfl)).trans zs0)) (by rw [hD]; rfl) (by rw [hsz]; decide) (by rw [hl]; decide)), hb1⟩)
          · have hk3 := hk
            exact wpOp_plain rfl rfl (wp_move_v (ac.eval (.tmp 7)) rfl rfl ⟨(hF.put 5 59 (SP.is (.int .i64 (i : Int))) (ac.eval (.tmp 7)) (by rw [hD]; rfl) (((hF.keep 7 (by rw [hD]; rfl)).trans zs7)) (by rw [hD]; rfl) (by rw [hsz]; decide) (by rw [hl]; decide)), hb1⟩)
          · have hk3 := hk
            have ea := (hF.done 4 (58, SP.is (.slice (some ⟨b, o, none⟩) N c0)) (by rw [hD]; rfl) (ready_dep hk 4 (by kernel_rfl)))
            have eb := (hF.done 5 (59, SP.is (.int .i64 (i : Int))) (by rw [hD]; rfl) (ready_dep hk 5 (by kernel_rfl)))
            exact wpOp_plain rfl rfl (wp_ixs 22 35 rfl b o N c0 i 8 ea eb HIN.out und_Ss info_S ⟨(hF.put 6 60 (SP.is (.pointer (some ⟨b, o + i * 8, none⟩))) (.pointer (some ⟨b, o + i * 8, none⟩)) (by rw [hD]; rfl) rfl (by rw [hD]; rfl) (by rw [hsz]; decide) (by rw [hl]; decide)), hb1⟩)
          · have hk3 := hk
            have ea := (hF.done 6 (60, SP.is (.pointer (some ⟨b, o + i * 8, none⟩))) (by rw [hD]; rfl) (ready_dep hk 6 (by kernel_rfl)))
            exact wpOp_plain rfl rfl (wp_load_mid 35 (.tmp 60) rfl b (o + i * 8) ea R _ (HRG.out W hb1) Try.underlying35 rfl HRI.out ⟨(hF.put 7 61 (SP.is (.agg R.toArray)) (.agg R.toArray) (by rw [hD]; rfl) rfl (by rw [hD]; rfl) (by rw [hsz]; decide) (by rw [hl]; decide)), hb1⟩)
          · exact absurd rfl hne
          · exact absurd (ready_dep hk 8 (by kernel_rfl)) hnl
        · clear ha0 hb1 
          intro listed ac W hl hI hdn hk
          replace hl : listed.size = 10 := hl
          obtain ⟨hF, hb1⟩ := hI
          have e57 := (hF.done 3 (57, SP.is (.pointer (some ⟨qv, 0, none⟩))) (by rw [hD]; rfl) (ready_dep hk 3 (by kernel_rfl)))
          have e61 := (hF.done 7 (61, SP.is (.agg R.toArray)) (by rw [hD]; rfl) (ready_dep hk 7 (by kernel_rfl)))
          refine wpOp_plain rfl rfl (wp_fcall_v 13 #[.pointer (some ⟨qv, 0, none⟩), .agg R.toArray] rfl rfl (by show [ac.eval (.tmp 57), ac.eval (.tmp 61)] = _; rw [show ac.eval (.tmp 57) = _ from e57, show ac.eval (.tmp 61) = _ from e61]) (by go_simp) ((HCG.out W hb1).mono ?_))
          rintro e W2 ⟨rfl, hT2⟩
          have hT : Fp D a0 listed ac W2 := hF.turn (by rw [hD]; simp only [List.forall_mem_cons, List.not_mem_nil, false_implies, implies_true, and_true]; exact ⟨fun _ h => h, fun _ h => h, fun _ h => h, fun _ h => h, fun _ h => h, fun _ h => h, fun _ h => h, fun _ h => h, fun _ h => h, fun _ h => h⟩)
          exact ⟨_, rfl, (hT.put 8 62 (SP.is (.int .i64 E)) _ (by rw [hD]; rfl) rfl (by rw [hD]; rfl) (by rw [hsz]; decide) (by rw [hl]; decide)), (HTR.out W W2 hb1 hT2)⟩
        · clear ha0 hb1 
          intro listed ac W k hl hJ hdn hk hne hyl
          replace hl : listed.size = 10 := hl
          obtain ⟨hF, hT⟩ := hJ
          have hk1 : k < 10 := List.mem_range.1 (List.mem_filter.1 hk).1
          rcases (show k = 0 ∨ k = 1 ∨ k = 2 ∨ k = 3 ∨ k = 4 ∨ k = 5 ∨ k = 6 ∨ k = 7 ∨ k = 8 ∨ k = 9 by omega) with rfl | rfl | rfl | rfl | rfl | rfl | rfl | rfl | rfl | rfl
          · exact absurd (hdn 2 (hdn 3 (hdn 8 hyl 3 (by kernel_rfl)) 2 (by kernel_rfl)) 0 (by kernel_rfl)) (not_yet hk)
          · exact absurd (hdn 2 (hdn 3 (hdn 8 hyl 3 (by kernel_rfl)) 2 (by kernel_rfl)) 1 (by kernel_rfl)) (not_yet hk)
          · exact absurd (hdn 3 (hdn 8 hyl 3 (by kernel_rfl)) 2 (by kernel_rfl)) (not_yet hk)
          · exact absurd (hdn 8 hyl 3 (by kernel_rfl)) (not_yet hk)
          · exact absurd (hdn 6 (hdn 7 (hdn 8 hyl 7 (by kernel_rfl)) 6 (by kernel_rfl)) 4 (by kernel_rfl)) (not_yet hk)
          · exact absurd (hdn 6 (hdn 7 (hdn 8 hyl 7 (by kernel_rfl)) 6 (by kernel_rfl)) 5 (by kernel_rfl)) (not_yet hk)
          · exact absurd (hdn 7 (hdn 8 hyl 7 (by kernel_rfl)) 6 (by kernel_rfl)) (not_yet hk)
          · exact absurd (hdn 8 hyl 7 (by kernel_rfl)) (not_yet hk)
          · exact absurd rfl hne
          · exact wpOp_plain rfl rfl (wp_assign_v (ac.eval (.tmp 62)) rfl rfl ⟨(hF.put 9 11 (SP.is (.int .i64 E)) _ (by rw [hD]; rfl) (hF.done 8 (62, SP.is (.int .i64 E)) (by rw [hD]; rfl) (ready_dep hk 8 (by kernel_rfl))) (by rw [hD]; rfl) (by rw [hsz]; decide) (by rw [hl]; decide)), hT⟩)
        · clear hb1 
          intro listed ac W hl hJ hr
          replace hl : listed.size = 10 := hl
          obtain ⟨hF, hT⟩ := hJ
          have hall := all_listed (by kernel_rfl) hl hr
          have h54 : ac.eval (.tmp 54) = .slice (some ⟨g6, 0, none⟩) m c6 := hF.done 0 (54, SP.is (.slice (some ⟨g6, 0, none⟩) m c6)) (by rw [hD]; rfl) (hall 0 (by decide))
          have h55 : ac.eval (.tmp 55) = .int .i64 (n : Int) := hF.done 1 (55, SP.is (.int .i64 (n : Int))) (by rw [hD]; rfl) (hall 1 (by decide))
          have h56 : ac.eval (.tmp 56) = .pointer (some ⟨g6, 0 + n * 1, none⟩) := hF.done 2 (56, SP.is (.pointer (some ⟨g6, 0 + n * 1, none⟩))) (by rw [hD]; rfl) (hall 2 (by decide))
          have h57 : ac.eval (.tmp 57) = .pointer (some ⟨qv, 0, none⟩) := hF.done 3 (57, SP.is (.pointer (some ⟨qv, 0, none⟩))) (by rw [hD]; rfl) (hall 3 (by decide))
          have h58 : ac.eval (.tmp 58) = .slice (some ⟨b, o, none⟩) N c0 := hF.done 4 (58, SP.is (.slice (some ⟨b, o, none⟩) N c0)) (by rw [hD]; rfl) (hall 4 (by decide))
          have h59 : ac.eval (.tmp 59) = .int .i64 (i : Int) := hF.done 5 (59, SP.is (.int .i64 (i : Int))) (by rw [hD]; rfl) (hall 5 (by decide))
          have h60 : ac.eval (.tmp 60) = .pointer (some ⟨b, o + i * 8, none⟩) := hF.done 6 (60, SP.is (.pointer (some ⟨b, o + i * 8, none⟩))) (by rw [hD]; rfl) (hall 6 (by decide))
          have h61 : ac.eval (.tmp 61) = .agg R.toArray := hF.done 7 (61, SP.is (.agg R.toArray)) (by rw [hD]; rfl) (hall 7 (by decide))
          have h62 : ac.eval (.tmp 62) = .int .i64 E := hF.done 8 (62, SP.is (.int .i64 E)) (by rw [hD]; rfl) (hall 8 (by decide))
          have h11 : ac.eval (.tmp 11) = .int .i64 E := hF.done 9 (11, SP.is (.int .i64 E)) (by rw [hD]; rfl) (hall 9 (by decide))
          have ea := hF.lay [(54, .slice (some ⟨g6, 0, none⟩) m c6), (55, .int .i64 (n : Int)), (56, .pointer (some ⟨g6, 0 + n * 1, none⟩)), (57, .pointer (some ⟨qv, 0, none⟩)), (58, .slice (some ⟨b, o, none⟩) N c0), (59, .int .i64 (i : Int)), (60, .pointer (some ⟨b, o + i * 8, none⟩)), (61, .agg R.toArray), (62, .int .i64 E), (11, .int .i64 E)] (by rw [hD, hsz]; rfl) (by simp only [List.forall_mem_cons, List.not_mem_nil, false_implies, implies_true, and_true]; exact ⟨h54, h55, h56, h57, h58, h59, h60, h61, h62, h11⟩)
          rw [ha0] at ea
          simp only [List.foldl_cons, List.foldl_nil, List.setIfInBounds_toArray, List.set_cons_zero, List.set_cons_succ] at ea
          clear hF hall hr hl hD zs0 zs6 zs7 zs8 ha0 hsz h54 h55 h56 h57 h58 h59 h60 h61 h62 h11
          subst ea
          obtain ⟨v9, l9, hO3, hrl, hl9⟩ := hT
          obtain ⟨K2, hK2⟩ : ∃ X, X = K.set n ⟨qv, v9, l9⟩ := ⟨_, rfl⟩
          rw [← hK2] at hO3
          clear HO2 HC6 HCG HTR HRG
          obtain ⟨Z, hZ⟩ : ∃ V, V = W := ⟨_, rfl⟩
          rw [← hZ] at hO3 ⊢
          clear hZ
          have HOJ : Hid (Oj w Z (i + 1) (c + 2) L2 K2 (.slice (some ⟨g5, 0, none⟩) m c5) (.slice (some ⟨g6, 0, none⟩) m c6)) := hO3
          have HK2 : Hid (K2[n]? = some ⟨qv, v9, l9⟩) := by show _ = _; rw [hK2, List.getElem?_set_self (List.getElem?_eq_some_iff.1 HEL.out).1]
          have HPS : Hid ((L2.map Ve.p)[n]? = some pv) := by show _ = _; rw [List.getElem?_map, HU2.out]; rfl
          have HQS : Hid ((K2.map Re.q)[n]? = some qv) := by show _ = _; rw [List.getElem?_map, HK2.out]; rfl
          have HLM6 : Hid ((L2.map Ve.p).length ≤ 1000000) := by show _ ≤ _; rw [List.length_map, ← HML.out]; omega
          have HLK6 : Hid ((K2.map Re.q).length ≤ 1000000) := by show _ ≤ _; rw [List.length_map, hO3.lk, ← HML.out]; omega
          have HL9 : Hid (l9.length < 2199023255551) := by show _ < _; omega
          have HCP : Hid (Calls Try.prog 14 #[.pointer (some ⟨pv, 0, none⟩)] Z fun e w' => ∃ q n3 n4, e = .returned (.pointer (some ⟨q, 0, none⟩)) ∧ Z.heap.size ≤ q ∧ Vt w' q (c + 2) n3 n4 s2 ∧ (∀ g, Own1 n3 g → Z.heap.size ≤ g) ∧ (∀ g, Own1 n4 g → Z.heap.size ≤ g) ∧ Below Z.heap.size Z w') := copy_any (hO3.oq.vs.v n _ HU2.out)
          have ck := HCK0.out Z hO3.oq.vs.be
          clear hO3 hK2 hl9 hrl HWW HEL HUL HPV
          go_upto_region 16 with (first
            | (refine wpList_ixs 22 35 (.tmp 66) (.tmp 67) rfl b o N c0 i 8 rfl rfl HIN.out und_Ss info_S rfl ?_; simp only [Act.put, List.setIfInBounds_toArray, List.set_cons_zero, List.set_cons_succ])
            | (go_at_call 11; refine Calls.mono (HPK2.out _) ?_; rintro e Z ⟨rfl, rfl⟩))
          clear ck
          by_cases hk7 : k = 7
          · by_cases hm6 : m < 6
            · have c5n : Z.cell? ⟨g5, n, none⟩ = some (.pointer (some ⟨pv, 0, none⟩)) := HOJ.out.oq.cell5 HPS.out
              go_upto_region 22 with (first
                | (refine wpList_ixs tPVs tPV (.tmp 79) (.tmp 80) rfl g5 0 m c5 n 1 rfl rfl HNM.out und_PVs sz_PV rfl ?_; simp only [Act.put, List.setIfInBounds_toArray, List.set_cons_zero, List.set_cons_succ])
                | (go_at_call 14; refine Calls.mono HCP.out ?_; rintro e Y1 ⟨q0, n3, n4, rfl, q1, q2, q3, q4, q5⟩; have O1 : Hid (Oq w Y1 (c + 2) (L2 ++ [⟨q0, n3, n4, s2⟩]) (K2) (L2.map Ve.p) (K2.map Re.q) (.slice (some ⟨g5, 0, none⟩) m c5) (.slice (some ⟨g6, 0, none⟩) m c6)) := HOJ.out.oq.more q1 q2 q3 q4 q5; clear q1 q2 q3 q4 q5 c5n)
                | (refine wpList_buildOne tPVs tPV und_PVs (info_of4 all_PV) rfl (.tmp 87) rfl (ptrV q0) rfl rfl ?_; intro Y2 q1 q2 q3; have RB : Hid (Row Y2 Y1.heap.size [ptrV q0] tPV) := q1; have O2 : Hid (Oq w Y2 (c + 2) (L2 ++ [⟨q0, n3, n4, s2⟩]) (K2) (L2.map Ve.p) (K2.map Re.q) (.slice (some ⟨g5, 0, none⟩) m c5) (.slice (some ⟨g6, 0, none⟩) m c6)) := O1.out.below q2; clear q1 q2 q3 O1; simp only [Act.put, List.setIfInBounds_toArray, List.set_cons_zero, List.set_cons_succ])
                | (refine wpList_appL tPVs tPV 1 8 und_PVs (info_of all_PV) (by decide) (by decide) rfl (.tmp 86) (.tmp 88) rfl (.slice (some ⟨g5, 0, none⟩) m c5) (L2.map Ve.p).length ((L2.map Ve.p).map ptrV) [ptrV q0] rfl O2.out.l5 Y1.heap.size rfl rfl RB.out.all (fun v hv => by { obtain rfl := List.mem_singleton.1 hv; rfl }) HLM6.out ?_; intro v5x Y3 q1 q2 q3; have O3 : Hid (Oq w Y3 (c + 2) (L2 ++ [⟨q0, n3, n4, s2⟩]) (K2) (L2.map Ve.p ++ [q0]) (K2.map Re.q) (v5x) (.slice (some ⟨g6, 0, none⟩) m c6)) := O2.out.app5 q1 q2 q3; have c6n : Y3.cell? ⟨g6, n, none⟩ = some (.pointer (some ⟨qv, 0, none⟩)) := O3.out.cell6 HQS.out; clear q1 q2 q3 O2 RB; simp only [Act.put, List.setIfInBounds_toArray, List.set_cons_zero, List.set_cons_succ])
                | (refine wpList_ixs tPRs tPR (.tmp 91) (.tmp 92) rfl g6 0 m c6 n 1 rfl rfl HNM.out und_PRs sz_PR rfl ?_; simp only [Act.put, List.setIfInBounds_toArray, List.set_cons_zero, List.set_cons_succ])
                | (go_at_call 15; refine Calls.mono (rcopy_any (O3.out.ro n _ HK2.out) HL9.out) ?_; rintro e Y4 ⟨q1', v1', rfl, q1, q2, q3, q4⟩; have O4 : Hid (Oq w Y4 (c + 2) (L2 ++ [⟨q0, n3, n4, s2⟩]) (K2 ++ [⟨q1', v1', l9⟩]) (L2.map Ve.p ++ [q0]) (K2.map Re.q) (v5x) (.slice (some ⟨g6, 0, none⟩) m c6)) := O3.out.rmore q1 q2 q3 q4; clear q1 q2 q3 q4 O3 c6n)
                | (refine wpList_buildOne tPRs tPR und_PRs (info_of4 all_PR) rfl (.tmp 95) rfl (ptrV q1') rfl rfl ?_; intro Y5 q1 q2 q3; have RB5 : Hid (Row Y5 Y4.heap.size [ptrV q1'] tPR) := q1; have O5 : Hid (Oq w Y5 (c + 2) (L2 ++ [⟨q0, n3, n4, s2⟩]) (K2 ++ [⟨q1', v1', l9⟩]) (L2.map Ve.p ++ [q0]) (K2.map Re.q) (v5x) (.slice (some ⟨g6, 0, none⟩) m c6)) := O4.out.below q2; clear q1 q2 q3 O4; simp only [Act.put, List.setIfInBounds_toArray, List.set_cons_zero, List.set_cons_succ])
                | (refine wpList_appL tPRs tPR 1 8 und_PRs (info_of all_PR) (by decide) (by decide) rfl (.tmp 90) (.tmp 96) rfl (.slice (some ⟨g6, 0, none⟩) m c6) (K2.map Re.q).length ((K2.map Re.q).map ptrV) [ptrV q1'] rfl O5.out.l6 Y4.heap.size rfl rfl RB5.out.all (fun v hv => by { obtain rfl := List.mem_singleton.1 hv; rfl }) HLK6.out ?_; intro v6x Y q1 q2 q3; have O6 : Hid (Oq w Y (c + 2) (L2 ++ [⟨q0, n3, n4, s2⟩]) (K2 ++ [⟨q1', v1', l9⟩]) (L2.map Ve.p ++ [q0]) (K2.map Re.q ++ [q1']) (v5x) (v6x)) := O5.out.app6 q1 q2 q3; clear q1 q2 q3 O5 RB5; simp only [Act.put, List.setIfInBounds_toArray, List.set_cons_zero, List.set_cons_succ]))
              have O8 : Hid (Oj w Y (i + 1) (c + 2) (L2 ++ [⟨q0, n3, n4, s2⟩]) (K2 ++ [⟨q1', v1', l9⟩]) v5x v6x) := HOJ.out.more HU2.out HK2.out (by rw [← HML.out]; exact hm6) O6.out
              have HGT : Hid (decide ((7 : Int) < 7) = false) := by show _ = _; decide
              clear O6
              have hb1 := Below.refl Y.heap.size Y
              refine wp_named fun a0 ha0 => ?_
              have hsz : a0.tmps.size = 154 := by rw [ha0]; rfl
              have zs12 : a0.eval (.tmp 12) = .int .i64 7 := by rw [ha0]; rfl
              obtain ⟨D, hD⟩ : ∃ D : List (Tmp × SP), D = [(98, SP.is (.int .i64 7)), (99, SP.is (.bool false)), (100, SP.is (.bool false)), (101, SP.is (undef)), (102, SP.is (undef)), (103, SP.is (undef)), (104, SP.is (undef)), (105, SP.is (undef)), (106, SP.is (undef)), (107, SP.is (undef)), (108, SP.is (undef)), (109, SP.is (undef)), (110, SP.is (undef)), (111, SP.is (undef)), (112, SP.is (undef)), (113, SP.is (undef)), (114, SP.is (undef)), (115, SP.is (undef)), (116, SP.is (undef)), (117, SP.is (undef)), (118, SP.is (undef)), (119, SP.is (undef)), (120, SP.is (undef)), (121, SP.is (.bool false))] := ⟨_, rfl⟩
              refine wp_region_down (by kernel_rfl) (fun listed ac W => listed.size = 24 ∧ Fp D a0 listed ac W ∧ Below Y.heap.size Y W) ?_ ?_ ?_
              · exact ⟨by simp, Fp.start D a0 _ _, Below.drew hb1⟩
              · clear ha0 hb1  
                intro listed ac W k hI hdn hk
                obtain ⟨hl, hF, hb1⟩ := hI
                have hk1 : k < 24 := List.mem_range.1 (List.mem_filter.1 hk).1
                have hl2 : ∀ j, (listed.setIfInBounds j true).size = 24 := fun j => by rw [Array.size_setIfInBounds]; exact hl
                rcases (show k = 0 ∨ k = 1 ∨ k = 2 ∨ k = 3 ∨ k = 4 ∨ k = 5 ∨ k = 6 ∨ k = 7 ∨ k = 8 ∨ k = 9 ∨ k = 10 ∨ k = 11 ∨ k = 12 ∨ k = 13 ∨ k = 14 ∨ k = 15 ∨ k = 16 ∨ k = 17 ∨ k = 18 ∨ k = 19 ∨ k = 20 ∨ k = 21 ∨ k = 22 ∨ k = 23 by omega) with rfl | rfl | rfl | rfl | rfl | rfl | rfl | rfl | rfl | rfl | rfl | rfl | rfl | rfl | rfl | rfl | rfl | rfl | rfl | rfl | rfl | rfl | rfl | rfl
                · have hk3 := hk
                  exact wpOp_plain rfl rfl (wp_move_v (ac.eval (.tmp 12)) rfl rfl ⟨hl2 0, (hF.put 0 98 (SP.is (.int .i64 7)) (ac.eval (.tmp 12)) (by rw [hD]; rfl) (((hF.keep 12 (by rw [hD]; rfl)).trans zs12)) (by rw [hD]; rfl) (by rw [hsz]; decide) (by rw [hl]; decide)), hb1⟩)
                · have hk3 := hk
                  have ea := (hF.done 0 (98, SP.is (.int .i64 7)) (by rw [hD]; rfl) (ready_dep hk 0 (by kernel_rfl)))
                  exact wpOp_plain rfl rfl (wpP_gtr rfl 7 7 false HGT.out ea rfl ⟨hl2 1, (hF.put 1 99 (SP.is (.bool false)) (.bool false) (by rw [hD]; rfl) rfl (by rw [hD]; rfl) (by rw [hsz]; decide) (by rw [hl]; decide)), hb1⟩)
                · have hk3 := hk
                  exact wpOp_plain rfl rfl (wp_move_v (ac.eval (.tmp 99)) rfl rfl ⟨hl2 2, (hF.put 2 100 (SP.is (.bool false)) (ac.eval (.tmp 99)) (by rw [hD]; rfl) ((hF.done 1 (99, SP.is (.bool false)) (by rw [hD]; rfl) (ready_dep hk 1 (by kernel_rfl)))) (by rw [hD]; rfl) (by rw [hsz]; decide) (by rw [hl]; decide)), hb1⟩)
                · have hk3 := hk
                  exact wpOp_off rfl (unwanted_g (g := 2) (b := true) rfl rfl (hF.done 2 (100, SP.is (.bool false)) (by rw [hD]; rfl) (ready_dep hk 2 (by kernel_rfl))) (by rw [hF.size, hsz]; decide)) ⟨hl2 3, (hF.put 3 101 (SP.is (undef)) undef (by rw [hD]; rfl) rfl (by rw [hD]; rfl) (by rw [hsz]; decide) (by rw [hl]; decide)), hb1⟩
                · have hk3 := hk
                  exact wpOp_off rfl (unwanted_g (g := 2) (b := true) rfl rfl (hF.done 2 (100, SP.is (.bool false)) (by rw [hD]; rfl) (ready_dep hk 2 (by kernel_rfl))) (by rw [hF.size, hsz]; decide)) ⟨hl2 4, (hF.put 4 102 (SP.is (undef)) undef (by rw [hD]; rfl) rfl (by rw [hD]; rfl) (by rw [hsz]; decide) (by rw [hl]; decide)), hb1⟩
                · have hk3 := hk
                  exact wpOp_off rfl (unwanted_g (g := 2) (b := true) rfl rfl (hF.done 2 (100, SP.is (.bool false)) (by rw [hD]; rfl) (ready_dep hk 2 (by kernel_rfl))) (by rw [hF.size, hsz]; decide)) ⟨hl2 5, (hF.put 5 103 (SP.is (undef)) undef (by rw [hD]; rfl) rfl (by rw [hD]; rfl) (by rw [hsz]; decide) (by rw [hl]; decide)), hb1⟩
                · have hk3 := hk
                  exact wpOp_off rfl (unwanted_g (g := 2) (b := true) rfl rfl (hF.done 2 (100, SP.is (.bool false)) (by rw [hD]; rfl) (ready_dep hk 2 (by kernel_rfl))) (by rw [hF.size, hsz]; decide)) ⟨hl2 6, (hF.put 6 104 (SP.is (undef)) undef (by rw [hD]; rfl) rfl (by rw [hD]; rfl) (by rw [hsz]; decide) (by rw [hl]; decide)), hb1⟩
                · have hk3 := hk
                  exact wpOp_off rfl (unwanted_g (g := 2) (b := true) rfl rfl (hF.done 2 (100, SP.is (.bool false)) (by rw [hD]; rfl) (ready_dep hk 2 (by kernel_rfl))) (by rw [hF.size, hsz]; decide)) ⟨hl2 7, (hF.put 7 105 (SP.is (undef)) undef (by rw [hD]; rfl) rfl (by rw [hD]; rfl) (by rw [hsz]; decide) (by rw [hl]; decide)), hb1⟩
                · have hk3 := hk
                  exact wpOp_off rfl (unwanted_g (g := 2) (b := true) rfl rfl (hF.done 2 (100, SP.is (.bool false)) (by rw [hD]; rfl) (ready_dep hk 2 (by kernel_rfl))) (by rw [hF.size, hsz]; decide)) ⟨hl2 8, (hF.put 8 106 (SP.is (undef)) undef (by rw [hD]; rfl) rfl (by rw [hD]; rfl) (by rw [hsz]; decide) (by rw [hl]; decide)), hb1⟩
                · have hk3 := hk
                  exact wpOp_off rfl (unwanted_g (g := 2) (b := true) rfl rfl (hF.done 2 (100, SP.is (.bool false)) (by rw [hD]; rfl) (ready_dep hk 2 (by kernel_rfl))) (by rw [hF.size, hsz]; decide)) ⟨hl2 9, (hF.put 9 107 (SP.is (undef)) undef (by rw [hD]; rfl) rfl (by rw [hD]; rfl) (by rw [hsz]; decide) (by rw [hl]; decide)), hb1⟩
                · have hk3 := hk
                  exact wpOp_off rfl (unwanted_g (g := 2) (b := true) rfl rfl (hF.done 2 (100, SP.is (.bool false)) (by rw [hD]; rfl) (ready_dep hk 2 (by kernel_rfl))) (by rw [hF.size, hsz]; decide)) ⟨hl2 10, (hF.put 10 108 (SP.is (undef)) undef (by rw [hD]; rfl) rfl (by rw [hD]; rfl) (by rw [hsz]; decide) (by rw [hl]; decide)), hb1⟩
                · have hk3 := hk
                  exact wpOp_off rfl (unwanted_g (g := 2) (b := true) rfl rfl (hF.done 2 (100, SP.is (.bool false)) (by rw [hD]; rfl) (ready_dep hk 2 (by kernel_rfl))) (by rw [hF.size, hsz]; decide)) ⟨hl2 11, (hF.put 11 109 (SP.is (undef)) undef (by rw [hD]; rfl) rfl (by rw [hD]; rfl) (by rw [hsz]; decide) (by rw [hl]; decide)), hb1⟩
                · have hk3 := hk
                  exact wpOp_off rfl (unwanted_g (g := 2) (b := true) rfl rfl (hF.done 2 (100, SP.is (.bool false)) (by rw [hD]; rfl) (ready_dep hk 2 (by kernel_rfl))) (by rw [hF.size, hsz]; decide)) ⟨hl2 12, (hF.put 12 110 (SP.is (undef)) undef (by rw [hD]; rfl) rfl (by rw [hD]; rfl) (by rw [hsz]; decide) (by rw [hl]; decide)), hb1⟩
                · have hk3 := hk
                  exact wpOp_off rfl (unwanted_g (g := 2) (b := true) rfl rfl (hF.done 2 (100, SP.is (.bool false)) (by rw [hD]; rfl) (ready_dep hk 2 (by kernel_rfl))) (by rw [hF.size, hsz]; decide)) ⟨hl2 13, (hF.put 13 111 (SP.is (undef)) undef (by rw [hD]; rfl) rfl (by rw [hD]; rfl) (by rw [hsz]; decide) (by rw [hl]; decide)), hb1⟩
                · have hk3 := hk
                  exact wpOp_off rfl (unwanted_g (g := 2) (b := true) rfl rfl (hF.done 2 (100, SP.is (.bool false)) (by rw [hD]; rfl) (ready_dep hk 2 (by kernel_rfl))) (by rw [hF.size, hsz]; decide)) ⟨hl2 14, (hF.put 14 112 (SP.is (undef)) undef (by rw [hD]; rfl) rfl (by rw [hD]; rfl) (by rw [hsz]; decide) (by rw [hl]; decide)), hb1⟩
                · have hk3 := hk
                  exact wpOp_off rfl (unwanted_g (g := 2) (b := true) rfl rfl (hF.done 2 (100, SP.is (.bool false)) (by rw [hD]; rfl) (ready_dep hk 2 (by kernel_rfl))) (by rw [hF.size, hsz]; decide)) ⟨hl2 15, (hF.put 15 113 (SP.is (undef)) undef (by rw [hD]; rfl) rfl (by rw [hD]; rfl) (by rw [hsz]; decide) (by rw [hl]; decide)), hb1⟩
                · have hk3 := hk
                  exact wpOp_off rfl (unwanted_g (g := 2) (b := true) rfl rfl (hF.done 2 (100, SP.is (.bool false)) (by rw [hD]; rfl) (ready_dep hk 2 (by kernel_rfl))) (by rw [hF.size, hsz]; decide)) ⟨hl2 16, (hF.put 16 114 (SP.is (undef)) undef (by rw [hD]; rfl) rfl (by rw [hD]; rfl) (by rw [hsz]; decide) (by rw [hl]; decide)), hb1⟩
                · have hk3 := hk
                  exact wpOp_off rfl (unwanted_g (g := 2) (b := true) rfl rfl (hF.done 2 (100, SP.is (.bool false)) (by rw [hD]; rfl) (ready_dep hk 2 (by kernel_rfl))) (by rw [hF.size, hsz]; decide)) ⟨hl2 17, (hF.put 17 115 (SP.is (undef)) undef (by rw [hD]; rfl) rfl (by rw [hD]; rfl) (by rw [hsz]; decide) (by rw [hl]; decide)), hb1⟩
                · have hk3 := hk
                  exact wpOp_off rfl (unwanted_g (g := 2) (b := true) rfl rfl (hF.done 2 (100, SP.is (.bool false)) (by rw [hD]; rfl) (ready_dep hk 2 (by kernel_rfl))) (by rw [hF.size, hsz]; decide)) ⟨hl2 18, (hF.put 18 116 (SP.is (undef)) undef (by rw [hD]; rfl) rfl (by rw [hD]; rfl) (by rw [hsz]; decide) (by rw [hl]; decide)), hb1⟩
                · have hk3 := hk
                  exact wpOp_off rfl (unwanted_g (g := 2) (b := true) rfl rfl (hF.done 2 (100, SP.is (.bool false)) (by rw [hD]; rfl) (ready_dep hk 2 (by kernel_rfl))) (by rw [hF.size, hsz]; decide)) ⟨hl2 19, (hF.put 19 117 (SP.is (undef)) undef (by rw [hD]; rfl) rfl (by rw [hD]; rfl) (by rw [hsz]; decide) (by rw [hl]; decide)), hb1⟩
                · have hk3 := hk
                  exact wpOp_off rfl (unwanted_g (g := 2) (b := true) rfl rfl (hF.done 2 (100, SP.is (.bool false)) (by rw [hD]; rfl) (ready_dep hk 2 (by kernel_rfl))) (by rw [hF.size, hsz]; decide)) ⟨hl2 20, (hF.put 20 118 (SP.is (undef)) undef (by rw [hD]; rfl) rfl (by rw [hD]; rfl) (by rw [hsz]; decide) (by rw [hl]; decide)), hb1⟩
                · have hk3 := hk
                  exact wpOp_off rfl (unwanted_g (g := 2) (b := true) rfl rfl (hF.done 2 (100, SP.is (.bool false)) (by rw [hD]; rfl) (ready_dep hk 2 (by kernel_rfl))) (by rw [hF.size, hsz]; decide)) ⟨hl2 21, (hF.put 21 119 (SP.is (undef)) undef (by rw [hD]; rfl) rfl (by rw [hD]; rfl) (by rw [hsz]; decide) (by rw [hl]; decide)), hb1⟩
                · have hk3 := hk
                  exact wpOp_off rfl (unwanted_g (g := 2) (b := true) rfl rfl (hF.done 2 (100, SP.is (.bool false)) (by rw [hD]; rfl) (ready_dep hk 2 (by kernel_rfl))) (by rw [hF.size, hsz]; decide)) ⟨hl2 22, (hF.put 22 120 (SP.is (undef)) undef (by rw [hD]; rfl) rfl (by rw [hD]; rfl) (by rw [hsz]; decide) (by rw [hl]; decide)), hb1⟩
                · have hk3 := hk
                  have ea := (hF.done 2 (100, SP.is (.bool false)) (by rw [hD]; rfl) (ready_dep hk 2 (by kernel_rfl)))
                  exact wpOp_plain rfl rfl (wpR_pickF (.bool false) rfl ea rfl ⟨hl2 23, (hF.put 23 121 (SP.is (.bool false)) (.bool false) (by rw [hD]; rfl) rfl (by rw [hD]; rfl) (by rw [hsz]; decide) (by rw [hl]; decide)), hb1⟩)
              · clear hb1  
                intro listed ac W hI hr
                obtain ⟨hl, hF, hb1⟩ := hI
                have hall := all_listed (by kernel_rfl) hl hr
                have h98 : ac.eval (.tmp 98) = .int .i64 7 := hF.done 0 (98, SP.is (.int .i64 7)) (by rw [hD]; rfl) (hall 0 (by decide))
                have h99 : ac.eval (.tmp 99) = .bool false := hF.done 1 (99, SP.is (.bool false)) (by rw [hD]; rfl) (hall 1 (by decide))
                have h100 : ac.eval (.tmp 100) = .bool false := hF.done 2 (100, SP.is (.bool false)) (by rw [hD]; rfl) (hall 2 (by decide))
                have h101 : ac.eval (.tmp 101) = undef := hF.done 3 (101, SP.is (undef)) (by rw [hD]; rfl) (hall 3 (by decide))
                have h102 : ac.eval (.tmp 102) = undef := hF.done 4 (102, SP.is (undef)) (by rw [hD]; rfl) (hall 4 (by decide))
                have h103 : ac.eval (.tmp 103) = undef := hF.done 5 (103, SP.is (undef)) (by rw [hD]; rfl) (hall 5 (by decide))
                have h104 : ac.eval (.tmp 104) = undef := hF.done 6 (104, SP.is (undef)) (by rw [hD]; rfl) (hall 6 (by decide))
                have h105 : ac.eval (.tmp 105) = undef := hF.done 7 (105, SP.is (undef)) (by rw [hD]; rfl) (hall 7 (by decide))
                have h106 : ac.eval (.tmp 106) = undef := hF.done 8 (106, SP.is (undef)) (by rw [hD]; rfl) (hall 8 (by decide))
                have h107 : ac.eval (.tmp 107) = undef := hF.done 9 (107, SP.is (undef)) (by rw [hD]; rfl) (hall 9 (by decide))
                have h108 : ac.eval (.tmp 108) = undef := hF.done 10 (108, SP.is (undef)) (by rw [hD]; rfl) (hall 10 (by decide))
                have h109 : ac.eval (.tmp 109) = undef := hF.done 11 (109, SP.is (undef)) (by rw [hD]; rfl) (hall 11 (by decide))
                have h110 : ac.eval (.tmp 110) = undef := hF.done 12 (110, SP.is (undef)) (by rw [hD]; rfl) (hall 12 (by decide))
                have h111 : ac.eval (.tmp 111) = undef := hF.done 13 (111, SP.is (undef)) (by rw [hD]; rfl) (hall 13 (by decide))
                have h112 : ac.eval (.tmp 112) = undef := hF.done 14 (112, SP.is (undef)) (by rw [hD]; rfl) (hall 14 (by decide))
                have h113 : ac.eval (.tmp 113) = undef := hF.done 15 (113, SP.is (undef)) (by rw [hD]; rfl) (hall 15 (by decide))
                have h114 : ac.eval (.tmp 114) = undef := hF.done 16 (114, SP.is (undef)) (by rw [hD]; rfl) (hall 16 (by decide))
                have h115 : ac.eval (.tmp 115) = undef := hF.done 17 (115, SP.is (undef)) (by rw [hD]; rfl) (hall 17 (by decide))
                have h116 : ac.eval (.tmp 116) = undef := hF.done 18 (116, SP.is (undef)) (by rw [hD]; rfl) (hall 18 (by decide))
                have h117 : ac.eval (.tmp 117) = undef := hF.done 19 (117, SP.is (undef)) (by rw [hD]; rfl) (hall 19 (by decide))
                have h118 : ac.eval (.tmp 118) = undef := hF.done 20 (118, SP.is (undef)) (by rw [hD]; rfl) (hall 20 (by decide))
                have h119 : ac.eval (.tmp 119) = undef := hF.done 21 (119, SP.is (undef)) (by rw [hD]; rfl) (hall 21 (by decide))
                have h120 : ac.eval (.tmp 120) = undef := hF.done 22 (120, SP.is (undef)) (by rw [hD]; rfl) (hall 22 (by decide))
                have h121 : ac.eval (.tmp 121) = .bool false := hF.done 23 (121, SP.is (.bool false)) (by rw [hD]; rfl) (hall 23 (by decide))
                have ea := hF.lay [(98, .int .i64 7), (99, .bool false), (100, .bool false), (101, undef), (102, undef), (103, undef), (104, undef), (105, undef), (106, undef), (107, undef), (108, undef), (109, undef), (110, undef), (111, undef), (112, undef), (113, undef), (114, undef), (115, undef), (116, undef), (117, undef), (118, undef), (119, undef), (120, undef), (121, .bool false)] (by rw [hD, hsz]; rfl) (by simp only [List.forall_mem_cons, List.not_mem_nil, false_implies, implies_true, and_true]; exact ⟨h98, h99, h100, h101, h102, h103, h104, h105, h106, h107, h108, h109, h110, h111, h112, h113, h114, h115, h116, h117, h118, h119, h120, h121⟩)
                rw [ha0] at ea
                simp only [List.foldl_cons, List.foldl_nil, List.setIfInBounds_toArray, List.set_cons_zero, List.set_cons_succ] at ea
                clear hF hall hr hl hD  zs12 ha0 hsz h98 h99 h100 h101 h102 h103 h104 h105 h106 h107 h108 h109 h110 h111 h112 h113 h114 h115 h116 h117 h118 h119 h120 h121
                subst ea
                have O9 : Hid (Oj w W (i + 1) (c + 2) (L2 ++ [⟨q0, n3, n4, s2⟩]) (K2 ++ [⟨q1', v1', l9⟩]) v5x v6x) := O8.out.be hb1
                clear hb1
                go_wp2_with fail
                exact ⟨⟨i + 1, c + 2, _, _, HIN.out, HCI.out, by go_num, O9⟩, by simp [intOf]; have := HIN.out; omega⟩
            · go_upto_region 22 with fail
              obtain ⟨Y, hY⟩ : ∃ V, V = Z := ⟨_, rfl⟩
              rw [← hY] at HOJ ⊢
              clear hY
              have hb1 := Below.refl Y.heap.size Y
              by_cases hk8 : 7 < k
              · have HGT : Hid (decide (7 < k) = true) := decide_eq_true hk8
                have HC5 : Hid (∀ W, Below Y.heap.size Y W → W.cell? ⟨g5, 0 + n * 1, none⟩ = some (.pointer (some ⟨pv, 0, none⟩))) := fun W h => by rw [Nat.zero_add, Nat.mul_one]; exact (HOJ.out.be h).oq.cell5 HPS.out
                have HC6 : Hid (∀ W, Below Y.heap.size Y W → W.cell? ⟨g6, 0 + n * 1, none⟩ = some (.pointer (some ⟨qv, 0, none⟩))) := fun W h => by rw [Nat.zero_add, Nat.mul_one]; exact (HOJ.out.be h).oq.cell6 HQS.out
                have HCT : Hid (∀ W, Below Y.heap.size Y W → W.cell? ⟨b, o + i * 8 + 2, none⟩ = some (.int .i64 tk)) := fun W h => HCT0.out W (HOJ.out.be h).oq.vs.be
                have HCX : Hid (∀ W, Below Y.heap.size Y W → W.cell? ⟨b, o + i * 8 + 3, none⟩ = some (.int .i64 ix)) := fun W h => HCX0.out W (HOJ.out.be h).oq.vs.be
                have HAL : Hid (∀ W, Below Y.heap.size Y W → Calls Try.prog 16 #[.pointer (some ⟨pv, 0, none⟩), .pointer (some ⟨qv, 0, none⟩), .int .i64 tk, .int .i64 ix] W fun e w' => e = .returned (.bool true) ∧ Below W.heap.size W w') := fun W h => alike_any ((HOJ.out.be h).oq.vs.v n _ HU2.out) ((HOJ.out.be h).oq.ro n _ HK2.out) (HOJ.out.rl n _ _ HU2.out HK2.out) tk ix HIX.out
                clear hk8
                refine wp_named fun a0 ha0 => ?_
                have hsz : a0.tmps.size = 154 := by rw [ha0]; rfl
                have zs0 : a0.eval (.tmp 0) = .slice (some ⟨b, o, none⟩) N c0 := by rw [ha0]; rfl
                have zs5 : a0.eval (.tmp 5) = .slice (some ⟨g5, 0, none⟩) m c5 := by rw [ha0]; rfl
                have zs6 : a0.eval (.tmp 6) = .slice (some ⟨g6, 0, none⟩) m c6 := by rw [ha0]; rfl
                have zs7 : a0.eval (.tmp 7) = .int .i64 (i : Int) := by rw [ha0]; rfl
                have zs8 : a0.eval (.tmp 8) = .int .i64 (n : Int) := by rw [ha0]; rfl
                have zs12 : a0.eval (.tmp 12) = .int .i64 k := by rw [ha0]; rfl
                obtain ⟨D, hD⟩ : ∃ D : List (Tmp × SP), D = [(98, SP.is (.int .i64 k)), (99, SP.is (.bool true)), (100, SP.is (.bool true)), (101, SP.is (.slice (some ⟨g5, 0, none⟩) m c5)), (102, SP.is (.int .i64 (n : Int))), (103, SP.is (.pointer (some ⟨g5, 0 + n * 1, none⟩))), (104, SP.is (.pointer (some ⟨pv, 0, none⟩))), (105, SP.is (.slice (some ⟨g6, 0, none⟩) m c6)), (106, SP.is (.int .i64 (n : Int))), (107, SP.is (.pointer (some ⟨g6, 0 + n * 1, none⟩))), (108, SP.is (.pointer (some ⟨qv, 0, none⟩))), (109, SP.is (.slice (some ⟨b, o, none⟩) N c0)), (110, SP.is (.int .i64 (i : Int))), (111, SP.is (.pointer (some ⟨b, o + i * 8, none⟩))), (112, SP.is (.pointer (some ⟨b, o + i * 8 + 2, none⟩))), (113, SP.is (.int .i64 tk)), (114, SP.is (.slice (some ⟨b, o, none⟩) N c0)), (115, SP.is (.int .i64 (i : Int))), (116, SP.is (.pointer (some ⟨b, o + i * 8, none⟩))), (117, SP.is (.pointer (some ⟨b, o + i * 8 + 3, none⟩))), (118, SP.is (.int .i64 ix)), (119, SP.is (.bool true)), (120, SP.is (.bool false)), (121, SP.is (.bool false))] := ⟨_, rfl⟩
                refine wp_region_down (by kernel_rfl) (fun listed ac W => listed.size = 24 ∧ Fp D a0 listed ac W ∧ Below Y.heap.size Y W) ?_ ?_ ?_
                · exact ⟨by simp, Fp.start D a0 _ _, Below.drew hb1⟩
                · clear ha0 hb1  
                  intro listed ac W k hI hdn hk
                  obtain ⟨hl, hF, hb1⟩ := hI
                  have hk1 : k < 24 := List.mem_range.1 (List.mem_filter.1 hk).1
                  have hl2 : ∀ j, (listed.setIfInBounds j true).size = 24 := fun j => by rw [Array.size_setIfInBounds]; exact hl
                  rcases (show k = 0 ∨ k = 1 ∨ k = 2 ∨ k = 3 ∨ k = 4 ∨ k = 5 ∨ k = 6 ∨ k = 7 ∨ k = 8 ∨ k = 9 ∨ k = 10 ∨ k = 11 ∨ k = 12 ∨ k = 13 ∨ k = 14 ∨ k = 15 ∨ k = 16 ∨ k = 17 ∨ k = 18 ∨ k = 19 ∨ k = 20 ∨ k = 21 ∨ k = 22 ∨ k = 23 by omega) with rfl | rfl | rfl | rfl | rfl | rfl | rfl | rfl | rfl | rfl | rfl | rfl | rfl | rfl | rfl | rfl | rfl | rfl | rfl | rfl | rfl | rfl | rfl | rfl
                  · have hk3 := hk
                    exact wpOp_plain rfl rfl (wp_move_v (ac.eval (.tmp 12)) rfl rfl ⟨hl2 0, (hF.put 0 98 (SP.is (.int .i64 k)) (ac.eval (.tmp 12)) (by rw [hD]; rfl) (((hF.keep 12 (by rw [hD]; rfl)).trans zs12)) (by rw [hD]; rfl) (by rw [hsz]; decide) (by rw [hl]; decide)), hb1⟩)
                  · have hk3 := hk
                    have ea := (hF.done 0 (98, SP.is (.int .i64 k)) (by rw [hD]; rfl) (ready_dep hk 0 (by kernel_rfl)))
                    exact wpOp_plain rfl rfl (wpP_gtr rfl k 7 true HGT.out ea rfl ⟨hl2 1, (hF.put 1 99 (SP.is (.bool true)) (.bool true) (by rw [hD]; rfl) rfl (by rw [hD]; rfl) (by rw [hsz]; decide) (by rw [hl]; decide)), hb1⟩)
                  · have hk3 := hk
                    exact wpOp_plain rfl rfl (wp_move_v (ac.eval (.tmp 99)) rfl rfl ⟨hl2 2, (hF.put 2 100 (SP.is (.bool true)) (ac.eval (.tmp 99)) (by rw [hD]; rfl) ((hF.done 1 (99, SP.is (.bool true)) (by rw [hD]; rfl) (ready_dep hk 1 (by kernel_rfl)))) (by rw [hD]; rfl) (by rw [hsz]; decide) (by rw [hl]; decide)), hb1⟩)
                  · have hk3 := hk
                    exact wpOp_wanted rfl (wanted_g (g := 2) (b := true) rfl rfl (hF.done 2 (100, SP.is (.bool true)) (by rw [hD]; rfl) (ready_dep hk 2 (by kernel_rfl))) (by rw [hF.size, hsz]; decide)) (wp_move_v (ac.eval (.tmp 5)) rfl rfl ⟨hl2 3, (hF.put 3 101 (SP.is (.slice (some ⟨g5, 0, none⟩) m c5)) (ac.eval (.tmp 5)) (by rw [hD]; rfl) (((hF.keep 5 (by rw [hD]; rfl)).trans zs5)) (by rw [hD]; rfl) (by rw [hsz]; decide) (by rw [hl]; decide)), hb1⟩)
                  · have hk3 := hk
                    exact wpOp_wanted rfl (wanted_g (g := 2) (b := true) rfl rfl (hF.done 2 (100, SP.is (.bool true)) (by rw [hD]; rfl) (ready_dep hk 2 (by kernel_rfl))) (by rw [hF.size, hsz]; decide)) (wp_move_v (ac.eval (.tmp 8)) rfl rfl ⟨hl2 4, (hF.put 4 102 (SP.is (.int .i64 (n : Int))) (ac.eval (.tmp 8)) (by rw [hD]; rfl) (((hF.keep 8 (by rw [hD]; rfl)).trans zs8)) (by rw [hD]; rfl) (by rw [hsz]; decide) (by rw [hl]; decide)), hb1⟩)
                  · have hk3 := hk
                    have ea := (hF.done 3 (101, SP.is (.slice (some ⟨g5, 0, none⟩) m c5)) (by rw [hD]; rfl) (ready_dep hk 3 (by kernel_rfl)))
                    have eb := (hF.done 4 (102, SP.is (.int .i64 (n : Int))) (by rw [hD]; rfl) (ready_dep hk 4 (by kernel_rfl)))
                    exact wpOp_wanted rfl (wanted_g (g := 2) (b := true) rfl rfl (hF.done 2 (100, SP.is (.bool true)) (by rw [hD]; rfl) (ready_dep hk 2 (by kernel_rfl))) (by rw [hF.size, hsz]; decide)) (wp_ixs tPVs tPV rfl g5 0 m c5 n 1 ea eb HNM.out und_PVs sz_PV ⟨hl2 5, (hF.put 5 103 (SP.is (.pointer (some ⟨g5, 0 + n * 1, none⟩))) (.pointer (some ⟨g5, 0 + n * 1, none⟩)) (by rw [hD]; rfl) rfl (by rw [hD]; rfl) (by rw [hsz]; decide) (by rw [hl]; decide)), hb1⟩)
                  · have hk3 := hk
                    have ea := (hF.done 5 (103, SP.is (.pointer (some ⟨g5, 0 + n * 1, none⟩))) (by rw [hD]; rfl) (ready_dep hk 5 (by kernel_rfl)))
                    exact wpOp_wanted rfl (wanted_g (g := 2) (b := true) rfl rfl (hF.done 2 (100, SP.is (.bool true)) (by rw [hD]; rfl) (ready_dep hk 2 (by kernel_rfl))) (by rw [hF.size, hsz]; decide)) (wp_load_1 g5 (0 + n * 1) (.pointer (some ⟨pv, 0, none⟩)) rfl ea (ld_PV W g5 (0 + n * 1) (.pointer (some ⟨pv, 0, none⟩)) (HC5.out W hb1)) ⟨hl2 6, (hF.put 6 104 (SP.is (.pointer (some ⟨pv, 0, none⟩))) (.pointer (some ⟨pv, 0, none⟩)) (by rw [hD]; rfl) rfl (by rw [hD]; rfl) (by rw [hsz]; decide) (by rw [hl]; decide)), hb1⟩)
                  · have hk3 := hk
                    exact wpOp_wanted rfl (wanted_g (g := 2) (b := true) rfl rfl (hF.done 2 (100, SP.is (.bool true)) (by rw [hD]; rfl) (ready_dep hk 2 (by kernel_rfl))) (by rw [hF.size, hsz]; decide)) (wp_move_v (ac.eval (.tmp 6)) rfl rfl ⟨hl2 7, (hF.put 7 105 (SP.is (.slice (some ⟨g6, 0, none⟩) m c6)) (ac.eval (.tmp 6)) (by rw [hD]; rfl) (((hF.keep 6 (by rw [hD]; rfl)).trans zs6)) (by rw [hD]; rfl) (by rw [hsz]; decide) (by rw [hl]; decide)), hb1⟩)
                  · have hk3 := hk
                    exact wpOp_wanted rfl (wanted_g (g := 2) (b := true) rfl rfl (hF.done 2 (100, SP.is (.bool true)) (by rw [hD]; rfl) (ready_dep hk 2 (by kernel_rfl))) (by rw [hF.size, hsz]; decide)) (wp_move_v (ac.eval (.tmp 8)) rfl rfl ⟨hl2 8, (hF.put 8 106 (SP.is (.int .i64 (n : Int))) (ac.eval (.tmp 8)) (by rw [hD]; rfl) (((hF.keep 8 (by rw [hD]; rfl)).trans zs8)) (by rw [hD]; rfl) (by rw [hsz]; decide) (by rw [hl]; decide)), hb1⟩)
                  · have hk3 := hk
                    have ea := (hF.done 7 (105, SP.is (.slice (some ⟨g6, 0, none⟩) m c6)) (by rw [hD]; rfl) (ready_dep hk 7 (by kernel_rfl)))
                    have eb := (hF.done 8 (106, SP.is (.int .i64 (n : Int))) (by rw [hD]; rfl) (ready_dep hk 8 (by kernel_rfl)))
                    exact wpOp_wanted rfl (wanted_g (g := 2) (b := true) rfl rfl (hF.done 2 (100, SP.is (.bool true)) (by rw [hD]; rfl) (ready_dep hk 2 (by kernel_rfl))) (by rw [hF.size, hsz]; decide)) (wp_ixs tPRs tPR rfl g6 0 m c6 n 1 ea eb HNM.out und_PRs sz_PR ⟨hl2 9, (hF.put 9 107 (SP.is (.pointer (some ⟨g6, 0 + n * 1, none⟩))) (.pointer (some ⟨g6, 0 + n * 1, none⟩)) (by rw [hD]; rfl) rfl (by rw [hD]; rfl) (by rw [hsz]; decide) (by rw [hl]; decide)), hb1⟩)
                  · have hk3 := hk
                    have ea := (hF.done 9 (107, SP.is (.pointer (some ⟨g6, 0 + n * 1, none⟩))) (by rw [hD]; rfl) (ready_dep hk 9 (by kernel_rfl)))
                    exact wpOp_wanted rfl (wanted_g (g := 2) (b := true) rfl rfl (hF.done 2 (100, SP.is (.bool true)) (by rw [hD]; rfl) (ready_dep hk 2 (by kernel_rfl))) (by rw [hF.size, hsz]; decide)) (wp_load_1 g6 (0 + n * 1) (.pointer (some ⟨qv, 0, none⟩)) rfl ea (ld_PR W g6 (0 + n * 1) (.pointer (some ⟨qv, 0, none⟩)) (HC6.out W hb1)) ⟨hl2 10, (hF.put 10 108 (SP.is (.pointer (some ⟨qv, 0, none⟩))) (.pointer (some ⟨qv, 0, none⟩)) (by rw [hD]; rfl) rfl (by rw [hD]; rfl) (by rw [hsz]; decide) (by rw [hl]; decide)), hb1⟩)
                  · have hk3 := hk
                    exact wpOp_wanted rfl (wanted_g (g := 2) (b := true) rfl rfl (hF.done 2 (100, SP.is (.bool true)) (by rw [hD]; rfl) (ready_dep hk 2 (by kernel_rfl))) (by rw [hF.size, hsz]; decide)) (wp_move_v (ac.eval (.tmp 0)) rfl rfl ⟨hl2 11, (hF.put 11 109 (SP.is (.slice (some ⟨b, o, none⟩) N c0)) (ac.eval (.tmp 0)) (by rw [hD]; rfl) (((hF.keep 0 (by rw [hD]; rfl)).trans zs0)) (by rw [hD]; rfl) (by rw [hsz]; decide) (by rw [hl]; decide)), hb1⟩)
                  · have hk3 := hk
                    exact wpOp_wanted rfl (wanted_g (g := 2) (b := true) rfl rfl (hF.done 2 (100, SP.is (.bool true)) (by rw [hD]; rfl) (ready_dep hk 2 (by kernel_rfl))) (by rw [hF.size, hsz]; decide)) (wp_move_v (ac.eval (.tmp 7)) rfl rfl ⟨hl2 12, (hF.put 12 110 (SP.is (.int .i64 (i : Int))) (ac.eval (.tmp 7)) (by rw [hD]; rfl) (((hF.keep 7 (by rw [hD]; rfl)).trans zs7)) (by rw [hD]; rfl) (by rw [hsz]; decide) (by rw [hl]; decide)), hb1⟩)
                  · have hk3 := hk
                    have ea := (hF.done 11 (109, SP.is (.slice (some ⟨b, o, none⟩) N c0)) (by rw [hD]; rfl) (ready_dep hk 11 (by kernel_rfl)))
                    have eb := (hF.done 12 (110, SP.is (.int .i64 (i : Int))) (by rw [hD]; rfl) (ready_dep hk 12 (by kernel_rfl)))
                    exact wpOp_wanted rfl (wanted_g (g := 2) (b := true) rfl rfl (hF.done 2 (100, SP.is (.bool true)) (by rw [hD]; rfl) (ready_dep hk 2 (by kernel_rfl))) (by rw [hF.size, hsz]; decide)) (wp_ixs 22 35 rfl b o N c0 i 8 ea eb HIN.out und_Ss info_S ⟨hl2 13, (hF.put 13 111 (SP.is (.pointer (some ⟨b, o + i * 8, none⟩))) (.pointer (some ⟨b, o + i * 8, none⟩)) (by rw [hD]; rfl) rfl (by rw [hD]; rfl) (by rw [hsz]; decide) (by rw [hl]; decide)), hb1⟩)
                  · have hk3 := hk
                    have ea := (hF.done 13 (111, SP.is (.pointer (some ⟨b, o + i * 8, none⟩))) (by rw [hD]; rfl) (ready_dep hk 13 (by kernel_rfl)))
                    exact wpOp_wanted rfl (wanted_g (g := 2) (b := true) rfl rfl (hF.done 2 (100, SP.is (.bool true)) (by rw [hD]; rfl) (ready_dep hk 2 (by kernel_rfl))) (by rw [hF.size, hsz]; decide)) (wp_sf2 b (o + i * 8) rfl ea ⟨hl2 14, (hF.put 14 112 (SP.is (.pointer (some ⟨b, o + i * 8 + 2, none⟩))) (.pointer (some ⟨b, o + i * 8 + 2, none⟩)) (by rw [hD]; rfl) rfl (by rw [hD]; rfl) (by rw [hsz]; decide) (by rw [hl]; decide)), hb1⟩)
                  · have hk3 := hk
                    have ea := (hF.done 14 (112, SP.is (.pointer (some ⟨b, o + i * 8 + 2, none⟩))) (by rw [hD]; rfl) (ready_dep hk 14 (by kernel_rfl)))
                    exact wpOp_wanted rfl (wanted_g (g := 2) (b := true) rfl rfl (hF.done 2 (100, SP.is (.bool true)) (by rw [hD]; rfl) (ready_dep hk 2 (by kernel_rfl))) (by rw [hF.size, hsz]; decide)) (wp_load_1 b (o + i * 8 + 2) (.int .i64 tk) rfl ea (run_load_in W b (o + i * 8 + 2) (.int .i64 tk) (HCT.out W hb1)) ⟨hl2 15, (hF.put 15 113 (SP.is (.int .i64 tk)) (.int .i64 tk) (by rw [hD]; rfl) rfl (by rw [hD]; rfl) (by rw [hsz]; decide) (by rw [hl]; decide)), hb1⟩)
                  · have hk3 := hk
                    exact wpOp_wanted rfl (wanted_g (g := 2) (b := true) rfl rfl (hF.done 2 (100, SP.is (.bool true)) (by rw [hD]; rfl) (ready_dep hk 2 (by kernel_rfl))) (by rw [hF.size, hsz]; decide)) (wp_move_v (ac.eval (.tmp 0)) rfl rfl ⟨hl2 16, (hF.put 16 114 (SP.is (.slice (some ⟨b, o, none⟩) N c0)) (ac.eval (.tmp 0)) (by rw [hD]; rfl) (((hF.keep 0 (by rw [hD]; rfl)).trans zs0)) (by rw [hD]; rfl) (by rw [hsz]; decide) (by rw [hl]; decide)), hb1⟩)
                  · have hk3 := hk
                    exact wpOp_wanted rfl (wanted_g (g := 2) (b := true) rfl rfl (hF.done 2 (100, SP.is (.bool true)) (by rw [hD]; rfl) (ready_dep hk 2 (by kernel_rfl))) (by rw [hF.size, hsz]; decide)) (wp_move_v (ac.eval (.tmp 7)) rfl rfl ⟨hl2 17, (hF.put 17 115 (SP.is (.int .i64 (i : Int))) (ac.eval (.tmp 7)) (by rw [hD]; rfl) (((hF.keep 7 (by rw [hD]; rfl)).trans zs7)) (by rw [hD]; rfl) (by rw [hsz]; decide) (by rw [hl]; decide)), hb1⟩)
                  · have hk3 := hk
                    have ea := (hF.done 16 (114, SP.is (.slice (some ⟨b, o, none⟩) N c0)) (by rw [hD]; rfl) (ready_dep hk 16 (by kernel_rfl)))
                    have eb := (hF.done 17 (115, SP.is (.int .i64 (i : Int))) (by rw [hD]; rfl) (ready_dep hk 17 (by kernel_rfl)))
                    exact wpOp_wanted rfl (wanted_g (g := 2) (b := true) rfl rfl (hF.done 2 (100, SP.is (.bool true)) (by rw [hD]; rfl) (ready_dep hk 2 (by kernel_rfl))) (by rw [hF.size, hsz]; decide)) (wp_ixs 22 35 rfl b o N c0 i 8 ea eb HIN.out und_Ss info_S ⟨hl2 18, (hF.put 18 116 (SP.is (.pointer (some ⟨b, o + i * 8, none⟩))) (.pointer (some ⟨b, o + i * 8, none⟩)) (by rw [hD]; rfl) rfl (by rw [hD]; rfl) (by rw [hsz]; decide) (by rw [hl]; decide)), hb1⟩)
                  · have hk3 := hk
                    have ea := (hF.done 18 (116, SP.is (.pointer (some ⟨b, o + i * 8, none⟩))) (by rw [hD]; rfl) (ready_dep hk 18 (by kernel_rfl)))
                    exact wpOp_wanted rfl (wanted_g (g := 2) (b := true) rfl rfl (hF.done 2 (100, SP.is (.bool true)) (by rw [hD]; rfl) (ready_dep hk 2 (by kernel_rfl))) (by rw [hF.size, hsz]; decide)) (wpR_sf3 b (o + i * 8) rfl ea ⟨hl2 19, (hF.put 19 117 (SP.is (.pointer (some ⟨b, o + i * 8 + 3, none⟩))) (.pointer (some ⟨b, o + i * 8 + 3, none⟩)) (by rw [hD]; rfl) rfl (by rw [hD]; rfl) (by rw [hsz]; decide) (by rw [hl]; decide)), hb1⟩)
                  · have hk3 := hk
                    have ea := (hF.done 19 (117, SP.is (.pointer (some ⟨b, o + i * 8 + 3, none⟩))) (by rw [hD]; rfl) (ready_dep hk 19 (by kernel_rfl)))
                    exact wpOp_wanted rfl (wanted_g (g := 2) (b := true) rfl rfl (hF.done 2 (100, SP.is (.bool true)) (by rw [hD]; rfl) (ready_dep hk 2 (by kernel_rfl))) (by rw [hF.size, hsz]; decide)) (wp_load_1 b (o + i * 8 + 3) (.int .i64 ix) rfl ea (run_load_in W b (o + i * 8 + 3) (.int .i64 ix) (HCX.out W hb1)) ⟨hl2 20, (hF.put 20 118 (SP.is (.int .i64 ix)) (.int .i64 ix) (by rw [hD]; rfl) rfl (by rw [hD]; rfl) (by rw [hsz]; decide) (by rw [hl]; decide)), hb1⟩)
                  · have hk3 := hk
                    have ea := (hF.done 6 (104, SP.is (.pointer (some ⟨pv, 0, none⟩))) (by rw [hD]; rfl) (ready_dep hk 6 (by kernel_rfl)))
                    have eb := (hF.done 10 (108, SP.is (.pointer (some ⟨qv, 0, none⟩))) (by rw [hD]; rfl) (ready_dep hk 10 (by kernel_rfl)))
                    have ec := (hF.done 15 (113, SP.is (.int .i64 tk)) (by rw [hD]; rfl) (ready_dep hk 15 (by kernel_rfl)))
                    have ed := (hF.done 20 (118, SP.is (.int .i64 ix)) (by rw [hD]; rfl) (ready_dep hk 20 (by kernel_rfl)))
                    refine wpOp_wanted rfl (wanted_g (g := 2) (b := true) rfl rfl (hF.done 2 (100, SP.is (.bool true)) (by rw [hD]; rfl) (ready_dep hk 2 (by kernel_rfl))) (by rw [hF.size, hsz]; decide)) (wp_fcall_v 16 #[.pointer (some ⟨pv, 0, none⟩), .pointer (some ⟨qv, 0, none⟩), .int .i64 tk, .int .i64 ix] rfl rfl (by show [ac.eval (.tmp 104), ac.eval (.tmp 108), ac.eval (.tmp 113), ac.eval (.tmp 118)] = _; rw [show ac.eval (.tmp 104) = _ from ea, show ac.eval (.tmp 108) = _ from eb, show ac.eval (.tmp 113) = _ from ec, show ac.eval (.tmp 118) = _ from ed]) (by go_simp) ((HAL.out W hb1).mono ?_))
                    rintro e W2 ⟨rfl, hB⟩
                    exact ⟨_, rfl, hl2 21, ((hF.world hB).put 21 119 (SP.is (.bool true)) (.bool true) (by rw [hD]; rfl) rfl (by rw [hD]; rfl) (by rw [hsz]; decide) (by rw [hl]; decide)), hb1.trans (hB.mono hb1.size)⟩
                  · have hk3 := hk
                    have ea := (hF.done 21 (119, SP.is (.bool true)) (by rw [hD]; rfl) (ready_dep hk 21 (by kernel_rfl)))
                    exact wpOp_wanted rfl (wanted_g (g := 2) (b := true) rfl rfl (hF.done 2 (100, SP.is (.bool true)) (by rw [hD]; rfl) (ready_dep hk 2 (by kernel_rfl))) (by rw [hF.size, hsz]; decide)) (wpR_not rfl true ea ⟨hl2 22, (hF.put 22 120 (SP.is (.bool false)) (.bool false) (by rw [hD]; rfl) rfl (by rw [hD]; rfl) (by rw [hsz]; decide) (by rw [hl]; decide)), hb1⟩)
                  · have hk3 := hk
                    have ea := (hF.done 2 (100, SP.is (.bool true)) (by rw [hD]; rfl) (ready_dep hk 2 (by kernel_rfl)))
                    have eb := (hF.done 22 (120, SP.is (.bool false)) (by rw [hD]; rfl) (ready_dep hk 22 (by kernel_rfl)))
                    exact wpOp_plain rfl rfl (wpR_pickT (.bool false) rfl ea eb ⟨hl2 23, (hF.put 23 121 (SP.is (.bool false)) (.bool false) (by rw [hD]; rfl) rfl (by rw [hD]; rfl) (by rw [hsz]; decide) (by rw [hl]; decide)), hb1⟩)
                · clear hb1  
                  intro listed ac W hI hr
                  obtain ⟨hl, hF, hb1⟩ := hI
                  have hall := all_listed (by kernel_rfl) hl hr
                  have h98 : ac.eval (.tmp 98) = .int .i64 k := hF.done 0 (98, SP.is (.int .i64 k)) (by rw [hD]; rfl) (hall 0 (by decide))
                  have h99 : ac.eval (.tmp 99) = .bool true := hF.done 1 (99, SP.is (.bool true)) (by rw [hD]; rfl) (hall 1 (by decide))
                  have h100 : ac.eval (.tmp 100) = .bool true := hF.done 2 (100, SP.is (.bool true)) (by rw [hD]; rfl) (hall 2 (by decide))
                  have h101 : ac.eval (.tmp 101) = .slice (some ⟨g5, 0, none⟩) m c5 := hF.done 3 (101, SP.is (.slice (some ⟨g5, 0, none⟩) m c5)) (by rw [hD]; rfl) (hall 3 (by decide))
                  have h102 : ac.eval (.tmp 102) = .int .i64 (n : Int) := hF.done 4 (102, SP.is (.int .i64 (n : Int))) (by rw [hD]; rfl) (hall 4 (by decide))
                  have h103 : ac.eval (.tmp 103) = .pointer (some ⟨g5, 0 + n * 1, none⟩) := hF.done 5 (103, SP.is (.pointer (some ⟨g5, 0 + n * 1, none⟩))) (by rw [hD]; rfl) (hall 5 (by decide))
                  have h104 : ac.eval (.tmp 104) = .pointer (some ⟨pv, 0, none⟩) := hF.done 6 (104, SP.is (.pointer (some ⟨pv, 0, none⟩))) (by rw [hD]; rfl) (hall 6 (by decide))
                  have h105 : ac.eval (.tmp 105) = .slice (some ⟨g6, 0, none⟩) m c6 := hF.done 7 (105, SP.is (.slice (some ⟨g6, 0, none⟩) m c6)) (by rw [hD]; rfl) (hall 7 (by decide))
                  have h106 : ac.eval (.tmp 106) = .int .i64 (n : Int) := hF.done 8 (106, SP.is (.int .i64 (n : Int))) (by rw [hD]; rfl) (hall 8 (by decide))
                  have h107 : ac.eval (.tmp 107) = .pointer (some ⟨g6, 0 + n * 1, none⟩) := hF.done 9 (107, SP.is (.pointer (some ⟨g6, 0 + n * 1, none⟩))) (by rw [hD]; rfl) (hall 9 (by decide))
                  have h108 : ac.eval (.tmp 108) = .pointer (some ⟨qv, 0, none⟩) := hF.done 10 (108, SP.is (.pointer (some ⟨qv, 0, none⟩))) (by rw [hD]; rfl) (hall 10 (by decide))
                  have h109 : ac.eval (.tmp 109) = .slice (some ⟨b, o, none⟩) N c0 := hF.done 11 (109, SP.is (.slice (some ⟨b, o, none⟩) N c0)) (by rw [hD]; rfl) (hall 11 (by decide))
                  have h110 : ac.eval (.tmp 110) = .int .i64 (i : Int) := hF.done 12 (110, SP.is (.int .i64 (i : Int))) (by rw [hD]; rfl) (hall 12 (by decide))
                  have h111 : ac.eval (.tmp 111) = .pointer (some ⟨b, o + i * 8, none⟩) := hF.done 13 (111, SP.is (.pointer (some ⟨b, o + i * 8, none⟩))) (by rw [hD]; rfl) (hall 13 (by decide))
                  have h112 : ac.eval (.tmp 112) = .pointer (some ⟨b, o + i * 8 + 2, none⟩) := hF.done 14 (112, SP.is (.pointer (some ⟨b, o + i * 8 + 2, none⟩))) (by rw [hD]; rfl) (hall 14 (by decide))
                  have h113 : ac.eval (.tmp 113) = .int .i64 tk := hF.done 15 (113, SP.is (.int .i64 tk)) (by rw [hD]; rfl) (hall 15 (by decide))
                  have h114 : ac.eval (.tmp 114) = .slice (some ⟨b, o, none⟩) N c0 := hF.done 16 (114, SP.is (.slice (some ⟨b, o, none⟩) N c0)) (by rw [hD]; rfl) (hall 16 (by decide))
                  have h115 : ac.eval (.tmp 115) = .int .i64 (i : Int) := hF.done 17 (115, SP.is (.int .i64 (i : Int))) (by rw [hD]; rfl) (hall 17 (by decide))
                  have h116 : ac.eval (.tmp 116) = .pointer (some ⟨b, o + i * 8, none⟩) := hF.done 18 (116, SP.is (.pointer (some ⟨b, o + i * 8, none⟩))) (by rw [hD]; rfl) (hall 18 (by decide))
                  have h117 : ac.eval (.tmp 117) = .pointer (some ⟨b, o + i * 8 + 3, none⟩) := hF.done 19 (117, SP.is (.pointer (some ⟨b, o + i * 8 + 3, none⟩))) (by rw [hD]; rfl) (hall 19 (by decide))
                  have h118 : ac.eval (.tmp 118) = .int .i64 ix := hF.done 20 (118, SP.is (.int .i64 ix)) (by rw [hD]; rfl) (hall 20 (by decide))
                  have h119 : ac.eval (.tmp 119) = .bool true := hF.done 21 (119, SP.is (.bool true)) (by rw [hD]; rfl) (hall 21 (by decide))
                  have h120 : ac.eval (.tmp 120) = .bool false := hF.done 22 (120, SP.is (.bool false)) (by rw [hD]; rfl) (hall 22 (by decide))
                  have h121 : ac.eval (.tmp 121) = .bool false := hF.done 23 (121, SP.is (.bool false)) (by rw [hD]; rfl) (hall 23 (by decide))
                  have ea := hF.lay [(98, .int .i64 k), (99, .bool true), (100, .bool true), (101, .slice (some ⟨g5, 0, none⟩) m c5), (102, .int .i64 (n : Int)), (103, .pointer (some ⟨g5, 0 + n * 1, none⟩)), (104, .pointer (some ⟨pv, 0, none⟩)), (105, .slice (some ⟨g6, 0, none⟩) m c6), (106, .int .i64 (n : Int)), (107, .pointer (some ⟨g6, 0 + n * 1, none⟩)), (108, .pointer (some ⟨qv, 0, none⟩)), (109, .slice (some ⟨b, o, none⟩) N c0), (110, .int .i64 (i : Int)), (111, .pointer (some ⟨b, o + i * 8, none⟩)), (112, .pointer (some ⟨b, o + i * 8 + 2, none⟩)), (113, .int .i64 tk), (114, .slice (some ⟨b, o, none⟩) N c0), (115, .int .i64 (i : Int)), (116, .pointer (some ⟨b, o + i * 8, none⟩)), (117, .pointer (some ⟨b, o + i * 8 + 3, none⟩)), (118, .int .i64 ix), (119, .bool true), (120, .bool false), (121, .bool false)] (by rw [hD, hsz]; rfl) (by simp only [List.forall_mem_cons, List.not_mem_nil, false_implies, implies_true, and_true]; exact ⟨h98, h99, h100, h101, h102, h103, h104, h105, h106, h107, h108, h109, h110, h111, h112, h113, h114, h115, h116, h117, h118, h119, h120, h121⟩)
                  rw [ha0] at ea
                  simp only [List.foldl_cons, List.foldl_nil, List.setIfInBounds_toArray, List.set_cons_zero, List.set_cons_succ] at ea
                  clear hF hall hr hl hD  zs0 zs5 zs6 zs7 zs8 zs12 ha0 hsz h98 h99 h100 h101 h102 h103 h104 h105 h106 h107 h108 h109 h110 h111 h112 h113 h114 h115 h116 h117 h118 h119 h120 h121
                  subst ea
                  have O9 : Hid (Oj w W (i + 1) (c + 2) L2 K2 (.slice (some ⟨g5, 0, none⟩) m c5) (.slice (some ⟨g6, 0, none⟩) m c6)) := HOJ.out.be hb1
                  clear hb1
                  go_wp2_with fail
                  exact ⟨⟨i + 1, c + 2, _, _, HIN.out, HCI.out, by go_num, O9⟩, by simp [intOf]; have := HIN.out; omega⟩
              · have HGT : Hid (decide (7 < k) = false) := decide_eq_false hk8
                clear hk8
                refine wp_named fun a0 ha0 => ?_
                have hsz : a0.tmps.size = 154 := by rw [ha0]; rfl
                have zs12 : a0.eval (.tmp 12) = .int .i64 k := by rw [ha0]; rfl
                obtain ⟨D, hD⟩ : ∃ D : List (Tmp × SP), D = [(98, SP.is (.int .i64 k)), (99, SP.is (.bool false)), (100, SP.is (.bool false)), (101, SP.is (undef)), (102, SP.is (undef)), (103, SP.is (undef)), (104, SP.is (undef)), (105, SP.is (undef)), (106, SP.is (undef)), (107, SP.is (undef)), (108, SP.is (undef)), (109, SP.is (undef)), (110, SP.is (undef)), (111, SP.is (undef)), (112, SP.is (undef)), (113, SP.is (undef)), (114, SP.is (undef)), (115, SP.is (undef)), (116, SP.is (undef)), (117, SP.is (undef)), (118, SP.is (undef)), (119, SP.is (undef)), (120, SP.is (undef)), (121, SP.is (.bool false))] := ⟨_, rfl⟩
                refine wp_region_down (by kernel_rfl) (fun listed ac W => listed.size = 24 ∧ Fp D a0 listed ac W ∧ Below Y.heap.size Y W) ?_ ?_ ?_
                · exact ⟨by simp, Fp.start D a0 _ _, Below.drew hb1⟩
                · clear ha0 hb1  
                  intro listed ac W k hI hdn hk
                  obtain ⟨hl, hF, hb1⟩ := hI
                  have hk1 : k < 24 := List.mem_range.1 (List.mem_filter.1 hk).1
                  have hl2 : ∀ j, (listed.setIfInBounds j true).size = 24 := fun j => by rw [Array.size_setIfInBounds]; exact hl
                  rcases (show k = 0 ∨ k = 1 ∨ k = 2 ∨ k = 3 ∨ k = 4 ∨ k = 5 ∨ k = 6 ∨ k = 7 ∨ k = 8 ∨ k = 9 ∨ k = 10 ∨ k = 11 ∨ k = 12 ∨ k = 13 ∨ k = 14 ∨ k = 15 ∨ k = 16 ∨ k = 17 ∨ k = 18 ∨ k = 19 ∨ k = 20 ∨ k = 21 ∨ k = 22 ∨ k = 23 by omega) with rfl | rfl | rfl | rfl | rfl | rfl | rfl | rfl | rfl | rfl | rfl | rfl | rfl | rfl | rfl | rfl | rfl | rfl | rfl | rfl | rfl | rfl | rfl | rfl
                  · have hk3 := hk
                    exact wpOp_plain rfl rfl (wp_move_v (ac.eval (.tmp 12)) rfl rfl ⟨hl2 0, (hF.put 0 98 (SP.is (.int .i64 k)) (ac.eval (.tmp 12)) (by rw [hD]; rfl) (((hF.keep 12 (by rw [hD]; rfl)).trans zs12)) (by rw [hD]; rfl) (by rw [hsz]; decide) (by rw [hl]; decide)), hb1⟩)
                  · have hk3 := hk
                    have ea := (hF.done 0 (98, SP.is (.int .i64 k)) (by rw [hD]; rfl) (ready_dep hk 0 (by kernel_rfl)))
                    exact wpOp_plain rfl rfl (wpP_gtr rfl k 7 false HGT.out ea rfl ⟨hl2 1, (hF.put 1 99 (SP.is (.bool false)) (.bool false) (by rw [hD]; rfl) rfl (by rw [hD]; rfl) (by rw [hsz]; decide) (by rw [hl]; decide)), hb1⟩)
                  · have hk3 := hk
                    exact wpOp_plain rfl rfl (wp_move_v (ac.eval (.tmp 99)) rfl rfl ⟨hl2 2, (hF.put 2 100 (SP.is (.bool false)) (ac.eval (.tmp 99)) (by rw [hD]; rfl) ((hF.done 1 (99, SP.is (.bool false)) (by rw [hD]; rfl) (ready_dep hk 1 (by kernel_rfl)))) (by rw [hD]; rfl) (by rw [hsz]; decide) (by rw [hl]; decide)), hb1⟩)
                  · have hk3 := hk
                    exact wpOp_off rfl (unwanted_g (g := 2) (b := true) rfl rfl (hF.done 2 (100, SP.is (.bool false)) (by rw [hD]; rfl) (ready_dep hk 2 (by kernel_rfl))) (by rw [hF.size, hsz]; decide)) ⟨hl2 3, (hF.put 3 101 (SP.is (undef)) undef (by rw [hD]; rfl) rfl (by rw [hD]; rfl) (by rw [hsz]; decide) (by rw [hl]; decide)), hb1⟩
                  · have hk3 := hk
                    exact wpOp_off rfl (unwanted_g (g := 2) (b := true) rfl rfl (hF.done 2 (100, SP.is (.bool false)) (by rw [hD]; rfl) (ready_dep hk 2 (by kernel_rfl))) (by rw [hF.size, hsz]; decide)) ⟨hl2 4, (hF.put 4 102 (SP.is (undef)) undef (by rw [hD]; rfl) rfl (by rw [hD]; rfl) (by rw [hsz]; decide) (by rw [hl]; decide)), hb1⟩
                  · have hk3 := hk
                    exact wpOp_off rfl (unwanted_g (g := 2) (b := true) rfl rfl (hF.done 2 (100, SP.is (.bool false)) (by rw [hD]; rfl) (ready_dep hk 2 (by kernel_rfl))) (by rw [hF.size, hsz]; decide)) ⟨hl2 5, (hF.put 5 103 (SP.is (undef)) undef (by rw [hD]; rfl) rfl (by rw [hD]; rfl) (by rw [hsz]; decide) (by rw [hl]; decide)), hb1⟩
                  · have hk3 := hk
                    exact wpOp_off rfl (unwanted_g (g := 2) (b := true) rfl rfl (hF.done 2 (100, SP.is (.bool false)) (by rw [hD]; rfl) (ready_dep hk 2 (by kernel_rfl))) (by rw [hF.size, hsz]; decide)) ⟨hl2 6, (hF.put 6 104 (SP.is (undef)) undef (by rw [hD]; rfl) rfl (by rw [hD]; rfl) (by rw [hsz]; decide) (by rw [hl]; decide)), hb1⟩
                  · have hk3 := hk
                    exact wpOp_off rfl (unwanted_g (g := 2) (b := true) rfl rfl (hF.done 2 (100, SP.is (.bool false)) (by rw [hD]; rfl) (ready_dep hk 2 (by kernel_rfl))) (by rw [hF.size, hsz]; decide)) ⟨hl2 7, (hF.put 7 105 (SP.is (undef)) undef (by rw [hD]; rfl) rfl (by rw [hD]; rfl) (by rw [hsz]; decide) (by rw [hl]; decide)), hb1⟩
                  · have hk3 := hk
                    exact wpOp_off rfl (unwanted_g (g := 2) (b := true) rfl rfl (hF.done 2 (100, SP.is (.bool false)) (by rw [hD]; rfl) (ready_dep hk 2 (by kernel_rfl))) (by rw [hF.size, hsz]; decide)) ⟨hl2 8, (hF.put 8 106 (SP.is (undef)) undef (by rw [hD]; rfl) rfl (by rw [hD]; rfl) (by rw [hsz]; decide) (by rw [hl]; decide)), hb1⟩
                  · have hk3 := hk
                    exact wpOp_off rfl (unwanted_g (g := 2) (b := true) rfl rfl (hF.done 2 (100, SP.is (.bool false)) (by rw [hD]; rfl) (ready_dep hk 2 (by kernel_rfl))) (by rw [hF.size, hsz]; decide)) ⟨hl2 9, (hF.put 9 107 (SP.is (undef)) undef (by rw [hD]; rfl) rfl (by rw [hD]; rfl) (by rw [hsz]; decide) (by rw [hl]; decide)), hb1⟩
                  · have hk3 := hk
                    exact wpOp_off rfl (unwanted_g (g := 2) (b := true) rfl rfl (hF.done 2 (100, SP.is (.bool false)) (by rw [hD]; rfl) (ready_dep hk 2 (by kernel_rfl))) (by rw [hF.size, hsz]; decide)) ⟨hl2 10, (hF.put 10 108 (SP.is (undef)) undef (by rw [hD]; rfl) rfl (by rw [hD]; rfl) (by rw [hsz]; decide) (by rw [hl]; decide)), hb1⟩
                  · have hk3 := hk
                    exact wpOp_off rfl (unwanted_g (g := 2) (b := true) rfl rfl (hF.done 2 (100, SP.is (.bool false)) (by rw [hD]; rfl) (ready_dep hk 2 (by kernel_rfl))) (by rw [hF.size, hsz]; decide)) ⟨hl2 11, (hF.put 11 109 (SP.is (undef)) undef (by rw [hD]; rfl) rfl (by rw [hD]; rfl) (by rw [hsz]; decide) (by rw [hl]; decide)), hb1⟩
                  · have hk3 := hk
                    exact wpOp_off rfl (unwanted_g (g := 2) (b := true) rfl rfl (hF.done 2 (100, SP.is (.bool false)) (by rw [hD]; rfl) (ready_dep hk 2 (by kernel_rfl))) (by rw [hF.size, hsz]; decide)) ⟨hl2 12, (hF.put 12 110 (SP.is (undef)) undef (by rw [hD]; rfl) rfl (by rw [hD]; rfl) (by rw [hsz]; decide) (by rw [hl]; decide)), hb1⟩
                  · have hk3 := hk
                    exact wpOp_off rfl (unwanted_g (g := 2) (b := true) rfl rfl (hF.done 2 (100, SP.is (.bool false)) (by rw [hD]; rfl) (ready_dep hk 2 (by kernel_rfl))) (by rw [hF.size, hsz]; decide)) ⟨hl2 13, (hF.put 13 111 (SP.is (undef)) undef (by rw [hD]; rfl) rfl (by rw [hD]; rfl) (by rw [hsz]; decide) (by rw [hl]; decide)), hb1⟩
                  · have hk3 := hk
                    exact wpOp_off rfl (unwanted_g (g := 2) (b := true) rfl rfl (hF.done 2 (100, SP.is (.bool false)) (by rw [hD]; rfl) (ready_dep hk 2 (by kernel_rfl))) (by rw [hF.size, hsz]; decide)) ⟨hl2 14, (hF.put 14 112 (SP.is (undef)) undef (by rw [hD]; rfl) rfl (by rw [hD]; rfl) (by rw [hsz]; decide) (by rw [hl]; decide)), hb1⟩
                  · have hk3 := hk
                    exact wpOp_off rfl (unwanted_g (g := 2) (b := true) rfl rfl (hF.done 2 (100, SP.is (.bool false)) (by rw [hD]; rfl) (ready_dep hk 2 (by kernel_rfl))) (by rw [hF.size, hsz]; decide)) ⟨hl2 15, (hF.put 15 113 (SP.is (undef)) undef (by rw [hD]; rfl) rfl (by rw [hD]; rfl) (by rw [hsz]; decide) (by rw [hl]; decide)), hb1⟩
                  · have hk3 := hk
                    exact wpOp_off rfl (unwanted_g (g := 2) (b := true) rfl rfl (hF.done 2 (100, SP.is (.bool false)) (by rw [hD]; rfl) (ready_dep hk 2 (by kernel_rfl))) (by rw [hF.size, hsz]; decide)) ⟨hl2 16, (hF.put 16 114 (SP.is (undef)) undef (by rw [hD]; rfl) rfl (by rw [hD]; rfl) (by rw [hsz]; decide) (by rw [hl]; decide)), hb1⟩
                  · have hk3 := hk
                    exact wpOp_off rfl (unwanted_g (g := 2) (b := true) rfl rfl (hF.done 2 (100, SP.is (.bool false)) (by rw [hD]; rfl) (ready_dep hk 2 (by kernel_rfl))) (by rw [hF.size, hsz]; decide)) ⟨hl2 17, (hF.put 17 115 (SP.is (undef)) undef (by rw [hD]; rfl) rfl (by rw [hD]; rfl) (by rw [hsz]; decide) (by rw [hl]; decide)), hb1⟩
                  · have hk3 := hk
                    exact wpOp_off rfl (unwanted_g (g := 2) (b := true) rfl rfl (hF.done 2 (100, SP.is (.bool false)) (by rw [hD]; rfl) (ready_dep hk 2 (by kernel_rfl))) (by rw [hF.size, hsz]; decide)) ⟨hl2 18, (hF.put 18 116 (SP.is (undef)) undef (by rw [hD]; rfl) rfl (by rw [hD]; rfl) (by rw [hsz]; decide) (by rw [hl]; decide)), hb1⟩
                  · have hk3 := hk
                    exact wpOp_off rfl (unwanted_g (g := 2) (b := true) rfl rfl (hF.done 2 (100, SP.is (.bool false)) (by rw [hD]; rfl) (ready_dep hk 2 (by kernel_rfl))) (by rw [hF.size, hsz]; decide)) ⟨hl2 19, (hF.put 19 117 (SP.is (undef)) undef (by rw [hD]; rfl) rfl (by rw [hD]; rfl) (by rw [hsz]; decide) (by rw [hl]; decide)), hb1⟩
                  · have hk3 := hk
                    exact wpOp_off rfl (unwanted_g (g := 2) (b := true) rfl rfl (hF.done 2 (100, SP.is (.bool false)) (by rw [hD]; rfl) (ready_dep hk 2 (by kernel_rfl))) (by rw [hF.size, hsz]; decide)) ⟨hl2 20, (hF.put 20 118 (SP.is (undef)) undef (by rw [hD]; rfl) rfl (by rw [hD]; rfl) (by rw [hsz]; decide) (by rw [hl]; decide)), hb1⟩
                  · have hk3 := hk
                    exact wpOp_off rfl (unwanted_g (g := 2) (b := true) rfl rfl (hF.done 2 (100, SP.is (.bool false)) (by rw [hD]; rfl) (ready_dep hk 2 (by kernel_rfl))) (by rw [hF.size, hsz]; decide)) ⟨hl2 21, (hF.put 21 119 (SP.is (undef)) undef (by rw [hD]; rfl) rfl (by rw [hD]; rfl) (by rw [hsz]; decide) (by rw [hl]; decide)), hb1⟩
                  · have hk3 := hk
                    exact wpOp_off rfl (unwanted_g (g := 2) (b := true) rfl rfl (hF.done 2 (100, SP.is (.bool false)) (by rw [hD]; rfl) (ready_dep hk 2 (by kernel_rfl))) (by rw [hF.size, hsz]; decide)) ⟨hl2 22, (hF.put 22 120 (SP.is (undef)) undef (by rw [hD]; rfl) rfl (by rw [hD]; rfl) (by rw [hsz]; decide) (by rw [hl]; decide)), hb1⟩
                  · have hk3 := hk
                    have ea := (hF.done 2 (100, SP.is (.bool false)) (by rw [hD]; rfl) (ready_dep hk 2 (by kernel_rfl)))
                    exact wpOp_plain rfl rfl (wpR_pickF (.bool false) rfl ea rfl ⟨hl2 23, (hF.put 23 121 (SP.is (.bool false)) (.bool false) (by rw [hD]; rfl) rfl (by rw [hD]; rfl) (by rw [hsz]; decide) (by rw [hl]; decide)), hb1⟩)
                · clear hb1  
                  intro listed ac W hI hr
                  obtain ⟨hl, hF, hb1⟩ := hI
                  have hall := all_listed (by kernel_rfl) hl hr
                  have h98 : ac.eval (.tmp 98) = .int .i64 k := hF.done 0 (98, SP.is (.int .i64 k)) (by rw [hD]; rfl) (hall 0 (by decide))
                  have h99 : ac.eval (.tmp 99) = .bool false := hF.done 1 (99, SP.is (.bool false)) (by rw [hD]; rfl) (hall 1 (by decide))
                  have h100 : ac.eval (.tmp 100) = .bool false := hF.done 2 (100, SP.is (.bool false)) (by rw [hD]; rfl) (hall 2 (by decide))
                  have h101 : ac.eval (.tmp 101) = undef := hF.done 3 (101, SP.is (undef)) (by rw [hD]; rfl) (hall 3 (by decide))
                  have h102 : ac.eval (.tmp 102) = undef := hF.done 4 (102, SP.is (undef)) (by rw [hD]; rfl) (hall 4 (by decide))
                  have h103 : ac.eval (.tmp 103) = undef := hF.done 5 (103, SP.is (undef)) (by rw [hD]; rfl) (hall 5 (by decide))
                  have h104 : ac.eval (.tmp 104) = undef := hF.done 6 (104, SP.is (undef)) (by rw [hD]; rfl) (hall 6 (by decide))
                  have h105 : ac.eval (.tmp 105) = undef := hF.done 7 (105, SP.is (undef)) (by rw [hD]; rfl) (hall 7 (by decide))
                  have h106 : ac.eval (.tmp 106) = undef := hF.done 8 (106, SP.is (undef)) (by rw [hD]; rfl) (hall 8 (by decide))
                  have h107 : ac.eval (.tmp 107) = undef := hF.done 9 (107, SP.is (undef)) (by rw [hD]; rfl) (hall 9 (by decide))
                  have h108 : ac.eval (.tmp 108) = undef := hF.done 10 (108, SP.is (undef)) (by rw [hD]; rfl) (hall 10 (by decide))
                  have h109 : ac.eval (.tmp 109) = undef := hF.done 11 (109, SP.is (undef)) (by rw [hD]; rfl) (hall 11 (by decide))
                  have h110 : ac.eval (.tmp 110) = undef := hF.done 12 (110, SP.is (undef)) (by rw [hD]; rfl) (hall 12 (by decide))
                  have h111 : ac.eval (.tmp 111) = undef := hF.done 13 (111, SP.is (undef)) (by rw [hD]; rfl) (hall 13 (by decide))
                  have h112 : ac.eval (.tmp 112) = undef := hF.done 14 (112, SP.is (undef)) (by rw [hD]; rfl) (hall 14 (by decide))
                  have h113 : ac.eval (.tmp 113) = undef := hF.done 15 (113, SP.is (undef)) (by rw [hD]; rfl) (hall 15 (by decide))
                  have h114 : ac.eval (.tmp 114) = undef := hF.done 16 (114, SP.is (undef)) (by rw [hD]; rfl) (hall 16 (by decide))
                  have h115 : ac.eval (.tmp 115) = undef := hF.done 17 (115, SP.is (undef)) (by rw [hD]; rfl) (hall 17 (by decide))
                  have h116 : ac.eval (.tmp 116) = undef := hF.done 18 (116, SP.is (undef)) (by rw [hD]; rfl) (hall 18 (by decide))
                  have h117 : ac.eval (.tmp 117) = undef := hF.done 19 (117, SP.is (undef)) (by rw [hD]; rfl) (hall 19 (by decide))
                  have h118 : ac.eval (.tmp 118) = undef := hF.done 20 (118, SP.is (undef)) (by rw [hD]; rfl) (hall 20 (by decide))
                  have h119 : ac.eval (.tmp 119) = undef := hF.done 21 (119, SP.is (undef)) (by rw [hD]; rfl) (hall 21 (by decide))
                  have h120 : ac.eval (.tmp 120) = undef := hF.done 22 (120, SP.is (undef)) (by rw [hD]; rfl) (hall 22 (by decide))
                  have h121 : ac.eval (.tmp 121) = .bool false := hF.done 23 (121, SP.is (.bool false)) (by rw [hD]; rfl) (hall 23 (by decide))
                  have ea := hF.lay [(98, .int .i64 k), (99, .bool false), (100, .bool false), (101, undef), (102, undef), (103, undef), (104, undef), (105, undef), (106, undef), (107, undef), (108, undef), (109, undef), (110, undef), (111, undef), (112, undef), (113, undef), (114, undef), (115, undef), (116, undef), (117, undef), (118, undef), (119, undef), (120, undef), (121, .bool false)] (by rw [hD, hsz]; rfl) (by simp only [List.forall_mem_cons, List.not_mem_nil, false_implies, implies_true, and_true]; exact ⟨h98, h99, h100, h101, h102, h103, h104, h105, h106, h107, h108, h109, h110, h111, h112, h113, h114, h115, h116, h117, h118, h119, h120, h121⟩)
                  rw [ha0] at ea
                  simp only [List.foldl_cons, List.foldl_nil, List.setIfInBounds_toArray, List.set_cons_zero, List.set_cons_succ] at ea
                  clear hF hall hr hl hD  zs12 ha0 hsz h98 h99 h100 h101 h102 h103 h104 h105 h106 h107 h108 h109 h110 h111 h112 h113 h114 h115 h116 h117 h118 h119 h120 h121
                  subst ea
                  have O9 : Hid (Oj w W (i + 1) (c + 2) L2 K2 (.slice (some ⟨g5, 0, none⟩) m c5) (.slice (some ⟨g6, 0, none⟩) m c6)) := HOJ.out.be hb1
                  clear hb1
                  go_wp2_with fail
                  exact ⟨⟨i + 1, c + 2, _, _, HIN.out, HCI.out, by go_num, O9⟩, by simp [intOf]; have := HIN.out; omega⟩
          · go_upto_region 22 with fail
            obtain ⟨Y, hY⟩ : ∃ V, V = Z := ⟨_, rfl⟩
            rw [← hY] at HOJ ⊢
            clear hY
            have hb1 := Below.refl Y.heap.size Y
            by_cases hk8 : 7 < k
            · have HGT : Hid (decide (7 < k) = true) := decide_eq_true hk8
              have HC5 : Hid (∀ W, Below Y.heap.size Y W → W.cell? ⟨g5, 0 + n * 1, none⟩ = some (.pointer (some ⟨pv, 0, none⟩))) := fun W h => by rw [Nat.zero_add, Nat.mul_one]; exact (HOJ.out.be h).oq.cell5 HPS.out
              have HC6 : Hid (∀ W, Below Y.heap.size Y W → W.cell? ⟨g6, 0 + n * 1, none⟩ = some (.pointer (some ⟨qv, 0, none⟩))) := fun W h => by rw [Nat.zero_add, Nat.mul_one]; exact (HOJ.out.be h).oq.cell6 HQS.out
              have HCT : Hid (∀ W, Below Y.heap.size Y W → W.cell? ⟨b, o + i * 8 + 2, none⟩ = some (.int .i64 tk)) := fun W h => HCT0.out W (HOJ.out.be h).oq.vs.be
              have HCX : Hid (∀ W, Below Y.heap.size Y W → W.cell? ⟨b, o + i * 8 + 3, none⟩ = some (.int .i64 ix)) := fun W h => HCX0.out W (HOJ.out.be h).oq.vs.be
              have HAL : Hid (∀ W, Below Y.heap.size Y W → Calls Try.prog 16 #[.pointer (some ⟨pv, 0, none⟩), .pointer (some ⟨qv, 0, none⟩), .int .i64 tk, .int .i64 ix] W fun e w' => e = .returned (.bool true) ∧ Below W.heap.size W w') := fun W h => alike_any ((HOJ.out.be h).oq.vs.v n _ HU2.out) ((HOJ.out.be h).oq.ro n _ HK2.out) (HOJ.out.rl n _ _ HU2.out HK2.out) tk ix HIX.out
              clear hk8
              refine wp_named fun a0 ha0 => ?_
              have hsz : a0.tmps.size = 154 := by rw [ha0]; rfl
              have zs0 : a0.eval (.tmp 0) = .slice (some ⟨b, o, none⟩) N c0 := by rw [ha0]; rfl
              have zs5 : a0.eval (.tmp 5) = .slice (some ⟨g5, 0, none⟩) m c5 := by rw [ha0]; rfl
              have zs6 : a0.eval (.tmp 6) = .slice (some ⟨g6, 0, none⟩) m c6 := by rw [ha0]; rfl
              have zs7 : a0.eval (.tmp 7) = .int .i64 (i : Int) := by rw [ha0]; rfl
              have zs8 : a0.eval (.tmp 8) = .int .i64 (n : Int) := by rw [ha0]; rfl
              have zs12 : a0.eval (.tmp 12) = .int .i64 k := by rw [ha0]; rfl
              obtain ⟨D, hD⟩ : ∃ D : List (Tmp × SP), D = [(98, SP.is (.int .i64 k)), (99, SP.is (.bool true)), (100, SP.is (.bool true)), (101, SP.is (.slice (some ⟨g5, 0, none⟩) m c5)), (102, SP.is (.int .i64 (n : Int))), (103, SP.is (.pointer (some ⟨g5, 0 + n * 1, none⟩))), (104, SP.is (.pointer (some ⟨pv, 0, none⟩))), (105, SP.is (.slice (some ⟨g6, 0, none⟩) m c6)), (106, SP.is (.int .i64 (n : Int))), (107, SP.is (.pointer (some ⟨g6, 0 + n * 1, none⟩))), (108, SP.is (.pointer (some ⟨qv, 0, none⟩))), (109, SP.is (.slice (some ⟨b, o, none⟩) N c0)), (110, SP.is (.int .i64 (i : Int))), (111, SP.is (.pointer (some ⟨b, o + i * 8, none⟩))), (112, SP.is (.pointer (some ⟨b, o + i * 8 + 2, none⟩))), (113, SP.is (.int .i64 tk)), (114, SP.is (.slice (some ⟨b, o, none⟩) N c0)), (115, SP.is (.int .i64 (i : Int))), (116, SP.is (.pointer (some ⟨b, o + i * 8, none⟩))), (117, SP.is (.pointer (some ⟨b, o + i * 8 + 3, none⟩))), (118, SP.is (.int .i64 ix)), (119, SP.is (.bool true)), (120, SP.is (.bool false)), (121, SP.is (.bool false))] := ⟨_, rfl⟩
              refine wp_region_down (by kernel_rfl) (fun listed ac W => listed.size = 24 ∧ Fp D a0 listed ac W ∧ Below Y.heap.size Y W) ?_ ?_ ?_
              · exact ⟨by simp, Fp.start D a0 _ _, Below.drew hb1⟩
              · clear ha0 hb1  
                intro listed ac W k hI hdn hk
                obtain ⟨hl, hF, hb1⟩ := hI
                have hk1 : k < 24 := List.mem_range.1 (List.mem_filter.1 hk).1
                have hl2 : ∀ j, (listed.setIfInBounds j true).size = 24 := fun j => by rw [Array.size_setIfInBounds]; exact hl
                rcases (show k = 0 ∨ k = 1 ∨ k = 2 ∨ k = 3 ∨ k = 4 ∨ k = 5 ∨ k = 6 ∨ k = 7 ∨ k = 8 ∨ k = 9 ∨ k = 10 ∨ k = 11 ∨ k = 12 ∨ k = 13 ∨ k = 14 ∨ k = 15 ∨ k = 16 ∨ k = 17 ∨ k = 18 ∨ k = 19 ∨ k = 20 ∨ k = 21 ∨ k = 22 ∨ k = 23 by omega) with rfl | rfl | rfl | rfl | rfl | rfl | rfl | rfl | rfl | rfl | rfl | rfl | rfl | rfl | rfl | rfl | rfl | rfl | rfl | rfl | rfl | rfl | rfl | rfl
                · have hk3 := hk
                  exact wpOp_plain rfl rfl (wp_move_v (ac.eval (.tmp 12)) rfl rfl ⟨hl2 0, (hF.put 0 98 (SP.is (.int .i64 k)) (ac.eval (.tmp 12)) (by rw [hD]; rfl) (((hF.keep 12 (by rw [hD]; rfl)).trans zs12)) (by rw [hD]; rfl) (by rw [hsz]; decide) (by rw [hl]; decide)), hb1⟩)
                · have hk3 := hk
                  have ea := (hF.done 0 (98, SP.is (.int .i64 k)) (by rw [hD]; rfl) (ready_dep hk 0 (by kernel_rfl)))
                  exact wpOp_plain rfl rfl (wpP_gtr rfl k 7 true HGT.out ea rfl ⟨hl2 1, (hF.put 1 99 (SP.is (.bool true)) (.bool true) (by rw [hD]; rfl) rfl (by rw [hD]; rfl) (by rw [hsz]; decide) (by rw [hl]; decide)), hb1⟩)
                · have hk3 := hk
                  exact wpOp_plain rfl rfl (wp_move_v (ac.eval (.tmp 99)) rfl rfl ⟨hl2 2, (hF.put 2 100 (SP.is (.bool true)) (ac.eval (.tmp 99)) (by rw [hD]; rfl) ((hF.done 1 (99, SP.is (.bool true)) (by rw [hD]; rfl) (ready_dep hk 1 (by kernel_rfl)))) (by rw [hD]; rfl) (by rw [hsz]; decide) (by rw [hl]; decide)), hb1⟩)
                · have hk3 := hk
                  exact wpOp_wanted rfl (wanted_g (g := 2) (b := true) rfl rfl (hF.done 2 (100, SP.is (.bool true)) (by rw [hD]; rfl) (ready_dep hk 2 (by kernel_rfl))) (by rw [hF.size, hsz]; decide)) (wp_move_v (ac.eval (.tmp 5)) rfl rfl ⟨hl2 3, (hF.put 3 101 (SP.is (.slice (some ⟨g5, 0, none⟩) m c5)) (ac.eval (.tmp 5)) (by rw [hD]; rfl) (((hF.keep 5 (by rw [hD]; rfl)).trans zs5)) (by rw [hD]; rfl) (by rw [hsz]; decide) (by rw [hl]; decide)), hb1⟩)
                · have hk3 := hk
                  exact wpOp_wanted rfl (wanted_g (g := 2) (b := true) rfl rfl (hF.done 2 (100, SP.is (.bool true)) (by rw [hD]; rfl) (ready_dep hk 2 (by kernel_rfl))) (by rw [hF.size, hsz]; decide)) (wp_move_v (ac.eval (.tmp 8)) rfl rfl ⟨hl2 4, (hF.put 4 102 (SP.is (.int .i64 (n : Int))) (ac.eval (.tmp 8)) (by rw [hD]; rfl) (((hF.keep 8 (by rw [hD]; rfl)).trans zs8)) (by rw [hD]; rfl) (by rw [hsz]; decide) (by rw [hl]; decide)), hb1⟩)
                · have hk3 := hk
                  have ea := (hF.done 3 (101, SP.is (.slice (some ⟨g5, 0, none⟩) m c5)) (by rw [hD]; rfl) (ready_dep hk 3 (by kernel_rfl)))
                  have eb := (hF.done 4 (102, SP.is (.int .i64 (n : Int))) (by rw [hD]; rfl) (ready_dep hk 4 (by kernel_rfl)))
                  exact wpOp_wanted rfl (wanted_g (g := 2) (b := true) rfl rfl (hF.done 2 (100, SP.is (.bool true)) (by rw [hD]; rfl) (ready_dep hk 2 (by kernel_rfl))) (by rw [hF.size, hsz]; decide)) (wp_ixs tPVs tPV rfl g5 0 m c5 n 1 ea eb HNM.out und_PVs sz_PV ⟨hl2 5, (hF.put 5 103 (SP.is (.pointer (some ⟨g5, 0 + n * 1, none⟩))) (.pointer (some ⟨g5, 0 + n * 1, none⟩)) (by rw [hD]; rfl) rfl (by rw [hD]; rfl) (by rw [hsz]; decide) (by rw [hl]; decide)), hb1⟩)
                · have hk3 := hk
                  have ea := (hF.done 5 (103, SP.is (.pointer (some ⟨g5, 0 + n * 1, none⟩))) (by rw [hD]; rfl) (ready_dep hk 5 (by kernel_rfl)))
                  exact wpOp_wanted rfl (wanted_g (g := 2) (b := true) rfl rfl (hF.done 2 (100, SP.is (.bool true)) (by rw [hD]; rfl) (ready_dep hk 2 (by kernel_rfl))) (by rw [hF.size, hsz]; decide)) (wp_load_1 g5 (0 + n * 1) (.pointer (some ⟨pv, 0, none⟩)) rfl ea (ld_PV W g5 (0 + n * 1) (.pointer (some ⟨pv, 0, none⟩)) (HC5.out W hb1)) ⟨hl2 6, (hF.put 6 104 (SP.is (.pointer (some ⟨pv, 0, none⟩))) (.pointer (some ⟨pv, 0, none⟩)) (by rw [hD]; rfl) rfl (by rw [hD]; rfl) (by rw [hsz]; decide) (by rw [hl]; decide)), hb1⟩)
                · have hk3 := hk
                  exact wpOp_wanted rfl (wanted_g (g := 2) (b := true) rfl rfl (hF.done 2 (100, SP.is (.bool true)) (by rw [hD]; rfl) (ready_dep hk 2 (by kernel_rfl))) (by rw [hF.size, hsz]; decide)) (wp_move_v (ac.eval (.tmp 6)) rfl rfl ⟨hl2 7, (hF.put 7 105 (SP.is (.slice (some ⟨g6, 0, none⟩) m c6)) (ac.eval (.tmp 6)) (by rw [hD]; rfl) (((hF.keep 6 (by rw [hD]; rfl)).trans zs6)) (by rw [hD]; rfl) (by rw [hsz]; decide) (by rw [hl]; decide)), hb1⟩)
                · have hk3 := hk
                  exact wpOp_wanted rfl (wanted_g (g := 2) (b := true) rfl rfl (hF.done 2 (100, SP.is (.bool true)) (by rw [hD]; rfl) (ready_dep hk 2 (by kernel_rfl))) (by rw [hF.size, hsz]; decide)) (wp_move_v (ac.eval (.tmp 8)) rfl rfl ⟨hl2 8, (hF.put 8 106 (SP.is (.int .i64 (n : Int))) (ac.eval (.tmp 8)) (by rw [hD]; rfl) (((hF.keep 8 (by rw [hD]; rfl)).trans zs8)) (by rw [hD]; rfl) (by rw [hsz]; decide) (by rw [hl]; decide)), hb1⟩)
                · have hk3 := hk
                  have ea := (hF.done 7 (105, SP.is (.slice (some ⟨g6, 0, none⟩) m c6)) (by rw [hD]; rfl) (ready_dep hk 7 (by kernel_rfl)))
                  have eb := (hF.done 8 (106, SP.is (.int .i64 (n : Int))) (by rw [hD]; rfl) (ready_dep hk 8 (by kernel_rfl)))
                  exact wpOp_wanted rfl (wanted_g (g := 2) (b := true) rfl rfl (hF.done 2 (100, SP.is (.bool true)) (by rw [hD]; rfl) (ready_dep hk 2 (by kernel_rfl))) (by rw [hF.size, hsz]; decide)) (wp_ixs tPRs tPR rfl g6 0 m c6 n 1 ea eb HNM.out und_PRs sz_PR ⟨hl2 9, (hF.put 9 107 (SP.is (.pointer (some ⟨g6, 0 + n * 1, none⟩))) (.pointer (some ⟨g6, 0 + n * 1, none⟩)) (by rw [hD]; rfl) rfl (by rw [hD]; rfl) (by rw [hsz]; decide) (by rw [hl]; decide)), hb1⟩)
                · have hk3 := hk
                  have ea := (hF.done 9 (107, SP.is (.pointer (some ⟨g6, 0 + n * 1, none⟩))) (by rw [hD]; rfl) (ready_dep hk 9 (by kernel_rfl)))
                  exact wpOp_wanted rfl (wanted_g (g := 2) (b := true) rfl rfl (hF.done 2 (100, SP.is (.bool true)) (by rw [hD]; rfl) (ready_dep hk 2 (by kernel_rfl))) (by rw [hF.size, hsz]; decide)) (wp_load_1 g6 (0 + n * 1) (.pointer (some ⟨qv, 0, none⟩)) rfl ea (ld_PR W g6 (0 + n * 1) (.pointer (some ⟨qv, 0, none⟩)) (HC6.out W hb1)) ⟨hl2 10, (hF.put 10 108 (SP.is (.pointer (some ⟨qv, 0, none⟩))) (.pointer (some ⟨qv, 0, none⟩)) (by rw [hD]; rfl) rfl (by rw [hD]; rfl) (by rw [hsz]; decide) (by rw [hl]; decide)), hb1⟩)
                · have hk3 := hk
                  exact wpOp_wanted rfl (wanted_g (g := 2) (b := true) rfl rfl (hF.done 2 (100, SP.is (.bool true)) (by rw [hD]; rfl) (ready_dep hk 2 (by kernel_rfl))) (by rw [hF.size, hsz]; decide)) (wp_move_v (ac.eval (.tmp 0)) rfl rfl ⟨hl2 11, (hF.put 11 109 (SP.is (.slice (some ⟨b, o, none⟩) N c0)) (ac.eval (.tmp 0)) (by rw [hD]; rfl) (((hF.keep 0 (by rw [hD]; rfl)).trans zs0)) (by rw [hD]; rfl) (by rw [hsz]; decide) (by rw [hl]; decide)), hb1⟩)
                · have hk3 := hk
                  exact wpOp_wanted rfl (wanted_g (g := 2) (b := true) rfl rfl (hF.done 2 (100, SP.is (.bool true)) (by rw [hD]; rfl) (ready_dep hk 2 (by kernel_rfl))) (by rw [hF.size, hsz]; decide)) (wp_move_v (ac.eval (.tmp 7)) rfl rfl ⟨hl2 12, (hF.put 12 110 (SP.is (.int .i64 (i : Int))) (ac.eval (.tmp 7)) (by rw [hD]; rfl) (((hF.keep 7 (by rw [hD]; rfl)).trans zs7)) (by rw [hD]; rfl) (by rw [hsz]; decide) (by rw [hl]; decide)), hb1⟩)
                · have hk3 := hk
                  have ea := (hF.done 11 (109, SP.is (.slice (some ⟨b, o, none⟩) N c0)) (by rw [hD]; rfl) (ready_dep hk 11 (by kernel_rfl)))
                  have eb := (hF.done 12 (110, SP.is (.int .i64 (i : Int))) (by rw [hD]; rfl) (ready_dep hk 12 (by kernel_rfl)))
                  exact wpOp_wanted rfl (wanted_g (g := 2) (b := true) rfl rfl (hF.done 2 (100, SP.is (.bool true)) (by rw [hD]; rfl) (ready_dep hk 2 (by kernel_rfl))) (by rw [hF.size, hsz]; decide)) (wp_ixs 22 35 rfl b o N c0 i 8 ea eb HIN.out und_Ss info_S ⟨hl2 13, (hF.put 13 111 (SP.is (.pointer (some ⟨b, o + i * 8, none⟩))) (.pointer (some ⟨b, o + i * 8, none⟩)) (by rw [hD]; rfl) rfl (by rw [hD]; rfl) (by rw [hsz]; decide) (by rw [hl]; decide)), hb1⟩)
                · have hk3 := hk
                  have ea := (hF.done 13 (111, SP.is (.pointer (some ⟨b, o + i * 8, none⟩))) (by rw [hD]; rfl) (ready_dep hk 13 (by kernel_rfl)))
                  exact wpOp_wanted rfl (wanted_g (g := 2) (b := true) rfl rfl (hF.done 2 (100, SP.is (.bool true)) (by rw [hD]; rfl) (ready_dep hk 2 (by kernel_rfl))) (by rw [hF.size, hsz]; decide)) (wp_sf2 b (o + i * 8) rfl ea ⟨hl2 14, (hF.put 14 112 (SP.is (.pointer (some ⟨b, o + i * 8 + 2, none⟩))) (.pointer (some ⟨b, o + i * 8 + 2, none⟩)) (by rw [hD]; rfl) rfl (by rw [hD]; rfl) (by rw [hsz]; decide) (by rw [hl]; decide)), hb1⟩)
                · have hk3 := hk
                  have ea := (hF.done 14 (112, SP.is (.pointer (some ⟨b, o + i * 8 + 2, none⟩))) (by rw [hD]; rfl) (ready_dep hk 14 (by kernel_rfl)))
                  exact wpOp_wanted rfl (wanted_g (g := 2) (b := true) rfl rfl (hF.done 2 (100, SP.is (.bool true)) (by rw [hD]; rfl) (ready_dep hk 2 (by kernel_rfl))) (by rw [hF.size, hsz]; decide)) (wp_load_1 b (o + i * 8 + 2) (.int .i64 tk) rfl ea (run_load_in W b (o + i * 8 + 2) (.int .i64 tk) (HCT.out W hb1)) ⟨hl2 15, (hF.put 15 113 (SP.is (.int .i64 tk)) (.int .i64 tk) (by rw [hD]; rfl) rfl (by rw [hD]; rfl) (by rw [hsz]; decide) (by rw [hl]; decide)), hb1⟩)
                · have hk3 := hk
                  exact wpOp_wanted rfl (wanted_g (g := 2) (b := true) rfl rfl (hF.done 2 (100, SP.is (.bool true)) (by rw [hD]; rfl) (ready_dep hk 2 (by kernel_rfl))) (by rw [hF.size, hsz]; decide)) (wp_move_v (ac.eval (.tmp 0)) rfl rfl ⟨hl2 16, (hF.put 16 114 (SP.is (.slice (some ⟨b, o, none⟩) N c0)) (ac.eval (.tmp 0)) (by rw [hD]; rfl) (((hF.keep 0 (by rw [hD]; rfl)).trans zs0)) (by rw [hD]; rfl) (by rw [hsz]; decide) (by rw [hl]; decide)), hb1⟩)
                · have hk3 := hk
                  exact wpOp_wanted rfl (wanted_g (g := 2) (b := true) rfl rfl (hF.done 2 (100, SP.is (.bool true)) (by rw [hD]; rfl) (ready_dep hk 2 (by kernel_rfl))) (by rw [hF.size, hsz]; decide)) (wp_move_v (ac.eval (.tmp 7)) rfl rfl ⟨hl2 17, (hF.put 17 115 (SP.is (.int .i64 (i : Int))) (ac.eval (.tmp 7)) (by rw [hD]; rfl) (((hF.keep 7 (by rw [hD]; rfl)).trans zs7)) (by rw [hD]; rfl) (by rw [hsz]; decide) (by rw [hl]; decide)), hb1⟩)
                · have hk3 := hk
                  have ea := (hF.done 16 (114, SP.is (.slice (some ⟨b, o, none⟩) N c0)) (by rw [hD]; rfl) (ready_dep hk 16 (by kernel_rfl)))
                  have eb := (hF.done 17 (115, SP.is (.int .i64 (i : Int))) (by rw [hD]; rfl) (ready_dep hk 17 (by kernel_rfl)))
                  exact wpOp_wanted rfl (wanted_g (g := 2) (b := true) rfl rfl (hF.done 2 (100, SP.is (.bool true)) (by rw [hD]; rfl) (ready_dep hk 2 (by kernel_rfl))) (by rw [hF.size, hsz]; decide)) (wp_ixs 22 35 rfl b o N c0 i 8 ea eb HIN.out und_Ss info_S ⟨hl2 18, (hF.put 18 116 (SP.is (.pointer (some ⟨b, o + i * 8, none⟩))) (.pointer (some ⟨b, o + i * 8, none⟩)) (by rw [hD]; rfl) rfl (by rw [hD]; rfl) (by rw [hsz]; decide) (by rw [hl]; decide)), hb1⟩)
                · have hk3 := hk
                  have ea := (hF.done 18 (116, SP.is (.pointer (some ⟨b, o + i * 8, none⟩))) (by rw [hD]; rfl) (ready_dep hk 18 (by kernel_rfl)))
                  exact wpOp_wanted rfl (wanted_g (g := 2) (b := true) rfl rfl (hF.done 2 (100, SP.is (.bool true)) (by rw [hD]; rfl) (ready_dep hk 2 (by kernel_rfl))) (by rw [hF.size, hsz]; decide)) (wpR_sf3 b (o + i * 8) rfl ea ⟨hl2 19, (hF.put 19 117 (SP.is (.pointer (some ⟨b, o + i * 8 + 3, none⟩))) (.pointer (some ⟨b, o + i * 8 + 3, none⟩)) (by rw [hD]; rfl) rfl (by rw [hD]; rfl) (by rw [hsz]; decide) (by rw [hl]; decide)), hb1⟩)
                · have hk3 := hk
                  have ea := (hF.done 19 (117, SP.is (.pointer (some ⟨b, o + i * 8 + 3, none⟩))) (by rw [hD]; rfl) (ready_dep hk 19 (by kernel_rfl)))
                  exact wpOp_wanted rfl (wanted_g (g := 2) (b := true) rfl rfl (hF.done 2 (100, SP.is (.bool true)) (by rw [hD]; rfl) (ready_dep hk 2 (by kernel_rfl))) (by rw [hF.size, hsz]; decide)) (wp_load_1 b (o + i * 8 + 3) (.int .i64 ix) rfl ea (run_load_in W b (o + i * 8 + 3) (.int .i64 ix) (HCX.out W hb1)) ⟨hl2 20, (hF.put 20 118 (SP.is (.int .i64 ix)) (.int .i64 ix) (by rw [hD]; rfl) rfl (by rw [hD]; rfl) (by rw [hsz]; decide) (by rw [hl]; decide)), hb1⟩)
                · have hk3 := hk
                  have ea := (hF.done 6 (104, SP.is (.pointer (some ⟨pv, 0, none⟩))) (by rw [hD]; rfl) (ready_dep hk 6 (by kernel_rfl)))
                  have eb := (hF.done 10 (108, SP.is (.pointer (some ⟨qv, 0, none⟩))) (by rw [hD]; rfl) (ready_dep hk 10 (by kernel_rfl)))
                  have ec := (hF.done 15 (113, SP.is (.int .i64 tk)) (by rw [hD]; rfl) (ready_dep hk 15 (by kernel_rfl)))
                  have ed := (hF.done 20 (118, SP.is (.int .i64 ix)) (by rw [hD]; rfl) (ready_dep hk 20 (by kernel_rfl)))
                  refine wpOp_wanted rfl (wanted_g (g := 2) (b := true) rfl rfl (hF.done 2 (100, SP.is (.bool true)) (by rw [hD]; rfl) (ready_dep hk 2 (by kernel_rfl))) (by rw [hF.size, hsz]; decide)) (wp_fcall_v 16 #[.pointer (some ⟨pv, 0, none⟩), .pointer (some ⟨qv, 0, none⟩), .int .i64 tk, .int .i64 ix] rfl rfl (by show [ac.eval (.tmp 104), ac.eval (.tmp 108), ac.eval (.tmp 113), ac.eval (.tmp 118)] = _; rw [show ac.eval (.tmp 104) = _ from ea, show ac.eval (.tmp 108) = _ from eb, show ac.eval (.tmp 113) = _ from ec, show ac.eval (.tmp 118) = _ from ed]) (by go_simp) ((HAL.out W hb1).mono ?_))
                  rintro e W2 ⟨rfl, hB⟩
                  exact ⟨_, rfl, hl2 21, ((hF.world hB).put 21 119 (SP.is (.bool true)) (.bool true) (by rw [hD]; rfl) rfl (by rw [hD]; rfl) (by rw [hsz]; decide) (by rw [hl]; decide)), hb1.trans (hB.mono hb1.size)⟩
                · have hk3 := hk
                  have ea := (hF.done 21 (119, SP.is (.bool true)) (by rw [hD]; rfl) (ready_dep hk 21 (by kernel_rfl)))
                  exact wpOp_wanted rfl (wanted_g (g := 2) (b := true) rfl rfl (hF.done 2 (100, SP.is (.bool true)) (by rw [hD]; rfl) (ready_dep hk 2 (by kernel_rfl))) (by rw [hF.size, hsz]; decide)) (wpR_not rfl true ea ⟨hl2 22, (hF.put 22 120 (SP.is (.bool false)) (.bool false) (by rw [hD]; rfl) rfl (by rw [hD]; rfl) (by rw [hsz]; decide) (by rw [hl]; decide)), hb1⟩)
                · have hk3 := hk
                  have ea := (hF.done 2 (100, SP.is (.bool true)) (by rw [hD]; rfl) (ready_dep hk 2 (by kernel_rfl)))
                  have eb := (hF.done 22 (120, SP.is (.bool false)) (by rw [hD]; rfl) (ready_dep hk 22 (by kernel_rfl)))
                  exact wpOp_plain rfl rfl (wpR_pickT (.bool false) rfl ea eb ⟨hl2 23, (hF.put 23 121 (SP.is (.bool false)) (.bool false) (by rw [hD]; rfl) rfl (by rw [hD]; rfl) (by rw [hsz]; decide) (by rw [hl]; decide)), hb1⟩)
              · clear hb1  
                intro listed ac W hI hr
                obtain ⟨hl, hF, hb1⟩ := hI
                have hall := all_listed (by kernel_rfl) hl hr
                have h98 : ac.eval (.tmp 98) = .int .i64 k := hF.done 0 (98, SP.is (.int .i64 k)) (by rw [hD]; rfl) (hall 0 (by decide))
                have h99 : ac.eval (.tmp 99) = .bool true := hF.done 1 (99, SP.is (.bool true)) (by rw [hD]; rfl) (hall 1 (by decide))
                have h100 : ac.eval (.tmp 100) = .bool true := hF.done 2 (100, SP.is (.bool true)) (by rw [hD]; rfl) (hall 2 (by decide))
                have h101 : ac.eval (.tmp 101) = .slice (some ⟨g5, 0, none⟩) m c5 := hF.done 3 (101, SP.is (.slice (some ⟨g5, 0, none⟩) m c5)) (by rw [hD]; rfl) (hall 3 (by decide))
                have h102 : ac.eval (.tmp 102) = .int .i64 (n : Int) := hF.done 4 (102, SP.is (.int .i64 (n : Int))) (by rw [hD]; rfl) (hall 4 (by decide))
                have h103 : ac.eval (.tmp 103) = .pointer (some ⟨g5, 0 + n * 1, none⟩) := hF.done 5 (103, SP.is (.pointer (some ⟨g5, 0 + n * 1, none⟩))) (by rw [hD]; rfl) (hall 5 (by decide))
                have h104 : ac.eval (.tmp 104) = .pointer (some ⟨pv, 0, none⟩) := hF.done 6 (104, SP.is (.pointer (some ⟨pv, 0, none⟩))) (by rw [hD]; rfl) (hall 6 (by decide))
                have h105 : ac.eval (.tmp 105) = .slice (some ⟨g6, 0, none⟩) m c6 := hF.done 7 (105, SP.is (.slice (some ⟨g6, 0, none⟩) m c6)) (by rw [hD]; rfl) (hall 7 (by decide))
                have h106 : ac.eval (.tmp 106) = .int .i64 (n : Int) := hF.done 8 (106, SP.is (.int .i64 (n : Int))) (by rw [hD]; rfl) (hall 8 (by decide))
                have h107 : ac.eval (.tmp 107) = .pointer (some ⟨g6, 0 + n * 1, none⟩) := hF.done 9 (107, SP.is (.pointer (some ⟨g6, 0 + n * 1, none⟩))) (by rw [hD]; rfl) (hall 9 (by decide))
                have h108 : ac.eval (.tmp 108) = .pointer (some ⟨qv, 0, none⟩) := hF.done 10 (108, SP.is (.pointer (some ⟨qv, 0, none⟩))) (by rw [hD]; rfl) (hall 10 (by decide))
                have h109 : ac.eval (.tmp 109) = .slice (some ⟨b, o, none⟩) N c0 := hF.done 11 (109, SP.is (.slice (some ⟨b, o, none⟩) N c0)) (by rw [hD]; rfl) (hall 11 (by decide))
                have h110 : ac.eval (.tmp 110) = .int .i64 (i : Int) := hF.done 12 (110, SP.is (.int .i64 (i : Int))) (by rw [hD]; rfl) (hall 12 (by decide))
                have h111 : ac.eval (.tmp 111) = .pointer (some ⟨b, o + i * 8, none⟩) := hF.done 13 (111, SP.is (.pointer (some ⟨b, o + i * 8, none⟩))) (by rw [hD]; rfl) (hall 13 (by decide))
                have h112 : ac.eval (.tmp 112) = .pointer (some ⟨b, o + i * 8 + 2, none⟩) := hF.done 14 (112, SP.is (.pointer (some ⟨b, o + i * 8 + 2, none⟩))) (by rw [hD]; rfl) (hall 14 (by decide))
                have h113 : ac.eval (.tmp 113) = .int .i64 tk := hF.done 15 (113, SP.is (.int .i64 tk)) (by rw [hD]; rfl) (hall 15 (by decide))
                have h114 : ac.eval (.tmp 114) = .slice (some ⟨b, o, none⟩) N c0 := hF.done 16 (114, SP.is (.slice (some ⟨b, o, none⟩) N c0)) (by rw [hD]; rfl) (hall 16 (by decide))
                have h115 : ac.eval (.tmp 115) = .int .i64 (i : Int) := hF.done 17 (115, SP.is (.int .i64 (i : Int))) (by rw [hD]; rfl) (hall 17 (by decide))
                have h116 : ac.eval (.tmp 116) = .pointer (some ⟨b, o + i * 8, none⟩) := hF.done 18 (116, SP.is (.pointer (some ⟨b, o + i * 8, none⟩))) (by rw [hD]; rfl) (hall 18 (by decide))
                have h117 : ac.eval (.tmp 117) = .pointer (some ⟨b, o + i * 8 + 3, none⟩) := hF.done 19 (117, SP.is (.pointer (some ⟨b, o + i * 8 + 3, none⟩))) (by rw [hD]; rfl) (hall 19 (by decide))
                have h118 : ac.eval (.tmp 118) = .int .i64 ix := hF.done 20 (118, SP.is (.int .i64 ix)) (by rw [hD]; rfl) (hall 20 (by decide))
                have h119 : ac.eval (.tmp 119) = .bool true := hF.done 21 (119, SP.is (.bool true)) (by rw [hD]; rfl) (hall 21 (by decide))
                have h120 : ac.eval (.tmp 120) = .bool false := hF.done 22 (120, SP.is (.bool false)) (by rw [hD]; rfl) (hall 22 (by decide))
                have h121 : ac.eval (.tmp 121) = .bool false := hF.done 23 (121, SP.is (.bool false)) (by rw [hD]; rfl) (hall 23 (by decide))
                have ea := hF.lay [(98, .int .i64 k), (99, .bool true), (100, .bool true), (101, .slice (some ⟨g5, 0, none⟩) m c5), (102, .int .i64 (n : Int)), (103, .pointer (some ⟨g5, 0 + n * 1, none⟩)), (104, .pointer (some ⟨pv, 0, none⟩)), (105, .slice (some ⟨g6, 0, none⟩) m c6), (106, .int .i64 (n : Int)), (107, .pointer (some ⟨g6, 0 + n * 1, none⟩)), (108, .pointer (some ⟨qv, 0, none⟩)), (109, .slice (some ⟨b, o, none⟩) N c0), (110, .int .i64 (i : Int)), (111, .pointer (some ⟨b, o + i * 8, none⟩)), (112, .pointer (some ⟨b, o + i * 8 + 2, none⟩)), (113, .int .i64 tk), (114, .slice (some ⟨b, o, none⟩) N c0), (115, .int .i64 (i : Int)), (116, .pointer (some ⟨b, o + i * 8, none⟩)), (117, .pointer (some ⟨b, o + i * 8 + 3, none⟩)), (118, .int .i64 ix), (119, .bool true), (120, .bool false), (121, .bool false)] (by rw [hD, hsz]; rfl) (by simp only [List.forall_mem_cons, List.not_mem_nil, false_implies, implies_true, and_true]; exact ⟨h98, h99, h100, h101, h102, h103, h104, h105, h106, h107, h108, h109, h110, h111, h112, h113, h114, h115, h116, h117, h118, h119, h120, h121⟩)
                rw [ha0] at ea
                simp only [List.foldl_cons, List.foldl_nil, List.setIfInBounds_toArray, List.set_cons_zero, List.set_cons_succ] at ea
                clear hF hall hr hl hD  zs0 zs5 zs6 zs7 zs8 zs12 ha0 hsz h98 h99 h100 h101 h102 h103 h104 h105 h106 h107 h108 h109 h110 h111 h112 h113 h114 h115 h116 h117 h118 h119 h120 h121
                subst ea
                have O9 : Hid (Oj w W (i + 1) (c + 2) L2 K2 (.slice (some ⟨g5, 0, none⟩) m c5) (.slice (some ⟨g6, 0, none⟩) m c6)) := HOJ.out.be hb1
                clear hb1
                go_wp2_with fail
                exact ⟨⟨i + 1, c + 2, _, _, HIN.out, HCI.out, by go_num, O9⟩, by simp [intOf]; have := HIN.out; omega⟩
            · have HGT : Hid (decide (7 < k) = false) := decide_eq_false hk8
              clear hk8
              refine wp_named fun a0 ha0 => ?_
              have hsz : a0.tmps.size = 154 := by rw [ha0]; rfl
              have zs12 : a0.eval (.tmp 12) = .int .i64 k := by rw [ha0]; rfl
              obtain ⟨D, hD⟩ : ∃ D : List (Tmp × SP), D = [(98, SP.is (.int .i64 k)), (99, SP.is (.bool false)), (100, SP.is (.bool false)), (101, SP.is (undef)), (102, SP.is (undef)), (103, SP.is (undef)), (104, SP.is (undef)), (105, SP.is (undef)), (106, SP.is (undef)), (107, SP.is (undef)), (108, SP.is (undef)), (109, SP.is (undef)), (110, SP.is (undef)), (111, SP.is (undef)), (112, SP.is (undef)), (113, SP.is (undef)), (114, SP.is (undef)), (115, SP.is (undef)), (116, SP.is (undef)), (117, SP.is (undef)), (118, SP.is (undef)), (119, SP.is (undef)), (120, SP.is (undef)), (121, SP.is (.bool false))] := ⟨_, rfl⟩
              refine wp_region_down (by kernel_rfl) (fun listed ac W => listed.size = 24 ∧ Fp D a0 listed ac W ∧ Below Y.heap.size Y W) ?_ ?_ ?_
              · exact ⟨by simp, Fp.start D a0 _ _, Below.drew hb1⟩
              · clear ha0 hb1  
                intro listed ac W k hI hdn hk
                obtain ⟨hl, hF, hb1⟩ := hI
                have hk1 : k < 24 := List.mem_range.1 (List.mem_filter.1 hk).1
                have hl2 : ∀ j, (listed.setIfInBounds j true).size = 24 := fun j => by rw [Array.size_setIfInBounds]; exact hl
                rcases (show k = 0 ∨ k = 1 ∨ k = 2 ∨ k = 3 ∨ k = 4 ∨ k = 5 ∨ k = 6 ∨ k = 7 ∨ k = 8 ∨ k = 9 ∨ k = 10 ∨ k = 11 ∨ k = 12 ∨ k = 13 ∨ k = 14 ∨ k = 15 ∨ k = 16 ∨ k = 17 ∨ k = 18 ∨ k = 19 ∨ k = 20 ∨ k = 21 ∨ k = 22 ∨ k = 23 by omega) with rfl | rfl | rfl | rfl | rfl | rfl | rfl | rfl | rfl | rfl | rfl | rfl | rfl | rfl | rfl | rfl | rfl | rfl | rfl | rfl | rfl | rfl | rfl | rfl
                · have hk3 := hk
                  exact wpOp_plain rfl rfl (wp_move_v (ac.eval (.tmp 12)) rfl rfl ⟨hl2 0, (hF.put 0 98 (SP.is (.int .i64 k)) (ac.eval (.tmp 12)) (by rw [hD]; rfl) (((hF.keep 12 (by rw [hD]; rfl)).trans zs12)) (by rw [hD]; rfl) (by rw [hsz]; decide) (by rw [hl]; decide)), hb1⟩)
                · have hk3 := hk
                  have ea := (hF.done 0 (98, SP.is (.int .i64 k)) (by rw [hD]; rfl) (ready_dep hk 0 (by kernel_rfl)))
                  exact wpOp_plain rfl rfl (wpP_gtr rfl k 7 false HGT.out ea rfl ⟨hl2 1, (hF.put 1 99 (SP.is (.bool false)) (.bool false) (by rw [hD]; rfl) rfl (by rw [hD]; rfl) (by rw [hsz]; decide) (by rw [hl]; decide)), hb1⟩)
                · have hk3 := hk
                  exact wpOp_plain rfl rfl (wp_move_v (ac.eval (.tmp 99)) rfl rfl ⟨hl2 2, (hF.put 2 100 (SP.is (.bool false)) (ac.eval (.tmp 99)) (by rw [hD]; rfl) ((hF.done 1 (99, SP.is (.bool false)) (by rw [hD]; rfl) (ready_dep hk 1 (by kernel_rfl)))) (by rw [hD]; rfl) (by rw [hsz]; decide) (by rw [hl]; decide)), hb1⟩)
                · have hk3 := hk
                  exact wpOp_off rfl (unwanted_g (g := 2) (b := true) rfl rfl (hF.done 2 (100, SP.is (.bool false)) (by rw [hD]; rfl) (ready_dep hk 2 (by kernel_rfl))) (by rw [hF.size, hsz]; decide)) ⟨hl2 3, (hF.put 3 101 (SP.is (undef)) undef (by rw [hD]; rfl) rfl (by rw [hD]; rfl) (by rw [hsz]; decide) (by rw [hl]; decide)), hb1⟩
                · have hk3 := hk
                  exact wpOp_off rfl (unwanted_g (g := 2) (b := true) rfl rfl (hF.done 2 (100, SP.is (.bool false)) (by rw [hD]; rfl) (ready_dep hk 2 (by kernel_rfl))) (by rw [hF.size, hsz]; decide)) ⟨hl2 4, (hF.put 4 102 (SP.is (undef)) undef (by rw [hD]; rfl) rfl (by rw [hD]; rfl) (by rw [hsz]; decide) (by rw [hl]; decide)), hb1⟩
                · have hk3 := hk
                  exact wpOp_off rfl (unwanted_g (g := 2) (b := true) rfl rfl (hF.done 2 (100, SP.is (.bool false)) (by rw [hD]; rfl) (ready_dep hk 2 (by kernel_rfl))) (by rw [hF.size, hsz]; decide)) ⟨hl2 5, (hF.put 5 103 (SP.is (undef)) undef (by rw [hD]; rfl) rfl (by rw [hD]; rfl) (by rw [hsz]; decide) (by rw [hl]; decide)), hb1⟩
                · have hk3 := hk
                  exact wpOp_off rfl (unwanted_g (g := 2) (b := true) rfl rfl (hF.done 2 (100, SP.is (.bool false)) (by rw [hD]; rfl) (ready_dep hk 2 (by kernel_rfl))) (by rw [hF.size, hsz]; decide)) ⟨hl2 6, (hF.put 6 104 (SP.is (undef)) undef (by rw [hD]; rfl) rfl (by rw [hD]; rfl) (by rw [hsz]; decide) (by rw [hl]; decide)), hb1⟩
                · have hk3 := hk
                  exact wpOp_off rfl (unwanted_g (g := 2) (b := true) rfl rfl (hF.done 2 (100, SP.is (.bool false)) (by rw [hD]; rfl) (ready_dep hk 2 (by kernel_rfl))) (by rw [hF.size, hsz]; decide)) ⟨hl2 7, (hF.put 7 105 (SP.is (undef)) undef (by rw [hD]; rfl) rfl (by rw [hD]; rfl) (by rw [hsz]; decide) (by rw [hl]; decide)), hb1⟩
                · have hk3 := hk
                  exact wpOp_off rfl (unwanted_g (g := 2) (b := true) rfl rfl (hF.done 2 (100, SP.is (.bool false)) (by rw [hD]; rfl) (ready_dep hk 2 (by kernel_rfl))) (by rw [hF.size, hsz]; decide)) ⟨hl2 8, (hF.put 8 106 (SP.is (undef)) undef (by rw [hD]; rfl) rfl (by rw [hD]; rfl) (by rw [hsz]; decide) (by rw [hl]; decide)), hb1⟩
                · have hk3 := hk
                  exact wpOp_off rfl (unwanted_g (g := 2) (b := true) rfl rfl (hF.done 2 (100, SP.is (.bool false)) (by rw [hD]; rfl) (ready_dep hk 2 (by kernel_rfl))) (by rw [hF.size, hsz]; decide)) ⟨hl2 9, (hF.put 9 107 (SP.is (undef)) undef (by rw [hD]; rfl) rfl (by rw [hD]; rfl) (by rw [hsz]; decide) (by rw [hl]; decide)), hb1⟩
                · have hk3 := hk
                  exact wpOp_off rfl (unwanted_g (g := 2) (b := true) rfl rfl (hF.done 2 (100, SP.is (.bool false)) (by rw [hD]; rfl) (ready_dep hk 2 (by kernel_rfl))) (by rw [hF.size, hsz]; decide)) ⟨hl2 10, (hF.put 10 108 (SP.is (undef)) undef (by rw [hD]; rfl) rfl (by rw [hD]; rfl) (by rw [hsz]; decide) (by rw [hl]; decide)), hb1⟩
                · have hk3 := hk
                  exact wpOp_off rfl (unwanted_g (g := 2) (b := true) rfl rfl (hF.done 2 (100, SP.is (.bool false)) (by rw [hD]; rfl) (ready_dep hk 2 (by kernel_rfl))) (by rw [hF.size, hsz]; decide)) ⟨hl2 11, (hF.put 11 109 (SP.is (undef)) undef (by rw [hD]; rfl) rfl (by rw [hD]; rfl) (by rw [hsz]; decide) (by rw [hl]; decide)), hb1⟩
                · have hk3 := hk
                  exact wpOp_off rfl (unwanted_g (g := 2) (b := true) rfl rfl (hF.done 2 (100, SP.is (.bool false)) (by rw [hD]; rfl) (ready_dep hk 2 (by kernel_rfl))) (by rw [hF.size, hsz]; decide)) ⟨hl2 12, (hF.put 12 110 (SP.is (undef)) undef (by rw [hD]; rfl) rfl (by rw [hD]; rfl) (by rw [hsz]; decide) (by rw [hl]; decide)), hb1⟩
                · have hk3 := hk
                  exact wpOp_off rfl (unwanted_g (g := 2) (b := true) rfl rfl (hF.done 2 (100, SP.is (.bool false)) (by rw [hD]; rfl) (ready_dep hk 2 (by kernel_rfl))) (by rw [hF.size, hsz]; decide)) ⟨hl2 13, (hF.put 13 111 (SP.is (undef)) undef (by rw [hD]; rfl) rfl (by rw [hD]; rfl) (by rw [hsz]; decide) (by rw [hl]; decide)), hb1⟩
                · have hk3 := hk
                  exact wpOp_off rfl (unwanted_g (g := 2) (b := true) rfl rfl (hF.done 2 (100, SP.is (.bool false)) (by rw [hD]; rfl) (ready_dep hk 2 (by kernel_rfl))) (by rw [hF.size, hsz]; decide)) ⟨hl2 14, (hF.put 14 112 (SP.is (undef)) undef (by rw [hD]; rfl) rfl (by rw [hD]; rfl) (by rw [hsz]; decide) (by rw [hl]; decide)), hb1⟩
                · have hk3 := hk
                  exact wpOp_off rfl (unwanted_g (g := 2) (b := true) rfl rfl (hF.done 2 (100, SP.is (.bool false)) (by rw [hD]; rfl) (ready_dep hk 2 (by kernel_rfl))) (by rw [hF.size, hsz]; decide)) ⟨hl2 15, (hF.put 15 113 (SP.is (undef)) undef (by rw [hD]; rfl) rfl (by rw [hD]; rfl) (by rw [hsz]; decide) (by rw [hl]; decide)), hb1⟩
                · have hk3 := hk
                  exact wpOp_off rfl (unwanted_g (g := 2) (b := true) rfl rfl (hF.done 2 (100, SP.is (.bool false)) (by rw [hD]; rfl) (ready_dep hk 2 (by kernel_rfl))) (by rw [hF.size, hsz]; decide)) ⟨hl2 16, (hF.put 16 114 (SP.is (undef)) undef (by rw [hD]; rfl) rfl (by rw [hD]; rfl) (by rw [hsz]; decide) (by rw [hl]; decide)), hb1⟩
                · have hk3 := hk
                  exact wpOp_off rfl (unwanted_g (g := 2) (b := true) rfl rfl (hF.done 2 (100, SP.is (.bool false)) (by rw [hD]; rfl) (ready_dep hk 2 (by kernel_rfl))) (by rw [hF.size, hsz]; decide)) ⟨hl2 17, (hF.put 17 115 (SP.is (undef)) undef (by rw [hD]; rfl) rfl (by rw [hD]; rfl) (by rw [hsz]; decide) (by rw [hl]; decide)), hb1⟩
                · have hk3 := hk
                  exact wpOp_off rfl (unwanted_g (g := 2) (b := true) rfl rfl (hF.done 2 (100, SP.is (.bool false)) (by rw [hD]; rfl) (ready_dep hk 2 (by kernel_rfl))) (by rw [hF.size, hsz]; decide)) ⟨hl2 18, (hF.put 18 116 (SP.is (undef)) undef (by rw [hD]; rfl) rfl (by rw [hD]; rfl) (by rw [hsz]; decide) (by rw [hl]; decide)), hb1⟩
                · have hk3 := hk
                  exact wpOp_off rfl (unwanted_g (g := 2) (b := true) rfl rfl (hF.done 2 (100, SP.is (.bool false)) (by rw [hD]; rfl) (ready_dep hk 2 (by kernel_rfl))) (by rw [hF.size, hsz]; decide)) ⟨hl2 19, (hF.put 19 117 (SP.is (undef)) undef (by rw [hD]; rfl) rfl (by rw [hD]; rfl) (by rw [hsz]; decide) (by rw [hl]; decide)), hb1⟩
                · have hk3 := hk
                  exact wpOp_off rfl (unwanted_g (g := 2) (b := true) rfl rfl (hF.done 2 (100, SP.is (.bool false)) (by rw [hD]; rfl) (ready_dep hk 2 (by kernel_rfl))) (by rw [hF.size, hsz]; decide)) ⟨hl2 20, (hF.put 20 118 (SP.is (undef)) undef (by rw [hD]; rfl) rfl (by rw [hD]; rfl) (by rw [hsz]; decide) (by rw [hl]; decide)), hb1⟩
                · have hk3 := hk
                  exact wpOp_off rfl (unwanted_g (g := 2) (b := true) rfl rfl (hF.done 2 (100, SP.is (.bool false)) (by rw [hD]; rfl) (ready_dep hk 2 (by kernel_rfl))) (by rw [hF.size, hsz]; decide)) ⟨hl2 21, (hF.put 21 119 (SP.is (undef)) undef (by rw [hD]; rfl) rfl (by rw [hD]; rfl) (by rw [hsz]; decide) (by rw [hl]; decide)), hb1⟩
                · have hk3 := hk
                  exact wpOp_off rfl (unwanted_g (g := 2) (b := true) rfl rfl (hF.done 2 (100, SP.is (.bool false)) (by rw [hD]; rfl) (ready_dep hk 2 (by kernel_rfl))) (by rw [hF.size, hsz]; decide)) ⟨hl2 22, (hF.put 22 120 (SP.is (undef)) undef (by rw [hD]; rfl) rfl (by rw [hD]; rfl) (by rw [hsz]; decide) (by rw [hl]; decide)), hb1⟩
                · have hk3 := hk
                  have ea := (hF.done 2 (100, SP.is (.bool false)) (by rw [hD]; rfl) (ready_dep hk 2 (by kernel_rfl)))
                  exact wpOp_plain rfl rfl (wpR_pickF (.bool false) rfl ea rfl ⟨hl2 23, (hF.put 23 121 (SP.is (.bool false)) (.bool false) (by rw [hD]; rfl) rfl (by rw [hD]; rfl) (by rw [hsz]; decide) (by rw [hl]; decide)), hb1⟩)
              · clear hb1  
                intro listed ac W hI hr
                obtain ⟨hl, hF, hb1⟩ := hI
                have hall := all_listed (by kernel_rfl) hl hr
                have h98 : ac.eval (.tmp 98) = .int .i64 k := hF.done 0 (98, SP.is (.int .i64 k)) (by rw [hD]; rfl) (hall 0 (by decide))
                have h99 : ac.eval (.tmp 99) = .bool false := hF.done 1 (99, SP.is (.bool false)) (by rw [hD]; rfl) (hall 1 (by decide))
                have h100 : ac.eval (.tmp 100) = .bool false := hF.done 2 (100, SP.is (.bool false)) (by rw [hD]; rfl) (hall 2 (by decide))
                have h101 : ac.eval (.tmp 101) = undef := hF.done 3 (101, SP.is (undef)) (by rw [hD]; rfl) (hall 3 (by decide))
                have h102 : ac.eval (.tmp 102) = undef := hF.done 4 (102, SP.is (undef)) (by rw [hD]; rfl) (hall 4 (by decide))
                have h103 : ac.eval (.tmp 103) = undef := hF.done 5 (103, SP.is (undef)) (by rw [hD]; rfl) (hall 5 (by decide))
                have h104 : ac.eval (.tmp 104) = undef := hF.done 6 (104, SP.is (undef)) (by rw [hD]; rfl) (hall 6 (by decide))
                have h105 : ac.eval (.tmp 105) = undef := hF.done 7 (105, SP.is (undef)) (by rw [hD]; rfl) (hall 7 (by decide))
                have h106 : ac.eval (.tmp 106) = undef := hF.done 8 (106, SP.is (undef)) (by rw [hD]; rfl) (hall 8 (by decide))
                have h107 : ac.eval (.tmp 107) = undef := hF.done 9 (107, SP.is (undef)) (by rw [hD]; rfl) (hall 9 (by decide))
                have h108 : ac.eval (.tmp 108) = undef := hF.done 10 (108, SP.is (undef)) (by rw [hD]; rfl) (hall 10 (by decide))
                have h109 : ac.eval (.tmp 109) = undef := hF.done 11 (109, SP.is (undef)) (by rw [hD]; rfl) (hall 11 (by decide))
                have h110 : ac.eval (.tmp 110) = undef := hF.done 12 (110, SP.is (undef)) (by rw [hD]; rfl) (hall 12 (by decide))
                have h111 : ac.eval (.tmp 111) = undef := hF.done 13 (111, SP.is (undef)) (by rw [hD]; rfl) (hall 13 (by decide))
                have h112 : ac.eval (.tmp 112) = undef := hF.done 14 (112, SP.is (undef)) (by rw [hD]; rfl) (hall 14 (by decide))
                have h113 : ac.eval (.tmp 113) = undef := hF.done 15 (113, SP.is (undef)) (by rw [hD]; rfl) (hall 15 (by decide))
                have h114 : ac.eval (.tmp 114) = undef := hF.done 16 (114, SP.is (undef)) (by rw [hD]; rfl) (hall 16 (by decide))
                have h115 : ac.eval (.tmp 115) = undef := hF.done 17 (115, SP.is (undef)) (by rw [hD]; rfl) (hall 17 (by decide))
                have h116 : ac.eval (.tmp 116) = undef := hF.done 18 (116, SP.is (undef)) (by rw [hD]; rfl) (hall 18 (by decide))
                have h117 : ac.eval (.tmp 117) = undef := hF.done 19 (117, SP.is (undef)) (by rw [hD]; rfl) (hall 19 (by decide))
                have h118 : ac.eval (.tmp 118) = undef := hF.done 20 (118, SP.is (undef)) (by rw [hD]; rfl) (hall 20 (by decide))
                have h119 : ac.eval (.tmp 119) = undef := hF.done 21 (119, SP.is (undef)) (by rw [hD]; rfl) (hall 21 (by decide))
                have h120 : ac.eval (.tmp 120) = undef := hF.done 22 (120, SP.is (undef)) (by rw [hD]; rfl) (hall 22 (by decide))
                have h121 : ac.eval (.tmp 121) = .bool false := hF.done 23 (121, SP.is (.bool false)) (by rw [hD]; rfl) (hall 23 (by decide))
                have ea := hF.lay [(98, .int .i64 k), (99, .bool false), (100, .bool false), (101, undef), (102, undef), (103, undef), (104, undef), (105, undef), (106, undef), (107, undef), (108, undef), (109, undef), (110, undef), (111, undef), (112, undef), (113, undef), (114, undef), (115, undef), (116, undef), (117, undef), (118, undef), (119, undef), (120, undef), (121, .bool false)] (by rw [hD, hsz]; rfl) (by simp only [List.forall_mem_cons, List.not_mem_nil, false_implies, implies_true, and_true]; exact ⟨h98, h99, h100, h101, h102, h103, h104, h105, h106, h107, h108, h109, h110, h111, h112, h113, h114, h115, h116, h117, h118, h119, h120, h121⟩)
                rw [ha0] at ea
                simp only [List.foldl_cons, List.foldl_nil, List.setIfInBounds_toArray, List.set_cons_zero, List.set_cons_succ] at ea
                clear hF hall hr hl hD  zs12 ha0 hsz h98 h99 h100 h101 h102 h103 h104 h105 h106 h107 h108 h109 h110 h111 h112 h113 h114 h115 h116 h117 h118 h119 h120 h121
                subst ea
                have O9 : Hid (Oj w W (i + 1) (c + 2) L2 K2 (.slice (some ⟨g5, 0, none⟩) m c5) (.slice (some ⟨g6, 0, none⟩) m c6)) := HOJ.out.be hb1
                clear hb1
                go_wp2_with fail
                exact ⟨⟨i + 1, c + 2, _, _, HIN.out, HCI.out, by go_num, O9⟩, by simp [intOf]; have := HIN.out; omega⟩
    · obtain rfl : i = N := by omega
      have HW := WW
      clear hiN hi hci
      obtain ⟨m, hm⟩ : ∃ m, m = L.length := ⟨_, rfl⟩
      have HML : Hid (m = L.length) := hm
      obtain ⟨g5, c5, g6, c6, -, -, rfl, rfl, -, -⟩ := HW.out.at (n := 0) (by have := HW.out.l1; omega)
      rw [← hm] at HW ⊢
      have hm6 : m ≤ 6 := by rw [hm]; exact HW.out.l6
      have hib : i < 2199023255500 := HNB.out
      clear hm WW
      go_wp2_with fail
      go_loopw [14] (fun v14 wq => ∃ n : Nat, n ≤ m ∧ v14 = .int .i64 (n : Int) ∧ Below wr.heap.size wr wq) (fun v14 _ => m - (intOf v14).toNat)
      case atStart => exact ⟨0, Nat.zero_le _, rfl, Below.refl _ _⟩
      case round =>
        rename World => wq
        obtain ⟨n, hn, rfl, hbq⟩ := hrel
        by_cases hnm : n < m
        · obtain ⟨-, -, -, -, u, ee, -, -, hu, he⟩ := HW.out.at (n := n) (by rw [← HML.out]; exact hnm)
          obtain ⟨pv, hpv⟩ : ∃ p, p = u.p := ⟨_, rfl⟩
          obtain ⟨qv, hqv⟩ : ∃ p, p = ee.q := ⟨_, rfl⟩
          have HU : Hid (L[n]? = some u) := hu
          have HE : Hid (K[n]? = some ee) := he
          have HPS : Hid ((L.map Ve.p)[n]? = some pv) := by show _ = _; rw [List.getElem?_map, hu, hpv]; rfl
          have HQS : Hid ((K.map Re.q)[n]? = some qv) := by show _ = _; rw [List.getElem?_map, he, hqv]; rfl
          have HPV : Hid (pv = u.p ∧ qv = ee.q) := ⟨hpv, hqv⟩
          have HNM : Hid (n < m) := hnm
          have HBQ : Hid (Below wr.heap.size wr wq) := hbq
          clear hu he hpv hqv hn hbq
          go_wp2_with fail
          go_loopw [15] (fun v15 wq2 => ∃ j : Nat, j ≤ i ∧ v15 = .int .i64 (j : Int) ∧ Below wr.heap.size wr wq2) (fun v15 _ => i - (intOf v15).toNat)
          case atStart => exact ⟨0, Nat.zero_le _, rfl, HBQ.out⟩
          case round =>
            rename World => wq2
            obtain ⟨j, hj, rfl, hb2⟩ := hrel
            have HB2 : Hid (Below wr.heap.size wr wq2) := hb2
            by_cases hji : j < i
            · obtain ⟨r, hr⟩ : ∃ r, l[j]? = some r := ⟨_, List.getElem?_eq_getElem (by rw [← HNl.out]; exact hji)⟩
              obtain ⟨hok, b, o, hA0, hrg0⟩ := HS.out j r hr
              subst hA0
              obtain ⟨tk, htk⟩ : ∃ x, x = r.tk := ⟨_, rfl⟩
              obtain ⟨ix, hix⟩ : ∃ x, x = r.ix := ⟨_, rfl⟩
              have HJN : Hid (j < i) := hji
              have HBW : Hid (∀ W, Below wq2.heap.size wq2 W → Oj w W i c L K (.slice (some ⟨g5, 0, none⟩) m c5) (.slice (some ⟨g6, 0, none⟩) m c6)) := fun W h => (HW.out.be HB2.out).be h
              have HC5 : Hid (∀ W, Below wq2.heap.size wq2 W → W.cell? ⟨g5, 0 + n * 1, none⟩ = some (.pointer (some ⟨pv, 0, none⟩))) := fun W h => by rw [Nat.zero_add, Nat.mul_one]; exact (HBW.out W h).oq.cell5 HPS.out
              have HC6 : Hid (∀ W, Below wq2.heap.size wq2 W → W.cell? ⟨g6, 0 + n * 1, none⟩ = some (.pointer (some ⟨qv, 0, none⟩))) := fun W h => by rw [Nat.zero_add, Nat.mul_one]; exact (HBW.out W h).oq.cell6 HQS.out
              have HCT : Hid (∀ W, Below wq2.heap.size wq2 W → W.cell? ⟨b, o + j * 8 + 2, none⟩ = some (.int .i64 tk)) := fun W h => by rw [htk]; exact (range_be hrg0 (HBW.out W h).oq.vs.be) 2 (.int .i64 r.tk) rfl
              have HCX : Hid (∀ W, Below wq2.heap.size wq2 W → W.cell? ⟨b, o + j * 8 + 3, none⟩ = some (.int .i64 ix)) := fun W h => by rw [hix]; exact (range_be hrg0 (HBW.out W h).oq.vs.be) 3 (.int .i64 r.ix) rfl
              have HAL : Hid (∀ W, Below wq2.heap.size wq2 W → Calls Try.prog 16 #[.pointer (some ⟨pv, 0, none⟩), .pointer (some ⟨qv, 0, none⟩), .int .i64 tk, .int .i64 ix] W fun e w' => e = .returned (.bool true) ∧ Below W.heap.size W w') := fun W h => by
                rw [HPV.out.1, HPV.out.2]
                exact alike_any ((HBW.out W h).oq.vs.v n _ HU.out) ((HBW.out W h).oq.ro n _ HE.out) (HW.out.rl n _ _ HU.out HE.out) tk ix (by rw [hix]; exact hok.ix)
              clear hok hr hrg0 htk hix hb2 hj
              go_upto_region 30 with fail
              have hb1 := Below.refl wq2.heap.size wq2
              refine wp_named fun a0 ha0 => ?_
              have hsz : a0.tmps.size = 154 := by rw [ha0]; rfl
              have zs0 : a0.eval (.tmp 0) = .slice (some ⟨b, o, none⟩) i c0 := by rw [ha0]; rfl
              have zs5 : a0.eval (.tmp 5) = .slice (some ⟨g5, 0, none⟩) m c5 := by rw [ha0]; rfl
              have zs6 : a0.eval (.tmp 6) = .slice (some ⟨g6, 0, none⟩) m c6 := by rw [ha0]; rfl
              have zs14 : a0.eval (.tmp 14) = .int .i64 (n : Int) := by rw [ha0]; rfl
              have zs15 : a0.eval (.tmp 15) = .int .i64 (j : Int) := by rw [ha0]; rfl
              obtain ⟨D, hD⟩ : ∃ D : List (Tmp × SP), D = [(134, SP.is (.slice (some ⟨g5, 0, none⟩) m c5)), (135, SP.is (.int .i64 (n : Int))), (136, SP.is (.pointer (some ⟨g5, 0 + n * 1, none⟩))), (137, SP.is (.pointer (some ⟨pv, 0, none⟩))), (138, SP.is (.slice (some ⟨g6, 0, none⟩) m c6)), (139, SP.is (.int .i64 (n : Int))), (140, SP.is (.pointer (some ⟨g6, 0 + n * 1, none⟩))), (141, SP.is (.pointer (some ⟨qv, 0, none⟩))), (142, SP.is (.slice (some ⟨b, o, none⟩) i c0)), (143, SP.is (.int .i64 (j : Int))), (144, SP.is (.pointer (some ⟨b, o + j * 8, none⟩))), (145, SP.is (.pointer (some ⟨b, o + j * 8 + 2, none⟩))), (146, SP.is (.int .i64 tk)), (147, SP.is (.slice (some ⟨b, o, none⟩) i c0)), (148, SP.is (.int .i64 (j : Int))), (149, SP.is (.pointer (some ⟨b, o + j * 8, none⟩))), (150, SP.is (.pointer (some ⟨b, o + j * 8 + 3, none⟩))), (151, SP.is (.int .i64 ix)), (152, SP.is (.bool true)), (153, SP.is (.bool false))] := ⟨_, rfl⟩
              refine wp_region_down (by kernel_rfl) (fun listed ac W => listed.size = 20 ∧ Fp D a0 listed ac W ∧ Below wq2.heap.size wq2 W) ?_ ?_ ?_
              · exact ⟨by simp, Fp.start D a0 _ _, Below.drew hb1⟩
              · clear ha0 hb1  
                intro listed ac W k hI hdn hk
                obtain ⟨hl, hF, hb1⟩ := hI
                have hk1 : k < 20 := List.mem_range.1 (List.mem_filter.1 hk).1
                have hl2 : ∀ j, (listed.setIfInBounds j true).size = 20 := fun j => by rw [Array.size_setIfInBounds]; exact hl
                rcases (show k = 0 ∨ k = 1 ∨ k = 2 ∨ k = 3 ∨ k = 4 ∨ k = 5 ∨ k = 6 ∨ k = 7 ∨ k = 8 ∨ k = 9 ∨ k = 10 ∨ k = 11 ∨ k = 12 ∨ k = 13 ∨ k = 14 ∨ k = 15 ∨ k = 16 ∨ k = 17 ∨ k = 18 ∨ k = 19 by omega) with rfl | rfl | rfl | rfl | rfl | rfl | rfl | rfl | rfl | rfl | rfl | rfl | rfl | rfl | rfl | rfl | rfl | rfl | rfl | rfl
                · have hk3 := hk
                  exact wpOp_plain rfl rfl (wp_move_v (ac.eval (.tmp 5)) rfl rfl ⟨hl2 0, (hF.put 0 134 (SP.is (.slice (some ⟨g5, 0, none⟩) m c5)) (ac.eval (.tmp 5)) (by rw [hD]; rfl) (((hF.keep 5 (by rw [hD]; rfl)).trans zs5)) (by rw [hD]; rfl) (by rw [hsz]; decide) (by rw [hl]; decide)), hb1⟩)
                · have hk3 := hk
                  exact wpOp_plain rfl rfl (wp_move_v (ac.eval (.tmp 14)) rfl rfl ⟨hl2 1, (hF.put 1 135 (SP.is (.int .i64 (n : Int))) (ac.eval (.tmp 14)) (by rw [hD]; rfl) (((hF.keep 14 (by rw [hD]; rfl)).trans zs14)) (by rw [hD]; rfl) (by rw [hsz]; decide) (by rw [hl]; decide)), hb1⟩)
                · have hk3 := hk
                  have ea := (hF.done 0 (134, SP.is (.slice (some ⟨g5, 0, none⟩) m c5)) (by rw [hD]; rfl) (ready_dep hk 0 (by kernel_rfl)))
                  have eb := (hF.done 1 (135, SP.is (.int .i64 (n : Int))) (by rw [hD]; rfl) (ready_dep hk 1 (by kernel_rfl)))
                  exact wpOp_plain rfl rfl (wp_ixs tPVs tPV rfl g5 0 m c5 n 1 ea eb HNM.out und_PVs sz_PV ⟨hl2 2, (hF.put 2 136 (SP.is (.pointer (some ⟨g5, 0 + n * 1, none⟩))) (.pointer (some ⟨g5, 0 + n * 1, none⟩)) (by rw [hD]; rfl) rfl (by rw [hD]; rfl) (by rw [hsz]; decide) (by rw [hl]; decide)), hb1⟩)
                · have hk3 := hk
                  have ea := (hF.done 2 (136, SP.is (.pointer (some ⟨g5, 0 + n * 1, none⟩))) (by rw [hD]; rfl) (ready_dep hk 2 (by kernel_rfl)))
                  exact wpOp_plain rfl rfl (wp_load_1 g5 (0 + n * 1) (.pointer (some ⟨pv, 0, none⟩)) rfl ea (ld_PV W g5 (0 + n * 1) (.pointer (some ⟨pv, 0, none⟩)) (HC5.out W hb1)) ⟨hl2 3, (hF.put 3 137 (SP.is (.pointer (some ⟨pv, 0, none⟩))) (.pointer (some ⟨pv, 0, none⟩)) (by rw [hD]; rfl) rfl (by rw [hD]; rfl) (by rw [hsz]; decide) (by rw [hl]; decide)), hb1⟩)
                · have hk3 := hk
                  exact wpOp_plain rfl rfl (wp_move_v (ac.eval (.tmp 6)) rfl rfl ⟨hl2 4, (hF.put 4 138 (SP.is (.slice (some ⟨g6, 0, none⟩) m c6)) (ac.eval (.tmp 6)) (by rw [hD]; rfl) (((hF.keep 6 (by rw [hD]; rfl)).trans zs6)) (by rw [hD]; rfl) (by rw [hsz]; decide) (by rw [hl]; decide)), hb1⟩)
                · have hk3 := hk
                  exact wpOp_plain rfl rfl (wp_move_v (ac.eval (.tmp 14)) rfl rfl ⟨hl2 5, (hF.put 5 139 (SP.is (.int .i64 (n : Int))) (ac.eval (.tmp 14)) (by rw [hD]; rfl) (((hF.keep 14 (by rw [hD]; rfl)).trans zs14)) (by rw [hD]; rfl) (by rw [hsz]; decide) (by rw [hl]; decide)), hb1⟩)
                · have hk3 := hk
                  have ea := (hF.done 4 (138, SP.is (.slice (some ⟨g6, 0, none⟩) m c6)) (by rw [hD]; rfl) (ready_dep hk 4 (by kernel_rfl)))
                  have eb := (hF.done 5 (139, SP.is (.int .i64 (n : Int))) (by rw [hD]; rfl) (ready_dep hk 5 (by kernel_rfl)))
                  exact wpOp_plain rfl rfl (wp_ixs tPRs tPR rfl g6 0 m c6 n 1 ea eb HNM.out und_PRs sz_PR ⟨hl2 6, (hF.put 6 140 (SP.is (.pointer (some ⟨g6, 0 + n * 1, none⟩))) (.pointer (some ⟨g6, 0 + n * 1, none⟩)) (by rw [hD]; rfl) rfl (by rw [hD]; rfl) (by rw [hsz]; decide) (by rw [hl]; decide)), hb1⟩)
                · have hk3 := hk
                  have ea := (hF.done 6 (140, SP.is (.pointer (some ⟨g6, 0 + n * 1, none⟩))) (by rw [hD]; rfl) (ready_dep hk 6 (by kernel_rfl)))
                  exact wpOp_plain rfl rfl (wp_load_1 g6 (0 + n * 1) (.pointer (some ⟨qv, 0, none⟩)) rfl ea (ld_PR W g6 (0 + n * 1) (.pointer (some ⟨qv, 0, none⟩)) (HC6.out W hb1)) ⟨hl2 7, (hF.put 7 141 (SP.is (.pointer (some ⟨qv, 0, none⟩))) (.pointer (some ⟨qv, 0, none⟩)) (by rw [hD]; rfl) rfl (by rw [hD]; rfl) (by rw [hsz]; decide) (by rw [hl]; decide)), hb1⟩)
                · have hk3 := hk
                  exact wpOp_plain rfl rfl (wp_move_v (ac.eval (.tmp 0)) rfl rfl ⟨hl2 8, (hF.put 8 142 (SP.is (.slice (some ⟨b, o, none⟩) i c0)) (ac.eval (.tmp 0)) (by rw [hD]; rfl) (((hF.keep 0 (by rw [hD]; rfl)).trans zs0)) (by rw [hD]; rfl) (by rw [hsz]; decide) (by rw [hl]; decide)), hb1⟩)
                · have hk3 := hk
                  exact wpOp_plain rfl rfl (wp_move_v (ac.eval (.tmp 15)) rfl rfl ⟨hl2 9, (hF.put 9 143 (SP.is (.int .i64 (j : Int))) (ac.eval (.tmp 15)) (by rw [hD]; rfl) (((hF.keep 15 (by rw [hD]; rfl)).trans zs15)) (by rw [hD]; rfl) (by rw [hsz]; decide) (by rw [hl]; decide)), hb1⟩)
                · have hk3 := hk
                  have ea := (hF.done 8 (142, SP.is (.slice (some ⟨b, o, none⟩) i c0)) (by rw [hD]; rfl) (ready_dep hk 8 (by kernel_rfl)))
                  have eb := (hF.done 9 (143, SP.is (.int .i64 (j : Int))) (by rw [hD]; rfl) (ready_dep hk 9 (by kernel_rfl)))
                  exact wpOp_plain rfl rfl (wp_ixs 22 35 rfl b o i c0 j 8 ea eb HJN.out und_Ss info_S ⟨hl2 10, (hF.put 10 144 (SP.is (.pointer (some ⟨b, o + j * 8, none⟩))) (.pointer (some ⟨b, o + j * 8, none⟩)) (by rw [hD]; rfl) rfl (by rw [hD]; rfl) (by rw [hsz]; decide) (by rw [hl]; decide)), hb1⟩)
                · have hk3 := hk
                  have ea := (hF.done 10 (144, SP.is (.pointer (some ⟨b, o + j * 8, none⟩))) (by rw [hD]; rfl) (ready_dep hk 10 (by kernel_rfl)))
                  exact wpOp_plain rfl rfl (wp_sf2 b (o + j * 8) rfl ea ⟨hl2 11, (hF.put 11 145 (SP.is (.pointer (some ⟨b, o + j * 8 + 2, none⟩))) (.pointer (some ⟨b, o + j * 8 + 2, none⟩)) (by rw [hD]; rfl) rfl (by rw [hD]; rfl) (by rw [hsz]; decide) (by rw [hl]; decide)), hb1⟩)
                · have hk3 := hk
                  have ea := (hF.done 11 (145, SP.is (.pointer (some ⟨b, o + j * 8 + 2, none⟩))) (by rw [hD]; rfl) (ready_dep hk 11 (by kernel_rfl)))
                  exact wpOp_plain rfl rfl (wp_load_1 b (o + j * 8 + 2) (.int .i64 tk) rfl ea (run_load_in W b (o + j * 8 + 2) (.int .i64 tk) (HCT.out W hb1)) ⟨hl2 12, (hF.put 12 146 (SP.is (.int .i64 tk)) (.int .i64 tk) (by rw [hD]; rfl) rfl (by rw [hD]; rfl) (by rw [hsz]; decide) (by rw [hl]; decide)), hb1⟩)
                · have hk3 := hk
                  exact wpOp_plain rfl rfl (wp_move_v (ac.eval (.tmp 0)) rfl rfl ⟨hl2 13, (hF.put 13 147 (SP.is (.slice (some ⟨b, o, none⟩) i c0)) (ac.eval (.tmp 0)) (by rw [hD]; rfl) (((hF.keep 0 (by rw [hD]; rfl)).trans zs0)) (by rw [hD]; rfl) (by rw [hsz]; decide) (by rw [hl]; decide)), hb1⟩)
                · have hk3 := hk
                  exact wpOp_plain rfl rfl (wp_move_v (ac.eval (.tmp 15)) rfl rfl ⟨hl2 14, (hF.put 14 148 (SP.is (.int .i64 (j : Int))) (ac.eval (.tmp 15)) (by rw [hD]; rfl) (((hF.keep 15 (by rw [hD]; rfl)).trans zs15)) (by rw [hD]; rfl) (by rw [hsz]; decide) (by rw [hl]; decide)), hb1⟩)
                · have hk3 := hk
                  have ea := (hF.done 13 (147, SP.is (.slice (some ⟨b, o, none⟩) i c0)) (by rw [hD]; rfl) (ready_dep hk 13 (by kernel_rfl)))
                  have eb := (hF.done 14 (148, SP.is (.int .i64 (j : Int))) (by rw [hD]; rfl) (ready_dep hk 14 (by kernel_rfl)))
                  exact wpOp_plain rfl rfl (wp_ixs 22 35 rfl b o i c0 j 8 ea eb HJN.out und_Ss info_S ⟨hl2 15, (hF.put 15 149 (SP.is (.pointer (some ⟨b, o + j * 8, none⟩))) (.pointer (some ⟨b, o + j * 8, none⟩)) (by rw [hD]; rfl) rfl (by rw [hD]; rfl) (by rw [hsz]; decide) (by rw [hl]; decide)), hb1⟩)
                · have hk3 := hk
                  have ea := (hF.done 15 (149, SP.is (.pointer (some ⟨b, o + j * 8, none⟩))) (by rw [hD]; rfl) (ready_dep hk 15 (by kernel_rfl)))
                  exact wpOp_plain rfl rfl (wpR_sf3 b (o + j * 8) rfl ea ⟨hl2 16, (hF.put 16 150 (SP.is (.pointer (some ⟨b, o + j * 8 + 3, none⟩))) (.pointer (some ⟨b, o + j * 8 + 3, none⟩)) (by rw [hD]; rfl) rfl (by rw [hD]; rfl) (by rw [hsz]; decide) (by rw [hl]; decide)), hb1⟩)
                · have hk3 := hk
                  have ea := (hF.done 16 (150, SP.is (.pointer (some ⟨b, o + j * 8 + 3, none⟩))) (by rw [hD]; rfl) (ready_dep hk 16 (by kernel_rfl)))
                  exact wpOp_plain rfl rfl (wp_load_1 b (o + j * 8 + 3) (.int .i64 ix) rfl ea (run_load_in W b (o + j * 8 + 3) (.int .i64 ix) (HCX.out W hb1)) ⟨hl2 17, (hF.put 17 151 (SP.is (.int .i64 ix)) (.int .i64 ix) (by rw [hD]; rfl) rfl (by rw [hD]; rfl) (by rw [hsz]; decide) (by rw [hl]; decide)), hb1⟩)
                · have hk3 := hk
                  have ea := (hF.done 3 (137, SP.is (.pointer (some ⟨pv, 0, none⟩))) (by rw [hD]; rfl) (ready_dep hk 3 (by kernel_rfl)))
                  have eb := (hF.done 7 (141, SP.is (.pointer (some ⟨qv, 0, none⟩))) (by rw [hD]; rfl) (ready_dep hk 7 (by kernel_rfl)))
                  have ec := (hF.done 12 (146, SP.is (.int .i64 tk)) (by rw [hD]; rfl) (ready_dep hk 12 (by kernel_rfl)))
                  have ed := (hF.done 17 (151, SP.is (.int .i64 ix)) (by rw [hD]; rfl) (ready_dep hk 17 (by kernel_rfl)))
                  refine wpOp_plain rfl rfl (wp_fcall_v 16 #[.pointer (some ⟨pv, 0, none⟩), .pointer (some ⟨qv, 0, none⟩), .int .i64 tk, .int .i64 ix] rfl rfl (by show [ac.eval (.tmp 137), ac.eval (.tmp 141), ac.eval (.tmp 146), ac.eval (.tmp 151)] = _; rw [show ac.eval (.tmp 137) = _ from ea, show ac.eval (.tmp 141) = _ from eb, show ac.eval (.tmp 146) = _ from ec, show ac.eval (.tmp 151) = _ from ed]) (by go_simp) ((HAL.out W hb1).mono ?_))
                  rintro e W2 ⟨rfl, hB⟩
                  exact ⟨_, rfl, hl2 18, ((hF.world hB).put 18 152 (SP.is (.bool true)) (.bool true) (by rw [hD]; rfl) rfl (by rw [hD]; rfl) (by rw [hsz]; decide) (by rw [hl]; decide)), hb1.trans (hB.mono hb1.size)⟩
                · have hk3 := hk
                  have ea := (hF.done 18 (152, SP.is (.bool true)) (by rw [hD]; rfl) (ready_dep hk 18 (by kernel_rfl)))
                  exact wpOp_plain rfl rfl (wpR_not rfl true ea ⟨hl2 19, (hF.put 19 153 (SP.is (.bool false)) (.bool false) (by rw [hD]; rfl) rfl (by rw [hD]; rfl) (by rw [hsz]; decide) (by rw [hl]; decide)), hb1⟩)
              · clear hb1  
                intro listed ac W hI hr
                obtain ⟨hl, hF, hb1⟩ := hI
                have hall := all_listed (by kernel_rfl) hl hr
                have h134 : ac.eval (.tmp 134) = .slice (some ⟨g5, 0, none⟩) m c5 := hF.done 0 (134, SP.is (.slice (some ⟨g5, 0, none⟩) m c5)) (by rw [hD]; rfl) (hall 0 (by decide))
                have h135 : ac.eval (.tmp 135) = .int .i64 (n : Int) := hF.done 1 (135, SP.is (.int .i64 (n : Int))) (by rw [hD]; rfl) (hall 1 (by decide))
                have h136 : ac.eval (.tmp 136) = .pointer (some ⟨g5, 0 + n * 1, none⟩) := hF.done 2 (136, SP.is (.pointer (some ⟨g5, 0 + n * 1, none⟩))) (by rw [hD]; rfl) (hall 2 (by decide))
                have h137 : ac.eval (.tmp 137) = .pointer (some ⟨pv, 0, none⟩) := hF.done 3 (137, SP.is (.pointer (some ⟨pv, 0, none⟩))) (by rw [hD]; rfl) (hall 3 (by decide))
                have h138 : ac.eval (.tmp 138) = .slice (some ⟨g6, 0, none⟩) m c6 := hF.done 4 (138, SP.is (.slice (some ⟨g6, 0, none⟩) m c6)) (by rw [hD]; rfl) (hall 4 (by decide))
                have h139 : ac.eval (.tmp 139) = .int .i64 (n : Int) := hF.done 5 (139, SP.is (.int .i64 (n : Int))) (by rw [hD]; rfl) (hall 5 (by decide))
                have h140 : ac.eval (.tmp 140) = .pointer (some ⟨g6, 0 + n * 1, none⟩) := hF.done 6 (140, SP.is (.pointer (some ⟨g6, 0 + n * 1, none⟩))) (by rw [hD]; rfl) (hall 6 (by decide))
                have h141 : ac.eval (.tmp 141) = .pointer (some ⟨qv, 0, none⟩) := hF.done 7 (141, SP.is (.pointer (some ⟨qv, 0, none⟩))) (by rw [hD]; rfl) (hall 7 (by decide))
                have h142 : ac.eval (.tmp 142) = .slice (some ⟨b, o, none⟩) i c0 := hF.done 8 (142, SP.is (.slice (some ⟨b, o, none⟩) i c0)) (by rw [hD]; rfl) (hall 8 (by decide))
                have h143 : ac.eval (.tmp 143) = .int .i64 (j : Int) := hF.done 9 (143, SP.is (.int .i64 (j : Int))) (by rw [hD]; rfl) (hall 9 (by decide))
                have h144 : ac.eval (.tmp 144) = .pointer (some ⟨b, o + j * 8, none⟩) := hF.done 10 (144, SP.is (.pointer (some ⟨b, o + j * 8, none⟩))) (by rw [hD]; rfl) (hall 10 (by decide))
                have h145 : ac.eval (.tmp 145) = .pointer (some ⟨b, o + j * 8 + 2, none⟩) := hF.done 11 (145, SP.is (.pointer (some ⟨b, o + j * 8 + 2, none⟩))) (by rw [hD]; rfl) (hall 11 (by decide))
                have h146 : ac.eval (.tmp 146) = .int .i64 tk := hF.done 12 (146, SP.is (.int .i64 tk)) (by rw [hD]; rfl) (hall 12 (by decide))
                have h147 : ac.eval (.tmp 147) = .slice (some ⟨b, o, none⟩) i c0 := hF.done 13 (147, SP.is (.slice (some ⟨b, o, none⟩) i c0)) (by rw [hD]; rfl) (hall 13 (by decide))
                have h148 : ac.eval (.tmp 148) = .int .i64 (j : Int) := hF.done 14 (148, SP.is (.int .i64 (j : Int))) (by rw [hD]; rfl) (hall 14 (by decide))
                have h149 : ac.eval (.tmp 149) = .pointer (some ⟨b, o + j * 8, none⟩) := hF.done 15 (149, SP.is (.pointer (some ⟨b, o + j * 8, none⟩))) (by rw [hD]; rfl) (hall 15 (by decide))
                have h150 : ac.eval (.tmp 150) = .pointer (some ⟨b, o + j * 8 + 3, none⟩) := hF.done 16 (150, SP.is (.pointer (some ⟨b, o + j * 8 + 3, none⟩))) (by rw [hD]; rfl) (hall 16 (by decide))
                have h151 : ac.eval (.tmp 151) = .int .i64 ix := hF.done 17 (151, SP.is (.int .i64 ix)) (by rw [hD]; rfl) (hall 17 (by decide))
                have h152 : ac.eval (.tmp 152) = .bool true := hF.done 18 (152, SP.is (.bool true)) (by rw [hD]; rfl) (hall 18 (by decide))
                have h153 : ac.eval (.tmp 153) = .bool false := hF.done 19 (153, SP.is (.bool false)) (by rw [hD]; rfl) (hall 19 (by decide))
                have ea := hF.lay [(134, .slice (some ⟨g5, 0, none⟩) m c5), (135, .int .i64 (n : Int)), (136, .pointer (some ⟨g5, 0 + n * 1, none⟩)), (137, .pointer (some ⟨pv, 0, none⟩)), (138, .slice (some ⟨g6, 0, none⟩) m c6), (139, .int .i64 (n : Int)), (140, .pointer (some ⟨g6, 0 + n * 1, none⟩)), (141, .pointer (some ⟨qv, 0, none⟩)), (142, .slice (some ⟨b, o, none⟩) i c0), (143, .int .i64 (j : Int)), (144, .pointer (some ⟨b, o + j * 8, none⟩)), (145, .pointer (some ⟨b, o + j * 8 + 2, none⟩)), (146, .int .i64 tk), (147, .slice (some ⟨b, o, none⟩) i c0), (148, .int .i64 (j : Int)), (149, .pointer (some ⟨b, o + j * 8, none⟩)), (150, .pointer (some ⟨b, o + j * 8 + 3, none⟩)), (151, .int .i64 ix), (152, .bool true), (153, .bool false)] (by rw [hD, hsz]; rfl) (by simp only [List.forall_mem_cons, List.not_mem_nil, false_implies, implies_true, and_true]; exact ⟨h134, h135, h136, h137, h138, h139, h140, h141, h142, h143, h144, h145, h146, h147, h148, h149, h150, h151, h152, h153⟩)
                rw [ha0] at ea
                simp only [List.foldl_cons, List.foldl_nil, List.setIfInBounds_toArray, List.set_cons_zero, List.set_cons_succ] at ea
                clear hF hall hr hl hD  zs0 zs5 zs6 zs14 zs15 ha0 hsz h134 h135 h136 h137 h138 h139 h140 h141 h142 h143 h144 h145 h146 h147 h148 h149 h150 h151 h152 h153
                subst ea
                have HB3 : Hid (Below wr.heap.size wr W) := HB2.out.trans (hb1.mono HB2.out.size)
                clear hb1
                go_wp2_with fail
                exact ⟨⟨j + 1, HJN.out, by go_num, HB3.out⟩, by simp [intOf]; have := HJN.out; omega⟩
            · obtain rfl : j = i := by omega
              clear hji hj hb2
              go_wp2_with fail
              exact ⟨⟨n + 1, HNM.out, by go_num, HB2.out⟩, by simp [intOf]; have := HNM.out; omega⟩
        · obtain rfl : n = m := by omega
          have HF : Hid (Below w.heap.size w wq) := HW.out.oq.vs.be.trans (hbq.mono HW.out.oq.vs.be.size)
          clear hnm hn hbq
          go_wp2_with fail
          go_ret
          exact ⟨rfl, HF.out⟩

end Go.Proofs.Ytkbdnebmekhcdaa
