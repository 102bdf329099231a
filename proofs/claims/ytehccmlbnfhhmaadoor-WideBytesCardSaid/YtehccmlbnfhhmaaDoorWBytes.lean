/-
  causewaylaw02.WideBytes.
-/
import Derived.Test.YtehccmlbnfhhmaaDoorWKnown
import Derived.Test.YtehccmlbnfhhmaaDoorWFg
import Derived.LoopN
import Derived.Deep.CutRange
namespace Go.Proofs.YtehccmlbnfhhmaaDoor
open Go Go.RowKit
open Wd

set_option maxRecDepth 100000 in
set_option maxHeartbeats 16000000 in
theorem bytes_walk (a c : Nat) (ha : a < 2 ^ 256) (hc : c < 2 ^ 256) (bs : List Nat) (hbs : ∀ x ∈ bs, x < 256) (n : Nat) (hn : bs.length = n) (hlen : n ≤ 140737488351232) (A : Option Addr) (cap : Nat) (hnil : A = none → cap = 0) (w : World) (hw : By w A bs) (hp : P10 w) :
    Calls Tryd.prog 7 #[.agg (vQ (dgs a 4)).toArray, .agg (vQ (dgs c 4)).toArray, .slice A n cap] w fun e w' => e = .returned (.bool true) ∧ Below w.heap.size w w' := by
  have HP : Hid (P10 w) := hp
  have HA : Hid (a < 2 ^ 256) := ha
  have HC : Hid (c < 2 ^ 256) := hc
  have HBS : Hid (∀ x ∈ bs, x < 256) := hbs
  have HN : Hid (bs.length = n) := hn
  have HLN : Hid (n ≤ 140737488351232) := hlen
  have ln : (n : Int) ≤ 140737488351232 := by omega
  have HBY : Hid (By w A bs) := hw
  have HNL : Hid (A = none → cap = 0) := hnil
  obtain ⟨ca, Ha⟩ : ∃ x, Wc x a := ⟨_, rfl⟩
  obtain ⟨cc, Hc⟩ : ∃ x, Wc x c := ⟨_, rfl⟩
  rw [← show ca = vQ (dgs a 4) from Ha, ← show cc = vQ (dgs c 4) from Hc]
  clear ha hc hbs hn hlen hw hp hnil
  have hb : Below w.heap.size w ((w.alloc (Obj.cells ca.toArray 24)).alloc (Obj.cells cc.toArray 24)) := ((Below.refl _ _).alloc (Nat.le_refl _) _).alloc (by simp) _
  have ra : Row ((w.alloc (Obj.cells ca.toArray 24)).alloc (Obj.cells cc.toArray 24)) w.heap.size ca 24 := (Row.new w ca _).alloc _
  have rc : Row ((w.alloc (Obj.cells ca.toArray 24)).alloc (Obj.cells cc.toArray 24)) (w.heap.size + 1) cc 24 := Row.new' (by simp) rfl
  go_enter Tryd.func7, Tryd.ntmps7
  go_wp2_with fail
  generalize ((w.alloc (Obj.cells ca.toArray 24)).alloc (Obj.cells cc.toArray 24)) = W0 at *
  refine (known_any W0 (HP.out.below hb)).mono ?_
  rintro e V0 ⟨rfl, hB⟩
  replace hb := hb.trans (hB.mono hb.size)
  replace ra := Row.below ra hB (Row.lt ra)
  replace rc := Row.below rc hB (Row.lt rc)
  clear hB
  go_wp2_with (refine wpList_load_w rfl 24 (.tmp 3) rfl (w.heap.size) 0 rfl ca _ ra.all Tryd.underlying24 rfl Ha.info ?_; simp only [Act.put, List.setIfInBounds_toArray, List.set_cons_zero, List.set_cons_succ])
  refine (bytes_c Ha _).mono ?_
  rintro e V1 ⟨N1, lN1, r1, rfl, hB⟩
  replace lN1 : w.heap.size + 1 < N1 := Nat.lt_of_lt_of_le (Row.lt rc) lN1
  replace hb := hb.trans (hB.mono hb.size)
  replace ra := Row.below ra hB (Row.lt ra)
  replace rc := Row.below rc hB (Row.lt rc)
  clear hB
  go_wp2_with (refine wpList_load_w rfl 24 (.tmp 3) rfl (w.heap.size) 0 rfl ca _ ra.all Tryd.underlying24 rfl Ha.info ?_; simp only [Act.put, List.setIfInBounds_toArray, List.set_cons_zero, List.set_cons_succ])
  refine (bytes_c Ha _).mono ?_
  rintro e V2 ⟨N2, lN2, r2, rfl, hB⟩
  replace lN2 : N1 < N2 := Nat.lt_of_lt_of_le (Row.lt r1) lN2
  replace hb := hb.trans (hB.mono hb.size)
  replace ra := Row.below ra hB (Row.lt ra)
  replace rc := Row.below rc hB (Row.lt rc)
  replace r1 := Row.below r1 hB (Row.lt r1)
  clear hB
  go_wp2_with (refine wpList_load_w rfl 24 (.tmp 4) rfl (w.heap.size + 1) 0 rfl cc _ rc.all Tryd.underlying24 rfl Hc.info ?_; simp only [Act.put, List.setIfInBounds_toArray, List.set_cons_zero, List.set_cons_succ])
  refine (bytes_c Hc _).mono ?_
  rintro e V3 ⟨N3, lN3, r3, rfl, hB⟩
  replace lN3 : N2 < N3 := Nat.lt_of_lt_of_le (Row.lt r2) lN3
  replace hb := hb.trans (hB.mono hb.size)
  replace ra := Row.below ra hB (Row.lt ra)
  replace rc := Row.below rc hB (Row.lt rc)
  replace r1 := Row.below r1 hB (Row.lt r1)
  replace r2 := Row.below r2 hB (Row.lt r2)
  clear hB
  go_wp2_with (refine wpList_load_w rfl 24 (.tmp 3) rfl (w.heap.size) 0 rfl ca _ ra.all Tryd.underlying24 rfl Ha.info ?_; simp only [Act.put, List.setIfInBounds_toArray, List.set_cons_zero, List.set_cons_succ])
  refine (refBytes_c Ha _).mono ?_
  rintro e V4 ⟨N4, lN4, r4, rfl, hB⟩
  replace lN4 : N3 < N4 := Nat.lt_of_lt_of_le (Row.lt r3) lN4
  replace hb := hb.trans (hB.mono hb.size)
  replace ra := Row.below ra hB (Row.lt ra)
  replace rc := Row.below rc hB (Row.lt rc)
  replace r1 := Row.below r1 hB (Row.lt r1)
  replace r2 := Row.below r2 hB (Row.lt r2)
  replace r3 := Row.below r3 hB (Row.lt r3)
  clear hB
  go_wp2_with (refine wpList_load_w rfl 24 (.tmp 4) rfl (w.heap.size + 1) 0 rfl cc _ rc.all Tryd.underlying24 rfl Hc.info ?_; simp only [Act.put, List.setIfInBounds_toArray, List.set_cons_zero, List.set_cons_succ])
  refine (refBytes_c Hc _).mono ?_
  rintro e V5 ⟨N5, lN5, r5, rfl, hB⟩
  replace lN5 : N4 < N5 := Nat.lt_of_lt_of_le (Row.lt r4) lN5
  replace hb := hb.trans (hB.mono hb.size)
  replace ra := Row.below ra hB (Row.lt ra)
  replace rc := Row.below rc hB (Row.lt rc)
  replace r1 := Row.below r1 hB (Row.lt r1)
  replace r2 := Row.below r2 hB (Row.lt r2)
  replace r3 := Row.below r3 hB (Row.lt r3)
  replace r4 := Row.below r4 hB (Row.lt r4)
  clear hB
  go_wp2_with (first
    | (go_at_call 34; refine (alike_c (bl_lt a) (bl_length a) (some ⟨N1, 0, none⟩) (some ⟨N4, 0, none⟩) 32 32 _ (By.row r1) (By.row r4)).mono ?_; rintro e w2 ⟨rfl, rfl⟩)
    | (go_at_call 34; refine (alike_c (bl_lt a) (bl_length a) (some ⟨N2, 0, none⟩) (some ⟨N4, 0, none⟩) 32 32 _ (By.row r2) (By.row r4)).mono ?_; rintro e w2 ⟨rfl, rfl⟩)
    | (go_at_call 34; refine (alike_c (bl_lt c) (bl_length c) (some ⟨N3, 0, none⟩) (some ⟨N5, 0, none⟩) 32 32 _ (By.row r3) (By.row r5)).mono ?_; rintro e w2 ⟨rfl, rfl⟩))
  have WQ : True := trivial
  have l5 := Row.lt r5
  have rA : Row (w2.alloc (Obj.cells #[.slice (some ⟨N1, 0, none⟩) 32 32, .slice (some ⟨N2, 0, none⟩) 32 32, .slice (some ⟨N3, 0, none⟩) 32 32] 44)) w2.heap.size [.slice (some ⟨N1, 0, none⟩) 32 32, .slice (some ⟨N2, 0, none⟩) 32 32, .slice (some ⟨N3, 0, none⟩) 32 32] 44 := Row.new' rfl rfl
  replace ra := Row.alloc ra (Obj.cells #[.slice (some ⟨N1, 0, none⟩) 32 32, .slice (some ⟨N2, 0, none⟩) 32 32, .slice (some ⟨N3, 0, none⟩) 32 32] 44)
  replace rc := Row.alloc rc (Obj.cells #[.slice (some ⟨N1, 0, none⟩) 32 32, .slice (some ⟨N2, 0, none⟩) 32 32, .slice (some ⟨N3, 0, none⟩) 32 32] 44)
  replace r1 := Row.alloc r1 (Obj.cells #[.slice (some ⟨N1, 0, none⟩) 32 32, .slice (some ⟨N2, 0, none⟩) 32 32, .slice (some ⟨N3, 0, none⟩) 32 32] 44)
  replace r2 := Row.alloc r2 (Obj.cells #[.slice (some ⟨N1, 0, none⟩) 32 32, .slice (some ⟨N2, 0, none⟩) 32 32, .slice (some ⟨N3, 0, none⟩) 32 32] 44)
  replace r3 := Row.alloc r3 (Obj.cells #[.slice (some ⟨N1, 0, none⟩) 32 32, .slice (some ⟨N2, 0, none⟩) 32 32, .slice (some ⟨N3, 0, none⟩) 32 32] 44)
  replace r4 := Row.alloc r4 (Obj.cells #[.slice (some ⟨N1, 0, none⟩) 32 32, .slice (some ⟨N2, 0, none⟩) 32 32, .slice (some ⟨N3, 0, none⟩) 32 32] 44)
  replace r5 := Row.alloc r5 (Obj.cells #[.slice (some ⟨N1, 0, none⟩) 32 32, .slice (some ⟨N2, 0, none⟩) 32 32, .slice (some ⟨N3, 0, none⟩) 32 32] 44)
  replace hb := hb.alloc hb.size (Obj.cells #[.slice (some ⟨N1, 0, none⟩) 32 32, .slice (some ⟨N2, 0, none⟩) 32 32, .slice (some ⟨N3, 0, none⟩) 32 32] 44)
  generalize w2.alloc (Obj.cells #[.slice (some ⟨N1, 0, none⟩) 32 32, .slice (some ⟨N2, 0, none⟩) 32 32, .slice (some ⟨N3, 0, none⟩) 32 32] 44) = Y0 at *
  generalize hNA : w2.heap.size = NA at *
  clear hNA WQ
  refine wp_loop_rounds 4 ?_
  rw [rounds_succ]
  have gA := rA.cell 0 _ rfl
  go_wp2_with fail
  refine (fill32 N1 1 (by decide) (bl a) (bl_length a) _ r1).mono ?_
  rintro e U0 ⟨rfl, q1, hBt⟩
  replace ra := Row.but ra hBt (by omega)
  replace rc := Row.but rc hBt (by omega)
  replace r2 := Row.but r2 hBt (by omega)
  replace r3 := Row.but r3 hBt (by omega)
  replace r4 := Row.but r4 hBt (by omega)
  replace r5 := Row.but r5 hBt (by omega)
  replace rA := Row.but rA hBt (by omega)
  replace r1 := q1
  replace hb := But.below hb hBt (by omega)
  clear hBt q1 gA
  go_wp2_with fail
  rw [rounds_succ]
  have gA := rA.cell 1 _ rfl
  go_wp2_with fail
  refine (fill32 N2 12 (by decide) (bl a) (bl_length a) _ r2).mono ?_
  rintro e U1 ⟨rfl, q1, hBt⟩
  replace ra := Row.but ra hBt (by omega)
  replace rc := Row.but rc hBt (by omega)
  replace r1 := Row.but r1 hBt (by omega)
  replace r3 := Row.but r3 hBt (by omega)
  replace r4 := Row.but r4 hBt (by omega)
  replace r5 := Row.but r5 hBt (by omega)
  replace rA := Row.but rA hBt (by omega)
  replace r2 := q1
  replace hb := But.below hb hBt (by omega)
  clear hBt q1 gA
  go_wp2_with fail
  rw [rounds_succ]
  have gA := rA.cell 2 _ rfl
  go_wp2_with fail
  refine (fill32 N3 23 (by decide) (bl c) (bl_length c) _ r3).mono ?_
  rintro e U2 ⟨rfl, q1, hBt⟩
  replace ra := Row.but ra hBt (by omega)
  replace rc := Row.but rc hBt (by omega)
  replace r1 := Row.but r1 hBt (by omega)
  replace r2 := Row.but r2 hBt (by omega)
  replace r4 := Row.but r4 hBt (by omega)
  replace r5 := Row.but r5 hBt (by omega)
  replace rA := Row.but rA hBt (by omega)
  replace r3 := q1
  replace hb := But.below hb hBt (by omega)
  clear hBt q1 gA
  go_wp2_with fail
  rw [rounds_succ]
  go_wp2_with fail
  obtain ⟨M, hM⟩ : ∃ M, M = U2.heap.size := ⟨_, rfl⟩
  have lM : NA < M := by rw [hM]; exact Row.lt rA
  have hMw : M ≤ U2.heap.size := Nat.le_of_eq hM
  have own : U2.ownsRow M 44 1 (.slice none 0 0) 0 [] := World.ownsRow_nil _ _ _ _
  clear hM
  refine wp_loop_rounds 4 ?_
  rw [rounds_succ]
  have gA := rA.cell 0 _ rfl
  go_wp2_with fail
  refine (grow_any U2.heap.size 32 40 2 (List.replicate 32 1) _ (by decide) U2 (Nat.le_refl _) (.inr ⟨by decide, rfl, List.length_replicate, N1, rfl, r1⟩)).mono ?_
  rintro e T0 ⟨v0, rfl, o0, hB⟩
  replace ra := Row.below ra hB (Row.lt ra)
  replace rc := Row.below rc hB (Row.lt rc)
  replace r1 := Row.below r1 hB (Row.lt r1)
  replace r2 := Row.below r2 hB (Row.lt r2)
  replace r3 := Row.below r3 hB (Row.lt r3)
  replace r4 := Row.below r4 hB (Row.lt r4)
  replace r5 := Row.below r5 hB (Row.lt r5)
  replace rA := Row.below rA hB (Row.lt rA)
  replace own := ownsU_below own hB (Nat.le_refl _)
  replace hb := hb.trans (hB.mono hb.size)
  replace hMw := Nat.le_trans hMw hB.size
  obtain ⟨G0, d0, s0, rfl, _, hd0, _, g0, _⟩ := ownsU_open o0 (by decide)
  clear hB o0 gA
  go_wp2_with (refine wpList_append_sl rfl (.tmp 83) (.tmp 93) rfl T0 T0 M _ 0 _ _ _ _ own rfl rfl (by decide) hMw (Below.refl _ _) ?_; intro m0 Z0 own2 hB2 hMw2 keep; (replace ra := keep _ _ _ ra (.inl (by decide))); (replace rc := keep _ _ _ rc (.inl (by decide))); (replace r1 := keep _ _ _ r1 (.inl (by decide))); (replace r2 := keep _ _ _ r2 (.inl (by decide))); (replace r3 := keep _ _ _ r3 (.inl (by decide))); (replace r4 := keep _ _ _ r4 (.inl (by decide))); (replace r5 := keep _ _ _ r5 (.inl (by decide))); (replace rA := keep _ _ _ rA (.inr lM)); (replace g0 := keep _ _ _ g0 (.inl (by decide))); (replace own := own2); (replace hb := hb.trans (hB2.mono (by omega))); (replace hMw := hMw2); clear own2 hB2 hMw2 keep; simp only [Act.put, List.setIfInBounds_toArray, List.set_cons_zero, List.set_cons_succ])
  rw [rounds_succ]
  have gA := rA.cell 1 _ rfl
  go_wp2_with fail
  refine (grow_any Z0.heap.size 32 40 13 (List.replicate 32 12) _ (by decide) Z0 (Nat.le_refl _) (.inr ⟨by decide, rfl, List.length_replicate, N2, rfl, r2⟩)).mono ?_
  rintro e T1 ⟨v1, rfl, o1, hB⟩
  replace ra := Row.below ra hB (Row.lt ra)
  replace rc := Row.below rc hB (Row.lt rc)
  replace r1 := Row.below r1 hB (Row.lt r1)
  replace r2 := Row.below r2 hB (Row.lt r2)
  replace r3 := Row.below r3 hB (Row.lt r3)
  replace r4 := Row.below r4 hB (Row.lt r4)
  replace r5 := Row.below r5 hB (Row.lt r5)
  replace rA := Row.below rA hB (Row.lt rA)
  replace g0 := Row.below g0 hB (Row.lt g0)
  replace own := ownsU_below own hB (Nat.le_refl _)
  replace hb := hb.trans (hB.mono hb.size)
  replace hMw := Nat.le_trans hMw hB.size
  obtain ⟨G1, d1, s1, rfl, _, hd1, _, g1, _⟩ := ownsU_open o1 (by decide)
  clear hB o1 gA
  go_wp2_with (refine wpList_append_sl rfl (.tmp 83) (.tmp 93) rfl T1 T1 M _ 1 _ _ _ _ own rfl rfl (by decide) hMw (Below.refl _ _) ?_; intro m1 Z1 own2 hB2 hMw2 keep; (replace ra := keep _ _ _ ra (.inl (by decide))); (replace rc := keep _ _ _ rc (.inl (by decide))); (replace r1 := keep _ _ _ r1 (.inl (by decide))); (replace r2 := keep _ _ _ r2 (.inl (by decide))); (replace r3 := keep _ _ _ r3 (.inl (by decide))); (replace r4 := keep _ _ _ r4 (.inl (by decide))); (replace r5 := keep _ _ _ r5 (.inl (by decide))); (replace rA := keep _ _ _ rA (.inr lM)); (replace g0 := keep _ _ _ g0 (.inl (by decide))); (replace g1 := keep _ _ _ g1 (.inl (by decide))); (replace own := own2); (replace hb := hb.trans (hB2.mono (by omega))); (replace hMw := hMw2); clear own2 hB2 hMw2 keep; simp only [Act.put, List.setIfInBounds_toArray, List.set_cons_zero, List.set_cons_succ])
  rw [rounds_succ]
  have gA := rA.cell 2 _ rfl
  go_wp2_with fail
  refine (grow_any Z1.heap.size 32 40 24 (List.replicate 32 23) _ (by decide) Z1 (Nat.le_refl _) (.inr ⟨by decide, rfl, List.length_replicate, N3, rfl, r3⟩)).mono ?_
  rintro e T2 ⟨v2, rfl, o2, hB⟩
  replace ra := Row.below ra hB (Row.lt ra)
  replace rc := Row.below rc hB (Row.lt rc)
  replace r1 := Row.below r1 hB (Row.lt r1)
  replace r2 := Row.below r2 hB (Row.lt r2)
  replace r3 := Row.below r3 hB (Row.lt r3)
  replace r4 := Row.below r4 hB (Row.lt r4)
  replace r5 := Row.below r5 hB (Row.lt r5)
  replace rA := Row.below rA hB (Row.lt rA)
  replace g0 := Row.below g0 hB (Row.lt g0)
  replace g1 := Row.below g1 hB (Row.lt g1)
  replace own := ownsU_below own hB (Nat.le_refl _)
  replace hb := hb.trans (hB.mono hb.size)
  replace hMw := Nat.le_trans hMw hB.size
  obtain ⟨G2, d2, s2, rfl, _, hd2, _, g2, _⟩ := ownsU_open o2 (by decide)
  clear hB o2 gA
  go_wp2_with (refine wpList_append_sl rfl (.tmp 83) (.tmp 93) rfl T2 T2 M _ 2 _ _ _ _ own rfl rfl (by decide) hMw (Below.refl _ _) ?_; intro m2 Z2 own2 hB2 hMw2 keep; (replace ra := keep _ _ _ ra (.inl (by decide))); (replace rc := keep _ _ _ rc (.inl (by decide))); (replace r1 := keep _ _ _ r1 (.inl (by decide))); (replace r2 := keep _ _ _ r2 (.inl (by decide))); (replace r3 := keep _ _ _ r3 (.inl (by decide))); (replace r4 := keep _ _ _ r4 (.inl (by decide))); (replace r5 := keep _ _ _ r5 (.inl (by decide))); (replace rA := keep _ _ _ rA (.inr lM)); (replace g0 := keep _ _ _ g0 (.inl (by decide))); (replace g1 := keep _ _ _ g1 (.inl (by decide))); (replace g2 := keep _ _ _ g2 (.inl (by decide))); (replace own := own2); (replace hb := hb.trans (hB2.mono (by omega))); (replace hMw := hMw2); clear own2 hB2 hMw2 keep; simp only [Act.put, List.setIfInBounds_toArray, List.set_cons_zero, List.set_cons_succ])
  rw [rounds_succ]
  go_wp2_with fail
  obtain ⟨GP, dp, sp, hme, hdp, rP⟩ : ∃ g cap sp, m2 = .slice (some ⟨g, 0, none⟩) 3 cap ∧ 3 ≤ cap ∧ Row Z2 g ([.slice (some ⟨G0, 0, none⟩) 72 d0, .slice (some ⟨G1, 0, none⟩) 72 d1, .slice (some ⟨G2, 0, none⟩) 72 d2] ++ sp) 44 := by
    rcases own.2 with ⟨_, h0⟩ | ⟨g, cap, cu, hv, hg, hh, hc, hx, hs, ht⟩
    · cases h0
    · refine ⟨g, cap, cu.toList.drop 3, hv, hc, ?_⟩
      have e : cu.toList.take 3 = [.slice (some ⟨G0, 0, none⟩) 72 d0, .slice (some ⟨G1, 0, none⟩) 72 d1, .slice (some ⟨G2, 0, none⟩) 72 d2] := ht
      rw [← e, List.take_append_drop]
      unfold Row
      rw [hh]
  subst hme
  clear own
  refine wp_loop_rounds 4 ?_
  rw [rounds_succ]
  have gA := rA.cell 0 _ rfl
  have gP := rP.cell 0 _ rfl
  go_wp2_with fail
  go_loopw [18, 19] (fun jv _ wr => ∃ j : Nat, j ≤ 72 ∧ jv = .int .i64 (j : Int) ∧ wr = Z2) (fun jv _ _ => 72 - (intOf jv).toNat)
  case atStart => exact ⟨0, by omega, rfl, rfl⟩
  case round =>
    obtain ⟨j, hj, rfl, hwr⟩ := hrel
    replace hwr := hwr.symm
    subst hwr
    by_cases hlt : j < 72
    · have hlt' : (j : Int) < 72 := by omega
      by_cases h32 : j < 32
      · have q32 : (j : Int) < 32 := by omega
        have gG := g0.cell j _ ((List.getElem?_append_left (by rw [vU_length, List.length_append, List.length_replicate, List.length_replicate]; exact hlt)).trans (vU_get _ j (by rw [List.length_append, List.length_replicate, List.length_replicate]; exact hlt)))
        rw [two_lo 1 2 j h32] at gG
        have gN := r1.cell j _ (vU_get _ j (by rw [List.length_replicate]; exact h32))
        rw [one_lo 1 j h32] at gN
        clear hj
        go_wp2_with fail
        exact ⟨⟨j + 1, hlt, by go_num, trivial⟩, by simp [intOf]; omega⟩
      · have q32 : ¬ (j : Int) < 32 := by omega
        have gG := g0.cell j _ ((List.getElem?_append_left (by rw [vU_length, List.length_append, List.length_replicate, List.length_replicate]; exact hlt)).trans (vU_get _ j (by rw [List.length_append, List.length_replicate, List.length_replicate]; exact hlt)))
        rw [two_hi 1 2 j h32 hlt] at gG
        clear hj
        go_wp2_with fail
        exact ⟨⟨j + 1, hlt, by go_num, trivial⟩, by simp [intOf]; omega⟩
    · obtain rfl : j = 72 := by omega
      clear hj hlt
      go_wp2_with fail
      clear gA gP
      rw [rounds_succ]
      have gA := rA.cell 1 _ rfl
      have gP := rP.cell 1 _ rfl
      go_wp2_with fail
      go_loopw [18, 19] (fun jv _ wr => ∃ j : Nat, j ≤ 72 ∧ jv = .int .i64 (j : Int) ∧ wr = Z2) (fun jv _ _ => 72 - (intOf jv).toNat)
      case atStart => exact ⟨0, by omega, rfl, rfl⟩
      case round =>
        obtain ⟨j, hj, rfl, hwr⟩ := hrel
        replace hwr := hwr.symm
        subst hwr
        by_cases hlt : j < 72
        · have hlt' : (j : Int) < 72 := by omega
          by_cases h32 : j < 32
          · have q32 : (j : Int) < 32 := by omega
            have gG := g1.cell j _ ((List.getElem?_append_left (by rw [vU_length, List.length_append, List.length_replicate, List.length_replicate]; exact hlt)).trans (vU_get _ j (by rw [List.length_append, List.length_replicate, List.length_replicate]; exact hlt)))
            rw [two_lo 12 13 j h32] at gG
            have gN := r2.cell j _ (vU_get _ j (by rw [List.length_replicate]; exact h32))
            rw [one_lo 12 j h32] at gN
            clear hj
            go_wp2_with fail
            exact ⟨⟨j + 1, hlt, by go_num, trivial⟩, by simp [intOf]; omega⟩
          · have q32 : ¬ (j : Int) < 32 := by omega
            have gG := g1.cell j _ ((List.getElem?_append_left (by rw [vU_length, List.length_append, List.length_replicate, List.length_replicate]; exact hlt)).trans (vU_get _ j (by rw [List.length_append, List.length_replicate, List.length_replicate]; exact hlt)))
            rw [two_hi 12 13 j h32 hlt] at gG
            clear hj
            go_wp2_with fail
            exact ⟨⟨j + 1, hlt, by go_num, trivial⟩, by simp [intOf]; omega⟩
        · obtain rfl : j = 72 := by omega
          clear hj hlt
          go_wp2_with fail
          clear gA gP
          rw [rounds_succ]
          have gA := rA.cell 2 _ rfl
          have gP := rP.cell 2 _ rfl
          go_wp2_with fail
          go_loopw [18, 19] (fun jv _ wr => ∃ j : Nat, j ≤ 72 ∧ jv = .int .i64 (j : Int) ∧ wr = Z2) (fun jv _ _ => 72 - (intOf jv).toNat)
          case atStart => exact ⟨0, by omega, rfl, rfl⟩
          case round =>
            obtain ⟨j, hj, rfl, hwr⟩ := hrel
            replace hwr := hwr.symm
            subst hwr
            by_cases hlt : j < 72
            · have hlt' : (j : Int) < 72 := by omega
              by_cases h32 : j < 32
              · have q32 : (j : Int) < 32 := by omega
                have gG := g2.cell j _ ((List.getElem?_append_left (by rw [vU_length, List.length_append, List.length_replicate, List.length_replicate]; exact hlt)).trans (vU_get _ j (by rw [List.length_append, List.length_replicate, List.length_replicate]; exact hlt)))
                rw [two_lo 23 24 j h32] at gG
                have gN := r3.cell j _ (vU_get _ j (by rw [List.length_replicate]; exact h32))
                rw [one_lo 23 j h32] at gN
                clear hj
                go_wp2_with fail
                exact ⟨⟨j + 1, hlt, by go_num, trivial⟩, by simp [intOf]; omega⟩
              · have q32 : ¬ (j : Int) < 32 := by omega
                have gG := g2.cell j _ ((List.getElem?_append_left (by rw [vU_length, List.length_append, List.length_replicate, List.length_replicate]; exact hlt)).trans (vU_get _ j (by rw [List.length_append, List.length_replicate, List.length_replicate]; exact hlt)))
                rw [two_hi 23 24 j h32 hlt] at gG
                clear hj
                go_wp2_with fail
                exact ⟨⟨j + 1, hlt, by go_num, trivial⟩, by simp [intOf]; omega⟩
            · obtain rfl : j = 72 := by omega
              clear hj hlt
              go_wp2_with fail
              clear gA gP
              rw [rounds_succ]
              go_wp2_with (refine wpList_load_w rfl 24 (.tmp 3) rfl (w.heap.size) 0 rfl ca _ ra.all Tryd.underlying24 rfl Ha.info ?_; simp only [Act.put, List.setIfInBounds_toArray, List.set_cons_zero, List.set_cons_succ])
              clear r1 r2 r3 g0 g1 g2 rA rP rc hdp
              refine (bytes_c Ha _).mono ?_
              rintro e V6 ⟨N6, _, r6, rfl, hB⟩
              replace hb := hb.trans (hB.mono hb.size)
              replace ra := Row.below ra hB (Row.lt ra)
              replace r4 := Row.below r4 hB (Row.lt r4)
              clear hB
              clear ra
              have hMM : w.heap.size ≤ V6.heap.size := hb.size
              have lN4M : N4 < V6.heap.size := Row.lt r4
              have lN6M : N6 < V6.heap.size := Row.lt r6
              have hBe : Below V6.heap.size V6 (V6.alloc (Obj.cells #[] 5)) := (Below.refl _ _).alloc (Nat.le_refl _) _
              have oe : (V6.alloc (Obj.cells #[] 5)).ownsRow V6.heap.size 5 1 (.slice (some ⟨V6.heap.size, 0, none⟩) 0 0) 0 (vU []) := ⟨rfl, .inr ⟨V6.heap.size, 0, #[], rfl, Nat.le_refl _, Row.new' rfl rfl, Nat.le_refl _, Nat.zero_le _, rfl, rfl⟩⟩
              have bye := HBY.out.below (hb.trans (hBe.mono hb.size))
              have lMe : V6.heap.size ≤ (V6.alloc (Obj.cells #[] 5)).heap.size := hBe.size
              go_wp2_with (refine wpList_append_by rfl (.tmp 156) (.tmp 157) rfl _ V6 V6.heap.size _ 0 n [] bs oe rfl A cap HN.out rfl bye HNL.out (by have := HLN.out; omega) lMe hBe ?_; intro vf WF of hBf hMf; simp only [Act.put, List.setIfInBounds_toArray, List.set_cons_zero, List.set_cons_succ])
              rw [Nat.zero_add, List.nil_append] at of
              replace r4 := Row.below r4 hBf (Row.lt r4)
              replace r6 := Row.below r6 hBf (Row.lt r6)
              replace hb := hb.trans (hBf.mono hb.size)
              clear oe bye lMe hBe hBf
              obtain ⟨L0, hL0⟩ : ∃ E, rdE bs = E := ⟨_, rfl⟩
              obtain ⟨u, hu⟩ : ∃ E, rdR bs = E := ⟨_, rfl⟩
              have QA : Hid (rdR bs = u ∧ rdE bs = L0) := ⟨hu, hL0⟩
              have HLU : Hid (u < 2 ^ 256) := by show u < _; rw [← hu]; unfold rdR; split; exact rdn_lt HBS.out; decide
              obtain ⟨L1, hL1⟩ : ∃ E, rdE (List.replicate n 1) = E := ⟨_, rfl⟩
              obtain ⟨u1, hu1⟩ : ∃ E, rdR (List.replicate n 1) = E := ⟨_, rfl⟩
              have HON : Hid (∀ x ∈ List.replicate n 1, x < 256) := fun x hx => by rw [List.eq_of_mem_replicate hx]; decide
              have QB : Hid (rdR (List.replicate n 1) = u1 ∧ rdE (List.replicate n 1) = L1) := ⟨hu1, hL1⟩
              have HLV : Hid (u1 < 2 ^ 256) := by show u1 < _; rw [← hu1]; unfold rdR; split; exact rdn_lt HON.out; decide
              clear hL0 hu hL1 hu1
              have HLF : Hid ((bs ++ List.replicate 5 77).length = n + 5) := by show _ = _; rw [List.length_append, List.length_replicate, HN.out]
              have HFB : Hid (∀ x ∈ bs ++ List.replicate 5 77, x < 256) := fun x hx => by
                rcases List.mem_append.1 hx with h | h
                · exact HBS.out x h
                · rw [List.eq_of_mem_replicate h]; decide
              obtain ⟨M2, hM2⟩ : ∃ M, M = V6.heap.size := ⟨_, rfl⟩
              rw [← hM2] at of hMf hMM lN4M lN6M
              clear hM2
              have HG := grow_any M2 n 5 77 bs _ (by have := HLN.out; omega) WF hMf (.inl of)
              clear of
              refine HG.mono ?_
              rintro e WG ⟨vg, rfl, og, hB⟩
              clear HG
              replace hMf := Nat.le_trans hMf hB.size
              replace r4 := Row.below r4 hB lN4M
              replace r6 := Row.below r6 hB lN6M
              replace hb := hb.trans (hB.mono hMM)
              clear hB
              obtain ⟨GF, cf, sf, rfl, lGF, hcf, _, rF, _⟩ := ownsU_open og (by omega)
              clear og
              have hcf1 : n ≤ cf := by omega
              have hcf2 : (n : Int) ≤ (cf : Int) := by omega
              go_wp2_with fail
              have HS := read_c HBS.out HN.out cf QA.out.1 QA.out.2 WG (By.front rF HN.out)
              refine ((fun _ => HS) WG).mono ?_
              rintro e V7 ⟨c23, H23, rfl, hB⟩
              replace hb := hb.trans (hB.mono hb.size)
              replace r4 := Row.below r4 hB (Row.lt r4)
              replace r6 := Row.below r6 hB (Row.lt r6)
              replace rF := Row.below rF hB (Row.lt rF)
              clear hB
              have k23 : GF < V7.heap.size := Row.lt rF
              have n0 : Row (V7.alloc (Obj.cells #[Value.int IntKind.u64 0, Value.int IntKind.u64 0, Value.int IntKind.u64 0, Value.int IntKind.u64 0] 24)) V7.heap.size (vQ (List.replicate 4 0)) 24 := Row.new' rfl rfl
              have T0 := H23.there n0 rfl
              replace n0 := n0.over (vs := c23) (by rw [H23.len]; rfl)
              have lt := Row.lt r4
              replace r4 := (Row.setCells_other (Row.alloc r4 (Obj.cells #[Value.int IntKind.u64 0, Value.int IntKind.u64 0, Value.int IntKind.u64 0, Value.int IntKind.u64 0] 24)) V7.heap.size 0 c23 (by omega))
              clear lt
              have lt := Row.lt r6
              replace r6 := (Row.setCells_other (Row.alloc r6 (Obj.cells #[Value.int IntKind.u64 0, Value.int IntKind.u64 0, Value.int IntKind.u64 0, Value.int IntKind.u64 0] 24)) V7.heap.size 0 c23 (by omega))
              clear lt
              have lt := Row.lt rF
              replace rF := (Row.setCells_other (Row.alloc rF (Obj.cells #[Value.int IntKind.u64 0, Value.int IntKind.u64 0, Value.int IntKind.u64 0, Value.int IntKind.u64 0] 24)) V7.heap.size 0 c23 (by omega))
              clear lt
              have hbn : Below w.heap.size w ((V7.alloc (Obj.cells #[Value.int IntKind.u64 0, Value.int IntKind.u64 0, Value.int IntKind.u64 0, Value.int IntKind.u64 0] 24)).setCells V7.heap.size 0 c23) := (below_setCells (hb.alloc hb.size (Obj.cells #[Value.int IntKind.u64 0, Value.int IntKind.u64 0, Value.int IntKind.u64 0, Value.int IntKind.u64 0] 24)) (b := V7.heap.size) (o := 0) (by have := hb.size; omega) c23)
              replace hb := hbn
              clear hbn
              have r23 := n0
              clear n0
              go_wp2_with (refine wpList_store_mid rfl 24 (.tmp 23) (.tmp 167) rfl V7.heap.size 0 c23.toArray rfl rfl T0 H23.info' H23.one ?_; simp only [Act.put]; clear T0; (change wpList _ _ _ _ _ ((V7.alloc (Obj.cells #[Value.int IntKind.u64 0, Value.int IntKind.u64 0, Value.int IntKind.u64 0, Value.int IntKind.u64 0] 24)).setCells V7.heap.size 0 c23)); (generalize ((V7.alloc (Obj.cells #[Value.int IntKind.u64 0, Value.int IntKind.u64 0, Value.int IntKind.u64 0, Value.int IntKind.u64 0] 24)).setCells V7.heap.size 0 c23) = X7 at *); (generalize hN0 : V7.heap.size = N23 at *; clear hN0))
              clear HS
              have HS := refRead_c HBS.out HN.out cap QA.out.1 QA.out.2 X7 (HBY.out.below hb)
              refine ((fun _ => HS) X7).mono ?_
              rintro e V8 ⟨c25, H25, rfl, hB⟩
              replace hb := hb.trans (hB.mono hb.size)
              replace r4 := Row.below r4 hB (Row.lt r4)
              replace r6 := Row.below r6 hB (Row.lt r6)
              replace rF := Row.below rF hB (Row.lt rF)
              replace r23 := Row.below r23 hB (Row.lt r23)
              clear hB
              have k25 : N23 < V8.heap.size := Row.lt r23
              have n0 : Row (V8.alloc (Obj.cells #[Value.int IntKind.u64 0, Value.int IntKind.u64 0, Value.int IntKind.u64 0, Value.int IntKind.u64 0] 24)) V8.heap.size (vQ (List.replicate 4 0)) 24 := Row.new' rfl rfl
              have T0 := H25.there n0 rfl
              replace n0 := n0.over (vs := c25) (by rw [H25.len]; rfl)
              have lt := Row.lt r4
              replace r4 := (Row.setCells_other (Row.alloc r4 (Obj.cells #[Value.int IntKind.u64 0, Value.int IntKind.u64 0, Value.int IntKind.u64 0, Value.int IntKind.u64 0] 24)) V8.heap.size 0 c25 (by omega))
              clear lt
              have lt := Row.lt r6
              replace r6 := (Row.setCells_other (Row.alloc r6 (Obj.cells #[Value.int IntKind.u64 0, Value.int IntKind.u64 0, Value.int IntKind.u64 0, Value.int IntKind.u64 0] 24)) V8.heap.size 0 c25 (by omega))
              clear lt
              have lt := Row.lt rF
              replace rF := (Row.setCells_other (Row.alloc rF (Obj.cells #[Value.int IntKind.u64 0, Value.int IntKind.u64 0, Value.int IntKind.u64 0, Value.int IntKind.u64 0] 24)) V8.heap.size 0 c25 (by omega))
              clear lt
              have lt := Row.lt r23
              replace r23 := (Row.setCells_other (Row.alloc r23 (Obj.cells #[Value.int IntKind.u64 0, Value.int IntKind.u64 0, Value.int IntKind.u64 0, Value.int IntKind.u64 0] 24)) V8.heap.size 0 c25 (by omega))
              clear lt
              have hbn : Below w.heap.size w ((V8.alloc (Obj.cells #[Value.int IntKind.u64 0, Value.int IntKind.u64 0, Value.int IntKind.u64 0, Value.int IntKind.u64 0] 24)).setCells V8.heap.size 0 c25) := (below_setCells (hb.alloc hb.size (Obj.cells #[Value.int IntKind.u64 0, Value.int IntKind.u64 0, Value.int IntKind.u64 0, Value.int IntKind.u64 0] 24)) (b := V8.heap.size) (o := 0) (by have := hb.size; omega) c25)
              replace hb := hbn
              clear hbn
              have r25 := n0
              clear n0
              go_upto_region 35 with (refine wpList_store_mid rfl 24 (.tmp 25) (.tmp 172) rfl V8.heap.size 0 c25.toArray rfl rfl T0 H25.info' H25.one ?_; simp only [Act.put]; clear T0; (change wpList _ _ _ _ _ ((V8.alloc (Obj.cells #[Value.int IntKind.u64 0, Value.int IntKind.u64 0, Value.int IntKind.u64 0, Value.int IntKind.u64 0] 24)).setCells V8.heap.size 0 c25)); (generalize ((V8.alloc (Obj.cells #[Value.int IntKind.u64 0, Value.int IntKind.u64 0, Value.int IntKind.u64 0, Value.int IntKind.u64 0] 24)).setCells V8.heap.size 0 c25) = X8 at *); (generalize hN0 : V8.heap.size = N25 at *; clear hN0))
              clear HS
              obtain ⟨M3, hM3⟩ : ∃ M, M = X8.heap.size := ⟨_, rfl⟩
              have hMM3 : w.heap.size ≤ M3 := by rw [hM3]; exact hb.size
              have tr4 : N4 < M3 := by rw [hM3]; exact Row.lt r4
              have tr6 : N6 < M3 := by rw [hM3]; exact Row.lt r6
              have trF : GF < M3 := by rw [hM3]; exact Row.lt rF
              have tr23 : N23 < M3 := by rw [hM3]; exact Row.lt r23
              have tr25 : N25 < M3 := by rw [hM3]; exact Row.lt r25
              have hBe : Below M3 X8 (X8.alloc (Obj.cells #[] 5)) := (Below.refl _ _).alloc (Nat.le_of_eq hM3) _
              have oe : (X8.alloc (Obj.cells #[] 5)).ownsRow M3 5 1 (.slice (some ⟨X8.heap.size, 0, none⟩) 0 0) 0 (vU []) := ⟨rfl, .inr ⟨X8.heap.size, 0, #[], rfl, Nat.le_of_eq hM3, Row.new' rfl rfl, Nat.le_refl _, Nat.zero_le _, rfl, rfl⟩⟩
              have bye := HBY.out.below (hb.trans (hBe.mono hMM3))
              have lMe : M3 ≤ (X8.alloc (Obj.cells #[] 5)).heap.size := Nat.le_trans (Nat.le_of_eq hM3) (by simp)
              clear hM3
              go_wp2_with (first
                | (go_at_call 34; refine (alike_c (bl_lt a) (bl_length a) (some ⟨N6, 0, none⟩) (some ⟨N4, 0, none⟩) 32 32 _ (By.row r6) (By.row r4)).mono ?_; rintro e w2 ⟨rfl, rfl⟩)
                | (refine wpList_load_w rfl 24 (.tmp 23) rfl N23 0 rfl c23 _ r23.all Tryd.underlying24 rfl H23.info ?_; simp only [Act.put, List.setIfInBounds_toArray, List.set_cons_zero, List.set_cons_succ])
                | (refine wpList_load_w rfl 24 (.tmp 25) rfl N25 0 rfl c25 _ r25.all Tryd.underlying24 rfl H25.info ?_; simp only [Act.put, List.setIfInBounds_toArray, List.set_cons_zero, List.set_cons_succ])
                | (refine wpList_neq_c (B := false) rfl (.tmp 179) (.tmp 180) 24 rfl H23 H25 HLU.out HLU.out rfl rfl (by simp) ?_; simp only [Act.put, List.setIfInBounds_toArray, List.set_cons_zero, List.set_cons_succ])
                | (refine wpList_append_by rfl (.tmp 190) (.tmp 191) rfl _ _ M3 _ 0 n [] bs oe rfl A cap HN.out rfl bye HNL.out (by have := HLN.out; omega) lMe hBe ?_; intro vh WH oh hB hMh; (rw [Nat.zero_add, List.nil_append] at oh); (replace r4 := Row.below r4 hB tr4); (replace r6 := Row.below r6 hB tr6); (replace rF := Row.below rF hB trF); (replace r23 := Row.below r23 hB tr23); (replace r25 := Row.below r25 hB tr25); (replace hb := hb.trans (hB.mono hMM3)); clear oe bye lMe hBe hB; simp only [Act.put, List.setIfInBounds_toArray, List.set_cons_zero, List.set_cons_succ])
                | (go_at_call 36; refine (grow_any M3 n 5 77 bs _ (by have := HLN.out; omega) WH hMh (.inl oh)).mono ?_; rintro e WI ⟨vi, rfl, oi, hB⟩; (replace r4 := Row.below r4 hB tr4); (replace r6 := Row.below r6 hB tr6); (replace rF := Row.below rF hB trF); (replace r23 := Row.below r23 hB tr23); (replace r25 := Row.below r25 hB tr25); (replace hb := hb.trans (hB.mono hMM3)); clear hB oh; (obtain ⟨GI, ci, si, rfl, _, _, _, rI, _⟩ := ownsU_open oi (by omega)); clear oi)
                | (go_at_call 34; refine (alike_c HFB.out HLF.out (some ⟨GF, 0, none⟩) (some ⟨GI, 0, none⟩) cf ci _ (By.whole rF) (By.whole rI)).mono ?_; rintro e w2 ⟨rfl, rfl⟩; clear rI))
              refine (fill_any GF n cf 1 (by decide) bs (List.replicate 5 77) HN.out (by have := HLN.out; omega) sf _ rF).mono ?_
              rintro e WJ ⟨rfl, qF, hBt⟩
              replace r23 := Row.but r23 hBt (by omega)
              replace r25 := Row.but r25 hBt (by omega)
              replace hb := But.below hb hBt (by omega)
              clear hBt rF r4 r6
              go_wp2_with fail
              refine (read_c HON.out List.length_replicate cf QB.out.1 QB.out.2 _ (By.front qF List.length_replicate)).mono ?_
              rintro e V5 ⟨c5, H5, rfl, hB⟩
              replace qF := Row.below qF hB (Row.lt qF)
              replace r23 := Row.below r23 hB (Row.lt r23)
              replace r25 := Row.below r25 hB (Row.lt r25)
              replace hb := hb.trans (hB.mono hb.size)
              clear hB
              have T23 := H5.there r23 (by rw [H23.len])
              have u23 := r23.over (vs := c5) (by rw [H5.len, H23.len])
              have uF := Row.setCells_other qF N23 0 c5 (by omega)
              have u25 := Row.setCells_other r25 N23 0 c5 (by omega)
              have ub := below_setCells hb (b := N23) (o := 0) (by omega) c5
              clear r23 qF r25 hb
              go_wp2_with (refine wpList_store_mid rfl 24 (.tmp 23) (.tmp 202) rfl N23 0 c5.toArray rfl rfl T23 H5.info' H5.one ?_; simp only [Act.put]; clear T23; (generalize V5.setCells N23 0 c5 = Y5 at *))
              refine (refRead_c HON.out List.length_replicate cf QB.out.1 QB.out.2 _ (By.front uF List.length_replicate)).mono ?_
              rintro e V6 ⟨c6, H6, rfl, hB⟩
              replace u23 := Row.below u23 hB (Row.lt u23)
              replace u25 := Row.below u25 hB (Row.lt u25)
              replace ub := ub.trans (hB.mono ub.size)
              clear hB uF
              have T25 := H6.there u25 (by rw [H25.len])
              have v25 := u25.over (vs := c6) (by rw [H6.len, H25.len])
              have v23 := Row.setCells_other u23 N25 0 c6 (by omega)
              have vb := below_setCells ub (b := N25) (o := 0) (by omega) c6
              clear u23 u25 ub
              go_wp2_with (first
                | (refine wpList_store_mid rfl 24 (.tmp 25) (.tmp 207) rfl N25 0 c6.toArray rfl rfl T25 H6.info' H6.one ?_; simp only [Act.put]; clear T25; (generalize V6.setCells N25 0 c6 = Y6 at *))
                | (refine wpList_load_w rfl 24 (.tmp 23) rfl N23 0 rfl c5 _ v23.all Tryd.underlying24 rfl H5.info ?_; simp only [Act.put, List.setIfInBounds_toArray, List.set_cons_zero, List.set_cons_succ])
                | (refine wpList_load_w rfl 24 (.tmp 25) rfl N25 0 rfl c6 _ v25.all Tryd.underlying24 rfl H6.info ?_; simp only [Act.put, List.setIfInBounds_toArray, List.set_cons_zero, List.set_cons_succ])
                | (refine wpList_eql_c (B := true) rfl (.tmp 209) (.tmp 210) 24 rfl H5 H6 HLV.out HLV.out rfl rfl (by simp) ?_; simp only [Act.put, List.setIfInBounds_toArray, List.set_cons_zero, List.set_cons_succ]))
              go_ret
              exact ⟨rfl, vb⟩

end Go.Proofs.YtehccmlbnfhhmaaDoor
