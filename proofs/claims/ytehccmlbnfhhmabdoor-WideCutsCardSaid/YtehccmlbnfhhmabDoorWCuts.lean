/-
  causewaylaw02.WideCuts.
-/
import Derived.Test.YtehccmlbnfhhmabDoorWKnown
import Derived.Test.YtehccmlbnfhhmabDoorWCt
import Derived.Deep.CutRange
namespace Go.Proofs.YtehccmlbnfhhmabDoor
open Go Go.RowKit
open Wd

/-- Cells that stay. -/
def RgAt (W : World) (b o : Nat) (c : List Value) : Prop := W.rangeAt b o c ∧ b < W.heap.size
theorem RgAt.below {W W' : World} {b o : Nat} {c : List Value} (h : RgAt W b o c) (hB : Below W.heap.size W W') : RgAt W' b o c := ⟨fun i v hv => (hB.cell (p := ⟨b, o + i, none⟩) h.2).trans (h.1 i v hv), Nat.lt_of_lt_of_le h.2 hB.size⟩

theorem rev_more (xs : List Nat) (i : Nat) (h : i < xs.length) : xs.reverse.take (xs.length - i) = xs.reverse.take (xs.length - (i + 1)) ++ [xs.getD i 0] := by
  rw [show xs.length - i = (xs.length - (i + 1)) + 1 by omega, List.take_succ_eq_append_getElem (by rw [List.length_reverse]; omega)]
  congr 2
  rw [List.getElem_reverse]
  simp [h, show xs.length - 1 - (xs.length - (i + 1)) = i by omega]

set_option maxRecDepth 100000 in
set_option maxHeartbeats 16000000 in
theorem cuts_walk (xs : List Nat) (hxs : ∀ x ∈ xs, x < 2 ^ 256) (hlen : xs.length * 32 ≤ 140737488351232) (A : Option Addr) (cap : Nat) (hcap : xs.length ≤ cap) (q : Int) (hq1 : -9223372036854775808 ≤ q) (hq2 : q ≤ 9223372036854775807) (w : World) (hw : Ws w A xs) (hp : P10 w) :
    Calls Tryd.prog 6 #[.slice A xs.length cap, .int .i64 q] w fun e w' => e = .returned (.bool true) ∧ Below w.heap.size w w' := by
  have HP : Hid (P10 w) := hp
  have HXS : Hid (∀ x ∈ xs, x < 2 ^ 256) := hxs
  have HWS : Hid (Ws w A xs) := hw
  have HAA : Hid (0 < xs.length → ∃ b o, A = some ⟨b, o, none⟩) := fun h => by obtain ⟨b, o, e, _⟩ := hw 0 h; exact ⟨b, o, e⟩
  have HXD : Hid (∀ i, xs.getD i 0 < 2 ^ 256) := fun i => wid_lt hxs i
  have HRM : Hid (∀ i, i < xs.length → xs.reverse.take (xs.length - i) = xs.reverse.take (xs.length - (i + 1)) ++ [xs.getD i 0]) := rev_more xs
  have HL42 : Hid (xs.length ≤ 4398046511104) := by show _ ≤ _; omega
  have HRV : Hid (xs.reverse.length = xs.length ∧ (∀ x ∈ xs.reverse, x < 2 ^ 256) ∧ xs.reverse.sum = xs.sum) := ⟨List.length_reverse, fun x hx => hxs x (List.mem_reverse.1 hx), List.sum_reverse xs⟩
  have HTK : Hid (∀ k, k ≤ xs.length → (xs.take k).length = k ∧ (xs.drop k).length = xs.length - k ∧ (∀ x ∈ xs.take k, x < 2 ^ 256) ∧ (∀ x ∈ xs.drop k, x < 2 ^ 256) ∧ (xs.take k).sum + (xs.drop k).sum = xs.sum) := fun k hk => ⟨by simp; omega, by simp, fun x hx => hxs x (List.mem_of_mem_take hx), fun x hx => hxs x (List.mem_of_mem_drop hx), by rw [← List.sum_append, List.take_append_drop]⟩
  obtain ⟨n, hn⟩ : ∃ n, n = xs.length := ⟨_, rfl⟩
  have HN : Hid (xs.length = n) := hn.symm
  rw [← hn] at hlen hcap HAA HRM HL42 HRV HTK ⊢
  obtain ⟨n1, en1⟩ : ∃ n1, n1 = n + 1 := ⟨_, rfl⟩
  have eK : (n : Int) + 1 = (n1 : Int) := by omega
  have ln : (n : Int) ≤ 4398046511104 := by have := HL42.out; omega
  have HPK : Hid (∀ w, _) := fun w => pick_any q n1 hq1 hq2 (by omega) (by have := HL42.out; omega) w
  have HN1 : Hid (n1 = n + 1) := en1
  have HLB : Hid (n * 32 ≤ 140737488351232) := hlen
  have HCP : Hid (n ≤ cap) := hcap
  clear hxs hw hp hn en1 hq1 hq2 hlen hcap
  have hb : Below w.heap.size w w := Below.refl _ _
  go_enter Tryd.func6, Tryd.ntmps6
  go_wp2_with fail
  refine (known_any w HP.out).mono ?_
  rintro e V0 ⟨rfl, hB⟩
  replace hb := hb.trans (hB.mono hb.size)
  clear hB
  go_wp2_with fail
  refine (HPK.out _).mono ?_
  rintro e V1 ⟨k, hk, rfl, rfl⟩
  have hkn : k ≤ n := by have := HN1.out; omega
  clear HPK hk
  go_wp2_with fail
  obtain ⟨M, hM⟩ : ∃ M, M = V1.heap.size := ⟨_, rfl⟩
  have hwM : w.heap.size ≤ M := by rw [hM]; exact hb.size
  go_loopw [7, 8] (fun bv iv wr => ∃ t : Nat, t ≤ n ∧ iv = .int .i64 ((t : Int) - 1) ∧ Below w.heap.size w wr ∧ M ≤ wr.heap.size ∧ Hid (wr.ownsRow M 24 4 bv (n - t) (flat (xs.reverse.take (n - t))))) (fun _ iv _ => (intOf iv + 1).toNat)
  case atStart =>
    refine ⟨n, Nat.le_refl _, rfl, hb, by rw [hM]; exact Nat.le_refl _, ?_⟩
    rw [Nat.sub_self]
    exact World.ownsRow_nil _ _ _ _
  case round =>
    clear hb hM
    obtain ⟨t, ht, rfl, hb, hMw, hO⟩ := hrel
    by_cases h0 : 0 < t
    · obtain ⟨i, rfl⟩ : ∃ i, t = i + 1 := ⟨t - 1, by omega⟩
      have ei : (((i + 1 : Nat) : Int) - 1) = (i : Int) := by omega
      rw [ei]
      obtain ⟨b, o, rfl, rg, _⟩ := (HWS.out.below hb) i (by rw [HN.out]; omega)
      have hrm := HRM.out i (by omega)
      obtain ⟨x, ex⟩ : ∃ x, x = xs.getD i 0 := ⟨_, rfl⟩
      rw [← ex] at rg hrm
      obtain ⟨cx, Hx⟩ : ∃ c, Wc c x := ⟨_, rfl⟩
      rw [← show cx = vQ (dgs x 4) from Hx] at rg
      have HRR : Hid (xs.reverse.take (n - i) = xs.reverse.take (n - (i + 1)) ++ [x]) := hrm
      have hil : (i : Int) < (n : Int) := by omega
      have hil' : i < n := by omega
      obtain ⟨r, er⟩ : ∃ r, r = n - (i + 1) := ⟨_, rfl⟩
      rw [← er] at hO HRR
      have HR1 : Hid (n - i = r + 1) := by show _ = _; omega
      have hr32 : (r + 1) * 32 ≤ 140737488355328 := by have := HLB.out; omega
      clear hrm ex ei h0 ht er
      go_wp2_with (first
        | (refine wpList_index_ws rfl (.tmp 36) (.tmp 37) rfl b o n cap i rfl rfl hil' ?_; simp only [Act.put, List.setIfInBounds_toArray, List.set_cons_zero, List.set_cons_succ])
        | (refine wpList_load_w rfl 24 (.tmp 38) rfl b (o + i * 4) rfl cx _ rg Tryd.underlying24 rfl Hx.info ?_; simp only [Act.put, List.setIfInBounds_toArray, List.set_cons_zero, List.set_cons_succ])
        | (refine wpList_build1 rfl (.tmp 39) rfl cx Hx.len rfl wr.heap.size rfl ?_; simp only [Act.put, List.setIfInBounds_toArray, List.set_cons_zero, List.set_cons_succ])
        | (refine wpList_append_w rfl (.tmp 35) (.tmp 40) rfl wr wr M _ r x cx Hx _ hO.out rfl rfl hr32 hMw (Below.refl _ _) ?_; intro v7 W7 ho7 hb7; have HO7 : Hid _ := ho7; clear ho7; simp only [Act.put, List.setIfInBounds_toArray, List.set_cons_zero, List.set_cons_succ]))
      refine ⟨⟨i, by omega, rfl, hb.trans (hb7.mono hwM), Nat.le_trans hMw hb7.size, ?_⟩, by simp [intOf]⟩
      rw [HR1.out, ← HR1.out, HRR.out, flat_append, flat_one, ← show cx = vQ (dgs x 4) from Hx, HR1.out]
      exact HO7.out
    · obtain rfl : t = 0 := by omega
      rw [show (((0 : Nat) : Int) - 1) = -1 from rfl]
      have own := hO.out
      rw [Nat.sub_zero, show xs.reverse.take n = xs.reverse from List.take_of_length_le (by rw [List.length_reverse, HN.out]; exact Nat.le_refl _)] at own
      obtain ⟨A2, cap2, e2, bk⟩ := owns_ws own (by rw [List.length_reverse]; exact HN.out)
      subst e2
      obtain ⟨aS, haS⟩ : ∃ a, sumR xs = a := ⟨_, rfl⟩
      obtain ⟨E, hE⟩ : ∃ a, sumE xs = a := ⟨_, rfl⟩
      obtain ⟨u1, hu1⟩ : ∃ a, sumR (xs.take k) = a := ⟨_, rfl⟩
      obtain ⟨E1, hE1⟩ : ∃ a, sumE (xs.take k) = a := ⟨_, rfl⟩
      obtain ⟨u2, hu2⟩ : ∃ a, sumR (xs.drop k) = a := ⟨_, rfl⟩
      obtain ⟨E2, hE2⟩ : ∃ a, sumE (xs.drop k) = a := ⟨_, rfl⟩
      obtain ⟨u3, hu3⟩ : ∃ a, addR u1 u2 = a := ⟨_, rfl⟩
      obtain ⟨E3, hE3⟩ : ∃ a, addE u1 u2 = a := ⟨_, rfl⟩
      obtain ⟨t1, t2, t3, t4, t5⟩ := HTK.out k hkn
      have lS : aS < 2 ^ 256 := by rw [← haS]; unfold sumR; split; assumption; decide
      have l1 : u1 < 2 ^ 256 := by rw [← hu1]; unfold sumR; split; assumption; decide
      have l2 : u2 < 2 ^ 256 := by rw [← hu2]; unfold sumR; split; assumption; decide
      have l3 : u3 < 2 ^ 256 := by rw [← hu3]; unfold addR; split; assumption; decide
      have k1 : E ≠ 0 ∨ (E = 0 ∧ E1 = 0 ∧ E2 = 0 ∧ E3 = 0 ∧ u3 = aS) := by
        by_cases h : xs.sum < 2 ^ 256
        · right
          have e1 : u1 = (xs.take k).sum := by rw [← hu1]; exact if_pos (by omega)
          have e2 : u2 = (xs.drop k).sum := by rw [← hu2]; exact if_pos (by omega)
          refine ⟨by rw [← hE]; exact if_pos h, by rw [← hE1]; exact if_pos (by omega), by rw [← hE2]; exact if_pos (by omega), ?_, ?_⟩
          · rw [← hE3, e1, e2]; exact if_pos (by omega)
          · rw [← hu3, e1, e2, ← haS, show sumR xs = xs.sum from if_pos h, ← t5]; exact if_pos (by omega)
        · left
          rw [← hE, show sumE xs = 22 from if_neg h]
          decide
      have k2 : E = 0 ∨ (E ≠ 0 ∧ E1 ≠ 0) ∨ (E ≠ 0 ∧ E1 = 0 ∧ E2 ≠ 0) ∨ (E ≠ 0 ∧ E1 = 0 ∧ E2 = 0 ∧ E3 ≠ 0) := by
        by_cases h : xs.sum < 2 ^ 256
        · left
          rw [← hE]; exact if_pos h
        · have e0 : E ≠ 0 := by rw [← hE, show sumE xs = 22 from if_neg h]; decide
          by_cases h1 : (xs.take k).sum < 2 ^ 256
          · by_cases h2 : (xs.drop k).sum < 2 ^ 256
            · refine .inr (.inr (.inr ⟨e0, by rw [← hE1]; exact if_pos h1, by rw [← hE2]; exact if_pos h2, ?_⟩))
              have e1 : u1 = (xs.take k).sum := by rw [← hu1]; exact if_pos h1
              have e2 : u2 = (xs.drop k).sum := by rw [← hu2]; exact if_pos h2
              rw [← hE3, e1, e2, show addE (xs.take k).sum (xs.drop k).sum = 22 from if_neg (by omega)]
              decide
            · refine .inr (.inr (.inl ⟨e0, by rw [← hE1]; exact if_pos h1, ?_⟩))
              rw [← hE2, show sumE (xs.drop k) = 22 from if_neg h2]
              decide
          · refine .inr (.inl ⟨e0, ?_⟩)
            rw [← hE1, show sumE (xs.take k) = 22 from if_neg h1]
            decide
      have QA : Hid (sumR xs = aS ∧ sumE xs = E) := ⟨haS, hE⟩
      have QB : Hid (sumR xs.reverse = aS ∧ sumE xs.reverse = E) := by show _ ∧ _; unfold sumR sumE; rw [HRV.out.2.2]; exact ⟨haS, hE⟩
      have QC : Hid (sumR (xs.take k) = u1 ∧ sumE (xs.take k) = E1) := ⟨hu1, hE1⟩
      have QD : Hid (sumR (xs.drop k) = u2 ∧ sumE (xs.drop k) = E2) := ⟨hu2, hE2⟩
      have QE : Hid (addR u1 u2 = u3 ∧ addE u1 u2 = E3) := ⟨hu3, hE3⟩
      have HLS : Hid (aS < 2 ^ 256) := lS
      have HL1 : Hid (u1 < 2 ^ 256) := l1
      have HL2 : Hid (u2 < 2 ^ 256) := l2
      have HL3 : Hid (u3 < 2 ^ 256) := l3
      have K1 : Hid (_ ∨ _) := k1
      have K2 : Hid (_ ∨ _) := k2
      have HT1 : Hid ((xs.take k).length = k ∧ (xs.drop k).length = n - k ∧ (∀ x ∈ xs.take k, x < 2 ^ 256) ∧ (∀ x ∈ xs.drop k, x < 2 ^ 256)) := ⟨t1, t2, t3, t4⟩
      have hkn' : (k : Int) ≤ (n : Int) := by omega
      clear own hO h0 ht haS hE hu1 hE1 hu2 hE2 hu3 hE3 t1 t2 t3 t4 t5 lS l1 l2 l3 k1 k2 hMw hwM
      generalize wr = Y0 at *
      go_wp2_with fail
      have HSA := sum_c HXS.out (by rw [HN.out]; exact HL42.out) HN.out cap QA.out.1 QA.out.2 Y0 (HWS.out.below hb)
      refine ((fun _ => HSA) Y0).mono ?_
      rintro e V0 ⟨c9, H9, rfl, hB⟩
      replace hb := hb.trans (hB.mono hb.size)
      replace bk := bk.below hB
      clear hB
      have n0 : Row (V0.alloc (Obj.cells #[Value.int IntKind.u64 0, Value.int IntKind.u64 0, Value.int IntKind.u64 0, Value.int IntKind.u64 0] 24)) V0.heap.size (vQ (List.replicate 4 0)) 24 := Row.new' rfl rfl
      have T0 := H9.there n0 rfl
      replace n0 := n0.over (vs := c9) (by rw [H9.len]; rfl)
      have hbf : Below V0.heap.size V0 ((V0.alloc (Obj.cells #[Value.int IntKind.u64 0, Value.int IntKind.u64 0, Value.int IntKind.u64 0, Value.int IntKind.u64 0] 24)).setCells V0.heap.size 0 c9) := (below_setCells ((Below.refl _ _ : Below V0.heap.size V0 V0).alloc (Nat.le_refl _) (Obj.cells #[Value.int IntKind.u64 0, Value.int IntKind.u64 0, Value.int IntKind.u64 0, Value.int IntKind.u64 0] 24)) (b := V0.heap.size) (o := 0) (by omega) c9)
      replace bk := bk.below hbf
      clear hbf
      have hbn : Below w.heap.size w ((V0.alloc (Obj.cells #[Value.int IntKind.u64 0, Value.int IntKind.u64 0, Value.int IntKind.u64 0, Value.int IntKind.u64 0] 24)).setCells V0.heap.size 0 c9) := (below_setCells (hb.alloc hb.size (Obj.cells #[Value.int IntKind.u64 0, Value.int IntKind.u64 0, Value.int IntKind.u64 0, Value.int IntKind.u64 0] 24)) (b := V0.heap.size) (o := 0) (by have := hb.size; omega) c9)
      replace hb := hbn
      clear hbn
      have r9 := n0
      clear n0
      go_wp2_with (refine wpList_store_mid rfl 24 (.tmp 9) (.tmp 45) rfl V0.heap.size 0 c9.toArray rfl rfl T0 H9.info' H9.one ?_; simp only [Act.put]; clear T0; (change wpList _ _ _ _ _ ((V0.alloc (Obj.cells #[Value.int IntKind.u64 0, Value.int IntKind.u64 0, Value.int IntKind.u64 0, Value.int IntKind.u64 0] 24)).setCells V0.heap.size 0 c9)); (generalize ((V0.alloc (Obj.cells #[Value.int IntKind.u64 0, Value.int IntKind.u64 0, Value.int IntKind.u64 0, Value.int IntKind.u64 0] 24)).setCells V0.heap.size 0 c9) = X0 at *); (generalize hN0 : V0.heap.size = N9 at *; clear hN0))
      clear HSA
      have HSB := sum_c HRV.out.2.1 (by rw [HRV.out.1]; exact HL42.out) HRV.out.1 cap2 QB.out.1 QB.out.2 X0 bk
      clear bk
      refine ((fun _ => HSB) X0).mono ?_
      rintro e V1 ⟨c11, H11, rfl, hB⟩
      replace hb := hb.trans (hB.mono hb.size)
      replace r9 := Row.below r9 hB (Row.lt r9)
      clear hB
      have n0 : Row (V1.alloc (Obj.cells #[Value.int IntKind.u64 0, Value.int IntKind.u64 0, Value.int IntKind.u64 0, Value.int IntKind.u64 0] 24)) V1.heap.size (vQ (List.replicate 4 0)) 24 := Row.new' rfl rfl
      have T0 := H11.there n0 rfl
      replace n0 := n0.over (vs := c11) (by rw [H11.len]; rfl)
      have lt := Row.lt r9
      replace r9 := (Row.setCells_other (Row.alloc r9 (Obj.cells #[Value.int IntKind.u64 0, Value.int IntKind.u64 0, Value.int IntKind.u64 0, Value.int IntKind.u64 0] 24)) V1.heap.size 0 c11 (by omega))
      clear lt
      have hbn : Below w.heap.size w ((V1.alloc (Obj.cells #[Value.int IntKind.u64 0, Value.int IntKind.u64 0, Value.int IntKind.u64 0, Value.int IntKind.u64 0] 24)).setCells V1.heap.size 0 c11) := (below_setCells (hb.alloc hb.size (Obj.cells #[Value.int IntKind.u64 0, Value.int IntKind.u64 0, Value.int IntKind.u64 0, Value.int IntKind.u64 0] 24)) (b := V1.heap.size) (o := 0) (by have := hb.size; omega) c11)
      replace hb := hbn
      clear hbn
      have r11 := n0
      clear n0
      go_wp2_with (first
        | (refine wpList_store_mid rfl 24 (.tmp 11) (.tmp 50) rfl V1.heap.size 0 c11.toArray rfl rfl T0 H11.info' H11.one ?_; simp only [Act.put]; clear T0; (change wpList _ _ _ _ _ ((V1.alloc (Obj.cells #[Value.int IntKind.u64 0, Value.int IntKind.u64 0, Value.int IntKind.u64 0, Value.int IntKind.u64 0] 24)).setCells V1.heap.size 0 c11)); (generalize ((V1.alloc (Obj.cells #[Value.int IntKind.u64 0, Value.int IntKind.u64 0, Value.int IntKind.u64 0, Value.int IntKind.u64 0] 24)).setCells V1.heap.size 0 c11) = X1 at *); (generalize hN0 : V1.heap.size = N11 at *; clear hN0))
        | (refine wpList_slice_hw rfl (.tmp 53) (.tmp 54) rfl _ A n cap xs HN.out HAA.out (HWS.out.below hb) HCP.out k rfl rfl hkn ?_; intro B1 d1 ws1; simp only [Act.put, List.setIfInBounds_toArray, List.set_cons_zero, List.set_cons_succ]))
      clear HSB
      have HSC := sum_c HT1.out.2.2.1 (by rw [HT1.out.1]; exact Nat.le_trans hkn HL42.out) HT1.out.1 d1 QC.out.1 QC.out.2 X1 ws1
      clear ws1
      refine ((fun _ => HSC) X1).mono ?_
      rintro e V2 ⟨c13, H13, rfl, hB⟩
      replace hb := hb.trans (hB.mono hb.size)
      replace r9 := Row.below r9 hB (Row.lt r9)
      replace r11 := Row.below r11 hB (Row.lt r11)
      clear hB
      have n0 : Row (V2.alloc (Obj.cells #[Value.int IntKind.u64 0, Value.int IntKind.u64 0, Value.int IntKind.u64 0, Value.int IntKind.u64 0] 24)) V2.heap.size (vQ (List.replicate 4 0)) 24 := Row.new' rfl rfl
      have T0 := H13.there n0 rfl
      replace n0 := n0.over (vs := c13) (by rw [H13.len]; rfl)
      have lt := Row.lt r9
      replace r9 := (Row.setCells_other (Row.alloc r9 (Obj.cells #[Value.int IntKind.u64 0, Value.int IntKind.u64 0, Value.int IntKind.u64 0, Value.int IntKind.u64 0] 24)) V2.heap.size 0 c13 (by omega))
      clear lt
      have lt := Row.lt r11
      replace r11 := (Row.setCells_other (Row.alloc r11 (Obj.cells #[Value.int IntKind.u64 0, Value.int IntKind.u64 0, Value.int IntKind.u64 0, Value.int IntKind.u64 0] 24)) V2.heap.size 0 c13 (by omega))
      clear lt
      have hbn : Below w.heap.size w ((V2.alloc (Obj.cells #[Value.int IntKind.u64 0, Value.int IntKind.u64 0, Value.int IntKind.u64 0, Value.int IntKind.u64 0] 24)).setCells V2.heap.size 0 c13) := (below_setCells (hb.alloc hb.size (Obj.cells #[Value.int IntKind.u64 0, Value.int IntKind.u64 0, Value.int IntKind.u64 0, Value.int IntKind.u64 0] 24)) (b := V2.heap.size) (o := 0) (by have := hb.size; omega) c13)
      replace hb := hbn
      clear hbn
      have r13 := n0
      clear n0
      go_wp2_with (first
        | (refine wpList_store_mid rfl 24 (.tmp 13) (.tmp 57) rfl V2.heap.size 0 c13.toArray rfl rfl T0 H13.info' H13.one ?_; simp only [Act.put]; clear T0; (change wpList _ _ _ _ _ ((V2.alloc (Obj.cells #[Value.int IntKind.u64 0, Value.int IntKind.u64 0, Value.int IntKind.u64 0, Value.int IntKind.u64 0] 24)).setCells V2.heap.size 0 c13)); (generalize ((V2.alloc (Obj.cells #[Value.int IntKind.u64 0, Value.int IntKind.u64 0, Value.int IntKind.u64 0, Value.int IntKind.u64 0] 24)).setCells V2.heap.size 0 c13) = X2 at *); (generalize hN0 : V2.heap.size = N13 at *; clear hN0))
        | (refine wpList_slice_lw rfl (.tmp 60) (.tmp 61) rfl _ A n cap xs HN.out HAA.out (HWS.out.below hb) HCP.out k rfl rfl hkn ?_; intro B2 d2 ws2; simp only [Act.put, List.setIfInBounds_toArray, List.set_cons_zero, List.set_cons_succ]))
      clear HSC
      have HSD := sum_c HT1.out.2.2.2 (by rw [HT1.out.2.1]; exact Nat.le_trans (Nat.sub_le _ _) HL42.out) HT1.out.2.1 d2 QD.out.1 QD.out.2 X2 ws2
      clear ws2
      refine ((fun _ => HSD) X2).mono ?_
      rintro e V3 ⟨c15, H15, rfl, hB⟩
      replace hb := hb.trans (hB.mono hb.size)
      replace r9 := Row.below r9 hB (Row.lt r9)
      replace r11 := Row.below r11 hB (Row.lt r11)
      replace r13 := Row.below r13 hB (Row.lt r13)
      clear hB
      have n0 : Row (V3.alloc (Obj.cells #[Value.int IntKind.u64 0, Value.int IntKind.u64 0, Value.int IntKind.u64 0, Value.int IntKind.u64 0] 24)) V3.heap.size (vQ (List.replicate 4 0)) 24 := Row.new' rfl rfl
      have T0 := H15.there n0 rfl
      replace n0 := n0.over (vs := c15) (by rw [H15.len]; rfl)
      have lt := Row.lt r9
      replace r9 := (Row.setCells_other (Row.alloc r9 (Obj.cells #[Value.int IntKind.u64 0, Value.int IntKind.u64 0, Value.int IntKind.u64 0, Value.int IntKind.u64 0] 24)) V3.heap.size 0 c15 (by omega))
      clear lt
      have lt := Row.lt r11
      replace r11 := (Row.setCells_other (Row.alloc r11 (Obj.cells #[Value.int IntKind.u64 0, Value.int IntKind.u64 0, Value.int IntKind.u64 0, Value.int IntKind.u64 0] 24)) V3.heap.size 0 c15 (by omega))
      clear lt
      have lt := Row.lt r13
      replace r13 := (Row.setCells_other (Row.alloc r13 (Obj.cells #[Value.int IntKind.u64 0, Value.int IntKind.u64 0, Value.int IntKind.u64 0, Value.int IntKind.u64 0] 24)) V3.heap.size 0 c15 (by omega))
      clear lt
      have hbn : Below w.heap.size w ((V3.alloc (Obj.cells #[Value.int IntKind.u64 0, Value.int IntKind.u64 0, Value.int IntKind.u64 0, Value.int IntKind.u64 0] 24)).setCells V3.heap.size 0 c15) := (below_setCells (hb.alloc hb.size (Obj.cells #[Value.int IntKind.u64 0, Value.int IntKind.u64 0, Value.int IntKind.u64 0, Value.int IntKind.u64 0] 24)) (b := V3.heap.size) (o := 0) (by have := hb.size; omega) c15)
      replace hb := hbn
      clear hbn
      have r15 := n0
      clear n0
      go_wp2_with (first
        | (refine wpList_store_mid rfl 24 (.tmp 15) (.tmp 64) rfl V3.heap.size 0 c15.toArray rfl rfl T0 H15.info' H15.one ?_; simp only [Act.put]; clear T0; (change wpList _ _ _ _ _ ((V3.alloc (Obj.cells #[Value.int IntKind.u64 0, Value.int IntKind.u64 0, Value.int IntKind.u64 0, Value.int IntKind.u64 0] 24)).setCells V3.heap.size 0 c15)); (generalize ((V3.alloc (Obj.cells #[Value.int IntKind.u64 0, Value.int IntKind.u64 0, Value.int IntKind.u64 0, Value.int IntKind.u64 0] 24)).setCells V3.heap.size 0 c15) = X3 at *); (generalize hN0 : V3.heap.size = N15 at *; clear hN0))
        | (refine wpList_load_w rfl 24 (.tmp 13) rfl N13 0 rfl c13 _ r13.all Tryd.underlying24 rfl H13.info ?_; simp only [Act.put, List.setIfInBounds_toArray, List.set_cons_zero, List.set_cons_succ])
        | (refine wpList_load_w rfl 24 (.tmp 15) rfl N15 0 rfl c15 _ r15.all Tryd.underlying24 rfl H15.info ?_; simp only [Act.put, List.setIfInBounds_toArray, List.set_cons_zero, List.set_cons_succ]))
      clear HSD
      refine (add_c H13 H15 HL1.out HL2.out QE.out.1 QE.out.2 X3).mono ?_
      rintro e V4 ⟨c17, H17, rfl, hB⟩
      replace hb := hb.trans (hB.mono hb.size)
      replace r9 := Row.below r9 hB (Row.lt r9)
      replace r11 := Row.below r11 hB (Row.lt r11)
      replace r13 := Row.below r13 hB (Row.lt r13)
      replace r15 := Row.below r15 hB (Row.lt r15)
      clear hB
      have n0 : Row (V4.alloc (Obj.cells #[Value.int IntKind.u64 0, Value.int IntKind.u64 0, Value.int IntKind.u64 0, Value.int IntKind.u64 0] 24)) V4.heap.size (vQ (List.replicate 4 0)) 24 := Row.new' rfl rfl
      have T0 := H17.there n0 rfl
      replace n0 := n0.over (vs := c17) (by rw [H17.len]; rfl)
      have lt := Row.lt r9
      replace r9 := (Row.setCells_other (Row.alloc r9 (Obj.cells #[Value.int IntKind.u64 0, Value.int IntKind.u64 0, Value.int IntKind.u64 0, Value.int IntKind.u64 0] 24)) V4.heap.size 0 c17 (by omega))
      clear lt
      have lt := Row.lt r11
      replace r11 := (Row.setCells_other (Row.alloc r11 (Obj.cells #[Value.int IntKind.u64 0, Value.int IntKind.u64 0, Value.int IntKind.u64 0, Value.int IntKind.u64 0] 24)) V4.heap.size 0 c17 (by omega))
      clear lt
      have lt := Row.lt r13
      replace r13 := (Row.setCells_other (Row.alloc r13 (Obj.cells #[Value.int IntKind.u64 0, Value.int IntKind.u64 0, Value.int IntKind.u64 0, Value.int IntKind.u64 0] 24)) V4.heap.size 0 c17 (by omega))
      clear lt
      have lt := Row.lt r15
      replace r15 := (Row.setCells_other (Row.alloc r15 (Obj.cells #[Value.int IntKind.u64 0, Value.int IntKind.u64 0, Value.int IntKind.u64 0, Value.int IntKind.u64 0] 24)) V4.heap.size 0 c17 (by omega))
      clear lt
      have hbn : Below w.heap.size w ((V4.alloc (Obj.cells #[Value.int IntKind.u64 0, Value.int IntKind.u64 0, Value.int IntKind.u64 0, Value.int IntKind.u64 0] 24)).setCells V4.heap.size 0 c17) := (below_setCells (hb.alloc hb.size (Obj.cells #[Value.int IntKind.u64 0, Value.int IntKind.u64 0, Value.int IntKind.u64 0, Value.int IntKind.u64 0] 24)) (b := V4.heap.size) (o := 0) (by have := hb.size; omega) c17)
      replace hb := hbn
      clear hbn
      have r17 := n0
      clear n0
      go_upto_region 13 with (refine wpList_store_mid rfl 24 (.tmp 17) (.tmp 70) rfl V4.heap.size 0 c17.toArray rfl rfl T0 H17.info' H17.one ?_; simp only [Act.put]; clear T0; (change wpList _ _ _ _ _ ((V4.alloc (Obj.cells #[Value.int IntKind.u64 0, Value.int IntKind.u64 0, Value.int IntKind.u64 0, Value.int IntKind.u64 0] 24)).setCells V4.heap.size 0 c17)); (generalize ((V4.alloc (Obj.cells #[Value.int IntKind.u64 0, Value.int IntKind.u64 0, Value.int IntKind.u64 0, Value.int IntKind.u64 0] 24)).setCells V4.heap.size 0 c17) = X4 at *); (generalize hN0 : V4.heap.size = N17 at *; clear hN0))
      go_cut [90] from 72 to 90 (fun c90 wz => c90 = .bool false ∧ wz = X4)
      case first =>
        rcases K1.out with h | ⟨h1, h2, h3, h4, h5⟩
        · have hz : (E == 0) = false := by rw [beq_eq_false_iff_ne]; exact h
          go_wp2_with fail
          go_meet
          exact ⟨rfl, rfl⟩
        · subst h1 h2 h3 h4
          go_wp2_with (first
            | (refine wpList_load_w rfl 24 (.tmp 17) rfl N17 0 rfl c17 _ r17.all Tryd.underlying24 rfl H17.info ?_; simp only [Act.put, List.setIfInBounds_toArray, List.set_cons_zero, List.set_cons_succ])
            | (refine wpList_load_w rfl 24 (.tmp 9) rfl N9 0 rfl c9 _ r9.all Tryd.underlying24 rfl H9.info ?_; simp only [Act.put, List.setIfInBounds_toArray, List.set_cons_zero, List.set_cons_succ])
            | (refine wpList_neq_c (B := false) rfl (.tmp 86) (.tmp 87) 24 rfl H17 H9 HL3.out HLS.out rfl rfl (by simp [h5]) ?_; simp only [Act.put, List.setIfInBounds_toArray, List.set_cons_zero, List.set_cons_succ]))
          go_meet
          exact ⟨rfl, rfl⟩
      case rest =>
        obtain ⟨rfl, hwc⟩ := hcut
        subst hwc
        go_upto_region 15 with fail
        go_cut [104] from 91 to 104 (fun c104 wz => c104 = .bool false ∧ wz = wc)
        case first =>
          rcases K2.out with h | ⟨h0, h⟩ | ⟨h0, h1, h⟩ | ⟨h0, h1, h2, h⟩
          · subst h
            go_wp2_with fail
            go_meet
            exact ⟨rfl, rfl⟩
          · have hz0 : (E != 0) = true := by rw [bne_iff_ne]; exact h0
            have hz : (E1 == 0) = false := by rw [beq_eq_false_iff_ne]; exact h
            go_wp2_with fail
            go_meet
            exact ⟨rfl, rfl⟩
          · subst h1
            have hz0 : (E != 0) = true := by rw [bne_iff_ne]; exact h0
            have hz : (E2 == 0) = false := by rw [beq_eq_false_iff_ne]; exact h
            go_wp2_with fail
            go_meet
            exact ⟨rfl, rfl⟩
          · subst h1 h2
            have hz0 : (E != 0) = true := by rw [bne_iff_ne]; exact h0
            have hz : (E3 == 0) = false := by rw [beq_eq_false_iff_ne]; exact h
            go_wp2_with fail
            go_meet
            exact ⟨rfl, rfl⟩
        case rest =>
          obtain ⟨rfl, hwc⟩ := hcut
          subst hwc
          clear r13 r15 r17 K1 K2 QA QB QC QD QE HT1 HRV HRM HTK HLB HN1
          have l9 := Row.lt r9
          have l11 := Row.lt r11
          go_wp2_with fail
          go_loopw [19, 20, 21] (fun jv _ _ wr => ∃ j : Nat, j ≤ 4 ∧ jv = .int .i64 (j : Int) ∧ Below w.heap.size w wr ∧ Row wr N9 c9 24 ∧ Row wr N11 c11 24) (fun jv _ _ _ => 4 - (intOf jv).toNat)
          case atStart => exact ⟨0, by omega, rfl, hb, r9, r11⟩
          case round =>
            clear hb r9 r11 l9 l11
            obtain ⟨j, hj, rfl, hb, r9, r11⟩ := hrel
            by_cases hjn : j < n
            · have q1 : (j : Int) < (n : Int) := by omega
              by_cases hj4 : j < 4
              · have q2 : (j : Int) < 4 := by omega
                obtain ⟨b, o, rfl, rg, hbw⟩ := (HWS.out.below hb) j (by rw [HN.out]; exact hjn)
                have HXJ : Hid (xs.getD j 0 < 2 ^ 256) := HXD.out j
                generalize xs.getD j 0 = x at *
                obtain ⟨cx, Hx⟩ : ∃ c, Wc c x := ⟨_, rfl⟩
                rw [← show cx = vQ (dgs x 4) from Hx] at rg
                have HRG : Hid (∀ W, Below wr.heap.size wr W → W.rangeAt b (o + j * 4) cx) := fun W hB i v hv => (hB.cell (p := ⟨b, o + j * 4 + i, none⟩) hbw).trans (rg i v hv)
                have hB0 : Below wr.heap.size wr (wr.alloc (Obj.cells cx.toArray 24)) := (Below.refl _ _).alloc (Nat.le_refl _) _
                have rq : Row (wr.alloc (Obj.cells cx.toArray 24)) wr.heap.size cx 24 := Row.new _ _ _
                have HS1 := sum_c (xs := [x]) (fun y hy => by rw [List.mem_singleton.1 hy]; exact HXJ.out) (by simp) rfl 1 (r := x) (E := 0) ((if_pos (by simpa using HXJ.out)).trans (by simp)) (if_pos (by simpa using HXJ.out)) _ (row_ws Hx rq)
                clear rq
                go_wp2_with (first
                  | (refine wpList_index_ws rfl (.tmp 116) (.tmp 117) rfl b o n cap j rfl rfl hjn ?_; simp only [Act.put, List.setIfInBounds_toArray, List.set_cons_zero, List.set_cons_succ])
                  | (refine wpList_load_w rfl 24 (.tmp 118) rfl b (o + j * 4) rfl cx _ rg Tryd.underlying24 rfl Hx.info ?_; simp only [Act.put, List.setIfInBounds_toArray, List.set_cons_zero, List.set_cons_succ])
                  | (refine wpList_build1 rfl (.tmp 119) rfl cx Hx.len rfl wr.heap.size rfl ?_; simp only [Act.put, List.setIfInBounds_toArray, List.set_cons_zero, List.set_cons_succ]))
                refine HS1.mono ?_
                rintro e V2 ⟨c1, H1, rfl, hB⟩
                replace hB := hB0.trans (hB.mono hB0.size)
                clear hB0 HS1
                have n20 : Row (V2.alloc (Obj.cells #[Value.int IntKind.u64 0, Value.int IntKind.u64 0, Value.int IntKind.u64 0, Value.int IntKind.u64 0] 24)) V2.heap.size (vQ (List.replicate 4 0)) 24 := Row.new' rfl rfl
                have T20 := H1.there n20 rfl
                replace n20 := n20.over (vs := c1) (by rw [H1.len]; rfl)
                have hB2 : Below V2.heap.size V2 ((V2.alloc (Obj.cells #[Value.int IntKind.u64 0, Value.int IntKind.u64 0, Value.int IntKind.u64 0, Value.int IntKind.u64 0] 24)).setCells V2.heap.size 0 c1) := below_setCells ((Below.refl _ _).alloc (Nat.le_refl _) _) (b := V2.heap.size) (o := 0) (Nat.le_refl _) c1
                replace hB := hB.trans (hB2.mono hB.size)
                have rg2 := HRG.out _ hB
                have lb : b < ((V2.alloc (Obj.cells #[Value.int IntKind.u64 0, Value.int IntKind.u64 0, Value.int IntKind.u64 0, Value.int IntKind.u64 0] 24)).setCells V2.heap.size 0 c1).heap.size := Nat.lt_of_lt_of_le hbw hB.size
                replace r9 := Row.below r9 hB (Row.lt r9)
                replace r11 := Row.below r11 hB (Row.lt r11)
                replace hb := hb.trans (hB.mono hb.size)
                clear hB hB2 rg HRG hbw
                go_wp2_with (refine wpList_store_mid rfl 24 (.tmp 20) (.tmp 122) rfl V2.heap.size 0 c1.toArray rfl rfl T20 H1.info' H1.one ?_; simp only [Act.put]; clear T20; (change wpList _ _ _ _ _ ((V2.alloc (Obj.cells #[Value.int IntKind.u64 0, Value.int IntKind.u64 0, Value.int IntKind.u64 0, Value.int IntKind.u64 0] 24)).setCells V2.heap.size 0 c1)); (generalize ((V2.alloc (Obj.cells #[Value.int IntKind.u64 0, Value.int IntKind.u64 0, Value.int IntKind.u64 0, Value.int IntKind.u64 0] 24)).setCells V2.heap.size 0 c1) = X9 at *); (generalize hN0 : V2.heap.size = N20 at *; clear hN0))
                have rgx : RgAt X9 b (o + j * 4) cx := ⟨rg2, lb⟩
                clear rg2 lb
                refine wp_named fun a0 ha0 => ?_
                have hsz : a0.tmps.size = 145 := by rw [ha0]; rfl
                have s0 : a0.eval (.tmp 0) = .slice (some ⟨b, o, none⟩) n cap := by rw [ha0]; rfl
                have s19 : a0.eval (.tmp 19) = .int .i64 (j : Int) := by rw [ha0]; rfl
                have s20 : a0.eval (.tmp 20) = .pointer (some ⟨N20, 0, none⟩) := by rw [ha0]; rfl
                have s21 : a0.eval (.tmp 21) = .int .i64 0 := by rw [ha0]; rfl
                obtain ⟨D, hD⟩ : ∃ D : List (Tmp × SP), D = [(124, SP.is (.agg c1.toArray)), (125, SP.is (.slice (some ⟨b, o, none⟩) n cap)), (126, SP.is (.int .i64 (j : Int))), (127, SP.is (.pointer (some ⟨b, o + j * 4, none⟩))), (128, SP.is (.agg cx.toArray)), (129, SP.is (.bool false)), (130, SP.is (.bool false)), (131, SP.is (.int .i64 0)), (132, SP.is (.bool false)), (133, SP.is (.bool false))] := ⟨_, rfl⟩
                refine wp_region_down (by kernel_rfl) (fun listed ac W => listed.size = 10 ∧ Fp D a0 listed ac W ∧ Below w.heap.size w W ∧ Row W N20 c1 24 ∧ Row W N9 c9 24 ∧ Row W N11 c11 24 ∧ RgAt W b (o + j * 4) cx) ?_ ?_ ?_
                · exact ⟨by simp, Fp.start D a0 _ _, Below.drew hb, Row.drew n20, Row.drew r9, Row.drew r11, rgx.below (Below.drew (Below.refl _ _))⟩
                · clear ha0 hb n20 r9 r11 rgx 
                  intro listed ac W k hI hdn hk
                  obtain ⟨hl, hF, hb, n20, r9, r11, rgx⟩ := hI
                  have hk1 : k < 10 := List.mem_range.1 (List.mem_filter.1 hk).1
                  have hl2 : ∀ j, (listed.setIfInBounds j true).size = 10 := fun j => by rw [Array.size_setIfInBounds]; exact hl
                  rcases (show k = 0 ∨ k = 1 ∨ k = 2 ∨ k = 3 ∨ k = 4 ∨ k = 5 ∨ k = 6 ∨ k = 7 ∨ k = 8 ∨ k = 9 by omega) with rfl | rfl | rfl | rfl | rfl | rfl | rfl | rfl | rfl | rfl
                  · have hk3 := hk
                    exact wpOp_plain rfl rfl (wp_load_mid 24 (.tmp 20) rfl N20 0 ((hF.keep 20 (by rw [hD]; rfl)).trans s20) c1 _ n20.all Tryd.underlying24 rfl H1.info ⟨hl2 0, (hF.put 0 124 (SP.is (.agg c1.toArray)) (.agg c1.toArray) (by rw [hD]; rfl) rfl (by rw [hD]; rfl) (by rw [hsz]; decide) (by rw [hl]; decide)), hb, n20, r9, r11, rgx⟩)
                  · have hk3 := hk
                    exact wpOp_plain rfl rfl (wp_move_v (ac.eval (.tmp 0)) rfl rfl ⟨hl2 1, (hF.put 1 125 (SP.is (.slice (some ⟨b, o, none⟩) n cap)) (ac.eval (.tmp 0)) (by rw [hD]; rfl) (((hF.keep 0 (by rw [hD]; rfl)).trans s0)) (by rw [hD]; rfl) (by rw [hsz]; decide) (by rw [hl]; decide)), hb, n20, r9, r11, rgx⟩)
                  · have hk3 := hk
                    exact wpOp_plain rfl rfl (wp_move_v (ac.eval (.tmp 19)) rfl rfl ⟨hl2 2, (hF.put 2 126 (SP.is (.int .i64 (j : Int))) (ac.eval (.tmp 19)) (by rw [hD]; rfl) (((hF.keep 19 (by rw [hD]; rfl)).trans s19)) (by rw [hD]; rfl) (by rw [hsz]; decide) (by rw [hl]; decide)), hb, n20, r9, r11, rgx⟩)
                  · have hk3 := hk
                    have e1 := (hF.done 1 (125, SP.is (.slice (some ⟨b, o, none⟩) n cap)) (by rw [hD]; rfl) (ready_dep hk 1 (by kernel_rfl)))
                    have e2 := (hF.done 2 (126, SP.is (.int .i64 (j : Int))) (by rw [hD]; rfl) (ready_dep hk 2 (by kernel_rfl)))
                    exact wpOp_plain rfl rfl (wp_index_ws rfl b o n cap j e1 e2 hjn ⟨hl2 3, (hF.put 3 127 (SP.is (.pointer (some ⟨b, o + j * 4, none⟩))) (.pointer (some ⟨b, o + j * 4, none⟩)) (by rw [hD]; rfl) rfl (by rw [hD]; rfl) (by rw [hsz]; decide) (by rw [hl]; decide)), hb, n20, r9, r11, rgx⟩)
                  · have hk3 := hk
                    have e1 := (hF.done 3 (127, SP.is (.pointer (some ⟨b, o + j * 4, none⟩))) (by rw [hD]; rfl) (ready_dep hk 3 (by kernel_rfl)))
                    exact wpOp_plain rfl rfl (wp_load_mid 24 (.tmp 127) rfl b (o + j * 4) e1 cx _ rgx.1 Tryd.underlying24 rfl Hx.info ⟨hl2 4, (hF.put 4 128 (SP.is (.agg cx.toArray)) (.agg cx.toArray) (by rw [hD]; rfl) rfl (by rw [hD]; rfl) (by rw [hsz]; decide) (by rw [hl]; decide)), hb, n20, r9, r11, rgx⟩)
                  · have hk3 := hk
                    have e1 := (hF.done 0 (124, SP.is (.agg c1.toArray)) (by rw [hD]; rfl) (ready_dep hk 0 (by kernel_rfl)))
                    have e2 := (hF.done 4 (128, SP.is (.agg cx.toArray)) (by rw [hD]; rfl) (ready_dep hk 4 (by kernel_rfl)))
                    exact wpOp_plain rfl rfl (wp_neq_c (.tmp 124) (.tmp 128) _ rfl H1 Hx HXJ.out HXJ.out e1 e2 (by simp) ⟨hl2 5, (hF.put 5 129 (SP.is (.bool false)) (.bool false) (by rw [hD]; rfl) rfl (by rw [hD]; rfl) (by rw [hsz]; decide) (by rw [hl]; decide)), hb, n20, r9, r11, rgx⟩)
                  · have hk3 := hk
                    exact wpOp_plain rfl rfl (wp_move_v (ac.eval (.tmp 129)) rfl rfl ⟨hl2 6, (hF.put 6 130 (SP.is (.bool false)) (ac.eval (.tmp 129)) (by rw [hD]; rfl) ((hF.done 5 (129, SP.is (.bool false)) (by rw [hD]; rfl) (ready_dep hk 5 (by kernel_rfl)))) (by rw [hD]; rfl) (by rw [hsz]; decide) (by rw [hl]; decide)), hb, n20, r9, r11, rgx⟩)
                  · have hk3 := hk
                    exact wpOp_wanted rfl (wanted_g (g := 6) (b := false) rfl rfl (hF.done 6 (130, SP.is (.bool false)) (by rw [hD]; rfl) (ready_dep hk 6 (by kernel_rfl))) (by rw [hF.size, hsz]; decide)) (wp_move_v (ac.eval (.tmp 21)) rfl rfl ⟨hl2 7, (hF.put 7 131 (SP.is (.int .i64 0)) (ac.eval (.tmp 21)) (by rw [hD]; rfl) (((hF.keep 21 (by rw [hD]; rfl)).trans s21)) (by rw [hD]; rfl) (by rw [hsz]; decide) (by rw [hl]; decide)), hb, n20, r9, r11, rgx⟩)
                  · have hk3 := hk
                    have e1 := (hF.done 7 (131, SP.is (.int .i64 0)) (by rw [hD]; rfl) (ready_dep hk 7 (by kernel_rfl)))
                    exact wpOp_wanted rfl (wanted_g (g := 6) (b := false) rfl rfl (hF.done 6 (130, SP.is (.bool false)) (by rw [hD]; rfl) (ready_dep hk 6 (by kernel_rfl))) (by rw [hF.size, hsz]; decide)) (wp_neq0_v rfl e1 ⟨hl2 8, (hF.put 8 132 (SP.is (.bool false)) (.bool false) (by rw [hD]; rfl) rfl (by rw [hD]; rfl) (by rw [hsz]; decide) (by rw [hl]; decide)), hb, n20, r9, r11, rgx⟩)
                  · have hk3 := hk
                    have e1 := (hF.done 6 (130, SP.is (.bool false)) (by rw [hD]; rfl) (ready_dep hk 6 (by kernel_rfl)))
                    have e2 := (hF.done 8 (132, SP.is (.bool false)) (by rw [hD]; rfl) (ready_dep hk 8 (by kernel_rfl)))
                    exact wpOp_plain rfl rfl (wp_pick_f (.bool false) rfl e1 e2 ⟨hl2 9, (hF.put 9 133 (SP.is (.bool false)) (.bool false) (by rw [hD]; rfl) rfl (by rw [hD]; rfl) (by rw [hsz]; decide) (by rw [hl]; decide)), hb, n20, r9, r11, rgx⟩)
                · clear hb n20 r9 r11 rgx 
                  intro listed ac W hI hr
                  obtain ⟨hl, hF, hb, n20, r9, r11, rgx⟩ := hI
                  have hall := all_listed (by kernel_rfl) hl hr
                  have h124 : ac.eval (.tmp 124) = .agg c1.toArray := hF.done 0 (124, SP.is (.agg c1.toArray)) (by rw [hD]; rfl) (hall 0 (by decide))
                  have h125 : ac.eval (.tmp 125) = .slice (some ⟨b, o, none⟩) n cap := hF.done 1 (125, SP.is (.slice (some ⟨b, o, none⟩) n cap)) (by rw [hD]; rfl) (hall 1 (by decide))
                  have h126 : ac.eval (.tmp 126) = .int .i64 (j : Int) := hF.done 2 (126, SP.is (.int .i64 (j : Int))) (by rw [hD]; rfl) (hall 2 (by decide))
                  have h127 : ac.eval (.tmp 127) = .pointer (some ⟨b, o + j * 4, none⟩) := hF.done 3 (127, SP.is (.pointer (some ⟨b, o + j * 4, none⟩))) (by rw [hD]; rfl) (hall 3 (by decide))
                  have h128 : ac.eval (.tmp 128) = .agg cx.toArray := hF.done 4 (128, SP.is (.agg cx.toArray)) (by rw [hD]; rfl) (hall 4 (by decide))
                  have h129 : ac.eval (.tmp 129) = .bool false := hF.done 5 (129, SP.is (.bool false)) (by rw [hD]; rfl) (hall 5 (by decide))
                  have h130 : ac.eval (.tmp 130) = .bool false := hF.done 6 (130, SP.is (.bool false)) (by rw [hD]; rfl) (hall 6 (by decide))
                  have h131 : ac.eval (.tmp 131) = .int .i64 0 := hF.done 7 (131, SP.is (.int .i64 0)) (by rw [hD]; rfl) (hall 7 (by decide))
                  have h132 : ac.eval (.tmp 132) = .bool false := hF.done 8 (132, SP.is (.bool false)) (by rw [hD]; rfl) (hall 8 (by decide))
                  have h133 : ac.eval (.tmp 133) = .bool false := hF.done 9 (133, SP.is (.bool false)) (by rw [hD]; rfl) (hall 9 (by decide))
                  have ea := hF.lay [(124, .agg c1.toArray), (125, .slice (some ⟨b, o, none⟩) n cap), (126, .int .i64 (j : Int)), (127, .pointer (some ⟨b, o + j * 4, none⟩)), (128, .agg cx.toArray), (129, .bool false), (130, .bool false), (131, .int .i64 0), (132, .bool false), (133, .bool false)] (by rw [hD, hsz]; rfl) (by simp only [List.forall_mem_cons, List.not_mem_nil, false_implies, implies_true, and_true]; exact ⟨h124, h125, h126, h127, h128, h129, h130, h131, h132, h133⟩)
                  rw [ha0] at ea
                  simp only [List.foldl_cons, List.foldl_nil, List.setIfInBounds_toArray, List.set_cons_zero, List.set_cons_succ] at ea
                  clear hF hall hr hl hD  s0 s19 s20 s21 ha0 hsz h124 h125 h126 h127 h128 h129 h130 h131 h132 h133
                  subst ea
                  clear rgx n20
                  go_wp2_with fail
                  exact ⟨⟨j + 1, hj4, by go_num, hb, r9, r11⟩, by simp [intOf]; omega⟩
              · have e4 : (j : Int) = 4 := by omega
                rw [e4] at q1 ⊢
                clear hj hj4 e4
                go_wp2_with (first
                  | (refine wpList_load_w rfl 24 (.tmp 9) rfl N9 0 rfl c9 _ r9.all Tryd.underlying24 rfl H9.info ?_; simp only [Act.put, List.setIfInBounds_toArray, List.set_cons_zero, List.set_cons_succ])
                  | (refine wpList_load_w rfl 24 (.tmp 11) rfl N11 0 rfl c11 _ r11.all Tryd.underlying24 rfl H11.info ?_; simp only [Act.put, List.setIfInBounds_toArray, List.set_cons_zero, List.set_cons_succ])
                  | (refine wpList_eql_c (B := true) rfl (.tmp 136) (.tmp 137) 24 rfl H9 H11 HLS.out HLS.out rfl rfl (by simp) ?_; simp only [Act.put, List.setIfInBounds_toArray, List.set_cons_zero, List.set_cons_succ]))
                go_ret
                exact ⟨rfl, hb⟩
            · have q1 : ¬ (j : Int) < (n : Int) := by omega
              go_wp2_with (first
                | (refine wpList_load_w rfl 24 (.tmp 9) rfl N9 0 rfl c9 _ r9.all Tryd.underlying24 rfl H9.info ?_; simp only [Act.put, List.setIfInBounds_toArray, List.set_cons_zero, List.set_cons_succ])
                | (refine wpList_load_w rfl 24 (.tmp 11) rfl N11 0 rfl c11 _ r11.all Tryd.underlying24 rfl H11.info ?_; simp only [Act.put, List.setIfInBounds_toArray, List.set_cons_zero, List.set_cons_succ])
                | (refine wpList_eql_c (B := true) rfl (.tmp 136) (.tmp 137) 24 rfl H9 H11 HLS.out HLS.out rfl rfl (by simp) ?_; simp only [Act.put, List.setIfInBounds_toArray, List.set_cons_zero, List.set_cons_succ]))
              go_ret
              exact ⟨rfl, hb⟩

end Go.Proofs.YtehccmlbnfhhmabDoor
