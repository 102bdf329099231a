/-
  Cancel.
-/
import Derived.Test.YtobmhggfkgcnfaaDoorTkI
namespace Go.Proofs.YtobmhggfkgcnfaaDoor
open Go Go.RowKit Go.Maps
open Sha
open Wd

section
variable {ops : Array Oper} {rest : List Oper} {op : Oper} {a : Act} {w : World} {Q : Exit → Act → World → Prop}
theorem wpList_boxA (hgd : op.guard = none) (x : Operand) (ho : op.op = .box 24 x) (L : List Value) (hx : a.eval x = .agg L.toArray) (h : ∀ X, Row X w.heap.size L 24 → Below w.heap.size w X → X.heap.size = w.heap.size + 1 → wpList Tryd.prog ops Q rest (a.put op.dst (.pointer (some ⟨w.heap.size, 0, none⟩))) X) : wpList Tryd.prog ops Q (op :: rest) a w :=
  wpList_plain hgd fun _ hK => by
    unfold Oper.wp execOp
    simp only [ho, hx]
    go_simp
    exact hK _ _ (h _ (Row.new' rfl rfl) ((Below.refl _ _).alloc (Nat.le_refl _) _) (by simp))
end
theorem info_ad {l : List (BitVec 8)} (h : l.length = 20) : (Tryd.prog.info? 24).map (·.size) = some (vB l).length := by
  rw [vB_length, h]
  kernel_rfl
set_option maxRecDepth 100000 in
set_option maxHeartbeats 2000000 in
theorem cancel_ok (w0 : World) (S q : Nat) (f : ByteArray → List (BitVec 8)) (hq : q < 999980) (sd td : List (BitVec 8)) (hf : f kK = tkB sd td) (L0 L : List Value) (hL0 : Tl L0 0 sd td) (hL : L = L0.set 0 (.int .i64 1)) (w : World) (h : Lg w0 w S q f) :
    Calls Tryd.prog 10 #[.pointer (some ⟨S, 0, none⟩), .int .i64 1, .agg (vB sd).toArray] w fun e w' => e = .returned (.tuple #[.agg L.toArray, .int .i64 0]) ∧ Lg w0 w' S (q + 2) (upd f kK []) ∧ Kp w w' := by
  obtain ⟨b5, hb5⟩ : ∃ b, b = w.heap.size := ⟨_, rfl⟩
  have HB5 : Hid (b5 = w.heap.size) := hb5
  have HW0 : Hid (w0.heap.size ≤ w.heap.size) := h.bel.size
  have HQ : Hid (q < 999980) := hq
  have HF : Hid (f kK = tkB sd td) := hf
  have HG : Hid (Lg w0 w S q f) := h
  have HT : Hid (Tl L0 0 sd td) := hL0
  have HL : Hid (L = L0.set 0 (.int .i64 1)) := hL
  have ht1 := hL0.set1
  rw [← hL] at ht1
  have HT1 : Hid (Tl L 1 sd td) := ht1
  have HI : Hid ((Tryd.prog.info? 29).map (·.size) = some L.length) := by show _ = _; rw [ht1.len]; exact info_tk
  have HN1 : Hid (L.length = (tz 0).length) := ht1.len
  have HO1 : Hid (L.toArray.all (·.oneCell') = true) := ht1.one
  have HIA : Hid ((Tryd.prog.info? 24).map (·.size) = some (vB sd).length) := info_ad hL0.ls
  clear hq hf hL0 hL h hb5 ht1
  go_enter Tryd.func10, Tryd.ntmps10
  go_wp2_with (first
    | (refine wpList_boxA rfl (.tmp 2) rfl (vB sd) rfl ?_; intro X0 q1 q2 q3; have R5 : Hid (Row X0 w.heap.size (vB sd) 24) := q1; have B0 : Hid (Below w.heap.size w X0) := q2; clear q1 q2 q3; simp only [Act.put, List.setIfInBounds_toArray, List.set_cons_zero, List.set_cons_succ])
    | (refine wpList_allocT rfl rfl ?_; intro X q1 q2 q3; have R6 : Hid (Row X _ (tz 0) 29) := q1; have B6 : Hid (Below _ _ X) := q2; clear q1 q2 q3; simp only [Act.put, List.setIfInBounds_toArray, List.set_cons_zero, List.set_cons_succ]))
  obtain ⟨b6, hb6⟩ : ∃ b, b = X0.heap.size := ⟨_, rfl⟩
  have HW6 : Hid (w.heap.size ≤ b6) := by show _ ≤ _; rw [hb6]; exact B0.out.size
  have bX : Below w.heap.size w X := B0.out.trans (B6.out.mono B0.out.size)
  replace R5 : Hid (Row X b5 (vB sd) 24) := by rw [HB5.out]; exact Row.below R5.out B6.out R5.out.lt
  rw [← hb6] at R6
  rw [← HB5.out, ← hb6]
  replace HG : Hid (Lg w0 X S q f) := HG.out.be bX
  have HK : Hid (Kp w X) := Kp.of_below bX
  clear bX hb6 B0 B6
  refine Calls.mono (find_ok w0 S q f (by have := HQ.out; omega) sd td HF.out L0 L HT.out HL.out X HG.out) ?_
  rintro e V1 ⟨rfl, hG, hK⟩
  replace R5 : Hid (Row V1 b5 (vB sd) 24) := hK.row _ _ _ (by decide) R5.out
  replace R6 : Hid (Row V1 b6 (tz 0) 29) := hK.row _ _ _ (by decide) R6.out
  replace HG : Hid (Lg w0 V1 S (q + 1) f) := hG
  replace HK : Hid (Kp w V1) := HK.out.trans hK
  obtain ⟨p8, hp8⟩ : ∃ p, p = V1.heap.size := ⟨_, rfl⟩
  have HP8 : Hid (p8 = V1.heap.size) := hp8
  clear hG hK hp8
  go_upto_region 2 with (first
    | (refine wpList_allocT rfl rfl ?_; intro X8 q1 q2 q3; have R8 : Hid (Row X8 _ (tz 0) 29) := q1; have B8 : Hid (Below _ _ X8) := q2; clear q1 q2 q3; simp only [Act.put, List.setIfInBounds_toArray, List.set_cons_zero, List.set_cons_succ])
    | (refine wpList_storeL rfl 29 (.tmp 8) (.tmp 15) rfl V1.heap.size L (tz 0) 29 rfl rfl R8.out HN1.out HI.out HO1.out ?_; intro Y8 q1 q2; have HY8 : Hid (Y8 = _) := q1; have RY8 : Hid (Row Y8 V1.heap.size L 29) := q2; clear q1 q2; simp only [Act.put]))
  rw [← HP8.out] at RY8 HY8
  rw [← HP8.out]
  have b8 : Below V1.heap.size V1 Y8 := by rw [HY8.out]; exact below_setCells B8.out (by rw [HP8.out]; exact Nat.le_refl _) _
  replace R5 : Hid (Row Y8 b5 (vB sd) 24) := Row.below R5.out b8 R5.out.lt
  replace R6 : Hid (Row Y8 b6 (tz 0) 29) := Row.below R6.out b8 R6.out.lt
  replace HG : Hid (Lg w0 Y8 S (q + 1) f) := HG.out.be b8
  replace HK : Hid (Kp w Y8) := HK.out.trans (Kp.of_below b8)
  have RA : Hid (Y8.rangeAt b5 0 (vB sd)) := R5.out.all
  have RS : Hid (Y8.rangeAt p8 2 (vB sd)) := HT1.out.r_sd RY8.out
  clear b8 B8 HY8 R8 R5 HP8
  go_wp2_with (first
    | (refine wpList_load_w rfl 24 (.tmp 5) rfl b5 0 rfl (vB sd) _ RA.out Tryd.underlying24 rfl HIA.out ?_; simp only [Act.put, List.setIfInBounds_toArray, List.set_cons_zero, List.set_cons_succ])
    | (refine wpList_load_w rfl 24 (.tmp 24) rfl p8 2 rfl (vB sd) _ RS.out Tryd.underlying24 rfl HIA.out ?_; simp only [Act.put, List.setIfInBounds_toArray, List.set_cons_zero, List.set_cons_succ])
    | (refine wpList_neqA rfl (.tmp 23) (.tmp 25) _ rfl sd HT.out.ls rfl rfl ?_; simp only [Act.put, List.setIfInBounds_toArray, List.set_cons_zero, List.set_cons_succ]))
  refine Calls.mono (shut_1 w0 S (q + 1) f (by have := HQ.out; omega) Y8 HG.out) ?_
  rintro e V2 ⟨rfl, hG, hK⟩
  replace R6 : Hid (Row V2 b6 (tz 0) 29) := hK.row _ _ _ (by decide) R6.out
  have R8 : Hid (Row V2 p8 L 29) := hK.row _ _ _ (by decide) RY8.out
  replace HG : Hid (Lg w0 V2 S (q + 1 + 1) (upd f kK [])) := hG
  replace HK : Hid (Kp w V2) := HK.out.trans hK
  have RL : Hid (V2.rangeAt p8 0 L) := R8.out.all
  clear hG hK RY8 RA RS
  go_wp2_with (first
    | (refine wpList_load_w rfl 29 (.tmp 8) rfl p8 0 rfl L _ RL.out Tryd.underlying29 rfl HI.out ?_; simp only [Act.put, List.setIfInBounds_toArray, List.set_cons_zero, List.set_cons_succ])
    | (refine wpList_storeL rfl 29 (.tmp 6) (.tmp 35) rfl b6 L (tz 0) 29 rfl rfl R6.out HN1.out HI.out HO1.out ?_; intro Y q1 q2; have HY : Hid (Y = _) := q1; have RY : Hid (Row Y b6 L 29) := q2; clear q1 q2; simp only [Act.put]))
  have hw6 : w0.heap.size ≤ b6 := Nat.le_trans HW0.out HW6.out
  have gG : Lg w0 Y S (q + 1 + 1) (upd f kK []) := by rw [HY.out]; exact HG.out.kept R6.out (by decide) (by decide) (by decide) (by decide) (fun k hk => heap_sets _ _ _ _ _ hk) (below_setCells HG.out.bel hw6 _)
  have gK : Kp w Y := by rw [HY.out]; exact Kp.kept b6 HW6.out HK.out (fun k hk => heap_sets _ _ _ _ _ hk) (below_setCells (Below.refl 0 _) (Nat.zero_le b6) _).size
  exact bodyPost_ret (resT_row_tmp Tryd.results10 _ _ b6 29 L (.int .i64 0) rfl rfl RY.out Tryd.underlying29 HI.out) rfl ⟨rfl, gG, gK⟩

end Go.Proofs.YtobmhggfkgcnfaaDoor
