/-
  The law InboxNames: row and card.
-/
import Derived.Test.YtkbaaelffnmjlaaGreatDoorIbH
import Derived.Test.YtkbaaelffnmjlaaGreatDoorQEq
import Derived.Test.YtkbaaelffnmjlaaGreatDoorRows
import Derived.ProofKit
import Derived.OpenShut
import Derived.ShutString
import Derived.ChangeOld
import Derived.SizedLaws
import Derived.Deep.DeepHandedRow
import Derived.Lib.LaidTab
import Derived.Test.YtkbaaelffnmjlaaGreatDoorQRSum
import Derived.Stop.LaidErr
import Derived.Test.YtkbaaelffnmjlaaGreatDoorCards
import Derived.Test.YtkbaaelffnmjlaaGreatDoorTie

namespace Go.Proofs.YtkbaaelffnmjlaaGreatDoor
open Go Go.RowKit
open Sha

theorem istr_toList (l : List (BitVec 8)) : (str l).toList = toU l := by
  rw [ByteArray.toList_eq]
  unfold str toU
  rw [strOfNums_data, List.map_map]
  apply List.map_congr_left
  intro x _
  apply UInt8.toNat_inj.1
  have := x.isLt
  unfold c
  simp only [Function.comp_apply, Int.toNat_natCast, UInt8.toNat_ofNat', UInt8.toNat_ofBitVec]
  omega
theorem istr_beq (l r : List (BitVec 8)) : ((str l).toList == (str r).toList) = decide (l = r) := by
  rw [istr_toList, istr_toList, toU_beq]
section
variable {ops : Array Oper} {rest : List Oper} {op : Oper} {a : Act} {w : World} {Q : Exit → Act → World → Prop}
theorem wpList_convI (hw : Region.wanted op (yielded ops a.tmps) = true) (x : Operand) (ho : op.op = .convert 44 9 x) (v : Value) (d : List (BitVec 8)) (hx : a.eval x = v) (hv : SlAt w v d) (h : wpList Tryz.prog ops Q rest (a.put op.dst (.string (str d))) w) : wpList Tryz.prog ops Q (op :: rest) a w :=
  BigFrame.wpList_want hw fun _ hK => by
    have hr := run_convert_sl (P := Tryz.prog) w 44 5 9 Tryz.underlying44 Tryz.underlying5 Tryz.underlying9 v d hv
    unfold Oper.wp execOp
    simp only [ho, hx, Sem.run_bind, hr, Result.andThen_ok, Sem.run_pure, Oper.upon_value]
    exact hK _ _ h
theorem wpList_eql_sI (hw : Region.wanted op (yielded ops a.tmps) = true) (x y : Operand) (yt : TypeId) (ho : op.op = .binOp .eql 9 x y yt) (l r : List (BitVec 8)) (hx : a.eval x = .string (str l)) (hy : a.eval y = .string (str r)) (B : Bool) (hB : decide (l = r) = B) (h : wpList Tryz.prog ops Q rest (a.put op.dst (.bool B)) w) : wpList Tryz.prog ops Q (op :: rest) a w :=
  BigFrame.wpList_want hw fun _ hK => by
    subst hB
    rw [← istr_beq] at h
    unfold Oper.wp execOp
    simp only [ho, hx, hy]
    simp [go_sem]
    exact hK _ _ h
end
set_option maxRecDepth 100000 in
set_option maxHeartbeats 4000000 in
theorem rsame_ok (e : Ev) (hw : e.Wf) (A1 A2 : Option Addr) (n c1 c2 : Nat) (L M : List Value) (hL : L = e.cells (.slice A1 n c1)) (hM : M = e.cells (.slice A2 n c2)) (w : World) (s1 : SlAt w (.slice A1 n c1) e.d) (s2 : SlAt w (.slice A2 n c2) e.d) :
    Calls Tryz.prog 21 #[.agg L.toArray, .agg M.toArray] w fun r w' => r = .returned (.bool true) ∧ Below w.heap.size w w' := by
  obtain ⟨k, sd, tm, tk, rc, am, gs, d⟩ := e
  obtain ⟨h1, h2, h3, hq⟩ := hw
  simp only at h1 h2 h3 s1 s2
  have HL : Hid (L = ent k sd tm tk rc am gs (.slice A1 n c1)) := hL
  have HM : Hid (M = ent k sd tm tk rc am gs (.slice A2 n c2)) := hM
  have S1 : Hid (∀ X, Below w.heap.size w X → SlAt X (.slice A1 n c1) d) := fun X k => s1.be k
  have S2 : Hid (∀ X, Below w.heap.size w X → SlAt X (.slice A2 n c2) d) := fun X k => s2.be k
  have K1 : Hid (sd.length = 20) := h1
  have K2 : Hid (rc.length = 20) := h2
  have K3 : Hid (am.length = 4) := h3
  have HIsd : Hid _ := info_adE sd h1
  have HIrc : Hid _ := info_adE rc h2
  have HIam : Hid _ := info_wdE am h3
  clear hL hM s1 s2 h1 h2 h3 hq
  go_enter Tryz.func21, Tryz.ntmps21
  go_upto_region 1 with (first
    | (refine wpList_boxG 46 rfl (.tmp 0) rfl L rfl ?_; intro X1 q1 q2 q3; have E1 : Hid (En X1 w.heap.size k sd tm tk rc am gs (.slice A1 n c1)) := ⟨(by rw [HL.out] at q1; exact q1), K1.out, K2.out, K3.out⟩; have B1 : Hid (Below w.heap.size w X1) := q2; clear q1 q2 q3; simp only [Act.put, List.setIfInBounds_toArray, List.set_cons_zero, List.set_cons_succ])
    | (refine wpList_boxG 46 rfl (.tmp 1) rfl M rfl ?_; intro X2 q1 q2 q3; have F2 : Hid (En X2 X1.heap.size k sd tm tk rc am gs (.slice A2 n c2)) := ⟨(by rw [HM.out] at q1; exact q1), K1.out, K2.out, K3.out⟩; have E2 : Hid (En X2 w.heap.size k sd tm tk rc am gs (.slice A1 n c1)) := E1.out.be q2; have B2 : Hid (Below w.heap.size w X2) := B1.out.trans (q2.mono B1.out.size); clear q1 q2 q3; simp only [Act.put, List.setIfInBounds_toArray, List.set_cons_zero, List.set_cons_succ]))
  obtain ⟨x, hx⟩ : ∃ x, x = w.heap.size := ⟨_, rfl⟩
  obtain ⟨y, hy⟩ : ∃ y, y = X1.heap.size := ⟨_, rfl⟩
  rw [← hx] at E2 ⊢
  rw [← hy] at F2 ⊢
  clear hx hy E1 B1 HL HM
  have a0 := E2.out.c_kind
  have a2 := E2.out.c_time
  have a3 := E2.out.c_token
  have a6 := E2.out.c_gas
  have a7 := E2.out.c_body
  have b0 := F2.out.c_kind
  have b2 := F2.out.c_time
  have b3 := F2.out.c_token
  have b6 := F2.out.c_gas
  have b7 := F2.out.c_body
  go_wp2_with (first
    | (refine wpList_load_w rfl 40 (.tmp 11) rfl x 1 rfl (vB sd) _ E2.out.r_sender Tryz.underlying40 rfl HIsd.out ?_; simp only [Act.put, List.setIfInBounds_toArray, List.set_cons_zero, List.set_cons_succ])
    | (refine wpList_load_w rfl 40 (.tmp 13) rfl y 1 rfl (vB sd) _ F2.out.r_sender Tryz.underlying40 rfl HIsd.out ?_; simp only [Act.put, List.setIfInBounds_toArray, List.set_cons_zero, List.set_cons_succ])
    | (refine wpList_load_w rfl 40 (.tmp 32) rfl x 23 rfl (vB rc) _ E2.out.r_to Tryz.underlying40 rfl HIrc.out ?_; simp only [Act.put, List.setIfInBounds_toArray, List.set_cons_zero, List.set_cons_succ])
    | (refine wpList_load_w rfl 40 (.tmp 34) rfl y 23 rfl (vB rc) _ F2.out.r_to Tryz.underlying40 rfl HIrc.out ?_; simp only [Act.put, List.setIfInBounds_toArray, List.set_cons_zero, List.set_cons_succ])
    | (refine wpList_load_w rfl 43 (.tmp 39) rfl x 43 rfl (vQ am) _ E2.out.r_amount Tryz.underlying43 rfl HIam.out ?_; simp only [Act.put, List.setIfInBounds_toArray, List.set_cons_zero, List.set_cons_succ])
    | (refine wpList_load_w rfl 43 (.tmp 41) rfl y 43 rfl (vQ am) _ F2.out.r_amount Tryz.underlying43 rfl HIam.out ?_; simp only [Act.put, List.setIfInBounds_toArray, List.set_cons_zero, List.set_cons_succ])
    | (refine wpList_eql_b rfl 40 (.tmp 12) (.tmp 14) _ rfl 5 20 sd sd rfl rfl Tryz.underlying40 Tryz.underlying5 info_u8 K1.out K1.out guardAE true (decide_eq_true rfl) ?_; simp only [Act.put, List.setIfInBounds_toArray, List.set_cons_zero, List.set_cons_succ])
    | (refine wpList_eql_b rfl 40 (.tmp 33) (.tmp 35) _ rfl 5 20 rc rc rfl rfl Tryz.underlying40 Tryz.underlying5 info_u8 K2.out K2.out guardAE true (decide_eq_true rfl) ?_; simp only [Act.put, List.setIfInBounds_toArray, List.set_cons_zero, List.set_cons_succ])
    | (refine wpList_eql_q rfl (.tmp 40) (.tmp 42) _ rfl am am K3.out K3.out rfl rfl true (decide_eq_true rfl) ?_; simp only [Act.put, List.setIfInBounds_toArray, List.set_cons_zero, List.set_cons_succ])
    | (refine wpList_convI rfl (.tmp 54) rfl (.slice A1 n c1) d rfl (S1.out _ B2.out) ?_; simp only [Act.put, List.setIfInBounds_toArray, List.set_cons_zero, List.set_cons_succ])
    | (refine wpList_convI rfl (.tmp 57) rfl (.slice A2 n c2) d rfl (S2.out _ B2.out) ?_; simp only [Act.put, List.setIfInBounds_toArray, List.set_cons_zero, List.set_cons_succ])
    | (refine wpList_eql_sI rfl (.tmp 55) (.tmp 58) _ rfl d d rfl rfl true (decide_eq_true rfl) ?_; simp only [Act.put, List.setIfInBounds_toArray, List.set_cons_zero, List.set_cons_succ]))
  go_ret
  exact ⟨rfl, B2.out⟩
/-- The entry of known. -/
def e0 : Ev := ⟨2, List.replicate 20 0#8, 5, 0, List.replicate 20 0#8, List.replicate 4 0, 0, [5#8, 1#8, 1#8]⟩
theorem e0_wf : e0.Wf := ⟨rfl, rfl, rfl, by decide⟩
theorem e0_may : e0.May := ⟨by decide, by decide, .inr ⟨rfl, rfl, rfl, rfl, rfl, by decide⟩⟩
theorem built_e0 (g : Nat) : Tryz.prog.built 46 [(0, .int .i64 2), (2, .int .i64 5), (7, .slice (some ⟨g, 0, none⟩) 3 3)] = some (e0.cells (.slice (some ⟨g, 0, none⟩) 3 3)).toArray := by kernel_rfl
theorem guardDE : Tryz.prog.eqGuardType Tryz.prog.depth 51 = false := by kernel_rfl
theorem wpList_buildE0 {ops : Array Oper} {rest : List Oper} {op : Oper} {a : Act} {w : World} {Q : Exit → Act → World → Prop} (hgd : op.guard = none) (x : Operand) (ho : op.op = .build 46 #[(0, .const (.int .i64 2)), (2, .const (.int .i64 5)), (7, x)]) (g : Nat) (hx : a.eval x = .slice (some ⟨g, 0, none⟩) 3 3) (L : List Value) (hL : L = e0.cells (.slice (some ⟨g, 0, none⟩) 3 3)) (h : wpList Tryz.prog ops Q rest (a.put op.dst (.agg L.toArray)) w) : wpList Tryz.prog ops Q (op :: rest) a w :=
  wpList_plain hgd fun _ hK => by
    subst hL
    have hr := run_build (P := Tryz.prog) w 46 #[(0, .int .i64 2), (2, .int .i64 5), (7, .slice (some ⟨g, 0, none⟩) 3 3)] _ (built_e0 g)
    have hc : a.eval (.const (.int .i64 2)) = .int .i64 2 := rfl
    have hc3 : a.eval (.const (.int .i64 5)) = .int .i64 5 := rfl
    unfold Oper.wp execOp
    simp only [ho, List.map_toArray, List.map_cons, List.map_nil, hx, hc, hc3, Sem.run_bind, hr, Result.andThen_ok, Sem.run_pure, Oper.upon_value]
    exact hK _ _ h
set_option maxRecDepth 100000 in
set_option maxHeartbeats 4000000 in
theorem iknown_any (w : World) (hG : Given w) : Calls Tryz.prog 9 #[] w fun e w' => e = .returned (.bool true) ∧ Below w.heap.size w w' := by
  obtain ⟨dd, hdd⟩ : ∃ d, d = nx zK e0 := ⟨_, rfl⟩
  have hl1 : lk [e0] 1 = dd := by rw [hdd]; rfl
  have HDL : Hid (dd.length = 32) := by rw [hdd]; exact dig_length _
  have HID : Hid ((Tryz.prog.info? 51).map (·.size) = some (vB dd).length) := by show _ = _; rw [vB_length, HDL.out]; exact info_dg
  have HLL : Hid ((vB dd).length = (vB zK).length) := by show _ = _; rw [vB_length, vB_length, HDL.out]; rfl
  have HGW : Hid (∀ X, Below w.heap.size w X → Given X) := fun X k => hG.below k (Nat.le_refl _)
  have HAD : Hid (∀ X p g L, L = e0.cells (.slice (some ⟨g, 0, none⟩) 3 3) → Bx w X p (.slice none 0 0) [] → SlAt X (.slice (some ⟨g, 0, none⟩) 3 3) [5#8, 1#8, 1#8] → Calls Tryz.prog 33 #[.pointer (some ⟨p, 0, none⟩), .agg L.toArray] X fun r w' => r = .returned (.tuple #[.int .i64 0, .int .i64 0]) ∧ ∃ v', Bx w w' p v' [e0] ∧ Gro (fun g => g = p) X w') := fun X p g L hL hb hs => by
    refine (add_ok w p _ [] (Nat.zero_le _) e0 e0_wf e0_may (by decide) (some ⟨g, 0, none⟩) 3 3 rfl (fun h => by cases h) L hL X hb (HGW.out X hb.be).cub hs).mono ?_
    rintro r w' ⟨q1, v', q2, q3, _⟩
    exact ⟨q1, v', q2, Gro.mono q3 (fun g q => by rcases q with q | q; exact q; cases q)⟩
  have HEN : Hid (∀ X p v, Bx w X p v [e0] → Calls Tryz.prog 34 #[.pointer (some ⟨p, 0, none⟩), .int .i64 0] X fun r w' => ∃ A c, r = .returned (.tuple #[.agg (e0.cells (.slice A 3 c)).toArray, .int .i64 0]) ∧ Nb X.heap.size w' A 3 c [5#8, 1#8, 1#8] ∧ Below X.heap.size X w') := fun X p v hb => entry_ok hb (by decide) 0 e0 rfl 3 rfl
  have HLK : Hid (∀ X p v, Bx w X p v [e0] → Calls Tryz.prog 27 #[.pointer (some ⟨p, 0, none⟩), .int .i64 1] X fun r w' => r = .returned (.tuple #[.agg (vB dd).toArray, .int .i64 0]) ∧ Below X.heap.size X w') := fun X p v hb => by
    have := link_ok hb (by decide) 1 (by decide)
    rw [hl1] at this
    exact this
  have HLE : Hid (∀ X p v, Bx w X p v [e0] → Calls Tryz.prog 25 #[.pointer (some ⟨p, 0, none⟩)] X fun r w' => r = .returned (.int .i64 1) ∧ w' = X) := fun X p v hb => blen_any hb
  have HNX : Hid (∀ X g L, L = e0.cells (.slice (some ⟨g, 0, none⟩) 3 3) → Below w.heap.size w X → SlAt X (.slice (some ⟨g, 0, none⟩) 3 3) [5#8, 1#8, 1#8] → Calls Tryz.prog 20 #[.agg (vB zK).toArray, .agg L.toArray] X fun r w' => r = .returned (.tuple #[.agg (vB dd).toArray, .int .i64 0]) ∧ Below X.heap.size X w') := fun X g L hL k hs => dnext_ok e0 e0_wf e0_may zK dd rfl hdd (some ⟨g, 0, none⟩) 3 3 rfl (fun h => by cases h) L hL X (HGW.out X k) hs
  have HSA : Hid (∀ X A c g L M, L = e0.cells (.slice A 3 c) → M = e0.cells (.slice (some ⟨g, 0, none⟩) 3 3) → SlAt X (.slice A 3 c) [5#8, 1#8, 1#8] → SlAt X (.slice (some ⟨g, 0, none⟩) 3 3) [5#8, 1#8, 1#8] → Calls Tryz.prog 21 #[.agg L.toArray, .agg M.toArray] X fun r w' => r = .returned (.bool true) ∧ Below X.heap.size X w') := fun X A c g L M hL hM s1 s2 => rsame_ok e0 e0_wf A (some ⟨g, 0, none⟩) 3 c 3 L M hL hM X s1 s2
  clear hdd hl1 hG
  go_enter Tryz.func9, Tryz.ntmps9
  go_upto_region 4 with (go_at_call 10; refine Calls.mono (bnew_any w) ?_; rintro e1 X1 ⟨p, rfl, q⟩; have K1 : Hid (Bx w X1 p (.slice none 0 0) []) := q; clear q)
  obtain ⟨X2, hX2⟩ : ∃ X, X = X1.alloc (Obj.cells (vB [5#8, 1#8, 1#8]).toArray 5) := ⟨_, rfl⟩
  have r2 : Row X2 X1.heap.size (vB [5#8, 1#8, 1#8]) 5 := by rw [hX2]; exact Row.new' rfl rfl
  have b2 : Below X1.heap.size X1 X2 := by rw [hX2]; exact (Below.refl _ _).alloc (Nat.le_refl _) _
  obtain ⟨g, hg⟩ : ∃ g, g = X1.heap.size := ⟨_, rfl⟩
  obtain ⟨L, hL⟩ : ∃ L, L = e0.cells (.slice (some ⟨g, 0, none⟩) 3 3) := ⟨_, rfl⟩
  have HL : Hid (L = e0.cells (.slice (some ⟨g, 0, none⟩) 3 3)) := hL
  have HLG : Hid (L = e0.cells (.slice (some ⟨X1.heap.size, 0, none⟩) 3 3)) := by rw [hL, hg]; exact rfl
  have HI : Hid ((Tryz.prog.info? 46).map (·.size) = some L.length) := by rw [hL]; exact Ev.info e0_wf _
  have HN : Hid (L.length = zE.length) := by show _ = _; rw [hL, Ev.len e0_wf]; rfl
  have HO : Hid (L.toArray.all (·.oneCell') = true) := by rw [hL]; exact all_oneCell_toArray (Ev.one e0 _ _ _)
  have HX2 : Hid (X2 = X1.alloc (Obj.cells (vB [5#8, 1#8, 1#8]).toArray 5)) := hX2
  have R2 : Hid (Row X2 g (vB [5#8, 1#8, 1#8]) 5) := by rw [hg]; exact r2
  have K2 : Hid (Bx w X2 p (.slice none 0 0) []) := K1.out.keep b2
  clear hX2 r2 b2 hL
  go_upto_region 5 with (first
    | (refine wpList_buildE0 rfl (.tmp 15) rfl X1.heap.size rfl L HLG.out ?_; simp only [Act.put, List.setIfInBounds_toArray, List.set_cons_zero, List.set_cons_succ]; change wpList _ _ _ _ _ (World.alloc X1 (Obj.cells (vB [5#8, 1#8, 1#8]).toArray 5)); rw [← HX2.out])
    | (refine wpList_allocE rfl rfl ?_; intro X3 q1 q2; have Z3 : Hid (Row X3 X2.heap.size zE 46) := q1; have B3 : Hid (Below X2.heap.size X2 X3) := q2; clear q1 q2; simp only [Act.put, List.setIfInBounds_toArray, List.set_cons_zero, List.set_cons_succ])
    | (refine wpList_storeL rfl 46 (.tmp 2) (.tmp 16) rfl X2.heap.size L zE 46 rfl rfl Z3.out HN.out HI.out HO.out ?_; intro X4 q1 q2; have E4 : Hid (Row X4 X2.heap.size L 46) := q2; have B4 : Hid (Below X2.heap.size X2 X4) := (by rw [q1]; exact below_setCells B3.out (Nat.le_refl _) _); clear q1 q2; simp only [Act.put]))
  have K4 : Hid (Bx w X4 p (.slice none 0 0) []) := K2.out.keep B4.out
  have R4 : Hid (Row X4 g (vB [5#8, 1#8, 1#8]) 5) := Row.below R2.out B4.out R2.out.lt
  obtain ⟨be, hbe⟩ : ∃ b, b = X2.heap.size := ⟨_, rfl⟩
  rw [← hbe] at E4 ⊢
  clear hbe B4 K2 R2 B3 Z3 K1 HX2 HLG HN HO
  have SL : Hid (∀ X, Row X g (vB [5#8, 1#8, 1#8]) 5 → SlAt X (.slice (some ⟨g, 0, none⟩) 3 3) [5#8, 1#8, 1#8]) := fun X r => .inr ⟨g, 0, 3, rfl, Nat.le_refl _, r.all⟩
  go_upto_region 6 with (first
    | (refine wpList_load_w rfl 46 (.tmp 2) rfl be 0 rfl (L) _ E4.out.all Tryz.underlying46 rfl HI.out ?_; simp only [Act.put, List.setIfInBounds_toArray, List.set_cons_zero, List.set_cons_succ])
    | (go_at_call 33; refine Calls.mono (HAD.out X4 p g L HL.out K4.out (SL.out X4 R4.out)) ?_; rintro e5 X5 ⟨rfl, v5, q1, q2⟩; have K5 : Hid (Bx w X5 p v5 [e0]) := q1; have E5 : Hid (Row X5 be L 46) := q2.row E4.out (row_apart2 E4.out K4.out.row (by decide)); have R5 : Hid (Row X5 g (vB [5#8, 1#8, 1#8]) 5) := q2.row R4.out (row_apart2 R4.out K4.out.row (by decide)); clear q1 q2))
  clear K4 E4 R4 HAD
  go_upto_region 7 with (first
    | (go_at_call 34; refine Calls.mono (HEN.out X5 p v5 K5.out) ?_; rintro e6 X6 ⟨A6, c6, rfl, q1, q2⟩; have N6 : Hid (Nb X5.heap.size X6 A6 3 c6 [5#8, 1#8, 1#8]) := q1; have B6 : Hid (Below X5.heap.size X5 X6) := q2; clear q1 q2; obtain ⟨L6, hL6⟩ : ∃ L6, L6 = e0.cells (.slice A6 3 c6) := ⟨_, rfl⟩; have H6 : Hid (L6 = e0.cells (.slice A6 3 c6)) := hL6; have I6 : Hid ((Tryz.prog.info? 46).map (·.size) = some L6.length) := (by rw [hL6]; exact Ev.info e0_wf _); have M6 : Hid (L6.length = zE.length) := (by show _ = _; rw [hL6, Ev.len e0_wf]; rfl); have O6 : Hid (L6.toArray.all (·.oneCell') = true) := (by rw [hL6]; exact all_oneCell_toArray (Ev.one e0 _ _ _)); rw [← hL6]; clear hL6)
    | (refine wpList_allocE rfl rfl ?_; intro X7 q1 q2; have Z7 : Hid (Row X7 X6.heap.size zE 46) := q1; have B7 : Hid (Below X6.heap.size X6 X7) := q2; clear q1 q2; simp only [Act.put, List.setIfInBounds_toArray, List.set_cons_zero, List.set_cons_succ])
    | (refine wpList_storeL rfl 46 (.tmp 5) (.tmp 26) rfl X6.heap.size L6 zE 46 rfl rfl Z7.out M6.out I6.out O6.out ?_; intro X8 q1 q2; have F8 : Hid (Row X8 X6.heap.size L6 46) := q2; have B8 : Hid (Below X6.heap.size X6 X8) := (by rw [q1]; exact below_setCells B7.out (Nat.le_refl _) _); clear q1 q2; simp only [Act.put]))
  have C8 : Hid (Below X5.heap.size X5 X8) := B6.out.trans (B8.out.mono B6.out.size)
  have K8 : Hid (Bx w X8 p v5 [e0]) := K5.out.keep C8.out
  have E8 : Hid (Row X8 be L 46) := Row.below E5.out C8.out E5.out.lt
  have R8 : Hid (Row X8 g (vB [5#8, 1#8, 1#8]) 5) := Row.below R5.out C8.out R5.out.lt
  have N8 : Hid (Nb X5.heap.size X8 A6 3 c6 [5#8, 1#8, 1#8]) := N6.out.below B8.out
  obtain ⟨b6, hb6⟩ : ∃ b, b = X6.heap.size := ⟨_, rfl⟩
  rw [← hb6] at F8 ⊢
  clear hb6 K5 E5 R5 N6 B6 Z7 B7 B8 C8 M6 O6 HEN
  go_upto_region 8 with (first
    | (go_at_call 27; refine Calls.mono (HLK.out X8 p v5 K8.out) ?_; rintro e9 X9 ⟨rfl, q2⟩; have B9 : Hid (Below X8.heap.size X8 X9) := q2; clear q2)
    | (refine wpList_allocD rfl rfl ?_; intro X10 q1 q2; have Z10 : Hid (Row X10 X9.heap.size (vB zK) 51) := q1; have B10 : Hid (Below X9.heap.size X9 X10) := q2; clear q1 q2; simp only [Act.put, List.setIfInBounds_toArray, List.set_cons_zero, List.set_cons_succ])
    | (refine wpList_storeL rfl 51 (.tmp 7) (.tmp 31) rfl X9.heap.size (vB dd) (vB zK) 51 rfl rfl Z10.out HLL.out HID.out (all_oneCell_toArray (vB_one dd)) ?_; intro X11 q1 q2; have D11 : Hid (Row X11 X9.heap.size (vB dd) 51) := q2; have B11 : Hid (Below X9.heap.size X9 X11) := (by rw [q1]; exact below_setCells B10.out (Nat.le_refl _) _); clear q1 q2; simp only [Act.put]))
  have C11 : Hid (Below X8.heap.size X8 X11) := B9.out.trans (B11.out.mono B9.out.size)
  have K11 : Hid (Bx w X11 p v5 [e0]) := K8.out.keep C11.out
  have E11 : Hid (Row X11 be L 46) := Row.below E8.out C11.out E8.out.lt
  have F11 : Hid (Row X11 b6 L6 46) := Row.below F8.out C11.out F8.out.lt
  have R11 : Hid (Row X11 g (vB [5#8, 1#8, 1#8]) 5) := Row.below R8.out C11.out R8.out.lt
  have N11 : Hid (Nb X5.heap.size X11 A6 3 c6 [5#8, 1#8, 1#8]) := N8.out.below C11.out
  obtain ⟨b7, hb7⟩ : ∃ b, b = X9.heap.size := ⟨_, rfl⟩
  rw [← hb7] at D11 ⊢
  clear hb7 K8 E8 F8 R8 N8 B9 Z10 B10 B11 C11 HLK
  go_upto_region 9 with (first
    | (refine wpList_buildD0 rfl rfl zK rfl ?_; simp only [Act.put, List.setIfInBounds_toArray, List.set_cons_zero, List.set_cons_succ])
    | (refine wpList_load_w rfl 46 (.tmp 2) rfl be 0 rfl (L) _ E11.out.all Tryz.underlying46 rfl HI.out ?_; simp only [Act.put, List.setIfInBounds_toArray, List.set_cons_zero, List.set_cons_succ])
    | (go_at_call 20; refine Calls.mono (HNX.out X11 g L HL.out K11.out.be (SL.out X11 R11.out)) ?_; rintro e12 X12 ⟨rfl, q2⟩; have B12 : Hid (Below X11.heap.size X11 X12) := q2; clear q2)
    | (refine wpList_allocD rfl rfl ?_; intro X13 q1 q2; have Z13 : Hid (Row X13 X12.heap.size (vB zK) 51) := q1; have B13 : Hid (Below X12.heap.size X12 X13) := q2; clear q1 q2; simp only [Act.put, List.setIfInBounds_toArray, List.set_cons_zero, List.set_cons_succ])
    | (refine wpList_storeL rfl 51 (.tmp 9) (.tmp 37) rfl X12.heap.size (vB dd) (vB zK) 51 rfl rfl Z13.out HLL.out HID.out (all_oneCell_toArray (vB_one dd)) ?_; intro X14 q1 q2; have D14 : Hid (Row X14 X12.heap.size (vB dd) 51) := q2; have B14 : Hid (Below X12.heap.size X12 X14) := (by rw [q1]; exact below_setCells B13.out (Nat.le_refl _) _); clear q1 q2; simp only [Act.put]))
  have C14 : Hid (Below X11.heap.size X11 X14) := B12.out.trans (B14.out.mono B12.out.size)
  have K14 : Hid (Bx w X14 p v5 [e0]) := K11.out.keep C14.out
  have E14 : Hid (Row X14 be L 46) := Row.below E11.out C14.out E11.out.lt
  have F14 : Hid (Row X14 b6 L6 46) := Row.below F11.out C14.out F11.out.lt
  have G14 : Hid (Row X14 b7 (vB dd) 51) := Row.below D11.out C14.out D11.out.lt
  have R14 : Hid (Row X14 g (vB [5#8, 1#8, 1#8]) 5) := Row.below R11.out C14.out R11.out.lt
  have N14 : Hid (Nb X5.heap.size X14 A6 3 c6 [5#8, 1#8, 1#8]) := N11.out.below C14.out
  obtain ⟨b9, hb9⟩ : ∃ b, b = X12.heap.size := ⟨_, rfl⟩
  rw [← hb9] at D14 ⊢
  clear hb9 K11 E11 F11 D11 R11 N11 B12 Z13 B13 B14 C14 HNX
  go_wp2_with (first
    | (refine wpList_load_w rfl 51 (.tmp 7) rfl b7 0 rfl (vB dd) _ G14.out.all Tryz.underlying51 rfl HID.out ?_; simp only [Act.put, List.setIfInBounds_toArray, List.set_cons_zero, List.set_cons_succ])
    | (refine wpList_load_w rfl 51 (.tmp 9) rfl b9 0 rfl (vB dd) _ D14.out.all Tryz.underlying51 rfl HID.out ?_; simp only [Act.put, List.setIfInBounds_toArray, List.set_cons_zero, List.set_cons_succ])
    | (refine wpList_eql_b rfl 51 (.tmp 54) (.tmp 55) _ rfl 5 32 dd dd rfl rfl Tryz.underlying51 Tryz.underlying5 info_u8 HDL.out HDL.out guardDE true (decide_eq_true rfl) ?_; simp only [Act.put, List.setIfInBounds_toArray, List.set_cons_zero, List.set_cons_succ])
    | (go_at_call 25; refine Calls.mono (HLE.out X14 p v5 K14.out) ?_; rintro e15 X ⟨rfl, hq⟩; obtain rfl := hq.symm)
    | (refine wpList_load_w rfl 46 (.tmp 5) rfl b6 0 rfl (L6) _ F14.out.all Tryz.underlying46 rfl I6.out ?_; simp only [Act.put, List.setIfInBounds_toArray, List.set_cons_zero, List.set_cons_succ])
    | (refine wpList_load_w rfl 46 (.tmp 2) rfl be 0 rfl (L) _ E14.out.all Tryz.underlying46 rfl HI.out ?_; simp only [Act.put, List.setIfInBounds_toArray, List.set_cons_zero, List.set_cons_succ])
    | (go_at_call 21; refine Calls.mono (HSA.out X14 A6 c6 g L6 L H6.out HL.out (Bw.sl N14.out.bw) (SL.out X14 R14.out)) ?_; rintro e16 X16 ⟨rfl, q⟩; have B16 : Hid (Below w.heap.size w X16) := K14.out.be.trans (q.mono K14.out.be.size); clear q))
  go_ret
  exact ⟨rfl, B16.out⟩

end Go.Proofs.YtkbaaelffnmjlaaGreatDoor

namespace Go.Proofs.YtkbaaelffnmjlaaGreatDoor
open Go Go.RowKit Go.ChangeShapes Go.WideShapes Go.ChangeAt
open Sha

theorem own : ownKnob Tryz.prog.godebug = none := by kernel_rfl
theorem laidOut : laidOutB Tryz.prog = true := by kernel_rfl
theorem gTab : Tryz.prog.globalNamed "causeway/digest.cubeRoots" = some 1 := by kernel_rfl
theorem gTabType : (Tryz.prog.globals[1]?).map (·.type) = some 177 := by kernel_rfl
theorem cellsTab : Tryz.prog.cellsOf 177 = 64 := by kernel_rfl
theorem cellsU32 : Tryz.prog.cellsOf 143 = 1 := by kernel_rfl
theorem cellsU8 : Tryz.prog.cellsOf 5 = 1 := by kernel_rfl
theorem bytesU8 : Tryz.prog.bytesOf 5 = 1 := by kernel_rfl

theorem tab_of {W : World} (h : Lib.TabIs Tryz.prog W "causeway/digest.cubeRoots" .u32 (K.map u)) : Tab W 1 := fun i hi => by
  have := h.cell gTab i (by simpa [K_length] using hi)
  rw [this]
  rw [List.getD_eq_getElem?_getD, List.getElem?_map, List.getElem?_eq_getElem (by rw [K_length]; exact hi)]
  simp [show i < K.length by rw [K_length]; exact hi]

/-- A slice of bytes that came in. -/
theorem bytes_in {H : Type} {enc : TypeId × Value → H} {W : World} {base : Nat} {held : Bool} {fuel : Nat} {a : Option Addr} {len cap : Nat} {x : DataW H × List MemPlace} {ts : List TypeId} {ds : List (DataW H)} {j : Nat}
    (h : DataW.trod enc Tryz.prog W base (fun _ => true) held fuel 44 (Value.slice a len cap).cells.toList = some x)
    (hsz : (DataW.weightsEach Tryz.prog ts ds).all (· ≤ reachBytes) = true) (ht : ts[j]? = some 44) (hd : ds[j]? = some x.1) :
    ∃ d : List (BitVec 8), d.length = len ∧ len ≤ reachBytes ∧ cap ≤ reachBytes ∧ SlAtT W (.slice a len cap) d := by
  rcases open_ints Tryz.underlying44 Tryz.underlying5 cellsU8 h with ⟨hcs, _⟩ | ⟨y, l, c', zs, hcs, _, hl, hm, hz, hx, hcell, hwz⟩
  · simp [Value.cells] at hcs
    obtain ⟨rfl, rfl, rfl⟩ := hcs
    exact ⟨[], rfl, Nat.zero_le _, Nat.zero_le _, .inl ⟨rfl, _, _, rfl⟩⟩
  · simp [Value.cells] at hcs
    obtain ⟨rfl, rfl, rfl⟩ := hcs
    simp only [if_true] at hz
    have hreach := sized_slice hsz (j := j) (t := 44) (e := 5) ht (by rw [hd, hx]) Tryz.underlying44
    rw [bytesU8] at hreach
    simp only [lits, List.length_map, List.length_take, List.length_drop, Nat.mul_one] at hreach
    have hr2 : cap ≤ reachBytes := by omega
    refine ⟨(zs.take len).map (BitVec.ofInt 8), by simp; omega, by omega, hr2, ?_⟩
    by_cases h0 : len = 0
    · subst h0; exact .inl ⟨by simp, _, _, rfl⟩
    · obtain ⟨b, off, spot⟩ := y
      have hc := hcell 0 (by omega)
      have hspot : spot = none := by simpa [Addr.add] using World.cell?_spot hc
      subst hspot
      refine .inr ⟨b, off, cap, by simp; omega, by simp; omega, fun i v hv => ?_⟩
      have hi : i < len := by have := (List.getElem?_eq_some_iff.1 hv).1; simp [vB_length] at this; omega
      have h1 := hcell i (by omega)
      rw [Addr.add_mid] at h1
      rw [h1]
      have hw := hwz (zs.getD i 0) (by rw [List.getD_eq_getElem?_getD, List.getElem?_eq_getElem (by omega)]; exact List.getElem_mem _)
      have hb := bounds_u8 hw
      rw [vB_get _ i (by simp; omega)] at hv
      rw [← hv]
      have e : ((zs.take len).map (BitVec.ofInt 8)).getD i 0 = BitVec.ofInt 8 (zs.getD i 0) := by
        simp [List.getElem?_take_of_lt hi, List.getElem?_eq_getElem (show i < zs.length by omega)]
      rw [e]
      unfold c
      rw [show ((BitVec.ofInt 8 (zs.getD i 0)).toNat : Int) = zs.getD i 0 from by rw [BitVec.toNat_ofInt]; omega]

end Go.Proofs.YtkbaaelffnmjlaaGreatDoor

namespace Go.Proofs.YtkbaaelffnmjlaaGreatDoor
open Go Go.RowKit
open Sha

theorem gCon : Tryz.prog.globalNamed "causeway/causewayref01.constants" = some 2 := by kernel_rfl
theorem gConType : (Tryz.prog.globals[2]?).map (·.type) = some 177 := by kernel_rfl
theorem gBeg : Tryz.prog.globalNamed "causeway/causewayref01.beginning" = some 0 := by kernel_rfl
theorem gBegType : (Tryz.prog.globals[0]?).map (·.type) = some 144 := by kernel_rfl
theorem cellsArr8 : Tryz.prog.cellsOf 144 = 8 := by kernel_rfl

theorem tab_con {W : World} (h : Lib.TabIs Tryz.prog W "causeway/causewayref01.constants" .u32 (K.map u)) : Tab W 2 := fun i hi => by
  have := h.cell gCon i (by simpa [K_length] using hi)
  rw [this]
  rw [List.getD_eq_getElem?_getD, List.getElem?_map, List.getElem?_eq_getElem (by rw [K_length]; exact hi)]
  simp [show i < K.length by rw [K_length]; exact hi]

theorem given_of {W : World} (h : laidMet Tryz.prog [("causeway/causewayref01.constants", Lib.tabData .u32 (K.map u)), ("causeway/causewayref01.beginning", Lib.tabData .u32 (st0.list.map u)), ("causeway/digest.cubeRoots", Lib.tabData .u32 (K.map u))] W) : Given W := by
  have h1 := h.tail
  have h2 := h1.tail
  refine ⟨tab_con (Lib.tabIs_of_head gCon gConType Tryz.underlying177 Tryz.underlying143 cellsU32 cellsTab h), ?_, tab_of (Lib.tabIs_of_head gTab gTabType Tryz.underlying177 Tryz.underlying143 cellsU32 cellsTab h2)⟩
  have t := Lib.tabIs_of_head gBeg gBegType Tryz.underlying144 Tryz.underlying143 cellsU32 cellsArr8 h1
  intro j v hv
  have hj : j < st0.list.length := by have := (List.getElem?_eq_some_iff.1 hv).1; rwa [vW_length] at this
  have := t.cell gBeg j (by simpa using hj)
  rw [Nat.zero_add, this, ← hv, vW_get _ _ hj]
  rw [List.getD_eq_getElem?_getD, List.getElem?_map, List.getElem?_eq_getElem hj]
  simp [hj]

end Go.Proofs.YtkbaaelffnmjlaaGreatDoor

namespace Go.Proofs.YtkbaaelffnmjlaaGreatDoor
open Go Go.RowKit
open Sha

set_option maxRecDepth 100000 in
set_option maxHeartbeats 4000000 in
theorem inames_walk (w : World) (hG : Given w) : Calls Tryz.prog 3 #[] w fun e w' => e = .returned (.bool true) ∧ Below w.heap.size w w' := by
  have HG : Hid (Given w) := hG
  clear hG
  go_enter Tryz.func3, Tryz.ntmps3
  go_wp2_with (go_at_call 9; refine Calls.mono (iknown_any w HG.out) ?_; rintro e X1 ⟨rfl, q⟩; have B1 : Hid (Below w.heap.size w X1) := q; clear q)
  go_ret
  exact ⟨rfl, B1.out⟩

end Go.Proofs.YtkbaaelffnmjlaaGreatDoor

namespace Go.Proofs.YtkbaaelffnmjlaaGreatDoor.inames
open Go Go.RowKit Go.ChangeShapes Go.WideShapes Go.ChangeAt
open Sha

/-- What the row's list gives. -/
theorem table {W : World} (h : laidMetH Tryz.prog Rows.inboxNamesRow.laid W) : Given W := by
  have e : Rows.inboxNamesRow.laid = [("causeway/causewayref01.constants", Lib.tabData .u32 (K.map u)), ("causeway/causewayref01.beginning", Lib.tabData .u32 (st0.list.map u)), ("causeway/digest.cubeRoots", Lib.tabData .u32 (K.map u))] := by kernel_rfl
  rw [e] at h
  exact given_of h

set_option maxRecDepth 100000 in
theorem contract (H : Type) (enc : TypeId × Value → H) (W : World) (base : Nat) (args : Array Value) (ds gs : List (DataW H)) (before : List MemPlace)
    (hval : ∀ (j : Nat) t v, Tryz.f3.params[j]? = some t → args[j]? = some v → Value.okWide Tryz.prog W .any base t v)
    (hW : DataW.Whole enc Tryz.prog Tryz.f3.params.toList Rows.inboxNamesSpec.vars false W args.toList ds gs before)
    (hsz : (DataW.weightsEach Tryz.prog (Tryz.f3.params.toList ++ (OpenSpec.ofChange Rows.inboxNamesSpec).bare.plain.varTypes Tryz.prog) (ds ++ gs)).all (· ≤ reachBytes) = true)
    (hL : laidMetH Tryz.prog Rows.inboxNamesRow.laid W) :
    Calls Tryz.prog 3 args W fun e W' => ∃ v, e = .returned v ∧ Rows.inboxNamesSpec.post enc Tryz.prog Tryz.f3 false true false false W args v W' := by
  have hW' := hW
  obtain ⟨p, q, hA0, hV, rfl, hfz, hnd⟩ := hW
  have hA : DataW.TrodAll enc Tryz.prog W 0 (fun _ => true) true Tryz.f3.params.toList args.toList ds p := hA0
  rw [Tryz.params3] at hA hval hsz
  obtain ⟨hargs, rfl, rfl⟩ := trodAll_nil hA
  obtain rfl : args = #[] := by cases args; simp_all
  obtain ⟨rfl, rfl⟩ := trodVars_none hV
  clear hA0
  refine (inames_walk W (table hL)).mono fun e W' ⟨he, bel⟩ => ?_
  subst he
  exact ⟨_, rfl, _, _, _, [], _, [], hW', trodAll_mk1 (shut_bool Tryz.underlying4 _), trodAll_mk0, rfl, bel.frame _, fun h => by cases h⟩

theorem laid_met (os : Os) : laidMet Tryz.prog Rows.inboxNamesRow.laid (({ World.holding Tryz.prog os ⟨#[], #[], []⟩ with heap := ((((World.holding Tryz.prog os ⟨#[], #[], []⟩).heap.modify 2 fun | .cells _ t frozen => .cells (vW K).toArray t frozen | o => o).modify 0 fun | .cells _ t frozen => .cells (vW st0.list).toArray t frozen | o => o).modify 1 fun | .cells _ t frozen => .cells (vW K).toArray t frozen | o => o) } : World).forCall (fun _ _ => 0) ⟨#[], #[], []⟩).memory :=
  laidMet_of_run' 8 (by kernel_rfl) (by kernel_rfl)
theorem reads (os : Os) {H : Type} (enc : TypeId × Value → H) : ∃ places, DataW.whole enc Tryz.prog (({ World.holding Tryz.prog os ⟨#[], #[], []⟩ with heap := ((((World.holding Tryz.prog os ⟨#[], #[], []⟩).heap.modify 2 fun | .cells _ t frozen => .cells (vW K).toArray t frozen | o => o).modify 0 fun | .cells _ t frozen => .cells (vW st0.list).toArray t frozen | o => o).modify 1 fun | .cells _ t frozen => .cells (vW K).toArray t frozen | o => o) } : World).forCall (fun _ _ => 0) ⟨#[], #[], []⟩).memory Tryz.f3.params.toList Rows.inboxNamesSpec.vars false (#[] : Array Value).toList 8 = some ([], [], places) :=
  ⟨[], by kernel_rfl⟩

set_option maxRecDepth 100000 in
theorem lifted (os : Os) (started : os.Started) (H : Type) (enc : TypeId × Value → H) (F : Stop.Interp) :
    ReturnsInHanded {} Tryz.checked os 3 .any ((OpenSpec.ofChange Rows.inboxNamesSpec).preRow enc Tryz.prog Tryz.f3 Rows.inboxNamesRow.domain false Rows.inboxNamesRow.laid) (((OpenSpec.ofChange Rows.inboxNamesSpec).at F).post enc Tryz.prog Tryz.f3 false true false false) := by
  obtain ⟨places, hx⟩ := reads os enc
  refine returnsInHanded_of_row (C := Tryz.checked) (s := OpenSpec.ofChange Rows.inboxNamesSpec) own started (by kernel_rfl) Tryz.func3
    (witness_row_at (enc := enc) (C := Tryz.checked) false ({ World.holding Tryz.prog os ⟨#[], #[], []⟩ with heap := ((((World.holding Tryz.prog os ⟨#[], #[], []⟩).heap.modify 2 fun | .cells _ t frozen => .cells (vW K).toArray t frozen | o => o).modify 0 fun | .cells _ t frozen => .cells (vW st0.list).toArray t frozen | o => o).modify 1 fun | .cells _ t frozen => .cells (vW K).toArray t frozen | o => o) } : World) #[] rfl (by kernel_rfl) (by kernel_rfl) (by kernel_rfl)
      (OpenSpec.preRow_of_cond 8 hx (by kernel_rfl) (fun k hk => by cases hk) (by kernel_rfl) (laid_met os))) ?_
  intro W base args ds gs before hval hW _ hc hsz hL _ _
  exact contract H enc W base args ds gs before hval hW hsz hL

theorem said : Rows.InboxNamesSaid :=
  OpenClaim.holds_of_cond 3 Tryz.f3 rfl rfl rfl rfl rfl rfl rfl ⟨rfl, rfl, rfl, rfl, rfl⟩ rfl rfl rfl rfl rfl (by kernel_rfl) Tryz.func3 (by kernel_rfl)
    (of_decide_eq_true (by kernel_rfl)) (by unfold Func.isWrapper; first | (rw [if_pos (by decide +kernel)]; kernel_rfl) | (rw [if_neg (by decide +kernel)]; exact ⟨rfl, rfl⟩))
    (fun os started H enc _ F => by rw [OpenClaim.pre_eq_preRow]; exact lifted os started H enc F)

theorem plain (f : FuncId) (fn : Func) (hf : Tryz.pinned.checked.prog.funcNamed "causeway/causewaylaw15.InboxNames" = some f) (hfn : Tryz.pinned.checked.prog.funcs[f]? = some fn) :
    true = Tryz.pinned.checked.prog.looks [] ∧ ∀ (j : Nat) t, fn.params[j]? = some t → Tryz.pinned.checked.prog.wantsStandIn t = false := by
  obtain rfl : f = 3 := Option.some.inj ((show Tryz.prog.funcNamed "causeway/causewaylaw15.InboxNames" = some 3 by kernel_rfl).symm.trans hf) |>.symm
  obtain rfl : fn = Tryz.f3 := (Option.some.inj (Tryz.func3.symm.trans hfn)).symm
  refine ⟨by kernel_rfl, fun j t ht => ?_⟩
  rw [Tryz.params3] at ht
  simp at ht

/-- THE CARD. -/
theorem card : Rows.InboxNamesCardSaid :=
  Claim7.holds_tied_plain_at .later [] _ _ _ _ said (fun _ h => by cases h) (by kernel_rfl) (fun _ h => by cases h) inboxNames_row_tie rfl ⟨rfl, rfl⟩ (by kernel_rfl) rfl plain (by kernel_rfl)

end Go.Proofs.YtkbaaelffnmjlaaGreatDoor.inames
