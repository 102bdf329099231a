/-
  sparse: a part is told, whose key is asked for alone.
-/
import Derived.Test.YtfdgdmehgbmnkaaDoorSpQ
import Derived.Test.YtfdgdmehgbmnkaaDoorSpM
import Derived.Test.YtfdgdmehgbmnkaaDoorTRl
namespace Go.Proofs.YtfdgdmehgbmnkaaDoor
open Go Go.RowKit
open Sha

theorem NodeAt.kp {w w' : World} (k : KpT w w') : ∀ (t : Tr) (p : Value), NodeAt w t p → NodeAt w' t p
  | .nil, _, h => h
  | .one _ _, _, ⟨h1, h2, b, h3, h4⟩ => ⟨h1, h2, b, h3, k _ _ _ (by decide) (by decide) (by decide) h4⟩
  | .two l r, _, ⟨b, pl, pr, h1, h2, h3, h4⟩ => ⟨b, pl, pr, h1, k _ _ _ (by decide) (by decide) (by decide) h2, NodeAt.kp k l pl h3, NodeAt.kp k r pr h4⟩
theorem TlAt.below {w w' : World} {b H k s : Nat} (h : TlAt w b H k s) (hB : Below w.heap.size w w') : TlAt w' b H k s := h.be hB
theorem KpT.below {w W X : World} (h : KpT w W) (k : Below W.heap.size W X) : KpT w X := h.trans (KpT.of k)
/-- What a mark, or a part, that is told leaves. -/
def Told (w : World) (b k s : Nat) (e : Ending) (w' : World) : Prop := e = .returned (.tuple #[]) ∧ TlAt w' b w'.heap.size k s ∧ KpT w w' ∧ Below b w w'
theorem mark_0S (b H kk s : Nat) (mk : BitVec 8) (w : World) (h : TlAt w b H kk s) (hkb : kk ≤ 1099511627776) (hsb : s ≤ 1099511627776) :
    Calls Tryd.prog 66 #[pt b, .int .u8 (c mk), .slice none 0 0] w (Told w b (kk + 1) s) := by
  by_cases hm : kk % 4 = 0
  · exact (mark_A0 b H kk s mk w h hkb hsb hm).mono fun _ _ h => h
  · exact (mark_B0 b H kk s mk w h hkb hsb hm).mono fun _ _ h => h
section
variable {o : Oper} {a : Act} {w : World} {K : Act → World → Prop} {Q : Exit → Act → World → Prop}
theorem wp_nf3 {x : Operand} (ho : o.op = .fieldAddr 113 x 3) (B : Nat) (hx : a.eval x = .pointer (some ⟨B, 0, none⟩)) (h : K (a.put o.dst (.pointer (some ⟨B, 97, none⟩))) w) : Oper.wp Tryd.prog o a w K Q := by
  unfold Oper.wp execOp
  simp only [ho, hx]
  go_simp
  exact h
theorem wp_nf4 {x : Operand} (ho : o.op = .fieldAddr 113 x 4) (B : Nat) (hx : a.eval x = .pointer (some ⟨B, 0, none⟩)) (h : K (a.put o.dst (.pointer (some ⟨B, 98, none⟩))) w) : Oper.wp Tryd.prog o a w K Q := by
  unfold Oper.wp execOp
  simp only [ho, hx]
  go_simp
  exact h
def cutS (A : Option Addr) (cap i s : Nat) : Option Addr := if cap = i then A else A.map (·.add (i * s))
theorem wp_cutFS (t e : TypeId) (x y : Operand) (A : Option Addr) (n cap i s : Nat) (ho : o.op = .slice t x (some y) none none) (hx : a.eval x = .slice A n cap) (hy : a.eval y = .int .i64 (i : Int)) (hi : i ≤ n)
    (hu : Tryd.prog.underlying t = some (.slice e)) (hs : (Tryd.prog.info? e).map (·.size) = some s) (h : K (a.put o.dst (.slice (cutS A cap i s) (n - i) (cap - i))) w) : Oper.wp Tryd.prog o a w K Q := by
  cases hq : Tryd.prog.info? e with
  | none => simp [hq] at hs
  | some ie =>
    have h1 : ie.size = s := by simpa [hq] using hs
    have hr : (Instr.sliceAt t (.slice A n cap) (some (.int .i64 (i : Int))) none none).run Tryd.prog w = .ok (.slice (cutS A cap i s) (n - i) (cap - i)) w := by
      simp [Instr.sliceAt, Instr.slice, run_underlying hu, Instr.sliceBounds, Instr.sliceBound, asIntOf, sizeOf, typeInfo, hq, h1, hi, cutS]
    unfold Oper.wp execOp
    simp only [ho, hx, hy, Option.map_some, Option.map_none, Sem.run_bind, hr, Result.andThen_ok, Sem.run_pure, Oper.upon_value]
    exact h
theorem wp_cutTS (t e : TypeId) (x y : Operand) (A : Option Addr) (n cap i s : Nat) (ho : o.op = .slice t x none (some y) none) (hx : a.eval x = .slice A n cap) (hy : a.eval y = .int .i64 (i : Int)) (hi : i ≤ n) (hn : n ≤ cap)
    (hu : Tryd.prog.underlying t = some (.slice e)) (hs : (Tryd.prog.info? e).map (·.size) = some s) (h : K (a.put o.dst (.slice A i cap)) w) : Oper.wp Tryd.prog o a w K Q := by
  cases hq : Tryd.prog.info? e with
  | none => simp [hq] at hs
  | some ie =>
    have hr : (Instr.sliceAt t (.slice A n cap) none (some (.int .i64 (i : Int))) none).run Tryd.prog w = .ok (.slice A i cap) w := by
      have e2 : i ≤ cap := by omega
      cases A with
      | none => simp [Instr.sliceAt, Instr.slice, run_underlying hu, Instr.sliceBounds, Instr.sliceBound, asIntOf, sizeOf, typeInfo, hq, e2]
      | some ad => obtain ⟨b, f, sp⟩ := ad; simp [Instr.sliceAt, Instr.slice, run_underlying hu, Instr.sliceBounds, Instr.sliceBound, asIntOf, sizeOf, typeInfo, hq, e2, Addr.add]
    unfold Oper.wp execOp
    simp only [ho, hx, hy, Option.map_some, Option.map_none, Sem.run_bind, hr, Result.andThen_ok, Sem.run_pure, Oper.upon_value]
    exact h
end
set_option maxRecDepth 100000 in
set_option maxHeartbeats 4000000 in

theorem tell_nil (b H kk s : Nat) (sl : Value) (i : Nat) (w : World) (h : TlAt w b H kk s) (hkb : kk ≤ 1099511627776) (hsb : s ≤ 1099511627776) :
    Calls Tryd.prog 48 #[pt b, pn, sl, .int .i64 (i : Int)] w (Told w b (kk + 1) s) := by
  have HM : Hid _ := mark_0S b H kk s 0#8 w h hkb hsb
  clear h hkb hsb
  go_enter Tryd.func48, Tryd.ntmps48
  go_wp2_with (go_at_call 66; refine Calls.mono HM.out ?_; rintro e X ⟨rfl, q1, q2, q3⟩; have Q1 : Hid (TlAt X b X.heap.size (kk + 1) s) := q1; have Q2 : Hid (KpT w X) := q2; have Q3 : Hid (Below b w X) := q3; clear q1 q2 q3)
  exact bodyPost_end (results_none rfl _ _ _) rfl ⟨rfl, Q1.out, Q2.out, Q3.out⟩
set_option maxRecDepth 100000 in
set_option maxHeartbeats 4000000 in

theorem tell_two1 (b H kk s : Nat) (u : List (BitVec 8)) (hu : u.length = 32) (i : Nat) (hi : i < 256) (l r : Tr) (p : Value) (w : World) (hN : NodeAt w (.two l r) p) (hm : 1 < l.size + r.size) (h : TlAt w b H kk s) (hkb : kk ≤ 1099511627776) (hsb : s ≤ 1099511627776)
    (ab ao cap : Nat) (hc1 : 1 ≤ cap) (hR : ∀ W, KpT w W → W.rangeAt ab ao (vB u)) (z : Nat) (hz : z = if bitOf u i then 0 else 1) (k2 s2 k3 s3 : Nat)
    (hl : ∀ pl W H', NodeAt W l pl → TlAt W b H' (kk + 1) s → KpT w W → Calls Tryd.prog 48 #[pt b, pl, .slice (some ⟨ab, ao, none⟩) z cap, .int .i64 ((i + 1 : Nat) : Int)] W (Told W b k2 s2))
    (hr : ∀ pr W H', NodeAt W r pr → TlAt W b H' k2 s2 → KpT w W → Calls Tryd.prog 48 #[pt b, pr, .slice (cutS (some ⟨ab, ao, none⟩) cap z 64) (1 - z) (cap - z), .int .i64 ((i + 1 : Nat) : Int)] W (Told W b k3 s3)) :
    Calls Tryd.prog 48 #[pt b, p, .slice (some ⟨ab, ao, none⟩) 1 cap, .int .i64 (i : Int)] w (Told w b k3 s3) := by
  obtain ⟨bn, pl, pr, rfl, rn, hnl, hnr⟩ := hN
  obtain ⟨n, hn⟩ : ∃ n, n = l.size + r.size := ⟨_, rfl⟩
  rw [← hn] at rn hm
  have hn1 : ¬ (n : Int) = 1 := by omega
  obtain ⟨NC, hNC⟩ : ∃ NC, NC = ncs (Tr.two l r).dg n z64 pl pr := ⟨_, rfl⟩
  rw [← hNC] at rn
  have hDL : (Tr.two l r).dg.length = 32 := Tr.dg_len _
  have CN : w.cell? ⟨bn, 32, none⟩ = some (.int .i64 (n : Int)) := rn.cell 32 _ (by rw [hNC]; exact ncs_cnt _ _ _ _ _ hDL)
  have HC97 : Hid (NC[97]? = some pl) := by show _ = _; rw [hNC]; exact ncs_left _ _ _ _ _ hDL rfl
  have HC98 : Hid (NC[98]? = some pr) := by show _ = _; rw [hNC]; exact ncs_right _ _ _ _ _ hDL rfl
  have HRN : Hid (∀ W, KpT w W → Row W bn NC 113) := fun W k => k _ _ _ (by decide) (by decide) (by decide) rn
  have HBL : b < w.heap.size := by obtain ⟨_, _, _, _, rT, _⟩ := h; exact rT.lt
  have HIB : Hid (i < 1152921504606846976) := by show _ < _; omega
  have HZ1 : Hid (z ≤ 1) := by show _ ≤ _; rw [hz]; split <;> omega
  have HC1 : Hid (1 ≤ cap) := hc1
  have HL : Hid (∀ W H', TlAt W b H' (kk + 1) s → KpT w W → Calls Tryd.prog 48 #[pt b, pl, .slice (some ⟨ab, ao, none⟩) z cap, .int .i64 ((i + 1 : Nat) : Int)] W (Told W b k2 s2)) := fun W H' t k => hl pl W H' (NodeAt.kp k l pl hnl) t k
  have HR : Hid (∀ W H', TlAt W b H' k2 s2 → KpT w W → Calls Tryd.prog 48 #[pt b, pr, .slice (cutS (some ⟨ab, ao, none⟩) cap z 64) (1 - z) (cap - z), .int .i64 ((i + 1 : Nat) : Int)] W (Told W b k3 s3)) := fun W H' t k => hr pr W H' (NodeAt.kp k r pr hnr) t k
  have HM : Hid _ := mark_0S b H kk s 3#8 w h hkb hsb
  have HI : Hid (∀ W, KpT w W → Calls Tryd.prog 68 #[.slice (some ⟨ab, ao, none⟩) 1 cap, .int .i64 (i : Int)] W fun e w' => e = .returned (.int .i64 (z : Int)) ∧ Below W.heap.size W w') := fun W k => (inLeft_one u hu i hi ab ao cap W (fun X kX => hR X (k.trans (KpT.of kX)))).mono (by rintro e X ⟨rfl, q⟩; exact ⟨by rw [hz]; split <;> rfl, q⟩)
  clear h hkb hsb hl hr hz hR hu hi hnl hnr hNC hDL hn hm rn hc1
  go_enter Tryd.func48, Tryd.ntmps48
  go_upto_region 2 with (first
    | (go_at_call 66; refine Calls.mono HM.out ?_; rintro e X1 ⟨rfl, q1, q2, q3⟩; have Q1 : Hid (TlAt X1 b X1.heap.size (kk + 1) s) := q1; have Q2 : Hid (KpT w X1) := q2; have Q3 : Hid (Below b w X1) := q3; clear q1 q2 q3)
    | (go_at_call 68; refine Calls.mono (HI.out _ Q2.out) ?_; rintro e X2 ⟨rfl, qq⟩; have BX : Hid (Below X1.heap.size X1 X2) := qq; clear qq))
  have hT := Q1.out.be BX.out
  have hK := Q2.out.trans (KpT.of BX.out)
  have hQ : Below b w X2 := Q3.out.trans (BX.out.mono (Nat.le_trans (Nat.le_of_lt HBL) Q3.out.size))
  have rn := HRN.out X2 hK
  have hb1 := Below.refl X2.heap.size X2
  obtain ⟨HA, hHA⟩ : ∃ HA, HA = X1.heap.size := ⟨_, rfl⟩
  rw [← hHA] at hT
  clear hHA Q1 Q2 Q3 BX CN
  refine wp_named fun a0 ha0 => ?_
  have hsz : a0.tmps.size = 94 := by rw [ha0]; rfl
  have zs0 : a0.eval (.tmp 0) = .pointer (some ⟨b, 0, none⟩) := by rw [ha0]; rfl
  have zs1 : a0.eval (.tmp 1) = .pointer (some ⟨bn, 0, none⟩) := by rw [ha0]; rfl
  have zs2 : a0.eval (.tmp 2) = .slice (some ⟨ab, ao, none⟩) 1 cap := by rw [ha0]; rfl
  have zs3 : a0.eval (.tmp 3) = .int .i64 (i : Int) := by rw [ha0]; rfl
  have zs8 : a0.eval (.tmp 8) = .int .i64 (z : Int) := by rw [ha0]; rfl
  obtain ⟨D, hD⟩ : ∃ D : List (Tmp × SP), D = [(14, SP.is (.pointer (some ⟨b, 0, none⟩))), (15, SP.is (.pointer (some ⟨bn, 0, none⟩))), (16, SP.is (.pointer (some ⟨bn, 0, none⟩))), (17, SP.is (.pointer (some ⟨bn, 97, none⟩))), (18, SP.is (pl)), (19, SP.is (.slice (some ⟨ab, ao, none⟩) 1 cap)), (20, SP.is (.int .i64 (z : Int))), (21, SP.is (.slice (some ⟨ab, ao, none⟩) z cap)), (22, SP.is (.int .i64 (i : Int))), (23, SP.is (.int .i64 ((i + 1 : Nat) : Int))), (24, SP.is (.tuple #[]))] := ⟨_, rfl⟩
  refine wp_region_then (by kernel_rfl) 10 (by decide) (by kernel_rfl) (fun listed ac W => Fp D a0 listed ac W ∧ Below X2.heap.size X2 W ∧ Row W bn NC 113 ∧ TlAt W b HA (kk + 1) s ∧ KpT w W ∧ Below b w W) (fun listed ac W => Fp D a0 listed ac W ∧ TlAt W b W.heap.size k2 s2 ∧ KpT w W ∧ Below b w W) ?_ ?_ ?_ ?_ ?_
  · exact ⟨Fp.start D a0 _ _, Below.drew hb1, Row.drew rn, hT.below (Below.drew (Below.refl _ _)), hK.below (Below.drew (Below.refl _ _)), Below.drew hQ⟩
  · clear ha0 hb1 rn hT hK hQ
    intro listed ac W k hl hI hdn hk hne hnl
    replace hl : listed.size = 11 := hl
    obtain ⟨hF, hb1, rn, hT, hK, hQ⟩ := hI
    have hk1 : k < 11 := List.mem_range.1 (List.mem_filter.1 hk).1
    rcases (show k = 0 ∨ k = 1 ∨ k = 2 ∨ k = 3 ∨ k = 4 ∨ k = 5 ∨ k = 6 ∨ k = 7 ∨ k = 8 ∨ k = 9 ∨ k = 10 by omega) with rfl | rfl | rfl | rfl | rfl | rfl | rfl | rfl | rfl | rfl | rfl
    · have hk3 := hk
      exact wpOp_plain rfl rfl (wp_move_v (ac.eval (.tmp 0)) rfl rfl ⟨(hF.put 0 14 (SP.is (.pointer (some ⟨b, 0, none⟩))) (ac.eval (.tmp 0)) (by rw [hD]; rfl) (((hF.keep 0 (by rw [hD]; rfl)).trans zs0)) (by rw [hD]; rfl) (by rw [hsz]; decide) (by rw [hl]; decide)), hb1, rn, hT, hK, hQ⟩)
    · have hk3 := hk
      exact wpOp_plain rfl rfl (wp_move_v (ac.eval (.tmp 1)) rfl rfl ⟨(hF.put 1 15 (SP.is (.pointer (some ⟨bn, 0, none⟩))) (ac.eval (.tmp 1)) (by rw [hD]; rfl) (((hF.keep 1 (by rw [hD]; rfl)).trans zs1)) (by rw [hD]; rfl) (by rw [hsz]; decide) (by rw [hl]; decide)), hb1, rn, hT, hK, hQ⟩)
    · have hk3 := hk
      have e := (hF.done 1 (15, SP.is (.pointer (some ⟨bn, 0, none⟩))) (by rw [hD]; rfl) (ready_dep hk 1 (by kernel_rfl)))
      exact wpOp_plain rfl rfl (wp_nilS rfl bn e ⟨(hF.put 2 16 (SP.is (.pointer (some ⟨bn, 0, none⟩))) (.pointer (some ⟨bn, 0, none⟩)) (by rw [hD]; rfl) rfl (by rw [hD]; rfl) (by rw [hsz]; decide) (by rw [hl]; decide)), hb1, rn, hT, hK, hQ⟩)
    · have hk3 := hk
      have e := (hF.done 2 (16, SP.is (.pointer (some ⟨bn, 0, none⟩))) (by rw [hD]; rfl) (ready_dep hk 2 (by kernel_rfl)))
      exact wpOp_plain rfl rfl (wp_nf3 rfl bn e ⟨(hF.put 3 17 (SP.is (.pointer (some ⟨bn, 97, none⟩))) (.pointer (some ⟨bn, 97, none⟩)) (by rw [hD]; rfl) rfl (by rw [hD]; rfl) (by rw [hsz]; decide) (by rw [hl]; decide)), hb1, rn, hT, hK, hQ⟩)
    · have hk3 := hk
      have e := (hF.done 3 (17, SP.is (.pointer (some ⟨bn, 97, none⟩))) (by rw [hD]; rfl) (ready_dep hk 3 (by kernel_rfl)))
      exact wpOp_plain rfl rfl (wp_ldp bn 97 pl rfl e (rn.cell 97 _ HC97.out) ⟨(hF.put 4 18 (SP.is (pl)) pl (by rw [hD]; rfl) rfl (by rw [hD]; rfl) (by rw [hsz]; decide) (by rw [hl]; decide)), hb1, rn, hT, hK, hQ⟩)
    · have hk3 := hk
      exact wpOp_plain rfl rfl (wp_move_v (ac.eval (.tmp 2)) rfl rfl ⟨(hF.put 5 19 (SP.is (.slice (some ⟨ab, ao, none⟩) 1 cap)) (ac.eval (.tmp 2)) (by rw [hD]; rfl) (((hF.keep 2 (by rw [hD]; rfl)).trans zs2)) (by rw [hD]; rfl) (by rw [hsz]; decide) (by rw [hl]; decide)), hb1, rn, hT, hK, hQ⟩)
    · have hk3 := hk
      exact wpOp_plain rfl rfl (wp_move_v (ac.eval (.tmp 8)) rfl rfl ⟨(hF.put 6 20 (SP.is (.int .i64 (z : Int))) (ac.eval (.tmp 8)) (by rw [hD]; rfl) (((hF.keep 8 (by rw [hD]; rfl)).trans zs8)) (by rw [hD]; rfl) (by rw [hsz]; decide) (by rw [hl]; decide)), hb1, rn, hT, hK, hQ⟩)
    · have hk3 := hk
      have e1 := (hF.done 5 (19, SP.is (.slice (some ⟨ab, ao, none⟩) 1 cap)) (by rw [hD]; rfl) (ready_dep hk 5 (by kernel_rfl)))
      have e2 := (hF.done 6 (20, SP.is (.int .i64 (z : Int))) (by rw [hD]; rfl) (ready_dep hk 6 (by kernel_rfl)))
      exact wpOp_plain rfl rfl (wp_cutTS 35 59 (.tmp 19) (.tmp 20) (some ⟨ab, ao, none⟩) 1 cap z 64 rfl e1 e2 HZ1.out HC1.out Tryd.underlying35 info_bd ⟨(hF.put 7 21 (SP.is (.slice (some ⟨ab, ao, none⟩) z cap)) (.slice (some ⟨ab, ao, none⟩) z cap) (by rw [hD]; rfl) rfl (by rw [hD]; rfl) (by rw [hsz]; decide) (by rw [hl]; decide)), hb1, rn, hT, hK, hQ⟩)
    · have hk3 := hk
      exact wpOp_plain rfl rfl (wp_move_v (ac.eval (.tmp 3)) rfl rfl ⟨(hF.put 8 22 (SP.is (.int .i64 (i : Int))) (ac.eval (.tmp 3)) (by rw [hD]; rfl) (((hF.keep 3 (by rw [hD]; rfl)).trans zs3)) (by rw [hD]; rfl) (by rw [hsz]; decide) (by rw [hl]; decide)), hb1, rn, hT, hK, hQ⟩)
    · have hk3 := hk
      have e := (hF.done 8 (22, SP.is (.int .i64 (i : Int))) (by rw [hD]; rfl) (ready_dep hk 8 (by kernel_rfl)))
      exact wpOp_plain rfl rfl (wp_add1S rfl i HIB.out e ⟨(hF.put 9 23 (SP.is (.int .i64 ((i + 1 : Nat) : Int))) (.int .i64 ((i + 1 : Nat) : Int)) (by rw [hD]; rfl) rfl (by rw [hD]; rfl) (by rw [hsz]; decide) (by rw [hl]; decide)), hb1, rn, hT, hK, hQ⟩)
    · exact absurd rfl hne
  · clear ha0 hb1 rn hT hK hQ
    intro listed ac W hl hI hdn hk
    replace hl : listed.size = 11 := hl
    obtain ⟨hF, hb1, rn, hT, hK, hQ⟩ := hI
    have ea := (hF.done 0 (14, SP.is (.pointer (some ⟨b, 0, none⟩))) (by rw [hD]; rfl) (ready_dep hk 0 (by kernel_rfl)))
    have eb := (hF.done 4 (18, SP.is (pl)) (by rw [hD]; rfl) (ready_dep hk 4 (by kernel_rfl)))
    have ec := (hF.done 7 (21, SP.is (.slice (some ⟨ab, ao, none⟩) z cap)) (by rw [hD]; rfl) (ready_dep hk 7 (by kernel_rfl)))
    have ed := (hF.done 9 (23, SP.is (.int .i64 ((i + 1 : Nat) : Int))) (by rw [hD]; rfl) (ready_dep hk 9 (by kernel_rfl)))
    refine wpOp_plain rfl rfl (wp_fcall_v 48 #[pt b, pl, .slice (some ⟨ab, ao, none⟩) z cap, .int .i64 ((i + 1 : Nat) : Int)] rfl rfl (by show [ac.eval (.tmp 14), ac.eval (.tmp 18), ac.eval (.tmp 21), ac.eval (.tmp 23)] = _; rw [show ac.eval (.tmp 14) = _ from ea, show ac.eval (.tmp 18) = _ from eb, show ac.eval (.tmp 21) = _ from ec, show ac.eval (.tmp 23) = _ from ed]) (by go_simp) ((HL.out W HA hT hK).mono ?_))
    rintro e W2 ⟨rfl, qT, qK, qB⟩
    have hT : Fp D a0 listed ac W2 := hF.turn (by rw [hD]; simp only [List.forall_mem_cons, List.not_mem_nil, false_implies, implies_true, and_true]; exact ⟨fun _ h => h, fun _ h => h, fun _ h => h, fun _ h => h, fun _ h => h, fun _ h => h, fun _ h => h, fun _ h => h, fun _ h => h, fun _ h => h, fun _ h => h⟩)
    exact ⟨_, rfl, (hT.put 10 24 (SP.is (.tuple #[])) _ (by rw [hD]; rfl) rfl (by rw [hD]; rfl) (by rw [hsz]; decide) (by rw [hl]; decide)), qT, hK.trans qK, hQ.trans qB⟩
  · clear ha0 hb1 rn hT hK hQ
    intro listed ac W k hl hJ hdn hk hne hyl
    replace hl : listed.size = 11 := hl
    obtain ⟨hF, hT, hK, hQ⟩ := hJ
    have hk1 : k < 11 := List.mem_range.1 (List.mem_filter.1 hk).1
    rcases (show k = 0 ∨ k = 1 ∨ k = 2 ∨ k = 3 ∨ k = 4 ∨ k = 5 ∨ k = 6 ∨ k = 7 ∨ k = 8 ∨ k = 9 ∨ k = 10 by omega) with rfl | rfl | rfl | rfl | rfl | rfl | rfl | rfl | rfl | rfl | rfl
    · exact absurd (hdn 10 hyl 0 (by kernel_rfl)) (not_yet hk)
    · exact absurd (hdn 2 (hdn 3 (hdn 4 (hdn 10 hyl 4 (by kernel_rfl)) 3 (by kernel_rfl)) 2 (by kernel_rfl)) 1 (by kernel_rfl)) (not_yet hk)
    · exact absurd (hdn 3 (hdn 4 (hdn 10 hyl 4 (by kernel_rfl)) 3 (by kernel_rfl)) 2 (by kernel_rfl)) (not_yet hk)
    · exact absurd (hdn 4 (hdn 10 hyl 4 (by kernel_rfl)) 3 (by kernel_rfl)) (not_yet hk)
    · exact absurd (hdn 10 hyl 4 (by kernel_rfl)) (not_yet hk)
    · exact absurd (hdn 7 (hdn 10 hyl 7 (by kernel_rfl)) 5 (by kernel_rfl)) (not_yet hk)
    · exact absurd (hdn 7 (hdn 10 hyl 7 (by kernel_rfl)) 6 (by kernel_rfl)) (not_yet hk)
    · exact absurd (hdn 10 hyl 7 (by kernel_rfl)) (not_yet hk)
    · exact absurd (hdn 9 (hdn 10 hyl 9 (by kernel_rfl)) 8 (by kernel_rfl)) (not_yet hk)
    · exact absurd (hdn 10 hyl 9 (by kernel_rfl)) (not_yet hk)
    · exact absurd rfl hne
  · clear hb1 rn hT hK hQ
    intro listed ac W hl hJ hr
    replace hl : listed.size = 11 := hl
    obtain ⟨hF, hT, hK, hQ⟩ := hJ
    have hall := all_listed (by kernel_rfl) hl hr
    have h14 : ac.eval (.tmp 14) = .pointer (some ⟨b, 0, none⟩) := hF.done 0 (14, SP.is (.pointer (some ⟨b, 0, none⟩))) (by rw [hD]; rfl) (hall 0 (by decide))
    have h15 : ac.eval (.tmp 15) = .pointer (some ⟨bn, 0, none⟩) := hF.done 1 (15, SP.is (.pointer (some ⟨bn, 0, none⟩))) (by rw [hD]; rfl) (hall 1 (by decide))
    have h16 : ac.eval (.tmp 16) = .pointer (some ⟨bn, 0, none⟩) := hF.done 2 (16, SP.is (.pointer (some ⟨bn, 0, none⟩))) (by rw [hD]; rfl) (hall 2 (by decide))
    have h17 : ac.eval (.tmp 17) = .pointer (some ⟨bn, 97, none⟩) := hF.done 3 (17, SP.is (.pointer (some ⟨bn, 97, none⟩))) (by rw [hD]; rfl) (hall 3 (by decide))
    have h18 : ac.eval (.tmp 18) = pl := hF.done 4 (18, SP.is (pl)) (by rw [hD]; rfl) (hall 4 (by decide))
    have h19 : ac.eval (.tmp 19) = .slice (some ⟨ab, ao, none⟩) 1 cap := hF.done 5 (19, SP.is (.slice (some ⟨ab, ao, none⟩) 1 cap)) (by rw [hD]; rfl) (hall 5 (by decide))
    have h20 : ac.eval (.tmp 20) = .int .i64 (z : Int) := hF.done 6 (20, SP.is (.int .i64 (z : Int))) (by rw [hD]; rfl) (hall 6 (by decide))
    have h21 : ac.eval (.tmp 21) = .slice (some ⟨ab, ao, none⟩) z cap := hF.done 7 (21, SP.is (.slice (some ⟨ab, ao, none⟩) z cap)) (by rw [hD]; rfl) (hall 7 (by decide))
    have h22 : ac.eval (.tmp 22) = .int .i64 (i : Int) := hF.done 8 (22, SP.is (.int .i64 (i : Int))) (by rw [hD]; rfl) (hall 8 (by decide))
    have h23 : ac.eval (.tmp 23) = .int .i64 ((i + 1 : Nat) : Int) := hF.done 9 (23, SP.is (.int .i64 ((i + 1 : Nat) : Int))) (by rw [hD]; rfl) (hall 9 (by decide))
    have h24 : ac.eval (.tmp 24) = .tuple #[] := hF.done 10 (24, SP.is (.tuple #[])) (by rw [hD]; rfl) (hall 10 (by decide))
    have ea := hF.lay [(14, .pointer (some ⟨b, 0, none⟩)), (15, .pointer (some ⟨bn, 0, none⟩)), (16, .pointer (some ⟨bn, 0, none⟩)), (17, .pointer (some ⟨bn, 97, none⟩)), (18, pl), (19, .slice (some ⟨ab, ao, none⟩) 1 cap), (20, .int .i64 (z : Int)), (21, .slice (some ⟨ab, ao, none⟩) z cap), (22, .int .i64 (i : Int)), (23, .int .i64 ((i + 1 : Nat) : Int)), (24, .tuple #[])] (by rw [hD, hsz]; rfl) (by simp only [List.forall_mem_cons, List.not_mem_nil, false_implies, implies_true, and_true]; exact ⟨h14, h15, h16, h17, h18, h19, h20, h21, h22, h23, h24⟩)
    rw [ha0] at ea
    simp only [List.foldl_cons, List.foldl_nil, List.setIfInBounds_toArray, List.set_cons_zero, List.set_cons_succ] at ea
    clear hF hall hr hl hD zs0 zs1 zs2 zs3 zs8 ha0 hsz h14 h15 h16 h17 h18 h19 h20 h21 h22 h23 h24
    subst ea
    rename World => X3
    obtain ⟨HB, hHB⟩ : ∃ HB, HB = X3.heap.size := ⟨_, rfl⟩
    rw [← hHB] at hT
    have rn := HRN.out X3 hK
    have hb1 := Below.refl X3.heap.size X3
    clear hHB
    go_upto_region 3 with fail
    refine wp_named fun a0 ha0 => ?_
    have hsz : a0.tmps.size = 94 := by rw [ha0]; rfl
    have zs0 : a0.eval (.tmp 0) = .pointer (some ⟨b, 0, none⟩) := by rw [ha0]; rfl
    have zs1 : a0.eval (.tmp 1) = .pointer (some ⟨bn, 0, none⟩) := by rw [ha0]; rfl
    have zs2 : a0.eval (.tmp 2) = .slice (some ⟨ab, ao, none⟩) 1 cap := by rw [ha0]; rfl
    have zs3 : a0.eval (.tmp 3) = .int .i64 (i : Int) := by rw [ha0]; rfl
    have zs8 : a0.eval (.tmp 8) = .int .i64 (z : Int) := by rw [ha0]; rfl
    obtain ⟨D, hD⟩ : ∃ D : List (Tmp × SP), D = [(25, SP.is (.pointer (some ⟨b, 0, none⟩))), (26, SP.is (.pointer (some ⟨bn, 0, none⟩))), (27, SP.is (.pointer (some ⟨bn, 0, none⟩))), (28, SP.is (.pointer (some ⟨bn, 98, none⟩))), (29, SP.is (pr)), (30, SP.is (.slice (some ⟨ab, ao, none⟩) 1 cap)), (31, SP.is (.int .i64 (z : Int))), (32, SP.is (.slice (cutS (some ⟨ab, ao, none⟩) cap z 64) (1 - z) (cap - z))), (33, SP.is (.int .i64 (i : Int))), (34, SP.is (.int .i64 ((i + 1 : Nat) : Int))), (35, SP.is (.tuple #[]))] := ⟨_, rfl⟩
    refine wp_region_then (by kernel_rfl) 10 (by decide) (by kernel_rfl) (fun listed ac W => Fp D a0 listed ac W ∧ Below X3.heap.size X3 W ∧ Row W bn NC 113 ∧ TlAt W b HB k2 s2 ∧ KpT w W ∧ Below b w W) (fun listed ac W => Fp D a0 listed ac W ∧ TlAt W b W.heap.size k3 s3 ∧ KpT w W ∧ Below b w W) ?_ ?_ ?_ ?_ ?_
    · exact ⟨Fp.start D a0 _ _, Below.drew hb1, Row.drew rn, hT.below (Below.drew (Below.refl _ _)), hK.below (Below.drew (Below.refl _ _)), Below.drew hQ⟩
    · clear ha0 hb1 rn hT hK hQ
      intro listed ac W k hl hI hdn hk hne hnl
      replace hl : listed.size = 11 := hl
      obtain ⟨hF, hb1, rn, hT, hK, hQ⟩ := hI
      have hk1 : k < 11 := List.mem_range.1 (List.mem_filter.1 hk).1
      rcases (show k = 0 ∨ k = 1 ∨ k = 2 ∨ k = 3 ∨ k = 4 ∨ k = 5 ∨ k = 6 ∨ k = 7 ∨ k = 8 ∨ k = 9 ∨ k = 10 by omega) with rfl | rfl | rfl | rfl | rfl | rfl | rfl | rfl | rfl | rfl | rfl
      · have hk3 := hk
        exact wpOp_plain rfl rfl (wp_move_v (ac.eval (.tmp 0)) rfl rfl ⟨(hF.put 0 25 (SP.is (.pointer (some ⟨b, 0, none⟩))) (ac.eval (.tmp 0)) (by rw [hD]; rfl) (((hF.keep 0 (by rw [hD]; rfl)).trans zs0)) (by rw [hD]; rfl) (by rw [hsz]; decide) (by rw [hl]; decide)), hb1, rn, hT, hK, hQ⟩)
      · have hk3 := hk
        exact wpOp_plain rfl rfl (wp_move_v (ac.eval (.tmp 1)) rfl rfl ⟨(hF.put 1 26 (SP.is (.pointer (some ⟨bn, 0, none⟩))) (ac.eval (.tmp 1)) (by rw [hD]; rfl) (((hF.keep 1 (by rw [hD]; rfl)).trans zs1)) (by rw [hD]; rfl) (by rw [hsz]; decide) (by rw [hl]; decide)), hb1, rn, hT, hK, hQ⟩)
      · have hk3 := hk
        have e := (hF.done 1 (26, SP.is (.pointer (some ⟨bn, 0, none⟩))) (by rw [hD]; rfl) (ready_dep hk 1 (by kernel_rfl)))
        exact wpOp_plain rfl rfl (wp_nilS rfl bn e ⟨(hF.put 2 27 (SP.is (.pointer (some ⟨bn, 0, none⟩))) (.pointer (some ⟨bn, 0, none⟩)) (by rw [hD]; rfl) rfl (by rw [hD]; rfl) (by rw [hsz]; decide) (by rw [hl]; decide)), hb1, rn, hT, hK, hQ⟩)
      · have hk3 := hk
        have e := (hF.done 2 (27, SP.is (.pointer (some ⟨bn, 0, none⟩))) (by rw [hD]; rfl) (ready_dep hk 2 (by kernel_rfl)))
        exact wpOp_plain rfl rfl (wp_nf4 rfl bn e ⟨(hF.put 3 28 (SP.is (.pointer (some ⟨bn, 98, none⟩))) (.pointer (some ⟨bn, 98, none⟩)) (by rw [hD]; rfl) rfl (by rw [hD]; rfl) (by rw [hsz]; decide) (by rw [hl]; decide)), hb1, rn, hT, hK, hQ⟩)
      · have hk3 := hk
        have e := (hF.done 3 (28, SP.is (.pointer (some ⟨bn, 98, none⟩))) (by rw [hD]; rfl) (ready_dep hk 3 (by kernel_rfl)))
        exact wpOp_plain rfl rfl (wp_ldp bn 98 pr rfl e (rn.cell 98 _ HC98.out) ⟨(hF.put 4 29 (SP.is (pr)) pr (by rw [hD]; rfl) rfl (by rw [hD]; rfl) (by rw [hsz]; decide) (by rw [hl]; decide)), hb1, rn, hT, hK, hQ⟩)
      · have hk3 := hk
        exact wpOp_plain rfl rfl (wp_move_v (ac.eval (.tmp 2)) rfl rfl ⟨(hF.put 5 30 (SP.is (.slice (some ⟨ab, ao, none⟩) 1 cap)) (ac.eval (.tmp 2)) (by rw [hD]; rfl) (((hF.keep 2 (by rw [hD]; rfl)).trans zs2)) (by rw [hD]; rfl) (by rw [hsz]; decide) (by rw [hl]; decide)), hb1, rn, hT, hK, hQ⟩)
      · have hk3 := hk
        exact wpOp_plain rfl rfl (wp_move_v (ac.eval (.tmp 8)) rfl rfl ⟨(hF.put 6 31 (SP.is (.int .i64 (z : Int))) (ac.eval (.tmp 8)) (by rw [hD]; rfl) (((hF.keep 8 (by rw [hD]; rfl)).trans zs8)) (by rw [hD]; rfl) (by rw [hsz]; decide) (by rw [hl]; decide)), hb1, rn, hT, hK, hQ⟩)
      · have hk3 := hk
        have e1 := (hF.done 5 (30, SP.is (.slice (some ⟨ab, ao, none⟩) 1 cap)) (by rw [hD]; rfl) (ready_dep hk 5 (by kernel_rfl)))
        have e2 := (hF.done 6 (31, SP.is (.int .i64 (z : Int))) (by rw [hD]; rfl) (ready_dep hk 6 (by kernel_rfl)))
        exact wpOp_plain rfl rfl (wp_cutFS 35 59 (.tmp 30) (.tmp 31) (some ⟨ab, ao, none⟩) 1 cap z 64 rfl e1 e2 HZ1.out Tryd.underlying35 info_bd ⟨(hF.put 7 32 (SP.is (.slice (cutS (some ⟨ab, ao, none⟩) cap z 64) (1 - z) (cap - z))) (.slice (cutS (some ⟨ab, ao, none⟩) cap z 64) (1 - z) (cap - z)) (by rw [hD]; rfl) rfl (by rw [hD]; rfl) (by rw [hsz]; decide) (by rw [hl]; decide)), hb1, rn, hT, hK, hQ⟩)
      · have hk3 := hk
        exact wpOp_plain rfl rfl (wp_move_v (ac.eval (.tmp 3)) rfl rfl ⟨(hF.put 8 33 (SP.is (.int .i64 (i : Int))) (ac.eval (.tmp 3)) (by rw [hD]; rfl) (((hF.keep 3 (by rw [hD]; rfl)).trans zs3)) (by rw [hD]; rfl) (by rw [hsz]; decide) (by rw [hl]; decide)), hb1, rn, hT, hK, hQ⟩)
      · have hk3 := hk
        have e := (hF.done 8 (33, SP.is (.int .i64 (i : Int))) (by rw [hD]; rfl) (ready_dep hk 8 (by kernel_rfl)))
        exact wpOp_plain rfl rfl (wp_add1S rfl i HIB.out e ⟨(hF.put 9 34 (SP.is (.int .i64 ((i + 1 : Nat) : Int))) (.int .i64 ((i + 1 : Nat) : Int)) (by rw [hD]; rfl) rfl (by rw [hD]; rfl) (by rw [hsz]; decide) (by rw [hl]; decide)), hb1, rn, hT, hK, hQ⟩)
      · exact absurd rfl hne
    · clear ha0 hb1 rn hT hK hQ
      intro listed ac W hl hI hdn hk
      replace hl : listed.size = 11 := hl
      obtain ⟨hF, hb1, rn, hT, hK, hQ⟩ := hI
      have ea := (hF.done 0 (25, SP.is (.pointer (some ⟨b, 0, none⟩))) (by rw [hD]; rfl) (ready_dep hk 0 (by kernel_rfl)))
      have eb := (hF.done 4 (29, SP.is (pr)) (by rw [hD]; rfl) (ready_dep hk 4 (by kernel_rfl)))
      have ec := (hF.done 7 (32, SP.is (.slice (cutS (some ⟨ab, ao, none⟩) cap z 64) (1 - z) (cap - z))) (by rw [hD]; rfl) (ready_dep hk 7 (by kernel_rfl)))
      have ed := (hF.done 9 (34, SP.is (.int .i64 ((i + 1 : Nat) : Int))) (by rw [hD]; rfl) (ready_dep hk 9 (by kernel_rfl)))
      refine wpOp_plain rfl rfl (wp_fcall_v 48 #[pt b, pr, .slice (cutS (some ⟨ab, ao, none⟩) cap z 64) (1 - z) (cap - z), .int .i64 ((i + 1 : Nat) : Int)] rfl rfl (by show [ac.eval (.tmp 25), ac.eval (.tmp 29), ac.eval (.tmp 32), ac.eval (.tmp 34)] = _; rw [show ac.eval (.tmp 25) = _ from ea, show ac.eval (.tmp 29) = _ from eb, show ac.eval (.tmp 32) = _ from ec, show ac.eval (.tmp 34) = _ from ed]) (by go_simp) ((HR.out W HB hT hK).mono ?_))
      rintro e W2 ⟨rfl, qT, qK, qB⟩
      have hT : Fp D a0 listed ac W2 := hF.turn (by rw [hD]; simp only [List.forall_mem_cons, List.not_mem_nil, false_implies, implies_true, and_true]; exact ⟨fun _ h => h, fun _ h => h, fun _ h => h, fun _ h => h, fun _ h => h, fun _ h => h, fun _ h => h, fun _ h => h, fun _ h => h, fun _ h => h, fun _ h => h⟩)
      exact ⟨_, rfl, (hT.put 10 35 (SP.is (.tuple #[])) _ (by rw [hD]; rfl) rfl (by rw [hD]; rfl) (by rw [hsz]; decide) (by rw [hl]; decide)), qT, hK.trans qK, hQ.trans qB⟩
    · clear ha0 hb1 rn hT hK hQ
      intro listed ac W k hl hJ hdn hk hne hyl
      replace hl : listed.size = 11 := hl
      obtain ⟨hF, hT, hK, hQ⟩ := hJ
      have hk1 : k < 11 := List.mem_range.1 (List.mem_filter.1 hk).1
      rcases (show k = 0 ∨ k = 1 ∨ k = 2 ∨ k = 3 ∨ k = 4 ∨ k = 5 ∨ k = 6 ∨ k = 7 ∨ k = 8 ∨ k = 9 ∨ k = 10 by omega) with rfl | rfl | rfl | rfl | rfl | rfl | rfl | rfl | rfl | rfl | rfl
      · exact absurd (hdn 10 hyl 0 (by kernel_rfl)) (not_yet hk)
      · exact absurd (hdn 2 (hdn 3 (hdn 4 (hdn 10 hyl 4 (by kernel_rfl)) 3 (by kernel_rfl)) 2 (by kernel_rfl)) 1 (by kernel_rfl)) (not_yet hk)
      · exact absurd (hdn 3 (hdn 4 (hdn 10 hyl 4 (by kernel_rfl)) 3 (by kernel_rfl)) 2 (by kernel_rfl)) (not_yet hk)
      · exact absurd (hdn 4 (hdn 10 hyl 4 (by kernel_rfl)) 3 (by kernel_rfl)) (not_yet hk)
      · exact absurd (hdn 10 hyl 4 (by kernel_rfl)) (not_yet hk)
      · exact absurd (hdn 7 (hdn 10 hyl 7 (by kernel_rfl)) 5 (by kernel_rfl)) (not_yet hk)
      · exact absurd (hdn 7 (hdn 10 hyl 7 (by kernel_rfl)) 6 (by kernel_rfl)) (not_yet hk)
      · exact absurd (hdn 10 hyl 7 (by kernel_rfl)) (not_yet hk)
      · exact absurd (hdn 9 (hdn 10 hyl 9 (by kernel_rfl)) 8 (by kernel_rfl)) (not_yet hk)
      · exact absurd (hdn 10 hyl 9 (by kernel_rfl)) (not_yet hk)
      · exact absurd rfl hne
    · clear hb1 rn hT hK hQ
      intro listed ac W hl hJ hr
      replace hl : listed.size = 11 := hl
      obtain ⟨hF, hT, hK, hQ⟩ := hJ
      have hall := all_listed (by kernel_rfl) hl hr
      have h25 : ac.eval (.tmp 25) = .pointer (some ⟨b, 0, none⟩) := hF.done 0 (25, SP.is (.pointer (some ⟨b, 0, none⟩))) (by rw [hD]; rfl) (hall 0 (by decide))
      have h26 : ac.eval (.tmp 26) = .pointer (some ⟨bn, 0, none⟩) := hF.done 1 (26, SP.is (.pointer (some ⟨bn, 0, none⟩))) (by rw [hD]; rfl) (hall 1 (by decide))
      have h27 : ac.eval (.tmp 27) = .pointer (some ⟨bn, 0, none⟩) := hF.done 2 (27, SP.is (.pointer (some ⟨bn, 0, none⟩))) (by rw [hD]; rfl) (hall 2 (by decide))
      have h28 : ac.eval (.tmp 28) = .pointer (some ⟨bn, 98, none⟩) := hF.done 3 (28, SP.is (.pointer (some ⟨bn, 98, none⟩))) (by rw [hD]; rfl) (hall 3 (by decide))
      have h29 : ac.eval (.tmp 29) = pr := hF.done 4 (29, SP.is (pr)) (by rw [hD]; rfl) (hall 4 (by decide))
      have h30 : ac.eval (.tmp 30) = .slice (some ⟨ab, ao, none⟩) 1 cap := hF.done 5 (30, SP.is (.slice (some ⟨ab, ao, none⟩) 1 cap)) (by rw [hD]; rfl) (hall 5 (by decide))
      have h31 : ac.eval (.tmp 31) = .int .i64 (z : Int) := hF.done 6 (31, SP.is (.int .i64 (z : Int))) (by rw [hD]; rfl) (hall 6 (by decide))
      have h32 : ac.eval (.tmp 32) = .slice (cutS (some ⟨ab, ao, none⟩) cap z 64) (1 - z) (cap - z) := hF.done 7 (32, SP.is (.slice (cutS (some ⟨ab, ao, none⟩) cap z 64) (1 - z) (cap - z))) (by rw [hD]; rfl) (hall 7 (by decide))
      have h33 : ac.eval (.tmp 33) = .int .i64 (i : Int) := hF.done 8 (33, SP.is (.int .i64 (i : Int))) (by rw [hD]; rfl) (hall 8 (by decide))
      have h34 : ac.eval (.tmp 34) = .int .i64 ((i + 1 : Nat) : Int) := hF.done 9 (34, SP.is (.int .i64 ((i + 1 : Nat) : Int))) (by rw [hD]; rfl) (hall 9 (by decide))
      have h35 : ac.eval (.tmp 35) = .tuple #[] := hF.done 10 (35, SP.is (.tuple #[])) (by rw [hD]; rfl) (hall 10 (by decide))
      have ea := hF.lay [(25, .pointer (some ⟨b, 0, none⟩)), (26, .pointer (some ⟨bn, 0, none⟩)), (27, .pointer (some ⟨bn, 0, none⟩)), (28, .pointer (some ⟨bn, 98, none⟩)), (29, pr), (30, .slice (some ⟨ab, ao, none⟩) 1 cap), (31, .int .i64 (z : Int)), (32, .slice (cutS (some ⟨ab, ao, none⟩) cap z 64) (1 - z) (cap - z)), (33, .int .i64 (i : Int)), (34, .int .i64 ((i + 1 : Nat) : Int)), (35, .tuple #[])] (by rw [hD, hsz]; rfl) (by simp only [List.forall_mem_cons, List.not_mem_nil, false_implies, implies_true, and_true]; exact ⟨h25, h26, h27, h28, h29, h30, h31, h32, h33, h34, h35⟩)
      rw [ha0] at ea
      simp only [List.foldl_cons, List.foldl_nil, List.setIfInBounds_toArray, List.set_cons_zero, List.set_cons_succ] at ea
      clear hF hall hr hl hD zs0 zs1 zs2 zs3 zs8 ha0 hsz h25 h26 h27 h28 h29 h30 h31 h32 h33 h34 h35
      subst ea

      go_wp2_with fail
      exact bodyPost_end (results_none rfl _ _ _) rfl ⟨rfl, hT, hK, hQ⟩

end Go.Proofs.YtfdgdmehgbmnkaaDoor
