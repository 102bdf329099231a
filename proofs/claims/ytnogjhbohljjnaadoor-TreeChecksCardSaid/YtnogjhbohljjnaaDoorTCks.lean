/-
  The law TreeChecks.
-/
import Derived.Test.YtnogjhbohljjnaaDoorTCk0
namespace Go.Proofs.YtnogjhbohljjnaaDoor
open Go Go.RowKit
open Sha

/-- The cells of what a path is looked at with. -/
def shown (root : List (BitVec 8)) (n i : Int) (l p : Value) : List Value := vB root ++ [Value.int .i64 n, Value.int .i64 i, l, p]
theorem wp_fs0 {o : Oper} {a : Act} {w : World} {K : Act → World → Prop} {Q : Exit → Act → World → Prop} {x : Operand} (b : Nat) (ho : o.op = .fieldAddr 50 x 0) (hx : a.eval x = .pointer (some ⟨b, 0, none⟩)) (h : K (a.put o.dst (.pointer (some ⟨b, 0, none⟩))) w) : Oper.wp Tryd.prog o a w K Q := by
  obtain ⟨dst, op, ty, pos, after, guard⟩ := o
  simp only at ho
  subst ho
  unfold Oper.wp execOp
  simp only [hx]
  go_simp
  exact h
theorem wp_fs1 {o : Oper} {a : Act} {w : World} {K : Act → World → Prop} {Q : Exit → Act → World → Prop} {x : Operand} (b : Nat) (ho : o.op = .fieldAddr 50 x 1) (hx : a.eval x = .pointer (some ⟨b, 0, none⟩)) (h : K (a.put o.dst (.pointer (some ⟨b, 32, none⟩))) w) : Oper.wp Tryd.prog o a w K Q := by
  obtain ⟨dst, op, ty, pos, after, guard⟩ := o
  simp only at ho
  subst ho
  unfold Oper.wp execOp
  simp only [hx]
  go_simp
  exact h
theorem wp_fs2 {o : Oper} {a : Act} {w : World} {K : Act → World → Prop} {Q : Exit → Act → World → Prop} {x : Operand} (b : Nat) (ho : o.op = .fieldAddr 50 x 2) (hx : a.eval x = .pointer (some ⟨b, 0, none⟩)) (h : K (a.put o.dst (.pointer (some ⟨b, 33, none⟩))) w) : Oper.wp Tryd.prog o a w K Q := by
  obtain ⟨dst, op, ty, pos, after, guard⟩ := o
  simp only at ho
  subst ho
  unfold Oper.wp execOp
  simp only [hx]
  go_simp
  exact h
theorem wp_fs3 {o : Oper} {a : Act} {w : World} {K : Act → World → Prop} {Q : Exit → Act → World → Prop} {x : Operand} (b : Nat) (ho : o.op = .fieldAddr 50 x 3) (hx : a.eval x = .pointer (some ⟨b, 0, none⟩)) (h : K (a.put o.dst (.pointer (some ⟨b, 34, none⟩))) w) : Oper.wp Tryd.prog o a w K Q := by
  obtain ⟨dst, op, ty, pos, after, guard⟩ := o
  simp only at ho
  subst ho
  unfold Oper.wp execOp
  simp only [hx]
  go_simp
  exact h
theorem wp_fs4 {o : Oper} {a : Act} {w : World} {K : Act → World → Prop} {Q : Exit → Act → World → Prop} {x : Operand} (b : Nat) (ho : o.op = .fieldAddr 50 x 4) (hx : a.eval x = .pointer (some ⟨b, 0, none⟩)) (h : K (a.put o.dst (.pointer (some ⟨b, 35, none⟩))) w) : Oper.wp Tryd.prog o a w K Q := by
  obtain ⟨dst, op, ty, pos, after, guard⟩ := o
  simp only at ho
  subst ho
  unfold Oper.wp execOp
  simp only [hx]
  go_simp
  exact h

theorem lentPath_m (ds : List (List (BitVec 8))) (m : Nat) (hm : ds.length = m) (hd : m * 32 ≤ 140737488351232) (A : Option Addr) (cap : Nat) (w : World) (hp : PAt w (.slice A m cap) ds) :
    Calls Tryd.prog 27 #[.slice A m cap] w fun e w' => e = .returned (.slice (some ⟨w.heap.size, 0, none⟩) (m + 9) (m + 9)) ∧ Row w' w.heap.size (vB (ds ++ List.replicate 9 m77).flatten) 24 ∧ Below w.heap.size w w' := by
  subst hm; exact lentPath_any ds hd A cap w hp
theorem check_e (n i : Int) (root lf : List (BitVec 8)) (ds : List (List (BitVec 8))) (E : Int) (hE : E = ck root n i lf ds) (hr0 : Dl root) (hlf : lf.length < 1152921504606846975) (v lv : Value) (w : World) (hK : Tab w 3) (hp : PAt w v ds) (hv : SlAt w lv lf) :
    Calls Tryd.prog 28 #[.agg (vB root).toArray, .int .i64 n, .int .i64 i, lv, v] w fun e w' => e = .returned (.int .i64 E) ∧ Below w.heap.size w w' := by
  subst hE; exact check_any n i root lf ds hr0 hlf v lv w hK hp hv
theorem rcheck_e (n i : Int) (root lf : List (BitVec 8)) (ds : List (List (BitVec 8))) (E : Int) (hE : E = ck root n i lf ds) (Hroot : Dl root) (k : Nat) (hk : lf.length = k) (m : Nat) (hm : ds.length = m) (hlf : k ≤ 140737488351232) (A PA : Option Addr) (cap pc : Nat) (hnil : A = none → cap = 0) (w : World) (hG : Given w) (hv : SlAt w (.slice A k cap) lf) (hp : PAt w (.slice PA m pc) ds) :
    Calls Tryd.prog 30 #[.agg (vB root).toArray, .int .i64 n, .int .i64 i, .slice A k cap, .slice PA m pc] w fun e w' => e = .returned (.int .i64 E) ∧ Below w.heap.size w w' := by
  subst hE hk hm; exact rcheck_any n i root lf ds Hroot hlf A PA cap pc hnil w hG hv hp

set_option maxRecDepth 100000 in
set_option maxHeartbeats 8000000 in
theorem checks_walk (root lf : List (BitVec 8)) (ds : List (List (BitVec 8))) (Hroot : Dl root) (n i : Int) (hx : lf.length ≤ 140737488351232) (hd : ds.length * 32 ≤ 140737488351232) (A P : Option Addr) (c1 d1 : Nat) (z1 : A = none → c1 = 0) (cs : List Value) (hcs : cs = shown root n i (.slice A lf.length c1) (.slice P ds.length d1)) (w : World) (fG : Given w)
    (f1 : SlAt w (.slice A lf.length c1) lf) (p1 : PAt w (.slice P ds.length d1) ds) :
    Calls Tryd.prog 5 #[.agg cs.toArray] w fun e w' => e = .returned (.bool true) ∧ Below w.heap.size w w' := by
  obtain ⟨E1, hE1⟩ : ∃ E1, E1 = ck root n i lf ds := ⟨_, rfl⟩
  have HE1 : Hid (E1 = _) := hE1
  have HX : Hid (lf.length ≤ 140737488351232) := hx
  have HX2 : Hid (lf.length < 1152921504606846975) := by show _ < _; omega
  have HDL : Hid (ds.length * 32 ≤ 140737488351232) := hd
  have HDS : Hid (ds.length ≤ 4398046511104) := by show _ ≤ _; omega
  have Z1 : Hid (A = none → c1 = 0) := z1
  have HU : Hid (∀ d ∈ ds, d.length = 32) := p1.1
  have HR32 : (vB root).length = 32 := Hroot.len
  have hB0 : Below w.heap.size w (w.alloc (.cells cs.toArray 50)) := (Below.refl _ _).alloc (Nat.le_refl _) _
  have r1 : Row (w.alloc (.cells cs.toArray 50)) w.heap.size cs 50 := Row.new' rfl rfl
  have hget : ∀ k v, [Value.int .i64 n, Value.int .i64 i, .slice A lf.length c1, .slice P ds.length d1][k]? = some v → cs[32 + k]? = some v := fun k v h => by
    rw [hcs, shown, List.getElem?_append_right (by rw [HR32]; omega), HR32, Nat.add_sub_cancel_left]; exact h
  have q0 : (w.alloc (.cells cs.toArray 50)).rangeAt w.heap.size 0 (vB root) := fun j v hv => r1.all j v (by rw [hcs, shown, List.getElem?_append_left (List.getElem?_eq_some_iff.1 hv).1]; exact hv)
  have g32 := r1.cell 32 (.int .i64 n) (hget 0 _ rfl)
  have g33 := r1.cell 33 (.int .i64 i) (hget 1 _ rfl)
  have g34 := r1.cell 34 (.slice A lf.length c1) (hget 2 _ rfl)
  have g35 := r1.cell 35 (.slice P ds.length d1) (hget 3 _ rfl)
  replace f1 := f1.be hB0
  replace p1 := p1.be hB0
  replace fG := fG.be hB0
  have hb0 := hB0
  obtain ⟨W0, hW0⟩ : ∃ W0, W0 = (w.alloc (.cells cs.toArray 50)) := ⟨_, rfl⟩
  rw [← hW0] at q0 g32 g33 g34 g35 f1 p1 fG hb0
  have HB0 : Hid (Below w.heap.size w W0) := hb0
  have KQ : Hid (∀ W, Below W0.heap.size W0 W → W.rangeAt w.heap.size 0 (vB root)) := fun W hB => range_below q0 hB (Nat.le_refl _)
  have K32 : Hid (∀ W, Below W0.heap.size W0 W → W.cell? ⟨w.heap.size, 32, none⟩ = some (.int .i64 n)) := fun W hB => cell_be g32 hB
  have K33 : Hid (∀ W, Below W0.heap.size W0 W → W.cell? ⟨w.heap.size, 33, none⟩ = some (.int .i64 i)) := fun W hB => cell_be g33 hB
  have K34 : Hid (∀ W, Below W0.heap.size W0 W → W.cell? ⟨w.heap.size, 34, none⟩ = some (.slice A lf.length c1)) := fun W hB => cell_be g34 hB
  have K35 : Hid (∀ W, Below W0.heap.size W0 W → W.cell? ⟨w.heap.size, 35, none⟩ = some (.slice P ds.length d1)) := fun W hB => cell_be g35 hB
  have KF : Hid (∀ W, Below W0.heap.size W0 W → SlAt W (.slice A lf.length c1) lf) := fun W hB => f1.be hB
  have KP : Hid (∀ W, Below W0.heap.size W0 W → PAt W (.slice P ds.length d1) ds) := fun W hB => p1.be hB
  have KG : Hid (∀ W, Below W0.heap.size W0 W → Given W) := fun W hB => fG.be hB
  have hb : Below W0.heap.size W0 W0 := Below.refl _ _
  clear r1 hB0 hb0 hE1 hx hd z1 hget hcs HR32 q0 g33 g32 g34 g35 f1 p1 fG
  obtain ⟨k, ek⟩ : ∃ k, k = lf.length := ⟨_, rfl⟩
  obtain ⟨m, em⟩ : ∃ m, m = ds.length := ⟨_, rfl⟩
  have EK : Hid (lf.length = k) := ek.symm
  have EM : Hid (ds.length = m) := em.symm
  rw [← ek] at HX HX2 K34 KF
  rw [← em] at HDL HDS K35 KP
  clear ek em
  go_enter Tryd.func5, Tryd.ntmps5
  go_wp2_with fail
  rw [← hW0]
  clear hW0
  refine (awake_any W0 (KG.out W0 hb).cub).mono ?_
  rintro e V0 ⟨rfl, hB⟩
  replace hb := hb.trans (hB.mono hb.size)
  clear hB
  have g35 := K35.out V0 hb
  go_wp2_with fail
  clear g35
  refine (lentPath_m ds m EM.out HDL.out P d1 V0 (KP.out V0 hb)).mono ?_
  rintro e V1 ⟨rfl, ro, hB⟩
  have oO : W0.heap.size ≤ V0.heap.size := hb.size
  replace hb := hb.trans (hB.mono hb.size)
  clear hB
  generalize hO : V0.heap.size = O at *
  clear hO
  have g34 := K34.out V1 hb
  go_wp2_with fail
  clear g34
  refine (lent_any lf k EK.out HX.out A c1 V1 (KF.out V1 hb)).mono ?_
  rintro e V2 ⟨rfl, rl, hB⟩
  have oL : O < V1.heap.size := Row.lt ro
  replace ro := Row.below ro hB (Row.lt ro)
  replace hb := hb.trans (hB.mono hb.size)
  clear hB
  generalize hL : V1.heap.size = L at *
  clear hL
  have HPO : Hid (∀ W, Row W O (vB (ds ++ List.replicate 9 m77).flatten) 24 → PAt W (.slice (some ⟨O, 0, none⟩) m (m + 9)) ds) := fun W r => pat_row r _ m (m + 9) EM.out HU.out (by rw [List.flatten_append, List.take_append_of_le_length (by rw [flatten_len ds HU.out, EM.out]; exact Nat.le_refl _), List.take_of_length_le (by rw [flatten_len ds HU.out, EM.out]; exact Nat.le_refl _)]) (by omega)
  have HSL : Hid (∀ W, Row W L (vB (lf ++ marks70)) 5 → SlAt W (.slice (some ⟨L, 0, none⟩) k (k + 70)) lf) := fun W r => .inr ⟨L, 0, k + 70, by rw [EK.out], by rw [EK.out]; omega, fun j v hj => r.all j v (by rw [vB_append, List.getElem?_append_left (List.getElem?_eq_some_iff.1 hj).1]; exact hj)⟩
  have HKO : Hid (∀ (W : World), Row W O (vB (ds ++ List.replicate 9 m77).flatten) 24 → PAt W (.slice P m d1) ds → _) := fun W r p => keptPath_any ds m EM.out HDS.out O P d1 W r p
  have HKL : Hid (∀ (W : World), Row W L (vB (lf ++ marks70)) 5 → SlAt W (.slice A k c1) lf → _) := fun W r p => kept_any lf k EK.out HX.out L A c1 W r p
  have HBO : Hid ((ds ++ List.replicate 9 m77).flatten.length = (m + 9) * 32) := by show _ = _; rw [flatten_len _ (marks9_each ds HU.out)]; simp [EM.out]
  have HBL : Hid ((lf ++ marks70).length = k + 70) := by show _ = _; simp [marks70, EK.out]
  generalize (ds ++ List.replicate 9 m77).flatten = bo at *
  generalize lf ++ marks70 = bl at *
  go_wp2_with fail
  have HC1 : Hid (∀ W, Below W0.heap.size W0 W → Row W O (vB bo) 24 → Row W L (vB bl) 5 → _) := fun W (hB : Below W0.heap.size W0 W) (ro : Row W O (vB bo) 24) (rl : Row W L (vB bl) 5) => check_e n i root lf ds E1 HE1.out Hroot (by rw [EK.out]; exact HX2.out) (.slice (some ⟨O, 0, none⟩) m (m + 9)) (.slice (some ⟨L, 0, none⟩) k (k + 70)) W (KG.out W hB).cub (HPO.out W ro) (HSL.out W rl)
  refine wp_named fun a0 ha0 => ?_
  have hsz : a0.tmps.size = 128 := by rw [ha0]; rfl
  have s1 : a0.eval (.tmp 1) = .pointer (some ⟨w.heap.size, 0, none⟩) := by rw [ha0]; rfl
  have s4 : a0.eval (.tmp 4) = .slice (some ⟨O, 0, none⟩) (m + 9) (m + 9) := by rw [ha0]; rfl
  have s5 : a0.eval (.tmp 5) = .slice (some ⟨L, 0, none⟩) (k + 70) (k + 70) := by rw [ha0]; rfl
  obtain ⟨D, hD⟩ : ∃ D : List (Tmp × SP), D = [(20, SP.is (.pointer (some ⟨w.heap.size, 0, none⟩))), (21, SP.is (.agg (vB root).toArray)), (22, SP.is (.pointer (some ⟨w.heap.size, 32, none⟩))), (23, SP.is (.int .i64 n)), (24, SP.is (.pointer (some ⟨w.heap.size, 33, none⟩))), (25, SP.is (.int .i64 i)), (26, SP.is (.slice (some ⟨L, 0, none⟩) (k + 70) (k + 70))), (27, SP.is (.pointer (some ⟨w.heap.size, 34, none⟩))), (28, SP.is (.slice A k c1)), (29, SP.is (.int .i64 (k : Int))), (30, SP.is (.slice (some ⟨L, 0, none⟩) k (k + 70))), (31, SP.is (.slice (some ⟨O, 0, none⟩) (m + 9) (m + 9))), (32, SP.is (.pointer (some ⟨w.heap.size, 35, none⟩))), (33, SP.is (.slice P m d1)), (34, SP.is (.int .i64 (m : Int))), (35, SP.is (.slice (some ⟨O, 0, none⟩) m (m + 9))), (36, SP.is (.int .i64 E1)), (6, SP.is (.int .i64 E1))] := ⟨_, rfl⟩
  refine wp_region_down (by kernel_rfl) (fun listed ac W => listed.size = 18 ∧ Fp D a0 listed ac W ∧ Below W0.heap.size W0 W ∧ Row W O ((vB bo)) 24 ∧ Row W L ((vB bl)) 5) ?_ ?_ ?_
  · exact ⟨by simp, Fp.start D a0 _ _, Below.drew hb, Row.drew ro, Row.drew rl⟩
  · clear ha0 hb ro rl 
    intro listed ac W k hI hdn hk
    obtain ⟨hl, hF, hb, ro, rl⟩ := hI
    have hk1 : k < 18 := List.mem_range.1 (List.mem_filter.1 hk).1
    have hl2 : ∀ j, (listed.setIfInBounds j true).size = 18 := fun j => by rw [Array.size_setIfInBounds]; exact hl
    rcases (show k = 0 ∨ k = 1 ∨ k = 2 ∨ k = 3 ∨ k = 4 ∨ k = 5 ∨ k = 6 ∨ k = 7 ∨ k = 8 ∨ k = 9 ∨ k = 10 ∨ k = 11 ∨ k = 12 ∨ k = 13 ∨ k = 14 ∨ k = 15 ∨ k = 16 ∨ k = 17 by omega) with rfl | rfl | rfl | rfl | rfl | rfl | rfl | rfl | rfl | rfl | rfl | rfl | rfl | rfl | rfl | rfl | rfl | rfl
    · have hk3 := hk
      have ea := ((hF.keep 1 (by rw [hD]; rfl)).trans s1)
      exact wpOp_plain rfl rfl (wp_fs0 w.heap.size rfl ea ⟨hl2 0, (hF.put 0 20 (SP.is (.pointer (some ⟨w.heap.size, 0, none⟩))) (.pointer (some ⟨w.heap.size, 0, none⟩)) (by rw [hD]; rfl) rfl (by rw [hD]; rfl) (by rw [hsz]; decide) (by rw [hl]; decide)), hb, ro, rl⟩)
    · have hk3 := hk
      have ea := (hF.done 0 (20, SP.is (.pointer (some ⟨w.heap.size, 0, none⟩))) (by rw [hD]; rfl) (ready_dep hk 0 (by kernel_rfl)))
      exact wpOp_plain rfl rfl (wp_load_mid 24 (.tmp 20) rfl w.heap.size 0 ea (vB root) _ (KQ.out W hb) Tryd.underlying24 rfl Hroot.info ⟨hl2 1, (hF.put 1 21 (SP.is (.agg (vB root).toArray)) (.agg (vB root).toArray) (by rw [hD]; rfl) rfl (by rw [hD]; rfl) (by rw [hsz]; decide) (by rw [hl]; decide)), hb, ro, rl⟩)
    · have hk3 := hk
      have ea := ((hF.keep 1 (by rw [hD]; rfl)).trans s1)
      exact wpOp_plain rfl rfl (wp_fs1 w.heap.size rfl ea ⟨hl2 2, (hF.put 2 22 (SP.is (.pointer (some ⟨w.heap.size, 32, none⟩))) (.pointer (some ⟨w.heap.size, 32, none⟩)) (by rw [hD]; rfl) rfl (by rw [hD]; rfl) (by rw [hsz]; decide) (by rw [hl]; decide)), hb, ro, rl⟩)
    · have hk3 := hk
      have ea := (hF.done 2 (22, SP.is (.pointer (some ⟨w.heap.size, 32, none⟩))) (by rw [hD]; rfl) (ready_dep hk 2 (by kernel_rfl)))
      exact wpOp_plain rfl rfl (wp_load_1 w.heap.size 32 (.int .i64 n) rfl ea (run_load_i W w.heap.size 32 _ (K32.out W hb)) ⟨hl2 3, (hF.put 3 23 (SP.is (.int .i64 n)) (.int .i64 n) (by rw [hD]; rfl) rfl (by rw [hD]; rfl) (by rw [hsz]; decide) (by rw [hl]; decide)), hb, ro, rl⟩)
    · have hk3 := hk
      have ea := ((hF.keep 1 (by rw [hD]; rfl)).trans s1)
      exact wpOp_plain rfl rfl (wp_fs2 w.heap.size rfl ea ⟨hl2 4, (hF.put 4 24 (SP.is (.pointer (some ⟨w.heap.size, 33, none⟩))) (.pointer (some ⟨w.heap.size, 33, none⟩)) (by rw [hD]; rfl) rfl (by rw [hD]; rfl) (by rw [hsz]; decide) (by rw [hl]; decide)), hb, ro, rl⟩)
    · have hk3 := hk
      have ea := (hF.done 4 (24, SP.is (.pointer (some ⟨w.heap.size, 33, none⟩))) (by rw [hD]; rfl) (ready_dep hk 4 (by kernel_rfl)))
      exact wpOp_plain rfl rfl (wp_load_1 w.heap.size 33 (.int .i64 i) rfl ea (run_load_i W w.heap.size 33 _ (K33.out W hb)) ⟨hl2 5, (hF.put 5 25 (SP.is (.int .i64 i)) (.int .i64 i) (by rw [hD]; rfl) rfl (by rw [hD]; rfl) (by rw [hsz]; decide) (by rw [hl]; decide)), hb, ro, rl⟩)
    · have hk3 := hk
      exact wpOp_plain rfl rfl (wp_move_v (ac.eval (.tmp 5)) rfl rfl ⟨hl2 6, (hF.put 6 26 (SP.is (.slice (some ⟨L, 0, none⟩) (k + 70) (k + 70))) (ac.eval (.tmp 5)) (by rw [hD]; rfl) (((hF.keep 5 (by rw [hD]; rfl)).trans s5)) (by rw [hD]; rfl) (by rw [hsz]; decide) (by rw [hl]; decide)), hb, ro, rl⟩)
    · have hk3 := hk
      have ea := ((hF.keep 1 (by rw [hD]; rfl)).trans s1)
      exact wpOp_plain rfl rfl (wp_fs3 w.heap.size rfl ea ⟨hl2 7, (hF.put 7 27 (SP.is (.pointer (some ⟨w.heap.size, 34, none⟩))) (.pointer (some ⟨w.heap.size, 34, none⟩)) (by rw [hD]; rfl) rfl (by rw [hD]; rfl) (by rw [hsz]; decide) (by rw [hl]; decide)), hb, ro, rl⟩)
    · have hk3 := hk
      have ea := (hF.done 7 (27, SP.is (.pointer (some ⟨w.heap.size, 34, none⟩))) (by rw [hD]; rfl) (ready_dep hk 7 (by kernel_rfl)))
      exact wpOp_plain rfl rfl (wp_load_1 w.heap.size 34 (.slice A k c1) rfl ea (run_load_b W w.heap.size 34 _ (K34.out W hb)) ⟨hl2 8, (hF.put 8 28 (SP.is (.slice A k c1)) (.slice A k c1) (by rw [hD]; rfl) rfl (by rw [hD]; rfl) (by rw [hsz]; decide) (by rw [hl]; decide)), hb, ro, rl⟩)
    · have hk3 := hk
      have ea := (hF.done 8 (28, SP.is (.slice A k c1)) (by rw [hD]; rfl) (ready_dep hk 8 (by kernel_rfl)))
      exact wpOp_plain rfl rfl (wp_len_b A k c1 rfl ea ⟨hl2 9, (hF.put 9 29 (SP.is (.int .i64 (k : Int))) (.int .i64 (k : Int)) (by rw [hD]; rfl) rfl (by rw [hD]; rfl) (by rw [hsz]; decide) (by rw [hl]; decide)), hb, ro, rl⟩)
    · have hk3 := hk
      have ea := (hF.done 6 (26, SP.is (.slice (some ⟨L, 0, none⟩) (k + 70) (k + 70))) (by rw [hD]; rfl) (ready_dep hk 6 (by kernel_rfl)))
      have eb := (hF.done 9 (29, SP.is (.int .i64 (k : Int))) (by rw [hD]; rfl) (ready_dep hk 9 (by kernel_rfl)))
      exact wpOp_plain rfl rfl (wp_slice_upto 22 5 (.tmp 26) (.tmp 29) L 0 (k + 70) (k + 70) k 1 rfl ea eb (by omega) Tryd.underlying22 info_u8 ⟨hl2 10, (hF.put 10 30 (SP.is (.slice (some ⟨L, 0, none⟩) k (k + 70))) (.slice (some ⟨L, 0, none⟩) k (k + 70)) (by rw [hD]; rfl) rfl (by rw [hD]; rfl) (by rw [hsz]; decide) (by rw [hl]; decide)), hb, ro, rl⟩)
    · have hk3 := hk
      exact wpOp_plain rfl rfl (wp_move_v (ac.eval (.tmp 4)) rfl rfl ⟨hl2 11, (hF.put 11 31 (SP.is (.slice (some ⟨O, 0, none⟩) (m + 9) (m + 9))) (ac.eval (.tmp 4)) (by rw [hD]; rfl) (((hF.keep 4 (by rw [hD]; rfl)).trans s4)) (by rw [hD]; rfl) (by rw [hsz]; decide) (by rw [hl]; decide)), hb, ro, rl⟩)
    · have hk3 := hk
      have ea := ((hF.keep 1 (by rw [hD]; rfl)).trans s1)
      exact wpOp_plain rfl rfl (wp_fs4 w.heap.size rfl ea ⟨hl2 12, (hF.put 12 32 (SP.is (.pointer (some ⟨w.heap.size, 35, none⟩))) (.pointer (some ⟨w.heap.size, 35, none⟩)) (by rw [hD]; rfl) rfl (by rw [hD]; rfl) (by rw [hsz]; decide) (by rw [hl]; decide)), hb, ro, rl⟩)
    · have hk3 := hk
      have ea := (hF.done 12 (32, SP.is (.pointer (some ⟨w.heap.size, 35, none⟩))) (by rw [hD]; rfl) (ready_dep hk 12 (by kernel_rfl)))
      exact wpOp_plain rfl rfl (wp_load_1 w.heap.size 35 (.slice P m d1) rfl ea (run_load_ds W w.heap.size 35 _ (K35.out W hb)) ⟨hl2 13, (hF.put 13 33 (SP.is (.slice P m d1)) (.slice P m d1) (by rw [hD]; rfl) rfl (by rw [hD]; rfl) (by rw [hsz]; decide) (by rw [hl]; decide)), hb, ro, rl⟩)
    · have hk3 := hk
      have ea := (hF.done 13 (33, SP.is (.slice P m d1)) (by rw [hD]; rfl) (ready_dep hk 13 (by kernel_rfl)))
      exact wpOp_plain rfl rfl (wp_len_ds P m d1 rfl ea ⟨hl2 14, (hF.put 14 34 (SP.is (.int .i64 (m : Int))) (.int .i64 (m : Int)) (by rw [hD]; rfl) rfl (by rw [hD]; rfl) (by rw [hsz]; decide) (by rw [hl]; decide)), hb, ro, rl⟩)
    · have hk3 := hk
      have ea := (hF.done 11 (31, SP.is (.slice (some ⟨O, 0, none⟩) (m + 9) (m + 9))) (by rw [hD]; rfl) (ready_dep hk 11 (by kernel_rfl)))
      have eb := (hF.done 14 (34, SP.is (.int .i64 (m : Int))) (by rw [hD]; rfl) (ready_dep hk 14 (by kernel_rfl)))
      exact wpOp_plain rfl rfl (wp_slice_upto 42 24 (.tmp 31) (.tmp 34) O 0 (m + 9) (m + 9) m 32 rfl ea eb (by omega) Tryd.underlying42 info_dig ⟨hl2 15, (hF.put 15 35 (SP.is (.slice (some ⟨O, 0, none⟩) m (m + 9))) (.slice (some ⟨O, 0, none⟩) m (m + 9)) (by rw [hD]; rfl) rfl (by rw [hD]; rfl) (by rw [hsz]; decide) (by rw [hl]; decide)), hb, ro, rl⟩)
    · have hk3 := hk
      have ea := (hF.done 1 (21, SP.is (.agg (vB root).toArray)) (by rw [hD]; rfl) (ready_dep hk 1 (by kernel_rfl)))
      have eb := (hF.done 3 (23, SP.is (.int .i64 n)) (by rw [hD]; rfl) (ready_dep hk 3 (by kernel_rfl)))
      have ec := (hF.done 5 (25, SP.is (.int .i64 i)) (by rw [hD]; rfl) (ready_dep hk 5 (by kernel_rfl)))
      have ed := (hF.done 10 (30, SP.is (.slice (some ⟨L, 0, none⟩) k (k + 70))) (by rw [hD]; rfl) (ready_dep hk 10 (by kernel_rfl)))
      have ee := (hF.done 15 (35, SP.is (.slice (some ⟨O, 0, none⟩) m (m + 9))) (by rw [hD]; rfl) (ready_dep hk 15 (by kernel_rfl)))
      refine wpOp_plain rfl rfl (wp_fcall_v 28 #[.agg (vB root).toArray, .int .i64 n, .int .i64 i, .slice (some ⟨L, 0, none⟩) k (k + 70), .slice (some ⟨O, 0, none⟩) m (m + 9)] rfl rfl (by show [ac.eval (.tmp 21), ac.eval (.tmp 23), ac.eval (.tmp 25), ac.eval (.tmp 30), ac.eval (.tmp 35)] = _; rw [show ac.eval (.tmp 21) = _ from ea, show ac.eval (.tmp 23) = _ from eb, show ac.eval (.tmp 25) = _ from ec, show ac.eval (.tmp 30) = _ from ed, show ac.eval (.tmp 35) = _ from ee]) (by go_simp) ((HC1.out W hb ro rl).mono ?_))
      rintro e W2 ⟨rfl, hB⟩
      exact ⟨_, rfl, hl2 16, ((hF.world hB).put 16 36 (SP.is (.int .i64 E1)) (.int .i64 E1) (by rw [hD]; rfl) rfl (by rw [hD]; rfl) (by rw [hsz]; decide) (by rw [hl]; decide)), hb.trans (hB.mono hb.size), Row.below ro hB (Row.lt ro), Row.below rl hB (Row.lt rl)⟩
    · have hk3 := hk
      exact wpOp_plain rfl rfl (wp_assign_v (ac.eval (.tmp 36)) rfl rfl ⟨hl2 17, (hF.put 17 6 (SP.is (.int .i64 E1)) (ac.eval (.tmp 36)) (by rw [hD]; rfl) ((hF.done 16 (36, SP.is (.int .i64 E1)) (by rw [hD]; rfl) (ready_dep hk 16 (by kernel_rfl)))) (by rw [hD]; rfl) (by rw [hsz]; decide) (by rw [hl]; decide)), hb, ro, rl⟩)
  · clear hb ro rl 
    intro listed ac W hI hr
    obtain ⟨hl, hF, hb, ro, rl⟩ := hI
    have hall := all_listed (by kernel_rfl) hl hr
    have h20 : ac.eval (.tmp 20) = .pointer (some ⟨w.heap.size, 0, none⟩) := hF.done 0 (20, SP.is (.pointer (some ⟨w.heap.size, 0, none⟩))) (by rw [hD]; rfl) (hall 0 (by decide))
    have h21 : ac.eval (.tmp 21) = .agg (vB root).toArray := hF.done 1 (21, SP.is (.agg (vB root).toArray)) (by rw [hD]; rfl) (hall 1 (by decide))
    have h22 : ac.eval (.tmp 22) = .pointer (some ⟨w.heap.size, 32, none⟩) := hF.done 2 (22, SP.is (.pointer (some ⟨w.heap.size, 32, none⟩))) (by rw [hD]; rfl) (hall 2 (by decide))
    have h23 : ac.eval (.tmp 23) = .int .i64 n := hF.done 3 (23, SP.is (.int .i64 n)) (by rw [hD]; rfl) (hall 3 (by decide))
    have h24 : ac.eval (.tmp 24) = .pointer (some ⟨w.heap.size, 33, none⟩) := hF.done 4 (24, SP.is (.pointer (some ⟨w.heap.size, 33, none⟩))) (by rw [hD]; rfl) (hall 4 (by decide))
    have h25 : ac.eval (.tmp 25) = .int .i64 i := hF.done 5 (25, SP.is (.int .i64 i)) (by rw [hD]; rfl) (hall 5 (by decide))
    have h26 : ac.eval (.tmp 26) = .slice (some ⟨L, 0, none⟩) (k + 70) (k + 70) := hF.done 6 (26, SP.is (.slice (some ⟨L, 0, none⟩) (k + 70) (k + 70))) (by rw [hD]; rfl) (hall 6 (by decide))
    have h27 : ac.eval (.tmp 27) = .pointer (some ⟨w.heap.size, 34, none⟩) := hF.done 7 (27, SP.is (.pointer (some ⟨w.heap.size, 34, none⟩))) (by rw [hD]; rfl) (hall 7 (by decide))
    have h28 : ac.eval (.tmp 28) = .slice A k c1 := hF.done 8 (28, SP.is (.slice A k c1)) (by rw [hD]; rfl) (hall 8 (by decide))
    have h29 : ac.eval (.tmp 29) = .int .i64 (k : Int) := hF.done 9 (29, SP.is (.int .i64 (k : Int))) (by rw [hD]; rfl) (hall 9 (by decide))
    have h30 : ac.eval (.tmp 30) = .slice (some ⟨L, 0, none⟩) k (k + 70) := hF.done 10 (30, SP.is (.slice (some ⟨L, 0, none⟩) k (k + 70))) (by rw [hD]; rfl) (hall 10 (by decide))
    have h31 : ac.eval (.tmp 31) = .slice (some ⟨O, 0, none⟩) (m + 9) (m + 9) := hF.done 11 (31, SP.is (.slice (some ⟨O, 0, none⟩) (m + 9) (m + 9))) (by rw [hD]; rfl) (hall 11 (by decide))
    have h32 : ac.eval (.tmp 32) = .pointer (some ⟨w.heap.size, 35, none⟩) := hF.done 12 (32, SP.is (.pointer (some ⟨w.heap.size, 35, none⟩))) (by rw [hD]; rfl) (hall 12 (by decide))
    have h33 : ac.eval (.tmp 33) = .slice P m d1 := hF.done 13 (33, SP.is (.slice P m d1)) (by rw [hD]; rfl) (hall 13 (by decide))
    have h34 : ac.eval (.tmp 34) = .int .i64 (m : Int) := hF.done 14 (34, SP.is (.int .i64 (m : Int))) (by rw [hD]; rfl) (hall 14 (by decide))
    have h35 : ac.eval (.tmp 35) = .slice (some ⟨O, 0, none⟩) m (m + 9) := hF.done 15 (35, SP.is (.slice (some ⟨O, 0, none⟩) m (m + 9))) (by rw [hD]; rfl) (hall 15 (by decide))
    have h36 : ac.eval (.tmp 36) = .int .i64 E1 := hF.done 16 (36, SP.is (.int .i64 E1)) (by rw [hD]; rfl) (hall 16 (by decide))
    have h6 : ac.eval (.tmp 6) = .int .i64 E1 := hF.done 17 (6, SP.is (.int .i64 E1)) (by rw [hD]; rfl) (hall 17 (by decide))
    have ea := hF.lay [(20, .pointer (some ⟨w.heap.size, 0, none⟩)), (21, .agg (vB root).toArray), (22, .pointer (some ⟨w.heap.size, 32, none⟩)), (23, .int .i64 n), (24, .pointer (some ⟨w.heap.size, 33, none⟩)), (25, .int .i64 i), (26, .slice (some ⟨L, 0, none⟩) (k + 70) (k + 70)), (27, .pointer (some ⟨w.heap.size, 34, none⟩)), (28, .slice A k c1), (29, .int .i64 (k : Int)), (30, .slice (some ⟨L, 0, none⟩) k (k + 70)), (31, .slice (some ⟨O, 0, none⟩) (m + 9) (m + 9)), (32, .pointer (some ⟨w.heap.size, 35, none⟩)), (33, .slice P m d1), (34, .int .i64 (m : Int)), (35, .slice (some ⟨O, 0, none⟩) m (m + 9)), (36, .int .i64 E1), (6, .int .i64 E1)] (by rw [hD, hsz]; rfl) (by simp only [List.forall_mem_cons, List.not_mem_nil, false_implies, implies_true, and_true]; exact ⟨h20, h21, h22, h23, h24, h25, h26, h27, h28, h29, h30, h31, h32, h33, h34, h35, h36, h6⟩)
    rw [ha0] at ea
    simp only [List.foldl_cons, List.foldl_nil, List.setIfInBounds_toArray, List.set_cons_zero, List.set_cons_succ] at ea
    clear hF hall hr hl hD  s1 s4 s5 ha0 hsz h20 h21 h22 h23 h24 h25 h26 h27 h28 h29 h30 h31 h32 h33 h34 h35 h36 h6
    subst ea
    clear HC1
    have g35 := K35.out W hb
    go_wp2_with fail
    clear g35
    refine (HKO.out W ro (KP.out W hb)).mono ?_
    rintro e V3 ⟨rfl, hB⟩
    replace ro := Row.below ro hB (Row.lt ro)
    replace rl := Row.below rl hB (Row.lt rl)
    replace hb := hb.trans (hB.mono hb.size)
    clear hB HKO
    have g34 := K34.out V3 hb
    go_wp2_with fail
    clear g34
    refine (HKL.out V3 rl (KF.out V3 hb)).mono ?_
    rintro e V4 ⟨rfl, hB⟩
    replace ro := Row.below ro hB (Row.lt ro)
    replace rl := Row.below rl hB (Row.lt rl)
    replace hb := hb.trans (hB.mono hb.size)
    clear hB HKL
    have q0 := KQ.out V4 hb
    have g32 := K32.out V4 hb
    have g33 := K33.out V4 hb
    have g34 := K34.out V4 hb
    have g35 := K35.out V4 hb
    go_wp2_with (refine wpList_load_w rfl 24 (.tmp 45) rfl w.heap.size 0 rfl (vB root) _ q0 Tryd.underlying24 rfl Hroot.info ?_; simp only [Act.put, List.setIfInBounds_toArray, List.set_cons_zero, List.set_cons_succ])
    clear q0 g32 g33 g34 g35
    refine (rcheck_e n i root lf ds E1 HE1.out Hroot k EK.out m EM.out HX.out A P c1 d1 Z1.out V4 (KG.out V4 hb) (KF.out V4 hb) (KP.out V4 hb)).mono ?_
    rintro e V5 ⟨rfl, hB⟩
    replace ro := Row.below ro hB (Row.lt ro)
    replace rl := Row.below rl hB (Row.lt rl)
    replace hb := hb.trans (hB.mono hb.size)
    clear hB
    have g35 := K35.out V5 hb
    go_wp2_with (refine wpList_slice_upto rfl 42 24 (.tmp 56) (.tmp 59) O 0 (m + 9) (m + 9) m 32 rfl rfl rfl (by omega) Tryd.underlying42 info_dig ?_; simp only [Act.put, List.setIfInBounds_toArray, List.set_cons_zero, List.set_cons_succ])
    clear g35
    refine (turnd_any bo m (m + 9) O (by rw [HBO.out]; omega) HDS.out V5 ro).mono ?_
    rintro e V6 ⟨rfl, ⟨bo2, hbo2, ro2⟩, hBt⟩
    replace rl := rl.but hBt (by omega)
    replace hb := But.below hb hBt oO hb.size
    clear ro hBt
    have HBO2 : Hid (bo2.length = (m + 9) * 32) := hbo2.trans HBO.out
    clear hbo2 HPO HBO
    have g34 := K34.out V6 hb
    go_wp2_with fail
    clear g34
    go_loopw [10] (fun i wr => ∃ (t : Nat) (b2 : List (BitVec 8)), t ≤ k ∧ i = .int .i64 (t : Int) ∧ b2.length = k + 70 ∧ Row wr L (vB b2) 5 ∧ Row wr O (vB bo2) 24 ∧ Below W0.heap.size W0 wr) (fun i _ => k - (intOf i).toNat)
    case atStart => exact ⟨0, bl, Nat.zero_le _, rfl, HBL.out, rl, ro2, hb⟩
    case round =>
      clear rl ro2 hb
      obtain ⟨t, b2, ht, rfl, hl2, rl, ro, hb⟩ := hrel
      have g34 := K34.out wr hb
      by_cases hlt : t < k
      · have g0 := rl.cell t _ (vB_get b2 t (by omega))
        have gf := rl.thaw t
        have hc := c_xor165 (b2.getD t 0)
        generalize b2.getD t 0 = x at g0 hc
        have hkb : k ≤ 140737488351232 := HX.out
        go_wp2
        refine ⟨⟨t + 1, b2.set t (x ^^^ 165#8), hlt, by go_num, by rw [List.length_set]; exact hl2, ?_, Row.set_other ro L t _ (by omega), hb.setCell (by show W0.heap.size ≤ L; omega) _⟩, by simp [intOf]; omega⟩
        have := rl.set t (.int .u8 (c (x ^^^ 165#8)))
        rw [vB_set] at this
        exact this
      · obtain rfl : t = k := by omega
        obtain ⟨ds2, l2, h2, e2⟩ := chunks m bo2 (by rw [HBO2.out]; omega)
        have HPO : Hid (∀ W, Row W O (vB bo2) 24 → PAt W (.slice (some ⟨O, 0, none⟩) m (m + 9)) ds2) := fun W r => pat_row r ds2 m (m + 9) l2 h2 e2 (by omega)
        have hl3 : (b2.take t).length = t := by rw [List.length_take]; omega
        have HSL : Hid (∀ W, Row W L (vB b2) 5 → SlAt W (.slice (some ⟨L, 0, none⟩) t (t + 70)) (b2.take t)) := fun W r => .inr ⟨L, 0, t + 70, by rw [hl3], by rw [hl3]; omega, fun j v hj => r.all j v (by
          unfold vB at hj ⊢
          rw [List.map_take, List.getElem?_take] at hj
          split at hj
          · exact hj
          · cases hj)⟩
        obtain ⟨lf2, elf⟩ : ∃ lf2, lf2 = b2.take t := ⟨_, rfl⟩
        rw [← elf] at HSL hl3
        obtain ⟨E2, hE2⟩ : ∃ E2, E2 = ck root n i lf2 ds2 := ⟨_, rfl⟩
        have HE2 : Hid (E2 = _) := hE2
        have EK2 : Hid (lf2.length = t) := hl3
        have EM2 : Hid (ds2.length = m) := l2
        clear hE2 elf hl3 l2 h2 e2 hl2 HE1 EK EM HU Z1 hlt ht
        generalize bo2 = bo at *
        generalize b2 = bl at *
        generalize t = k at *
        go_wp2_with fail
        clear g34
        have HC1 : Hid (∀ W, Below W0.heap.size W0 W → Row W O (vB bo) 24 → Row W L (vB bl) 5 → _) := fun W (hB : Below W0.heap.size W0 W) (ro : Row W O (vB bo) 24) (rl : Row W L (vB bl) 5) => rcheck_e n i root lf2 ds2 E2 HE2.out Hroot k EK2.out m EM2.out HX.out (some ⟨L, 0, none⟩) (some ⟨O, 0, none⟩) (k + 70) (m + 9) (fun h => by cases h) W (KG.out W hB) (HSL.out W rl) (HPO.out W ro)
        have HC2 : Hid (∀ W, Below W0.heap.size W0 W → Row W O (vB bo) 24 → Row W L (vB bl) 5 → _) := fun W (hB : Below W0.heap.size W0 W) (ro : Row W O (vB bo) 24) (rl : Row W L (vB bl) 5) => check_e n i root lf2 ds2 E2 HE2.out Hroot (by rw [EK2.out]; exact HX2.out) (.slice (some ⟨O, 0, none⟩) m (m + 9)) (.slice (some ⟨L, 0, none⟩) k (k + 70)) W (KG.out W hB).cub (HPO.out W ro) (HSL.out W rl)
        refine wp_named fun a0 ha0 => ?_
        have hsz : a0.tmps.size = 128 := by rw [ha0]; rfl
        have s1 : a0.eval (.tmp 1) = .pointer (some ⟨w.heap.size, 0, none⟩) := by rw [ha0]; rfl
        have s4 : a0.eval (.tmp 4) = .slice (some ⟨O, 0, none⟩) (m + 9) (m + 9) := by rw [ha0]; rfl
        have s5 : a0.eval (.tmp 5) = .slice (some ⟨L, 0, none⟩) (k + 70) (k + 70) := by rw [ha0]; rfl
        obtain ⟨D, hD⟩ : ∃ D : List (Tmp × SP), D = [(77, SP.is (.pointer (some ⟨w.heap.size, 0, none⟩))), (78, SP.is (.agg (vB root).toArray)), (79, SP.is (.pointer (some ⟨w.heap.size, 32, none⟩))), (80, SP.is (.int .i64 n)), (81, SP.is (.pointer (some ⟨w.heap.size, 33, none⟩))), (82, SP.is (.int .i64 i)), (83, SP.is (.slice (some ⟨L, 0, none⟩) (k + 70) (k + 70))), (84, SP.is (.pointer (some ⟨w.heap.size, 34, none⟩))), (85, SP.is (.slice A k c1)), (86, SP.is (.int .i64 (k : Int))), (87, SP.is (.slice (some ⟨L, 0, none⟩) k (k + 70))), (88, SP.is (.slice (some ⟨O, 0, none⟩) (m + 9) (m + 9))), (89, SP.is (.pointer (some ⟨w.heap.size, 35, none⟩))), (90, SP.is (.slice P m d1)), (91, SP.is (.int .i64 (m : Int))), (92, SP.is (.slice (some ⟨O, 0, none⟩) m (m + 9))), (93, SP.is (.int .i64 E2)), (11, SP.is (.int .i64 E2))] := ⟨_, rfl⟩
        refine wp_region_down (by kernel_rfl) (fun listed ac W => listed.size = 18 ∧ Fp D a0 listed ac W ∧ Below W0.heap.size W0 W ∧ Row W O ((vB bo)) 24 ∧ Row W L ((vB bl)) 5) ?_ ?_ ?_
        · exact ⟨by simp, Fp.start D a0 _ _, Below.drew hb, Row.drew ro, Row.drew rl⟩
        · clear ha0 hb ro rl 
          intro listed ac W k hI hdn hk
          obtain ⟨hl, hF, hb, ro, rl⟩ := hI
          have hk1 : k < 18 := List.mem_range.1 (List.mem_filter.1 hk).1
          have hl2 : ∀ j, (listed.setIfInBounds j true).size = 18 := fun j => by rw [Array.size_setIfInBounds]; exact hl
          rcases (show k = 0 ∨ k = 1 ∨ k = 2 ∨ k = 3 ∨ k = 4 ∨ k = 5 ∨ k = 6 ∨ k = 7 ∨ k = 8 ∨ k = 9 ∨ k = 10 ∨ k = 11 ∨ k = 12 ∨ k = 13 ∨ k = 14 ∨ k = 15 ∨ k = 16 ∨ k = 17 by omega) with rfl | rfl | rfl | rfl | rfl | rfl | rfl | rfl | rfl | rfl | rfl | rfl | rfl | rfl | rfl | rfl | rfl | rfl
          · have hk3 := hk
            have ea := ((hF.keep 1 (by rw [hD]; rfl)).trans s1)
            exact wpOp_plain rfl rfl (wp_fs0 w.heap.size rfl ea ⟨hl2 0, (hF.put 0 77 (SP.is (.pointer (some ⟨w.heap.size, 0, none⟩))) (.pointer (some ⟨w.heap.size, 0, none⟩)) (by rw [hD]; rfl) rfl (by rw [hD]; rfl) (by rw [hsz]; decide) (by rw [hl]; decide)), hb, ro, rl⟩)
          · have hk3 := hk
            have ea := (hF.done 0 (77, SP.is (.pointer (some ⟨w.heap.size, 0, none⟩))) (by rw [hD]; rfl) (ready_dep hk 0 (by kernel_rfl)))
            exact wpOp_plain rfl rfl (wp_load_mid 24 (.tmp 77) rfl w.heap.size 0 ea (vB root) _ (KQ.out W hb) Tryd.underlying24 rfl Hroot.info ⟨hl2 1, (hF.put 1 78 (SP.is (.agg (vB root).toArray)) (.agg (vB root).toArray) (by rw [hD]; rfl) rfl (by rw [hD]; rfl) (by rw [hsz]; decide) (by rw [hl]; decide)), hb, ro, rl⟩)
          · have hk3 := hk
            have ea := ((hF.keep 1 (by rw [hD]; rfl)).trans s1)
            exact wpOp_plain rfl rfl (wp_fs1 w.heap.size rfl ea ⟨hl2 2, (hF.put 2 79 (SP.is (.pointer (some ⟨w.heap.size, 32, none⟩))) (.pointer (some ⟨w.heap.size, 32, none⟩)) (by rw [hD]; rfl) rfl (by rw [hD]; rfl) (by rw [hsz]; decide) (by rw [hl]; decide)), hb, ro, rl⟩)
          · have hk3 := hk
            have ea := (hF.done 2 (79, SP.is (.pointer (some ⟨w.heap.size, 32, none⟩))) (by rw [hD]; rfl) (ready_dep hk 2 (by kernel_rfl)))
            exact wpOp_plain rfl rfl (wp_load_1 w.heap.size 32 (.int .i64 n) rfl ea (run_load_i W w.heap.size 32 _ (K32.out W hb)) ⟨hl2 3, (hF.put 3 80 (SP.is (.int .i64 n)) (.int .i64 n) (by rw [hD]; rfl) rfl (by rw [hD]; rfl) (by rw [hsz]; decide) (by rw [hl]; decide)), hb, ro, rl⟩)
          · have hk3 := hk
            have ea := ((hF.keep 1 (by rw [hD]; rfl)).trans s1)
            exact wpOp_plain rfl rfl (wp_fs2 w.heap.size rfl ea ⟨hl2 4, (hF.put 4 81 (SP.is (.pointer (some ⟨w.heap.size, 33, none⟩))) (.pointer (some ⟨w.heap.size, 33, none⟩)) (by rw [hD]; rfl) rfl (by rw [hD]; rfl) (by rw [hsz]; decide) (by rw [hl]; decide)), hb, ro, rl⟩)
          · have hk3 := hk
            have ea := (hF.done 4 (81, SP.is (.pointer (some ⟨w.heap.size, 33, none⟩))) (by rw [hD]; rfl) (ready_dep hk 4 (by kernel_rfl)))
            exact wpOp_plain rfl rfl (wp_load_1 w.heap.size 33 (.int .i64 i) rfl ea (run_load_i W w.heap.size 33 _ (K33.out W hb)) ⟨hl2 5, (hF.put 5 82 (SP.is (.int .i64 i)) (.int .i64 i) (by rw [hD]; rfl) rfl (by rw [hD]; rfl) (by rw [hsz]; decide) (by rw [hl]; decide)), hb, ro, rl⟩)
          · have hk3 := hk
            exact wpOp_plain rfl rfl (wp_move_v (ac.eval (.tmp 5)) rfl rfl ⟨hl2 6, (hF.put 6 83 (SP.is (.slice (some ⟨L, 0, none⟩) (k + 70) (k + 70))) (ac.eval (.tmp 5)) (by rw [hD]; rfl) (((hF.keep 5 (by rw [hD]; rfl)).trans s5)) (by rw [hD]; rfl) (by rw [hsz]; decide) (by rw [hl]; decide)), hb, ro, rl⟩)
          · have hk3 := hk
            have ea := ((hF.keep 1 (by rw [hD]; rfl)).trans s1)
            exact wpOp_plain rfl rfl (wp_fs3 w.heap.size rfl ea ⟨hl2 7, (hF.put 7 84 (SP.is (.pointer (some ⟨w.heap.size, 34, none⟩))) (.pointer (some ⟨w.heap.size, 34, none⟩)) (by rw [hD]; rfl) rfl (by rw [hD]; rfl) (by rw [hsz]; decide) (by rw [hl]; decide)), hb, ro, rl⟩)
          · have hk3 := hk
            have ea := (hF.done 7 (84, SP.is (.pointer (some ⟨w.heap.size, 34, none⟩))) (by rw [hD]; rfl) (ready_dep hk 7 (by kernel_rfl)))
            exact wpOp_plain rfl rfl (wp_load_1 w.heap.size 34 (.slice A k c1) rfl ea (run_load_b W w.heap.size 34 _ (K34.out W hb)) ⟨hl2 8, (hF.put 8 85 (SP.is (.slice A k c1)) (.slice A k c1) (by rw [hD]; rfl) rfl (by rw [hD]; rfl) (by rw [hsz]; decide) (by rw [hl]; decide)), hb, ro, rl⟩)
          · have hk3 := hk
            have ea := (hF.done 8 (85, SP.is (.slice A k c1)) (by rw [hD]; rfl) (ready_dep hk 8 (by kernel_rfl)))
            exact wpOp_plain rfl rfl (wp_len_b A k c1 rfl ea ⟨hl2 9, (hF.put 9 86 (SP.is (.int .i64 (k : Int))) (.int .i64 (k : Int)) (by rw [hD]; rfl) rfl (by rw [hD]; rfl) (by rw [hsz]; decide) (by rw [hl]; decide)), hb, ro, rl⟩)
          · have hk3 := hk
            have ea := (hF.done 6 (83, SP.is (.slice (some ⟨L, 0, none⟩) (k + 70) (k + 70))) (by rw [hD]; rfl) (ready_dep hk 6 (by kernel_rfl)))
            have eb := (hF.done 9 (86, SP.is (.int .i64 (k : Int))) (by rw [hD]; rfl) (ready_dep hk 9 (by kernel_rfl)))
            exact wpOp_plain rfl rfl (wp_slice_upto 22 5 (.tmp 83) (.tmp 86) L 0 (k + 70) (k + 70) k 1 rfl ea eb (by omega) Tryd.underlying22 info_u8 ⟨hl2 10, (hF.put 10 87 (SP.is (.slice (some ⟨L, 0, none⟩) k (k + 70))) (.slice (some ⟨L, 0, none⟩) k (k + 70)) (by rw [hD]; rfl) rfl (by rw [hD]; rfl) (by rw [hsz]; decide) (by rw [hl]; decide)), hb, ro, rl⟩)
          · have hk3 := hk
            exact wpOp_plain rfl rfl (wp_move_v (ac.eval (.tmp 4)) rfl rfl ⟨hl2 11, (hF.put 11 88 (SP.is (.slice (some ⟨O, 0, none⟩) (m + 9) (m + 9))) (ac.eval (.tmp 4)) (by rw [hD]; rfl) (((hF.keep 4 (by rw [hD]; rfl)).trans s4)) (by rw [hD]; rfl) (by rw [hsz]; decide) (by rw [hl]; decide)), hb, ro, rl⟩)
          · have hk3 := hk
            have ea := ((hF.keep 1 (by rw [hD]; rfl)).trans s1)
            exact wpOp_plain rfl rfl (wp_fs4 w.heap.size rfl ea ⟨hl2 12, (hF.put 12 89 (SP.is (.pointer (some ⟨w.heap.size, 35, none⟩))) (.pointer (some ⟨w.heap.size, 35, none⟩)) (by rw [hD]; rfl) rfl (by rw [hD]; rfl) (by rw [hsz]; decide) (by rw [hl]; decide)), hb, ro, rl⟩)
          · have hk3 := hk
            have ea := (hF.done 12 (89, SP.is (.pointer (some ⟨w.heap.size, 35, none⟩))) (by rw [hD]; rfl) (ready_dep hk 12 (by kernel_rfl)))
            exact wpOp_plain rfl rfl (wp_load_1 w.heap.size 35 (.slice P m d1) rfl ea (run_load_ds W w.heap.size 35 _ (K35.out W hb)) ⟨hl2 13, (hF.put 13 90 (SP.is (.slice P m d1)) (.slice P m d1) (by rw [hD]; rfl) rfl (by rw [hD]; rfl) (by rw [hsz]; decide) (by rw [hl]; decide)), hb, ro, rl⟩)
          · have hk3 := hk
            have ea := (hF.done 13 (90, SP.is (.slice P m d1)) (by rw [hD]; rfl) (ready_dep hk 13 (by kernel_rfl)))
            exact wpOp_plain rfl rfl (wp_len_ds P m d1 rfl ea ⟨hl2 14, (hF.put 14 91 (SP.is (.int .i64 (m : Int))) (.int .i64 (m : Int)) (by rw [hD]; rfl) rfl (by rw [hD]; rfl) (by rw [hsz]; decide) (by rw [hl]; decide)), hb, ro, rl⟩)
          · have hk3 := hk
            have ea := (hF.done 11 (88, SP.is (.slice (some ⟨O, 0, none⟩) (m + 9) (m + 9))) (by rw [hD]; rfl) (ready_dep hk 11 (by kernel_rfl)))
            have eb := (hF.done 14 (91, SP.is (.int .i64 (m : Int))) (by rw [hD]; rfl) (ready_dep hk 14 (by kernel_rfl)))
            exact wpOp_plain rfl rfl (wp_slice_upto 42 24 (.tmp 88) (.tmp 91) O 0 (m + 9) (m + 9) m 32 rfl ea eb (by omega) Tryd.underlying42 info_dig ⟨hl2 15, (hF.put 15 92 (SP.is (.slice (some ⟨O, 0, none⟩) m (m + 9))) (.slice (some ⟨O, 0, none⟩) m (m + 9)) (by rw [hD]; rfl) rfl (by rw [hD]; rfl) (by rw [hsz]; decide) (by rw [hl]; decide)), hb, ro, rl⟩)
          · have hk3 := hk
            have ea := (hF.done 1 (78, SP.is (.agg (vB root).toArray)) (by rw [hD]; rfl) (ready_dep hk 1 (by kernel_rfl)))
            have eb := (hF.done 3 (80, SP.is (.int .i64 n)) (by rw [hD]; rfl) (ready_dep hk 3 (by kernel_rfl)))
            have ec := (hF.done 5 (82, SP.is (.int .i64 i)) (by rw [hD]; rfl) (ready_dep hk 5 (by kernel_rfl)))
            have ed := (hF.done 10 (87, SP.is (.slice (some ⟨L, 0, none⟩) k (k + 70))) (by rw [hD]; rfl) (ready_dep hk 10 (by kernel_rfl)))
            have ee := (hF.done 15 (92, SP.is (.slice (some ⟨O, 0, none⟩) m (m + 9))) (by rw [hD]; rfl) (ready_dep hk 15 (by kernel_rfl)))
            refine wpOp_plain rfl rfl (wp_fcall_v 30 #[.agg (vB root).toArray, .int .i64 n, .int .i64 i, .slice (some ⟨L, 0, none⟩) k (k + 70), .slice (some ⟨O, 0, none⟩) m (m + 9)] rfl rfl (by show [ac.eval (.tmp 78), ac.eval (.tmp 80), ac.eval (.tmp 82), ac.eval (.tmp 87), ac.eval (.tmp 92)] = _; rw [show ac.eval (.tmp 78) = _ from ea, show ac.eval (.tmp 80) = _ from eb, show ac.eval (.tmp 82) = _ from ec, show ac.eval (.tmp 87) = _ from ed, show ac.eval (.tmp 92) = _ from ee]) (by go_simp) ((HC1.out W hb ro rl).mono ?_))
            rintro e W2 ⟨rfl, hB⟩
            exact ⟨_, rfl, hl2 16, ((hF.world hB).put 16 93 (SP.is (.int .i64 E2)) (.int .i64 E2) (by rw [hD]; rfl) rfl (by rw [hD]; rfl) (by rw [hsz]; decide) (by rw [hl]; decide)), hb.trans (hB.mono hb.size), Row.below ro hB (Row.lt ro), Row.below rl hB (Row.lt rl)⟩
          · have hk3 := hk
            exact wpOp_plain rfl rfl (wp_assign_v (ac.eval (.tmp 93)) rfl rfl ⟨hl2 17, (hF.put 17 11 (SP.is (.int .i64 E2)) (ac.eval (.tmp 93)) (by rw [hD]; rfl) ((hF.done 16 (93, SP.is (.int .i64 E2)) (by rw [hD]; rfl) (ready_dep hk 16 (by kernel_rfl)))) (by rw [hD]; rfl) (by rw [hsz]; decide) (by rw [hl]; decide)), hb, ro, rl⟩)
        · clear hb ro rl 
          intro listed ac W hI hr
          obtain ⟨hl, hF, hb, ro, rl⟩ := hI
          have hall := all_listed (by kernel_rfl) hl hr
          have h77 : ac.eval (.tmp 77) = .pointer (some ⟨w.heap.size, 0, none⟩) := hF.done 0 (77, SP.is (.pointer (some ⟨w.heap.size, 0, none⟩))) (by rw [hD]; rfl) (hall 0 (by decide))
          have h78 : ac.eval (.tmp 78) = .agg (vB root).toArray := hF.done 1 (78, SP.is (.agg (vB root).toArray)) (by rw [hD]; rfl) (hall 1 (by decide))
          have h79 : ac.eval (.tmp 79) = .pointer (some ⟨w.heap.size, 32, none⟩) := hF.done 2 (79, SP.is (.pointer (some ⟨w.heap.size, 32, none⟩))) (by rw [hD]; rfl) (hall 2 (by decide))
          have h80 : ac.eval (.tmp 80) = .int .i64 n := hF.done 3 (80, SP.is (.int .i64 n)) (by rw [hD]; rfl) (hall 3 (by decide))
          have h81 : ac.eval (.tmp 81) = .pointer (some ⟨w.heap.size, 33, none⟩) := hF.done 4 (81, SP.is (.pointer (some ⟨w.heap.size, 33, none⟩))) (by rw [hD]; rfl) (hall 4 (by decide))
          have h82 : ac.eval (.tmp 82) = .int .i64 i := hF.done 5 (82, SP.is (.int .i64 i)) (by rw [hD]; rfl) (hall 5 (by decide))
          have h83 : ac.eval (.tmp 83) = .slice (some ⟨L, 0, none⟩) (k + 70) (k + 70) := hF.done 6 (83, SP.is (.slice (some ⟨L, 0, none⟩) (k + 70) (k + 70))) (by rw [hD]; rfl) (hall 6 (by decide))
          have h84 : ac.eval (.tmp 84) = .pointer (some ⟨w.heap.size, 34, none⟩) := hF.done 7 (84, SP.is (.pointer (some ⟨w.heap.size, 34, none⟩))) (by rw [hD]; rfl) (hall 7 (by decide))
          have h85 : ac.eval (.tmp 85) = .slice A k c1 := hF.done 8 (85, SP.is (.slice A k c1)) (by rw [hD]; rfl) (hall 8 (by decide))
          have h86 : ac.eval (.tmp 86) = .int .i64 (k : Int) := hF.done 9 (86, SP.is (.int .i64 (k : Int))) (by rw [hD]; rfl) (hall 9 (by decide))
          have h87 : ac.eval (.tmp 87) = .slice (some ⟨L, 0, none⟩) k (k + 70) := hF.done 10 (87, SP.is (.slice (some ⟨L, 0, none⟩) k (k + 70))) (by rw [hD]; rfl) (hall 10 (by decide))
          have h88 : ac.eval (.tmp 88) = .slice (some ⟨O, 0, none⟩) (m + 9) (m + 9) := hF.done 11 (88, SP.is (.slice (some ⟨O, 0, none⟩) (m + 9) (m + 9))) (by rw [hD]; rfl) (hall 11 (by decide))
          have h89 : ac.eval (.tmp 89) = .pointer (some ⟨w.heap.size, 35, none⟩) := hF.done 12 (89, SP.is (.pointer (some ⟨w.heap.size, 35, none⟩))) (by rw [hD]; rfl) (hall 12 (by decide))
          have h90 : ac.eval (.tmp 90) = .slice P m d1 := hF.done 13 (90, SP.is (.slice P m d1)) (by rw [hD]; rfl) (hall 13 (by decide))
          have h91 : ac.eval (.tmp 91) = .int .i64 (m : Int) := hF.done 14 (91, SP.is (.int .i64 (m : Int))) (by rw [hD]; rfl) (hall 14 (by decide))
          have h92 : ac.eval (.tmp 92) = .slice (some ⟨O, 0, none⟩) m (m + 9) := hF.done 15 (92, SP.is (.slice (some ⟨O, 0, none⟩) m (m + 9))) (by rw [hD]; rfl) (hall 15 (by decide))
          have h93 : ac.eval (.tmp 93) = .int .i64 E2 := hF.done 16 (93, SP.is (.int .i64 E2)) (by rw [hD]; rfl) (hall 16 (by decide))
          have h11 : ac.eval (.tmp 11) = .int .i64 E2 := hF.done 17 (11, SP.is (.int .i64 E2)) (by rw [hD]; rfl) (hall 17 (by decide))
          have ea := hF.lay [(77, .pointer (some ⟨w.heap.size, 0, none⟩)), (78, .agg (vB root).toArray), (79, .pointer (some ⟨w.heap.size, 32, none⟩)), (80, .int .i64 n), (81, .pointer (some ⟨w.heap.size, 33, none⟩)), (82, .int .i64 i), (83, .slice (some ⟨L, 0, none⟩) (k + 70) (k + 70)), (84, .pointer (some ⟨w.heap.size, 34, none⟩)), (85, .slice A k c1), (86, .int .i64 (k : Int)), (87, .slice (some ⟨L, 0, none⟩) k (k + 70)), (88, .slice (some ⟨O, 0, none⟩) (m + 9) (m + 9)), (89, .pointer (some ⟨w.heap.size, 35, none⟩)), (90, .slice P m d1), (91, .int .i64 (m : Int)), (92, .slice (some ⟨O, 0, none⟩) m (m + 9)), (93, .int .i64 E2), (11, .int .i64 E2)] (by rw [hD, hsz]; rfl) (by simp only [List.forall_mem_cons, List.not_mem_nil, false_implies, implies_true, and_true]; exact ⟨h77, h78, h79, h80, h81, h82, h83, h84, h85, h86, h87, h88, h89, h90, h91, h92, h93, h11⟩)
          rw [ha0] at ea
          simp only [List.foldl_cons, List.foldl_nil, List.setIfInBounds_toArray, List.set_cons_zero, List.set_cons_succ] at ea
          clear hF hall hr hl hD  s1 s4 s5 ha0 hsz h77 h78 h79 h80 h81 h82 h83 h84 h85 h86 h87 h88 h89 h90 h91 h92 h93 h11
          subst ea
          clear HC1
          generalize W = W9 at *
          go_wp2_with fail
          refine wp_named fun a0 ha0 => ?_
          have hsz : a0.tmps.size = 128 := by rw [ha0]; rfl
          have s1 : a0.eval (.tmp 1) = .pointer (some ⟨w.heap.size, 0, none⟩) := by rw [ha0]; rfl
          have s4 : a0.eval (.tmp 4) = .slice (some ⟨O, 0, none⟩) (m + 9) (m + 9) := by rw [ha0]; rfl
          have s5 : a0.eval (.tmp 5) = .slice (some ⟨L, 0, none⟩) (k + 70) (k + 70) := by rw [ha0]; rfl
          obtain ⟨D, hD⟩ : ∃ D : List (Tmp × SP), D = [(94, SP.is (.pointer (some ⟨w.heap.size, 0, none⟩))), (95, SP.is (.agg (vB root).toArray)), (96, SP.is (.pointer (some ⟨w.heap.size, 32, none⟩))), (97, SP.is (.int .i64 n)), (98, SP.is (.pointer (some ⟨w.heap.size, 33, none⟩))), (99, SP.is (.int .i64 i)), (100, SP.is (.slice (some ⟨L, 0, none⟩) (k + 70) (k + 70))), (101, SP.is (.pointer (some ⟨w.heap.size, 34, none⟩))), (102, SP.is (.slice A k c1)), (103, SP.is (.int .i64 (k : Int))), (104, SP.is (.slice (some ⟨L, 0, none⟩) k (k + 70))), (105, SP.is (.slice (some ⟨O, 0, none⟩) (m + 9) (m + 9))), (106, SP.is (.pointer (some ⟨w.heap.size, 35, none⟩))), (107, SP.is (.slice P m d1)), (108, SP.is (.int .i64 (m : Int))), (109, SP.is (.slice (some ⟨O, 0, none⟩) m (m + 9))), (110, SP.is (.int .i64 E2)), (12, SP.is (.int .i64 E2))] := ⟨_, rfl⟩
          refine wp_region_down (by kernel_rfl) (fun listed ac W => listed.size = 18 ∧ Fp D a0 listed ac W ∧ Below W0.heap.size W0 W ∧ Row W O ((vB bo)) 24 ∧ Row W L ((vB bl)) 5) ?_ ?_ ?_
          · exact ⟨by simp, Fp.start D a0 _ _, Below.drew hb, Row.drew ro, Row.drew rl⟩
          · clear ha0 hb ro rl 
            intro listed ac W k hI hdn hk
            obtain ⟨hl, hF, hb, ro, rl⟩ := hI
            have hk1 : k < 18 := List.mem_range.1 (List.mem_filter.1 hk).1
            have hl2 : ∀ j, (listed.setIfInBounds j true).size = 18 := fun j => by rw [Array.size_setIfInBounds]; exact hl
            rcases (show k = 0 ∨ k = 1 ∨ k = 2 ∨ k = 3 ∨ k = 4 ∨ k = 5 ∨ k = 6 ∨ k = 7 ∨ k = 8 ∨ k = 9 ∨ k = 10 ∨ k = 11 ∨ k = 12 ∨ k = 13 ∨ k = 14 ∨ k = 15 ∨ k = 16 ∨ k = 17 by omega) with rfl | rfl | rfl | rfl | rfl | rfl | rfl | rfl | rfl | rfl | rfl | rfl | rfl | rfl | rfl | rfl | rfl | rfl
            · have hk3 := hk
              have ea := ((hF.keep 1 (by rw [hD]; rfl)).trans s1)
              exact wpOp_plain rfl rfl (wp_fs0 w.heap.size rfl ea ⟨hl2 0, (hF.put 0 94 (SP.is (.pointer (some ⟨w.heap.size, 0, none⟩))) (.pointer (some ⟨w.heap.size, 0, none⟩)) (by rw [hD]; rfl) rfl (by rw [hD]; rfl) (by rw [hsz]; decide) (by rw [hl]; decide)), hb, ro, rl⟩)
            · have hk3 := hk
              have ea := (hF.done 0 (94, SP.is (.pointer (some ⟨w.heap.size, 0, none⟩))) (by rw [hD]; rfl) (ready_dep hk 0 (by kernel_rfl)))
              exact wpOp_plain rfl rfl (wp_load_mid 24 (.tmp 94) rfl w.heap.size 0 ea (vB root) _ (KQ.out W hb) Tryd.underlying24 rfl Hroot.info ⟨hl2 1, (hF.put 1 95 (SP.is (.agg (vB root).toArray)) (.agg (vB root).toArray) (by rw [hD]; rfl) rfl (by rw [hD]; rfl) (by rw [hsz]; decide) (by rw [hl]; decide)), hb, ro, rl⟩)
            · have hk3 := hk
              have ea := ((hF.keep 1 (by rw [hD]; rfl)).trans s1)
              exact wpOp_plain rfl rfl (wp_fs1 w.heap.size rfl ea ⟨hl2 2, (hF.put 2 96 (SP.is (.pointer (some ⟨w.heap.size, 32, none⟩))) (.pointer (some ⟨w.heap.size, 32, none⟩)) (by rw [hD]; rfl) rfl (by rw [hD]; rfl) (by rw [hsz]; decide) (by rw [hl]; decide)), hb, ro, rl⟩)
            · have hk3 := hk
              have ea := (hF.done 2 (96, SP.is (.pointer (some ⟨w.heap.size, 32, none⟩))) (by rw [hD]; rfl) (ready_dep hk 2 (by kernel_rfl)))
              exact wpOp_plain rfl rfl (wp_load_1 w.heap.size 32 (.int .i64 n) rfl ea (run_load_i W w.heap.size 32 _ (K32.out W hb)) ⟨hl2 3, (hF.put 3 97 (SP.is (.int .i64 n)) (.int .i64 n) (by rw [hD]; rfl) rfl (by rw [hD]; rfl) (by rw [hsz]; decide) (by rw [hl]; decide)), hb, ro, rl⟩)
            · have hk3 := hk
              have ea := ((hF.keep 1 (by rw [hD]; rfl)).trans s1)
              exact wpOp_plain rfl rfl (wp_fs2 w.heap.size rfl ea ⟨hl2 4, (hF.put 4 98 (SP.is (.pointer (some ⟨w.heap.size, 33, none⟩))) (.pointer (some ⟨w.heap.size, 33, none⟩)) (by rw [hD]; rfl) rfl (by rw [hD]; rfl) (by rw [hsz]; decide) (by rw [hl]; decide)), hb, ro, rl⟩)
            · have hk3 := hk
              have ea := (hF.done 4 (98, SP.is (.pointer (some ⟨w.heap.size, 33, none⟩))) (by rw [hD]; rfl) (ready_dep hk 4 (by kernel_rfl)))
              exact wpOp_plain rfl rfl (wp_load_1 w.heap.size 33 (.int .i64 i) rfl ea (run_load_i W w.heap.size 33 _ (K33.out W hb)) ⟨hl2 5, (hF.put 5 99 (SP.is (.int .i64 i)) (.int .i64 i) (by rw [hD]; rfl) rfl (by rw [hD]; rfl) (by rw [hsz]; decide) (by rw [hl]; decide)), hb, ro, rl⟩)
            · have hk3 := hk
              exact wpOp_plain rfl rfl (wp_move_v (ac.eval (.tmp 5)) rfl rfl ⟨hl2 6, (hF.put 6 100 (SP.is (.slice (some ⟨L, 0, none⟩) (k + 70) (k + 70))) (ac.eval (.tmp 5)) (by rw [hD]; rfl) (((hF.keep 5 (by rw [hD]; rfl)).trans s5)) (by rw [hD]; rfl) (by rw [hsz]; decide) (by rw [hl]; decide)), hb, ro, rl⟩)
            · have hk3 := hk
              have ea := ((hF.keep 1 (by rw [hD]; rfl)).trans s1)
              exact wpOp_plain rfl rfl (wp_fs3 w.heap.size rfl ea ⟨hl2 7, (hF.put 7 101 (SP.is (.pointer (some ⟨w.heap.size, 34, none⟩))) (.pointer (some ⟨w.heap.size, 34, none⟩)) (by rw [hD]; rfl) rfl (by rw [hD]; rfl) (by rw [hsz]; decide) (by rw [hl]; decide)), hb, ro, rl⟩)
            · have hk3 := hk
              have ea := (hF.done 7 (101, SP.is (.pointer (some ⟨w.heap.size, 34, none⟩))) (by rw [hD]; rfl) (ready_dep hk 7 (by kernel_rfl)))
              exact wpOp_plain rfl rfl (wp_load_1 w.heap.size 34 (.slice A k c1) rfl ea (run_load_b W w.heap.size 34 _ (K34.out W hb)) ⟨hl2 8, (hF.put 8 102 (SP.is (.slice A k c1)) (.slice A k c1) (by rw [hD]; rfl) rfl (by rw [hD]; rfl) (by rw [hsz]; decide) (by rw [hl]; decide)), hb, ro, rl⟩)
            · have hk3 := hk
              have ea := (hF.done 8 (102, SP.is (.slice A k c1)) (by rw [hD]; rfl) (ready_dep hk 8 (by kernel_rfl)))
              exact wpOp_plain rfl rfl (wp_len_b A k c1 rfl ea ⟨hl2 9, (hF.put 9 103 (SP.is (.int .i64 (k : Int))) (.int .i64 (k : Int)) (by rw [hD]; rfl) rfl (by rw [hD]; rfl) (by rw [hsz]; decide) (by rw [hl]; decide)), hb, ro, rl⟩)
            · have hk3 := hk
              have ea := (hF.done 6 (100, SP.is (.slice (some ⟨L, 0, none⟩) (k + 70) (k + 70))) (by rw [hD]; rfl) (ready_dep hk 6 (by kernel_rfl)))
              have eb := (hF.done 9 (103, SP.is (.int .i64 (k : Int))) (by rw [hD]; rfl) (ready_dep hk 9 (by kernel_rfl)))
              exact wpOp_plain rfl rfl (wp_slice_upto 22 5 (.tmp 100) (.tmp 103) L 0 (k + 70) (k + 70) k 1 rfl ea eb (by omega) Tryd.underlying22 info_u8 ⟨hl2 10, (hF.put 10 104 (SP.is (.slice (some ⟨L, 0, none⟩) k (k + 70))) (.slice (some ⟨L, 0, none⟩) k (k + 70)) (by rw [hD]; rfl) rfl (by rw [hD]; rfl) (by rw [hsz]; decide) (by rw [hl]; decide)), hb, ro, rl⟩)
            · have hk3 := hk
              exact wpOp_plain rfl rfl (wp_move_v (ac.eval (.tmp 4)) rfl rfl ⟨hl2 11, (hF.put 11 105 (SP.is (.slice (some ⟨O, 0, none⟩) (m + 9) (m + 9))) (ac.eval (.tmp 4)) (by rw [hD]; rfl) (((hF.keep 4 (by rw [hD]; rfl)).trans s4)) (by rw [hD]; rfl) (by rw [hsz]; decide) (by rw [hl]; decide)), hb, ro, rl⟩)
            · have hk3 := hk
              have ea := ((hF.keep 1 (by rw [hD]; rfl)).trans s1)
              exact wpOp_plain rfl rfl (wp_fs4 w.heap.size rfl ea ⟨hl2 12, (hF.put 12 106 (SP.is (.pointer (some ⟨w.heap.size, 35, none⟩))) (.pointer (some ⟨w.heap.size, 35, none⟩)) (by rw [hD]; rfl) rfl (by rw [hD]; rfl) (by rw [hsz]; decide) (by rw [hl]; decide)), hb, ro, rl⟩)
            · have hk3 := hk
              have ea := (hF.done 12 (106, SP.is (.pointer (some ⟨w.heap.size, 35, none⟩))) (by rw [hD]; rfl) (ready_dep hk 12 (by kernel_rfl)))
              exact wpOp_plain rfl rfl (wp_load_1 w.heap.size 35 (.slice P m d1) rfl ea (run_load_ds W w.heap.size 35 _ (K35.out W hb)) ⟨hl2 13, (hF.put 13 107 (SP.is (.slice P m d1)) (.slice P m d1) (by rw [hD]; rfl) rfl (by rw [hD]; rfl) (by rw [hsz]; decide) (by rw [hl]; decide)), hb, ro, rl⟩)
            · have hk3 := hk
              have ea := (hF.done 13 (107, SP.is (.slice P m d1)) (by rw [hD]; rfl) (ready_dep hk 13 (by kernel_rfl)))
              exact wpOp_plain rfl rfl (wp_len_ds P m d1 rfl ea ⟨hl2 14, (hF.put 14 108 (SP.is (.int .i64 (m : Int))) (.int .i64 (m : Int)) (by rw [hD]; rfl) rfl (by rw [hD]; rfl) (by rw [hsz]; decide) (by rw [hl]; decide)), hb, ro, rl⟩)
            · have hk3 := hk
              have ea := (hF.done 11 (105, SP.is (.slice (some ⟨O, 0, none⟩) (m + 9) (m + 9))) (by rw [hD]; rfl) (ready_dep hk 11 (by kernel_rfl)))
              have eb := (hF.done 14 (108, SP.is (.int .i64 (m : Int))) (by rw [hD]; rfl) (ready_dep hk 14 (by kernel_rfl)))
              exact wpOp_plain rfl rfl (wp_slice_upto 42 24 (.tmp 105) (.tmp 108) O 0 (m + 9) (m + 9) m 32 rfl ea eb (by omega) Tryd.underlying42 info_dig ⟨hl2 15, (hF.put 15 109 (SP.is (.slice (some ⟨O, 0, none⟩) m (m + 9))) (.slice (some ⟨O, 0, none⟩) m (m + 9)) (by rw [hD]; rfl) rfl (by rw [hD]; rfl) (by rw [hsz]; decide) (by rw [hl]; decide)), hb, ro, rl⟩)
            · have hk3 := hk
              have ea := (hF.done 1 (95, SP.is (.agg (vB root).toArray)) (by rw [hD]; rfl) (ready_dep hk 1 (by kernel_rfl)))
              have eb := (hF.done 3 (97, SP.is (.int .i64 n)) (by rw [hD]; rfl) (ready_dep hk 3 (by kernel_rfl)))
              have ec := (hF.done 5 (99, SP.is (.int .i64 i)) (by rw [hD]; rfl) (ready_dep hk 5 (by kernel_rfl)))
              have ed := (hF.done 10 (104, SP.is (.slice (some ⟨L, 0, none⟩) k (k + 70))) (by rw [hD]; rfl) (ready_dep hk 10 (by kernel_rfl)))
              have ee := (hF.done 15 (109, SP.is (.slice (some ⟨O, 0, none⟩) m (m + 9))) (by rw [hD]; rfl) (ready_dep hk 15 (by kernel_rfl)))
              refine wpOp_plain rfl rfl (wp_fcall_v 28 #[.agg (vB root).toArray, .int .i64 n, .int .i64 i, .slice (some ⟨L, 0, none⟩) k (k + 70), .slice (some ⟨O, 0, none⟩) m (m + 9)] rfl rfl (by show [ac.eval (.tmp 95), ac.eval (.tmp 97), ac.eval (.tmp 99), ac.eval (.tmp 104), ac.eval (.tmp 109)] = _; rw [show ac.eval (.tmp 95) = _ from ea, show ac.eval (.tmp 97) = _ from eb, show ac.eval (.tmp 99) = _ from ec, show ac.eval (.tmp 104) = _ from ed, show ac.eval (.tmp 109) = _ from ee]) (by go_simp) ((HC2.out W hb ro rl).mono ?_))
              rintro e W2 ⟨rfl, hB⟩
              exact ⟨_, rfl, hl2 16, ((hF.world hB).put 16 110 (SP.is (.int .i64 E2)) (.int .i64 E2) (by rw [hD]; rfl) rfl (by rw [hD]; rfl) (by rw [hsz]; decide) (by rw [hl]; decide)), hb.trans (hB.mono hb.size), Row.below ro hB (Row.lt ro), Row.below rl hB (Row.lt rl)⟩
            · have hk3 := hk
              exact wpOp_plain rfl rfl (wp_assign_v (ac.eval (.tmp 110)) rfl rfl ⟨hl2 17, (hF.put 17 12 (SP.is (.int .i64 E2)) (ac.eval (.tmp 110)) (by rw [hD]; rfl) ((hF.done 16 (110, SP.is (.int .i64 E2)) (by rw [hD]; rfl) (ready_dep hk 16 (by kernel_rfl)))) (by rw [hD]; rfl) (by rw [hsz]; decide) (by rw [hl]; decide)), hb, ro, rl⟩)
          · clear hb ro rl 
            intro listed ac W hI hr
            obtain ⟨hl, hF, hb, ro, rl⟩ := hI
            have hall := all_listed (by kernel_rfl) hl hr
            have h94 : ac.eval (.tmp 94) = .pointer (some ⟨w.heap.size, 0, none⟩) := hF.done 0 (94, SP.is (.pointer (some ⟨w.heap.size, 0, none⟩))) (by rw [hD]; rfl) (hall 0 (by decide))
            have h95 : ac.eval (.tmp 95) = .agg (vB root).toArray := hF.done 1 (95, SP.is (.agg (vB root).toArray)) (by rw [hD]; rfl) (hall 1 (by decide))
            have h96 : ac.eval (.tmp 96) = .pointer (some ⟨w.heap.size, 32, none⟩) := hF.done 2 (96, SP.is (.pointer (some ⟨w.heap.size, 32, none⟩))) (by rw [hD]; rfl) (hall 2 (by decide))
            have h97 : ac.eval (.tmp 97) = .int .i64 n := hF.done 3 (97, SP.is (.int .i64 n)) (by rw [hD]; rfl) (hall 3 (by decide))
            have h98 : ac.eval (.tmp 98) = .pointer (some ⟨w.heap.size, 33, none⟩) := hF.done 4 (98, SP.is (.pointer (some ⟨w.heap.size, 33, none⟩))) (by rw [hD]; rfl) (hall 4 (by decide))
            have h99 : ac.eval (.tmp 99) = .int .i64 i := hF.done 5 (99, SP.is (.int .i64 i)) (by rw [hD]; rfl) (hall 5 (by decide))
            have h100 : ac.eval (.tmp 100) = .slice (some ⟨L, 0, none⟩) (k + 70) (k + 70) := hF.done 6 (100, SP.is (.slice (some ⟨L, 0, none⟩) (k + 70) (k + 70))) (by rw [hD]; rfl) (hall 6 (by decide))
            have h101 : ac.eval (.tmp 101) = .pointer (some ⟨w.heap.size, 34, none⟩) := hF.done 7 (101, SP.is (.pointer (some ⟨w.heap.size, 34, none⟩))) (by rw [hD]; rfl) (hall 7 (by decide))
            have h102 : ac.eval (.tmp 102) = .slice A k c1 := hF.done 8 (102, SP.is (.slice A k c1)) (by rw [hD]; rfl) (hall 8 (by decide))
            have h103 : ac.eval (.tmp 103) = .int .i64 (k : Int) := hF.done 9 (103, SP.is (.int .i64 (k : Int))) (by rw [hD]; rfl) (hall 9 (by decide))
            have h104 : ac.eval (.tmp 104) = .slice (some ⟨L, 0, none⟩) k (k + 70) := hF.done 10 (104, SP.is (.slice (some ⟨L, 0, none⟩) k (k + 70))) (by rw [hD]; rfl) (hall 10 (by decide))
            have h105 : ac.eval (.tmp 105) = .slice (some ⟨O, 0, none⟩) (m + 9) (m + 9) := hF.done 11 (105, SP.is (.slice (some ⟨O, 0, none⟩) (m + 9) (m + 9))) (by rw [hD]; rfl) (hall 11 (by decide))
            have h106 : ac.eval (.tmp 106) = .pointer (some ⟨w.heap.size, 35, none⟩) := hF.done 12 (106, SP.is (.pointer (some ⟨w.heap.size, 35, none⟩))) (by rw [hD]; rfl) (hall 12 (by decide))
            have h107 : ac.eval (.tmp 107) = .slice P m d1 := hF.done 13 (107, SP.is (.slice P m d1)) (by rw [hD]; rfl) (hall 13 (by decide))
            have h108 : ac.eval (.tmp 108) = .int .i64 (m : Int) := hF.done 14 (108, SP.is (.int .i64 (m : Int))) (by rw [hD]; rfl) (hall 14 (by decide))
            have h109 : ac.eval (.tmp 109) = .slice (some ⟨O, 0, none⟩) m (m + 9) := hF.done 15 (109, SP.is (.slice (some ⟨O, 0, none⟩) m (m + 9))) (by rw [hD]; rfl) (hall 15 (by decide))
            have h110 : ac.eval (.tmp 110) = .int .i64 E2 := hF.done 16 (110, SP.is (.int .i64 E2)) (by rw [hD]; rfl) (hall 16 (by decide))
            have h12 : ac.eval (.tmp 12) = .int .i64 E2 := hF.done 17 (12, SP.is (.int .i64 E2)) (by rw [hD]; rfl) (hall 17 (by decide))
            have ea := hF.lay [(94, .pointer (some ⟨w.heap.size, 0, none⟩)), (95, .agg (vB root).toArray), (96, .pointer (some ⟨w.heap.size, 32, none⟩)), (97, .int .i64 n), (98, .pointer (some ⟨w.heap.size, 33, none⟩)), (99, .int .i64 i), (100, .slice (some ⟨L, 0, none⟩) (k + 70) (k + 70)), (101, .pointer (some ⟨w.heap.size, 34, none⟩)), (102, .slice A k c1), (103, .int .i64 (k : Int)), (104, .slice (some ⟨L, 0, none⟩) k (k + 70)), (105, .slice (some ⟨O, 0, none⟩) (m + 9) (m + 9)), (106, .pointer (some ⟨w.heap.size, 35, none⟩)), (107, .slice P m d1), (108, .int .i64 (m : Int)), (109, .slice (some ⟨O, 0, none⟩) m (m + 9)), (110, .int .i64 E2), (12, .int .i64 E2)] (by rw [hD, hsz]; rfl) (by simp only [List.forall_mem_cons, List.not_mem_nil, false_implies, implies_true, and_true]; exact ⟨h94, h95, h96, h97, h98, h99, h100, h101, h102, h103, h104, h105, h106, h107, h108, h109, h110, h12⟩)
            rw [ha0] at ea
            simp only [List.foldl_cons, List.foldl_nil, List.setIfInBounds_toArray, List.set_cons_zero, List.set_cons_succ] at ea
            clear hF hall hr hl hD  s1 s4 s5 ha0 hsz h94 h95 h96 h97 h98 h99 h100 h101 h102 h103 h104 h105 h106 h107 h108 h109 h110 h12
            subst ea
            go_wp2_with fail
            go_ret
            exact ⟨rfl, HB0.out.trans (hb.mono HB0.out.size)⟩

end Go.Proofs.YtnogjhbohljjnaaDoor
