/-
  The law TreeGrews.
-/
import Derived.Test.YtnogjhbohljjnaaDoorTCk0
import Derived.Test.YtnogjhbohljjnaaDoorTRgw
namespace Go.Proofs.YtnogjhbohljjnaaDoor
open Go Go.RowKit
open Sha

/-- The cells of what a growth is looked at with. -/
def past (was root : List (BitVec 8)) (m n : Int) (p : Value) : List Value := vB was ++ ([Value.int .i64 m] ++ (vB root ++ [Value.int .i64 n, p]))
theorem wp_fp0 {o : Oper} {a : Act} {w : World} {K : Act → World → Prop} {Q : Exit → Act → World → Prop} {x : Operand} (b : Nat) (ho : o.op = .fieldAddr 56 x 0) (hx : a.eval x = .pointer (some ⟨b, 0, none⟩)) (h : K (a.put o.dst (.pointer (some ⟨b, 0, none⟩))) w) : Oper.wp Tryd.prog o a w K Q := by
  obtain ⟨dst, op, ty, pos, after, guard⟩ := o
  simp only at ho
  subst ho
  unfold Oper.wp execOp
  simp only [hx]
  go_simp
  exact h
theorem wp_fp1 {o : Oper} {a : Act} {w : World} {K : Act → World → Prop} {Q : Exit → Act → World → Prop} {x : Operand} (b : Nat) (ho : o.op = .fieldAddr 56 x 1) (hx : a.eval x = .pointer (some ⟨b, 0, none⟩)) (h : K (a.put o.dst (.pointer (some ⟨b, 32, none⟩))) w) : Oper.wp Tryd.prog o a w K Q := by
  obtain ⟨dst, op, ty, pos, after, guard⟩ := o
  simp only at ho
  subst ho
  unfold Oper.wp execOp
  simp only [hx]
  go_simp
  exact h
theorem wp_fp2 {o : Oper} {a : Act} {w : World} {K : Act → World → Prop} {Q : Exit → Act → World → Prop} {x : Operand} (b : Nat) (ho : o.op = .fieldAddr 56 x 2) (hx : a.eval x = .pointer (some ⟨b, 0, none⟩)) (h : K (a.put o.dst (.pointer (some ⟨b, 33, none⟩))) w) : Oper.wp Tryd.prog o a w K Q := by
  obtain ⟨dst, op, ty, pos, after, guard⟩ := o
  simp only at ho
  subst ho
  unfold Oper.wp execOp
  simp only [hx]
  go_simp
  exact h
theorem wp_fp3 {o : Oper} {a : Act} {w : World} {K : Act → World → Prop} {Q : Exit → Act → World → Prop} {x : Operand} (b : Nat) (ho : o.op = .fieldAddr 56 x 3) (hx : a.eval x = .pointer (some ⟨b, 0, none⟩)) (h : K (a.put o.dst (.pointer (some ⟨b, 65, none⟩))) w) : Oper.wp Tryd.prog o a w K Q := by
  obtain ⟨dst, op, ty, pos, after, guard⟩ := o
  simp only at ho
  subst ho
  unfold Oper.wp execOp
  simp only [hx]
  go_simp
  exact h
theorem wp_fp4 {o : Oper} {a : Act} {w : World} {K : Act → World → Prop} {Q : Exit → Act → World → Prop} {x : Operand} (b : Nat) (ho : o.op = .fieldAddr 56 x 4) (hx : a.eval x = .pointer (some ⟨b, 0, none⟩)) (h : K (a.put o.dst (.pointer (some ⟨b, 66, none⟩))) w) : Oper.wp Tryd.prog o a w K Q := by
  obtain ⟨dst, op, ty, pos, after, guard⟩ := o
  simp only at ho
  subst ho
  unfold Oper.wp execOp
  simp only [hx]
  go_simp
  exact h

theorem lentPath_g (ds : List (List (BitVec 8))) (m : Nat) (hm : ds.length = m) (hd : m * 32 ≤ 140737488351232) (A : Option Addr) (cap : Nat) (w : World) (hp : PAt w (.slice A m cap) ds) :
    Calls Tryd.prog 27 #[.slice A m cap] w fun e w' => e = .returned (.slice (some ⟨w.heap.size, 0, none⟩) (m + 9) (m + 9)) ∧ Row w' w.heap.size (vB (ds ++ List.replicate 9 m77).flatten) 24 ∧ Below w.heap.size w w' := by
  subst hm; exact lentPath_any ds hd A cap w hp
theorem grew_e (m n : Int) (was root : List (BitVec 8)) (ds : List (List (BitVec 8))) (E : Int) (hE : E = gw was root m n ds) (Hw : Dl was) (Hr : Dl root) (k : Nat) (hk : ds.length = k) (PA : Option Addr) (pc : Nat) (w : World) (hK : Tab w 3) (hp : PAt w (.slice PA k pc) ds) :
    Calls Tryd.prog 34 #[.agg (vB was).toArray, .int .i64 m, .agg (vB root).toArray, .int .i64 n, .slice PA k pc] w fun e w' => e = .returned (.int .i64 E) ∧ Below w.heap.size w w' := by
  subst hE hk; exact grew_any m n was root Hw Hr ds PA pc w hK hp
theorem rgrew_e (m n : Int) (was root : List (BitVec 8)) (ds : List (List (BitVec 8))) (E : Int) (hE : E = gw was root m n ds) (Hw : Dl was) (Hr : Dl root) (k : Nat) (hk : ds.length = k) (PA : Option Addr) (pc : Nat) (w : World) (hG : Given w) (hp : PAt w (.slice PA k pc) ds) :
    Calls Tryd.prog 35 #[.agg (vB was).toArray, .int .i64 m, .agg (vB root).toArray, .int .i64 n, .slice PA k pc] w fun e w' => e = .returned (.int .i64 E) ∧ Below w.heap.size w w' := by
  subst hE hk; exact rgrew_any m n was root Hw Hr ds PA pc w hG hp

set_option maxRecDepth 100000 in
set_option maxHeartbeats 8000000 in
theorem grews_walk (was root : List (BitVec 8)) (ds : List (List (BitVec 8))) (Hw : Dl was) (Hr : Dl root) (n i : Int) (hd : ds.length * 32 ≤ 140737488351232) (P : Option Addr) (d1 : Nat) (cs : List Value) (hcs : cs = past was root n i (.slice P ds.length d1)) (w : World) (fG : Given w) (p1 : PAt w (.slice P ds.length d1) ds) :
    Calls Tryd.prog 7 #[.agg cs.toArray] w fun e w' => e = .returned (.bool true) ∧ Below w.heap.size w w' := by
  obtain ⟨E1, hE1⟩ : ∃ E1, E1 = gw was root n i ds := ⟨_, rfl⟩
  have HE1 : Hid (E1 = _) := hE1
  have HDL : Hid (ds.length * 32 ≤ 140737488351232) := hd
  have HDS : Hid (ds.length ≤ 4398046511104) := by show _ ≤ _; omega
  have HU : Hid (∀ d ∈ ds, d.length = 32) := p1.1
  have W32 : (vB was).length = 32 := Hw.len
  have R32 : (vB root).length = 32 := Hr.len
  have hB0 : Below w.heap.size w (w.alloc (.cells cs.toArray 56)) := (Below.refl _ _).alloc (Nat.le_refl _) _
  have r1 : Row (w.alloc (.cells cs.toArray 56)) w.heap.size cs 56 := Row.new' rfl rfl
  have ra : (w.alloc (.cells cs.toArray 56)).rangeAt w.heap.size 0 (vB was ++ ([Value.int .i64 n] ++ (vB root ++ [Value.int .i64 i, .slice P ds.length d1]))) := by have := r1.all; rw [hcs] at this ⊢; exact this
  have q0 : (w.alloc (.cells cs.toArray 56)).rangeAt w.heap.size 0 (vB was) := ran_left ra
  have ra2 := ran_right ra W32
  have q1 := ran_left ra2
  have ra3 := ran_right ra2 (show [Value.int .i64 n].length = 1 from rfl)
  have q2 := ran_left ra3
  have q3 := ran_right ra3 R32
  have g32 : (w.alloc (.cells cs.toArray 56)).cell? ⟨w.heap.size, 32, none⟩ = some (.int .i64 n) := by have := q1 0 _ rfl; simpa using this
  have g65 : (w.alloc (.cells cs.toArray 56)).cell? ⟨w.heap.size, 65, none⟩ = some (.int .i64 i) := by have := q3 0 _ rfl; simpa using this
  have g66 : (w.alloc (.cells cs.toArray 56)).cell? ⟨w.heap.size, 66, none⟩ = some (.slice P ds.length d1) := by have := q3 1 _ rfl; simpa using this
  replace q2 : (w.alloc (.cells cs.toArray 56)).rangeAt w.heap.size 33 (vB root) := by simpa using q2
  replace p1 := p1.be hB0
  replace fG := fG.be hB0
  have hb0 := hB0
  obtain ⟨W0, hW0⟩ : ∃ W0, W0 = (w.alloc (.cells cs.toArray 56)) := ⟨_, rfl⟩
  rw [← hW0] at q0 q2 g32 g65 g66 p1 fG hb0
  have HB0 : Hid (Below w.heap.size w W0) := hb0
  have KQ : Hid (∀ W, Below W0.heap.size W0 W → W.rangeAt w.heap.size 0 (vB was)) := fun W hB => range_below q0 hB (Nat.le_refl _)
  have KR : Hid (∀ W, Below W0.heap.size W0 W → W.rangeAt w.heap.size 33 (vB root)) := fun W hB => range_below q2 hB (Nat.le_refl _)
  have K32 : Hid (∀ W, Below W0.heap.size W0 W → W.cell? ⟨w.heap.size, 32, none⟩ = some (.int .i64 n)) := fun W hB => cell_be g32 hB
  have K65 : Hid (∀ W, Below W0.heap.size W0 W → W.cell? ⟨w.heap.size, 65, none⟩ = some (.int .i64 i)) := fun W hB => cell_be g65 hB
  have K66 : Hid (∀ W, Below W0.heap.size W0 W → W.cell? ⟨w.heap.size, 66, none⟩ = some (.slice P ds.length d1)) := fun W hB => cell_be g66 hB
  have KP : Hid (∀ W, Below W0.heap.size W0 W → PAt W (.slice P ds.length d1) ds) := fun W hB => p1.be hB
  have KG : Hid (∀ W, Below W0.heap.size W0 W → Given W) := fun W hB => fG.be hB
  have hb : Below W0.heap.size W0 W0 := Below.refl _ _
  clear r1 hB0 hb0 hE1 hd hcs W32 R32 q0 q1 q2 q3 ra ra2 ra3 g32 g65 g66 p1 fG
  obtain ⟨m, em⟩ : ∃ m, m = ds.length := ⟨_, rfl⟩
  have EM : Hid (ds.length = m) := em.symm
  rw [← em] at HDL HDS K66 KP
  clear em
  go_enter Tryd.func7, Tryd.ntmps7
  go_wp2_with fail
  rw [← hW0]
  clear hW0
  refine (awake_any W0 (KG.out W0 hb).cub).mono ?_
  rintro e V0 ⟨rfl, hB⟩
  replace hb := hb.trans (hB.mono hb.size)
  clear hB
  have g66 := K66.out V0 hb
  go_wp2_with fail
  clear g66
  refine (lentPath_g ds m EM.out HDL.out P d1 V0 (KP.out V0 hb)).mono ?_
  rintro e V1 ⟨rfl, ro, hB⟩
  have oO : W0.heap.size ≤ V0.heap.size := hb.size
  replace hb := hb.trans (hB.mono hb.size)
  clear hB
  generalize hO : V0.heap.size = O at *
  clear hO
  have HPO : Hid (∀ W, Row W O (vB (ds ++ List.replicate 9 m77).flatten) 24 → PAt W (.slice (some ⟨O, 0, none⟩) m (m + 9)) ds) := fun W r => pat_row r _ m (m + 9) EM.out HU.out (by rw [List.flatten_append, List.take_append_of_le_length (by rw [flatten_len ds HU.out, EM.out]; exact Nat.le_refl _), List.take_of_length_le (by rw [flatten_len ds HU.out, EM.out]; exact Nat.le_refl _)]) (by omega)
  have HKO : Hid (∀ (W : World), Row W O (vB (ds ++ List.replicate 9 m77).flatten) 24 → PAt W (.slice P m d1) ds → _) := fun W r p => keptPath_any ds m EM.out HDS.out O P d1 W r p
  have HBO : Hid ((ds ++ List.replicate 9 m77).flatten.length = (m + 9) * 32) := by show _ = _; rw [flatten_len _ (marks9_each ds HU.out)]; simp [EM.out]
  generalize (ds ++ List.replicate 9 m77).flatten = bo at *
  go_wp2_with fail
  have HC1 : Hid (∀ W, Below W0.heap.size W0 W → Row W O (vB bo) 24 → _) := fun W (hB : Below W0.heap.size W0 W) (ro : Row W O (vB bo) 24) => grew_e n i was root ds E1 HE1.out Hw Hr m EM.out (some ⟨O, 0, none⟩) (m + 9) W (KG.out W hB).cub (HPO.out W ro)
  refine wp_named fun a0 ha0 => ?_
  have hsz : a0.tmps.size = 91 := by rw [ha0]; rfl
  have zs1 : a0.eval (.tmp 1) = .pointer (some ⟨w.heap.size, 0, none⟩) := by rw [ha0]; rfl
  have zs4 : a0.eval (.tmp 4) = .slice (some ⟨O, 0, none⟩) (m + 9) (m + 9) := by rw [ha0]; rfl
  obtain ⟨D, hD⟩ : ∃ D : List (Tmp × SP), D = [(14, SP.is (.pointer (some ⟨w.heap.size, 0, none⟩))), (15, SP.is (.agg (vB was).toArray)), (16, SP.is (.pointer (some ⟨w.heap.size, 32, none⟩))), (17, SP.is (.int .i64 n)), (18, SP.is (.pointer (some ⟨w.heap.size, 33, none⟩))), (19, SP.is (.agg (vB root).toArray)), (20, SP.is (.pointer (some ⟨w.heap.size, 65, none⟩))), (21, SP.is (.int .i64 i)), (22, SP.is (.slice (some ⟨O, 0, none⟩) (m + 9) (m + 9))), (23, SP.is (.pointer (some ⟨w.heap.size, 66, none⟩))), (24, SP.is (.slice P m d1)), (25, SP.is (.int .i64 (m : Int))), (26, SP.is (.slice (some ⟨O, 0, none⟩) m (m + 9))), (27, SP.is (.int .i64 E1)), (5, SP.is (.int .i64 E1))] := ⟨_, rfl⟩
  refine wp_region_down (by kernel_rfl) (fun listed ac W => listed.size = 15 ∧ Fp D a0 listed ac W ∧ Below W0.heap.size W0 W ∧ Row W O ((vB bo)) 24) ?_ ?_ ?_
  · exact ⟨by simp, Fp.start D a0 _ _, Below.drew hb, Row.drew ro⟩
  · clear ha0 hb ro 
    intro listed ac W k hI hdn hk
    obtain ⟨hl, hF, hb, ro⟩ := hI
    have hk1 : k < 15 := List.mem_range.1 (List.mem_filter.1 hk).1
    have hl2 : ∀ j, (listed.setIfInBounds j true).size = 15 := fun j => by rw [Array.size_setIfInBounds]; exact hl
    rcases (show k = 0 ∨ k = 1 ∨ k = 2 ∨ k = 3 ∨ k = 4 ∨ k = 5 ∨ k = 6 ∨ k = 7 ∨ k = 8 ∨ k = 9 ∨ k = 10 ∨ k = 11 ∨ k = 12 ∨ k = 13 ∨ k = 14 by omega) with rfl | rfl | rfl | rfl | rfl | rfl | rfl | rfl | rfl | rfl | rfl | rfl | rfl | rfl | rfl
    · have hk3 := hk
      have ea := ((hF.keep 1 (by rw [hD]; rfl)).trans zs1)
      exact wpOp_plain rfl rfl (wp_fp0 w.heap.size rfl ea ⟨hl2 0, (hF.put 0 14 (SP.is (.pointer (some ⟨w.heap.size, 0, none⟩))) (.pointer (some ⟨w.heap.size, 0, none⟩)) (by rw [hD]; rfl) rfl (by rw [hD]; rfl) (by rw [hsz]; decide) (by rw [hl]; decide)), hb, ro⟩)
    · have hk3 := hk
      have ea := (hF.done 0 (14, SP.is (.pointer (some ⟨w.heap.size, 0, none⟩))) (by rw [hD]; rfl) (ready_dep hk 0 (by kernel_rfl)))
      exact wpOp_plain rfl rfl (wp_load_mid 24 (.tmp 14) rfl w.heap.size 0 ea (vB was) _ (KQ.out W hb) Tryd.underlying24 rfl Hw.info ⟨hl2 1, (hF.put 1 15 (SP.is (.agg (vB was).toArray)) (.agg (vB was).toArray) (by rw [hD]; rfl) rfl (by rw [hD]; rfl) (by rw [hsz]; decide) (by rw [hl]; decide)), hb, ro⟩)
    · have hk3 := hk
      have ea := ((hF.keep 1 (by rw [hD]; rfl)).trans zs1)
      exact wpOp_plain rfl rfl (wp_fp1 w.heap.size rfl ea ⟨hl2 2, (hF.put 2 16 (SP.is (.pointer (some ⟨w.heap.size, 32, none⟩))) (.pointer (some ⟨w.heap.size, 32, none⟩)) (by rw [hD]; rfl) rfl (by rw [hD]; rfl) (by rw [hsz]; decide) (by rw [hl]; decide)), hb, ro⟩)
    · have hk3 := hk
      have ea := (hF.done 2 (16, SP.is (.pointer (some ⟨w.heap.size, 32, none⟩))) (by rw [hD]; rfl) (ready_dep hk 2 (by kernel_rfl)))
      exact wpOp_plain rfl rfl (wp_load_1 w.heap.size 32 (.int .i64 n) rfl ea (run_load_i W w.heap.size 32 _ (K32.out W hb)) ⟨hl2 3, (hF.put 3 17 (SP.is (.int .i64 n)) (.int .i64 n) (by rw [hD]; rfl) rfl (by rw [hD]; rfl) (by rw [hsz]; decide) (by rw [hl]; decide)), hb, ro⟩)
    · have hk3 := hk
      have ea := ((hF.keep 1 (by rw [hD]; rfl)).trans zs1)
      exact wpOp_plain rfl rfl (wp_fp2 w.heap.size rfl ea ⟨hl2 4, (hF.put 4 18 (SP.is (.pointer (some ⟨w.heap.size, 33, none⟩))) (.pointer (some ⟨w.heap.size, 33, none⟩)) (by rw [hD]; rfl) rfl (by rw [hD]; rfl) (by rw [hsz]; decide) (by rw [hl]; decide)), hb, ro⟩)
    · have hk3 := hk
      have ea := (hF.done 4 (18, SP.is (.pointer (some ⟨w.heap.size, 33, none⟩))) (by rw [hD]; rfl) (ready_dep hk 4 (by kernel_rfl)))
      exact wpOp_plain rfl rfl (wp_load_mid 24 (.tmp 18) rfl w.heap.size 33 ea (vB root) _ (KR.out W hb) Tryd.underlying24 rfl Hr.info ⟨hl2 5, (hF.put 5 19 (SP.is (.agg (vB root).toArray)) (.agg (vB root).toArray) (by rw [hD]; rfl) rfl (by rw [hD]; rfl) (by rw [hsz]; decide) (by rw [hl]; decide)), hb, ro⟩)
    · have hk3 := hk
      have ea := ((hF.keep 1 (by rw [hD]; rfl)).trans zs1)
      exact wpOp_plain rfl rfl (wp_fp3 w.heap.size rfl ea ⟨hl2 6, (hF.put 6 20 (SP.is (.pointer (some ⟨w.heap.size, 65, none⟩))) (.pointer (some ⟨w.heap.size, 65, none⟩)) (by rw [hD]; rfl) rfl (by rw [hD]; rfl) (by rw [hsz]; decide) (by rw [hl]; decide)), hb, ro⟩)
    · have hk3 := hk
      have ea := (hF.done 6 (20, SP.is (.pointer (some ⟨w.heap.size, 65, none⟩))) (by rw [hD]; rfl) (ready_dep hk 6 (by kernel_rfl)))
      exact wpOp_plain rfl rfl (wp_load_1 w.heap.size 65 (.int .i64 i) rfl ea (run_load_i W w.heap.size 65 _ (K65.out W hb)) ⟨hl2 7, (hF.put 7 21 (SP.is (.int .i64 i)) (.int .i64 i) (by rw [hD]; rfl) rfl (by rw [hD]; rfl) (by rw [hsz]; decide) (by rw [hl]; decide)), hb, ro⟩)
    · have hk3 := hk
      exact wpOp_plain rfl rfl (wp_move_v (ac.eval (.tmp 4)) rfl rfl ⟨hl2 8, (hF.put 8 22 (SP.is (.slice (some ⟨O, 0, none⟩) (m + 9) (m + 9))) (ac.eval (.tmp 4)) (by rw [hD]; rfl) (((hF.keep 4 (by rw [hD]; rfl)).trans zs4)) (by rw [hD]; rfl) (by rw [hsz]; decide) (by rw [hl]; decide)), hb, ro⟩)
    · have hk3 := hk
      have ea := ((hF.keep 1 (by rw [hD]; rfl)).trans zs1)
      exact wpOp_plain rfl rfl (wp_fp4 w.heap.size rfl ea ⟨hl2 9, (hF.put 9 23 (SP.is (.pointer (some ⟨w.heap.size, 66, none⟩))) (.pointer (some ⟨w.heap.size, 66, none⟩)) (by rw [hD]; rfl) rfl (by rw [hD]; rfl) (by rw [hsz]; decide) (by rw [hl]; decide)), hb, ro⟩)
    · have hk3 := hk
      have ea := (hF.done 9 (23, SP.is (.pointer (some ⟨w.heap.size, 66, none⟩))) (by rw [hD]; rfl) (ready_dep hk 9 (by kernel_rfl)))
      exact wpOp_plain rfl rfl (wp_load_1 w.heap.size 66 (.slice P m d1) rfl ea (run_load_ds W w.heap.size 66 _ (K66.out W hb)) ⟨hl2 10, (hF.put 10 24 (SP.is (.slice P m d1)) (.slice P m d1) (by rw [hD]; rfl) rfl (by rw [hD]; rfl) (by rw [hsz]; decide) (by rw [hl]; decide)), hb, ro⟩)
    · have hk3 := hk
      have ea := (hF.done 10 (24, SP.is (.slice P m d1)) (by rw [hD]; rfl) (ready_dep hk 10 (by kernel_rfl)))
      exact wpOp_plain rfl rfl (wp_len_ds P m d1 rfl ea ⟨hl2 11, (hF.put 11 25 (SP.is (.int .i64 (m : Int))) (.int .i64 (m : Int)) (by rw [hD]; rfl) rfl (by rw [hD]; rfl) (by rw [hsz]; decide) (by rw [hl]; decide)), hb, ro⟩)
    · have hk3 := hk
      have ea := (hF.done 8 (22, SP.is (.slice (some ⟨O, 0, none⟩) (m + 9) (m + 9))) (by rw [hD]; rfl) (ready_dep hk 8 (by kernel_rfl)))
      have eb := (hF.done 11 (25, SP.is (.int .i64 (m : Int))) (by rw [hD]; rfl) (ready_dep hk 11 (by kernel_rfl)))
      exact wpOp_plain rfl rfl (wp_slice_upto 42 24 (.tmp 22) (.tmp 25) O 0 (m + 9) (m + 9) m 32 rfl ea eb (by omega) Tryd.underlying42 info_dig ⟨hl2 12, (hF.put 12 26 (SP.is (.slice (some ⟨O, 0, none⟩) m (m + 9))) (.slice (some ⟨O, 0, none⟩) m (m + 9)) (by rw [hD]; rfl) rfl (by rw [hD]; rfl) (by rw [hsz]; decide) (by rw [hl]; decide)), hb, ro⟩)
    · have hk3 := hk
      have ea := (hF.done 1 (15, SP.is (.agg (vB was).toArray)) (by rw [hD]; rfl) (ready_dep hk 1 (by kernel_rfl)))
      have eb := (hF.done 3 (17, SP.is (.int .i64 n)) (by rw [hD]; rfl) (ready_dep hk 3 (by kernel_rfl)))
      have ec := (hF.done 5 (19, SP.is (.agg (vB root).toArray)) (by rw [hD]; rfl) (ready_dep hk 5 (by kernel_rfl)))
      have ed := (hF.done 7 (21, SP.is (.int .i64 i)) (by rw [hD]; rfl) (ready_dep hk 7 (by kernel_rfl)))
      have ee := (hF.done 12 (26, SP.is (.slice (some ⟨O, 0, none⟩) m (m + 9))) (by rw [hD]; rfl) (ready_dep hk 12 (by kernel_rfl)))
      refine wpOp_plain rfl rfl (wp_fcall_v 34 #[.agg (vB was).toArray, .int .i64 n, .agg (vB root).toArray, .int .i64 i, .slice (some ⟨O, 0, none⟩) m (m + 9)] rfl rfl (by show [ac.eval (.tmp 15), ac.eval (.tmp 17), ac.eval (.tmp 19), ac.eval (.tmp 21), ac.eval (.tmp 26)] = _; rw [show ac.eval (.tmp 15) = _ from ea, show ac.eval (.tmp 17) = _ from eb, show ac.eval (.tmp 19) = _ from ec, show ac.eval (.tmp 21) = _ from ed, show ac.eval (.tmp 26) = _ from ee]) (by go_simp) ((HC1.out W hb ro).mono ?_))
      rintro e W2 ⟨rfl, hB⟩
      exact ⟨_, rfl, hl2 13, ((hF.world hB).put 13 27 (SP.is (.int .i64 E1)) (.int .i64 E1) (by rw [hD]; rfl) rfl (by rw [hD]; rfl) (by rw [hsz]; decide) (by rw [hl]; decide)), hb.trans (hB.mono hb.size), Row.below ro hB (Row.lt ro)⟩
    · have hk3 := hk
      exact wpOp_plain rfl rfl (wp_assign_v (ac.eval (.tmp 27)) rfl rfl ⟨hl2 14, (hF.put 14 5 (SP.is (.int .i64 E1)) (ac.eval (.tmp 27)) (by rw [hD]; rfl) ((hF.done 13 (27, SP.is (.int .i64 E1)) (by rw [hD]; rfl) (ready_dep hk 13 (by kernel_rfl)))) (by rw [hD]; rfl) (by rw [hsz]; decide) (by rw [hl]; decide)), hb, ro⟩)
  · clear hb ro 
    intro listed ac W hI hr
    obtain ⟨hl, hF, hb, ro⟩ := hI
    have hall := all_listed (by kernel_rfl) hl hr
    have h14 : ac.eval (.tmp 14) = .pointer (some ⟨w.heap.size, 0, none⟩) := hF.done 0 (14, SP.is (.pointer (some ⟨w.heap.size, 0, none⟩))) (by rw [hD]; rfl) (hall 0 (by decide))
    have h15 : ac.eval (.tmp 15) = .agg (vB was).toArray := hF.done 1 (15, SP.is (.agg (vB was).toArray)) (by rw [hD]; rfl) (hall 1 (by decide))
    have h16 : ac.eval (.tmp 16) = .pointer (some ⟨w.heap.size, 32, none⟩) := hF.done 2 (16, SP.is (.pointer (some ⟨w.heap.size, 32, none⟩))) (by rw [hD]; rfl) (hall 2 (by decide))
    have h17 : ac.eval (.tmp 17) = .int .i64 n := hF.done 3 (17, SP.is (.int .i64 n)) (by rw [hD]; rfl) (hall 3 (by decide))
    have h18 : ac.eval (.tmp 18) = .pointer (some ⟨w.heap.size, 33, none⟩) := hF.done 4 (18, SP.is (.pointer (some ⟨w.heap.size, 33, none⟩))) (by rw [hD]; rfl) (hall 4 (by decide))
    have h19 : ac.eval (.tmp 19) = .agg (vB root).toArray := hF.done 5 (19, SP.is (.agg (vB root).toArray)) (by rw [hD]; rfl) (hall 5 (by decide))
    have h20 : ac.eval (.tmp 20) = .pointer (some ⟨w.heap.size, 65, none⟩) := hF.done 6 (20, SP.is (.pointer (some ⟨w.heap.size, 65, none⟩))) (by rw [hD]; rfl) (hall 6 (by decide))
    have h21 : ac.eval (.tmp 21) = .int .i64 i := hF.done 7 (21, SP.is (.int .i64 i)) (by rw [hD]; rfl) (hall 7 (by decide))
    have h22 : ac.eval (.tmp 22) = .slice (some ⟨O, 0, none⟩) (m + 9) (m + 9) := hF.done 8 (22, SP.is (.slice (some ⟨O, 0, none⟩) (m + 9) (m + 9))) (by rw [hD]; rfl) (hall 8 (by decide))
    have h23 : ac.eval (.tmp 23) = .pointer (some ⟨w.heap.size, 66, none⟩) := hF.done 9 (23, SP.is (.pointer (some ⟨w.heap.size, 66, none⟩))) (by rw [hD]; rfl) (hall 9 (by decide))
    have h24 : ac.eval (.tmp 24) = .slice P m d1 := hF.done 10 (24, SP.is (.slice P m d1)) (by rw [hD]; rfl) (hall 10 (by decide))
    have h25 : ac.eval (.tmp 25) = .int .i64 (m : Int) := hF.done 11 (25, SP.is (.int .i64 (m : Int))) (by rw [hD]; rfl) (hall 11 (by decide))
    have h26 : ac.eval (.tmp 26) = .slice (some ⟨O, 0, none⟩) m (m + 9) := hF.done 12 (26, SP.is (.slice (some ⟨O, 0, none⟩) m (m + 9))) (by rw [hD]; rfl) (hall 12 (by decide))
    have h27 : ac.eval (.tmp 27) = .int .i64 E1 := hF.done 13 (27, SP.is (.int .i64 E1)) (by rw [hD]; rfl) (hall 13 (by decide))
    have h5 : ac.eval (.tmp 5) = .int .i64 E1 := hF.done 14 (5, SP.is (.int .i64 E1)) (by rw [hD]; rfl) (hall 14 (by decide))
    have ea := hF.lay [(14, .pointer (some ⟨w.heap.size, 0, none⟩)), (15, .agg (vB was).toArray), (16, .pointer (some ⟨w.heap.size, 32, none⟩)), (17, .int .i64 n), (18, .pointer (some ⟨w.heap.size, 33, none⟩)), (19, .agg (vB root).toArray), (20, .pointer (some ⟨w.heap.size, 65, none⟩)), (21, .int .i64 i), (22, .slice (some ⟨O, 0, none⟩) (m + 9) (m + 9)), (23, .pointer (some ⟨w.heap.size, 66, none⟩)), (24, .slice P m d1), (25, .int .i64 (m : Int)), (26, .slice (some ⟨O, 0, none⟩) m (m + 9)), (27, .int .i64 E1), (5, .int .i64 E1)] (by rw [hD, hsz]; rfl) (by simp only [List.forall_mem_cons, List.not_mem_nil, false_implies, implies_true, and_true]; exact ⟨h14, h15, h16, h17, h18, h19, h20, h21, h22, h23, h24, h25, h26, h27, h5⟩)
    rw [ha0] at ea
    simp only [List.foldl_cons, List.foldl_nil, List.setIfInBounds_toArray, List.set_cons_zero, List.set_cons_succ] at ea
    clear hF hall hr hl hD  zs1 zs4 ha0 hsz h14 h15 h16 h17 h18 h19 h20 h21 h22 h23 h24 h25 h26 h27 h5
    subst ea
    clear HC1
    have g66 := K66.out W hb
    go_wp2_with fail
    clear g66
    refine (HKO.out W ro (KP.out W hb)).mono ?_
    rintro e V3 ⟨rfl, hB⟩
    replace ro := Row.below ro hB (Row.lt ro)
    replace hb := hb.trans (hB.mono hb.size)
    clear hB HKO
    have q0 := KQ.out V3 hb
    have q2 := KR.out V3 hb
    have g32 := K32.out V3 hb
    have g65 := K65.out V3 hb
    have g66 := K66.out V3 hb
    go_wp2_with (first
      | (refine wpList_load_w rfl 24 (.tmp 32) rfl w.heap.size 0 rfl (vB was) _ q0 Tryd.underlying24 rfl Hw.info ?_; simp only [Act.put, List.setIfInBounds_toArray, List.set_cons_zero, List.set_cons_succ])
      | (refine wpList_load_w rfl 24 (.tmp 36) rfl w.heap.size 33 rfl (vB root) _ q2 Tryd.underlying24 rfl Hr.info ?_; simp only [Act.put, List.setIfInBounds_toArray, List.set_cons_zero, List.set_cons_succ]))
    clear q0 q2 g32 g65 g66
    refine (rgrew_e n i was root ds E1 HE1.out Hw Hr m EM.out P d1 V3 (KG.out V3 hb) (KP.out V3 hb)).mono ?_
    rintro e V5 ⟨rfl, hB⟩
    replace ro := Row.below ro hB (Row.lt ro)
    replace hb := hb.trans (hB.mono hb.size)
    clear hB
    have g66 := K66.out V5 hb
    go_wp2_with (refine wpList_slice_upto rfl 42 24 (.tmp 43) (.tmp 46) O 0 (m + 9) (m + 9) m 32 rfl rfl rfl (by omega) Tryd.underlying42 info_dig ?_; simp only [Act.put, List.setIfInBounds_toArray, List.set_cons_zero, List.set_cons_succ])
    clear g66
    refine (turnd_any bo m (m + 9) O (by rw [HBO.out]; omega) HDS.out V5 ro).mono ?_
    rintro e V6 ⟨rfl, ⟨bo2, hbo2, ro2⟩, hBt⟩
    replace hb := But.below hb hBt oO hb.size
    clear ro hBt
    obtain ⟨ds2, l2, h2, e2⟩ := chunks m bo2 (by rw [hbo2, HBO.out]; omega)
    have HPO2 : Hid (∀ W, Row W O (vB bo2) 24 → PAt W (.slice (some ⟨O, 0, none⟩) m (m + 9)) ds2) := fun W r => pat_row r ds2 m (m + 9) l2 h2 e2 (by omega)
    obtain ⟨E2, hE2⟩ : ∃ E2, E2 = gw was root n i ds2 := ⟨_, rfl⟩
    have HE2 : Hid (E2 = _) := hE2
    have EM2 : Hid (ds2.length = m) := l2
    clear hE2 l2 h2 e2 hbo2 HBO HPO HE1 EM HU
    generalize bo2 = bo at *
    have ro := ro2
    clear ro2
    have HC1 : Hid (∀ W, Below W0.heap.size W0 W → Row W O (vB bo) 24 → _) := fun W (hB : Below W0.heap.size W0 W) (ro : Row W O (vB bo) 24) => rgrew_e n i was root ds2 E2 HE2.out Hw Hr m EM2.out (some ⟨O, 0, none⟩) (m + 9) W (KG.out W hB) (HPO2.out W ro)
    have HC2 : Hid (∀ W, Below W0.heap.size W0 W → Row W O (vB bo) 24 → _) := fun W (hB : Below W0.heap.size W0 W) (ro : Row W O (vB bo) 24) => grew_e n i was root ds2 E2 HE2.out Hw Hr m EM2.out (some ⟨O, 0, none⟩) (m + 9) W (KG.out W hB).cub (HPO2.out W ro)
    go_wp2_with fail
    refine wp_named fun a0 ha0 => ?_
    have hsz : a0.tmps.size = 91 := by rw [ha0]; rfl
    have zs1 : a0.eval (.tmp 1) = .pointer (some ⟨w.heap.size, 0, none⟩) := by rw [ha0]; rfl
    have zs4 : a0.eval (.tmp 4) = .slice (some ⟨O, 0, none⟩) (m + 9) (m + 9) := by rw [ha0]; rfl
    obtain ⟨D, hD⟩ : ∃ D : List (Tmp × SP), D = [(49, SP.is (.pointer (some ⟨w.heap.size, 0, none⟩))), (50, SP.is (.agg (vB was).toArray)), (51, SP.is (.pointer (some ⟨w.heap.size, 32, none⟩))), (52, SP.is (.int .i64 n)), (53, SP.is (.pointer (some ⟨w.heap.size, 33, none⟩))), (54, SP.is (.agg (vB root).toArray)), (55, SP.is (.pointer (some ⟨w.heap.size, 65, none⟩))), (56, SP.is (.int .i64 i)), (57, SP.is (.slice (some ⟨O, 0, none⟩) (m + 9) (m + 9))), (58, SP.is (.pointer (some ⟨w.heap.size, 66, none⟩))), (59, SP.is (.slice P m d1)), (60, SP.is (.int .i64 (m : Int))), (61, SP.is (.slice (some ⟨O, 0, none⟩) m (m + 9))), (62, SP.is (.int .i64 E2)), (8, SP.is (.int .i64 E2))] := ⟨_, rfl⟩
    refine wp_region_down (by kernel_rfl) (fun listed ac W => listed.size = 15 ∧ Fp D a0 listed ac W ∧ Below W0.heap.size W0 W ∧ Row W O ((vB bo)) 24) ?_ ?_ ?_
    · exact ⟨by simp, Fp.start D a0 _ _, Below.drew hb, Row.drew ro⟩
    · clear ha0 hb ro 
      intro listed ac W k hI hdn hk
      obtain ⟨hl, hF, hb, ro⟩ := hI
      have hk1 : k < 15 := List.mem_range.1 (List.mem_filter.1 hk).1
      have hl2 : ∀ j, (listed.setIfInBounds j true).size = 15 := fun j => by rw [Array.size_setIfInBounds]; exact hl
      rcases (show k = 0 ∨ k = 1 ∨ k = 2 ∨ k = 3 ∨ k = 4 ∨ k = 5 ∨ k = 6 ∨ k = 7 ∨ k = 8 ∨ k = 9 ∨ k = 10 ∨ k = 11 ∨ k = 12 ∨ k = 13 ∨ k = 14 by omega) with rfl | rfl | rfl | rfl | rfl | rfl | rfl | rfl | rfl | rfl | rfl | rfl | rfl | rfl | rfl
      · have hk3 := hk
        have ea := ((hF.keep 1 (by rw [hD]; rfl)).trans zs1)
        exact wpOp_plain rfl rfl (wp_fp0 w.heap.size rfl ea ⟨hl2 0, (hF.put 0 49 (SP.is (.pointer (some ⟨w.heap.size, 0, none⟩))) (.pointer (some ⟨w.heap.size, 0, none⟩)) (by rw [hD]; rfl) rfl (by rw [hD]; rfl) (by rw [hsz]; decide) (by rw [hl]; decide)), hb, ro⟩)
      · have hk3 := hk
        have ea := (hF.done 0 (49, SP.is (.pointer (some ⟨w.heap.size, 0, none⟩))) (by rw [hD]; rfl) (ready_dep hk 0 (by kernel_rfl)))
        exact wpOp_plain rfl rfl (wp_load_mid 24 (.tmp 49) rfl w.heap.size 0 ea (vB was) _ (KQ.out W hb) Tryd.underlying24 rfl Hw.info ⟨hl2 1, (hF.put 1 50 (SP.is (.agg (vB was).toArray)) (.agg (vB was).toArray) (by rw [hD]; rfl) rfl (by rw [hD]; rfl) (by rw [hsz]; decide) (by rw [hl]; decide)), hb, ro⟩)
      · have hk3 := hk
        have ea := ((hF.keep 1 (by rw [hD]; rfl)).trans zs1)
        exact wpOp_plain rfl rfl (wp_fp1 w.heap.size rfl ea ⟨hl2 2, (hF.put 2 51 (SP.is (.pointer (some ⟨w.heap.size, 32, none⟩))) (.pointer (some ⟨w.heap.size, 32, none⟩)) (by rw [hD]; rfl) rfl (by rw [hD]; rfl) (by rw [hsz]; decide) (by rw [hl]; decide)), hb, ro⟩)
      · have hk3 := hk
        have ea := (hF.done 2 (51, SP.is (.pointer (some ⟨w.heap.size, 32, none⟩))) (by rw [hD]; rfl) (ready_dep hk 2 (by kernel_rfl)))
        exact wpOp_plain rfl rfl (wp_load_1 w.heap.size 32 (.int .i64 n) rfl ea (run_load_i W w.heap.size 32 _ (K32.out W hb)) ⟨hl2 3, (hF.put 3 52 (SP.is (.int .i64 n)) (.int .i64 n) (by rw [hD]; rfl) rfl (by rw [hD]; rfl) (by rw [hsz]; decide) (by rw [hl]; decide)), hb, ro⟩)
      · have hk3 := hk
        have ea := ((hF.keep 1 (by rw [hD]; rfl)).trans zs1)
        exact wpOp_plain rfl rfl (wp_fp2 w.heap.size rfl ea ⟨hl2 4, (hF.put 4 53 (SP.is (.pointer (some ⟨w.heap.size, 33, none⟩))) (.pointer (some ⟨w.heap.size, 33, none⟩)) (by rw [hD]; rfl) rfl (by rw [hD]; rfl) (by rw [hsz]; decide) (by rw [hl]; decide)), hb, ro⟩)
      · have hk3 := hk
        have ea := (hF.done 4 (53, SP.is (.pointer (some ⟨w.heap.size, 33, none⟩))) (by rw [hD]; rfl) (ready_dep hk 4 (by kernel_rfl)))
        exact wpOp_plain rfl rfl (wp_load_mid 24 (.tmp 53) rfl w.heap.size 33 ea (vB root) _ (KR.out W hb) Tryd.underlying24 rfl Hr.info ⟨hl2 5, (hF.put 5 54 (SP.is (.agg (vB root).toArray)) (.agg (vB root).toArray) (by rw [hD]; rfl) rfl (by rw [hD]; rfl) (by rw [hsz]; decide) (by rw [hl]; decide)), hb, ro⟩)
      · have hk3 := hk
        have ea := ((hF.keep 1 (by rw [hD]; rfl)).trans zs1)
        exact wpOp_plain rfl rfl (wp_fp3 w.heap.size rfl ea ⟨hl2 6, (hF.put 6 55 (SP.is (.pointer (some ⟨w.heap.size, 65, none⟩))) (.pointer (some ⟨w.heap.size, 65, none⟩)) (by rw [hD]; rfl) rfl (by rw [hD]; rfl) (by rw [hsz]; decide) (by rw [hl]; decide)), hb, ro⟩)
      · have hk3 := hk
        have ea := (hF.done 6 (55, SP.is (.pointer (some ⟨w.heap.size, 65, none⟩))) (by rw [hD]; rfl) (ready_dep hk 6 (by kernel_rfl)))
        exact wpOp_plain rfl rfl (wp_load_1 w.heap.size 65 (.int .i64 i) rfl ea (run_load_i W w.heap.size 65 _ (K65.out W hb)) ⟨hl2 7, (hF.put 7 56 (SP.is (.int .i64 i)) (.int .i64 i) (by rw [hD]; rfl) rfl (by rw [hD]; rfl) (by rw [hsz]; decide) (by rw [hl]; decide)), hb, ro⟩)
      · have hk3 := hk
        exact wpOp_plain rfl rfl (wp_move_v (ac.eval (.tmp 4)) rfl rfl ⟨hl2 8, (hF.put 8 57 (SP.is (.slice (some ⟨O, 0, none⟩) (m + 9) (m + 9))) (ac.eval (.tmp 4)) (by rw [hD]; rfl) (((hF.keep 4 (by rw [hD]; rfl)).trans zs4)) (by rw [hD]; rfl) (by rw [hsz]; decide) (by rw [hl]; decide)), hb, ro⟩)
      · have hk3 := hk
        have ea := ((hF.keep 1 (by rw [hD]; rfl)).trans zs1)
        exact wpOp_plain rfl rfl (wp_fp4 w.heap.size rfl ea ⟨hl2 9, (hF.put 9 58 (SP.is (.pointer (some ⟨w.heap.size, 66, none⟩))) (.pointer (some ⟨w.heap.size, 66, none⟩)) (by rw [hD]; rfl) rfl (by rw [hD]; rfl) (by rw [hsz]; decide) (by rw [hl]; decide)), hb, ro⟩)
      · have hk3 := hk
        have ea := (hF.done 9 (58, SP.is (.pointer (some ⟨w.heap.size, 66, none⟩))) (by rw [hD]; rfl) (ready_dep hk 9 (by kernel_rfl)))
        exact wpOp_plain rfl rfl (wp_load_1 w.heap.size 66 (.slice P m d1) rfl ea (run_load_ds W w.heap.size 66 _ (K66.out W hb)) ⟨hl2 10, (hF.put 10 59 (SP.is (.slice P m d1)) (.slice P m d1) (by rw [hD]; rfl) rfl (by rw [hD]; rfl) (by rw [hsz]; decide) (by rw [hl]; decide)), hb, ro⟩)
      · have hk3 := hk
        have ea := (hF.done 10 (59, SP.is (.slice P m d1)) (by rw [hD]; rfl) (ready_dep hk 10 (by kernel_rfl)))
        exact wpOp_plain rfl rfl (wp_len_ds P m d1 rfl ea ⟨hl2 11, (hF.put 11 60 (SP.is (.int .i64 (m : Int))) (.int .i64 (m : Int)) (by rw [hD]; rfl) rfl (by rw [hD]; rfl) (by rw [hsz]; decide) (by rw [hl]; decide)), hb, ro⟩)
      · have hk3 := hk
        have ea := (hF.done 8 (57, SP.is (.slice (some ⟨O, 0, none⟩) (m + 9) (m + 9))) (by rw [hD]; rfl) (ready_dep hk 8 (by kernel_rfl)))
        have eb := (hF.done 11 (60, SP.is (.int .i64 (m : Int))) (by rw [hD]; rfl) (ready_dep hk 11 (by kernel_rfl)))
        exact wpOp_plain rfl rfl (wp_slice_upto 42 24 (.tmp 57) (.tmp 60) O 0 (m + 9) (m + 9) m 32 rfl ea eb (by omega) Tryd.underlying42 info_dig ⟨hl2 12, (hF.put 12 61 (SP.is (.slice (some ⟨O, 0, none⟩) m (m + 9))) (.slice (some ⟨O, 0, none⟩) m (m + 9)) (by rw [hD]; rfl) rfl (by rw [hD]; rfl) (by rw [hsz]; decide) (by rw [hl]; decide)), hb, ro⟩)
      · have hk3 := hk
        have ea := (hF.done 1 (50, SP.is (.agg (vB was).toArray)) (by rw [hD]; rfl) (ready_dep hk 1 (by kernel_rfl)))
        have eb := (hF.done 3 (52, SP.is (.int .i64 n)) (by rw [hD]; rfl) (ready_dep hk 3 (by kernel_rfl)))
        have ec := (hF.done 5 (54, SP.is (.agg (vB root).toArray)) (by rw [hD]; rfl) (ready_dep hk 5 (by kernel_rfl)))
        have ed := (hF.done 7 (56, SP.is (.int .i64 i)) (by rw [hD]; rfl) (ready_dep hk 7 (by kernel_rfl)))
        have ee := (hF.done 12 (61, SP.is (.slice (some ⟨O, 0, none⟩) m (m + 9))) (by rw [hD]; rfl) (ready_dep hk 12 (by kernel_rfl)))
        refine wpOp_plain rfl rfl (wp_fcall_v 35 #[.agg (vB was).toArray, .int .i64 n, .agg (vB root).toArray, .int .i64 i, .slice (some ⟨O, 0, none⟩) m (m + 9)] rfl rfl (by show [ac.eval (.tmp 50), ac.eval (.tmp 52), ac.eval (.tmp 54), ac.eval (.tmp 56), ac.eval (.tmp 61)] = _; rw [show ac.eval (.tmp 50) = _ from ea, show ac.eval (.tmp 52) = _ from eb, show ac.eval (.tmp 54) = _ from ec, show ac.eval (.tmp 56) = _ from ed, show ac.eval (.tmp 61) = _ from ee]) (by go_simp) ((HC1.out W hb ro).mono ?_))
        rintro e W2 ⟨rfl, hB⟩
        exact ⟨_, rfl, hl2 13, ((hF.world hB).put 13 62 (SP.is (.int .i64 E2)) (.int .i64 E2) (by rw [hD]; rfl) rfl (by rw [hD]; rfl) (by rw [hsz]; decide) (by rw [hl]; decide)), hb.trans (hB.mono hb.size), Row.below ro hB (Row.lt ro)⟩
      · have hk3 := hk
        exact wpOp_plain rfl rfl (wp_assign_v (ac.eval (.tmp 62)) rfl rfl ⟨hl2 14, (hF.put 14 8 (SP.is (.int .i64 E2)) (ac.eval (.tmp 62)) (by rw [hD]; rfl) ((hF.done 13 (62, SP.is (.int .i64 E2)) (by rw [hD]; rfl) (ready_dep hk 13 (by kernel_rfl)))) (by rw [hD]; rfl) (by rw [hsz]; decide) (by rw [hl]; decide)), hb, ro⟩)
    · clear hb ro 
      intro listed ac W hI hr
      obtain ⟨hl, hF, hb, ro⟩ := hI
      have hall := all_listed (by kernel_rfl) hl hr
      have h49 : ac.eval (.tmp 49) = .pointer (some ⟨w.heap.size, 0, none⟩) := hF.done 0 (49, SP.is (.pointer (some ⟨w.heap.size, 0, none⟩))) (by rw [hD]; rfl) (hall 0 (by decide))
      have h50 : ac.eval (.tmp 50) = .agg (vB was).toArray := hF.done 1 (50, SP.is (.agg (vB was).toArray)) (by rw [hD]; rfl) (hall 1 (by decide))
      have h51 : ac.eval (.tmp 51) = .pointer (some ⟨w.heap.size, 32, none⟩) := hF.done 2 (51, SP.is (.pointer (some ⟨w.heap.size, 32, none⟩))) (by rw [hD]; rfl) (hall 2 (by decide))
      have h52 : ac.eval (.tmp 52) = .int .i64 n := hF.done 3 (52, SP.is (.int .i64 n)) (by rw [hD]; rfl) (hall 3 (by decide))
      have h53 : ac.eval (.tmp 53) = .pointer (some ⟨w.heap.size, 33, none⟩) := hF.done 4 (53, SP.is (.pointer (some ⟨w.heap.size, 33, none⟩))) (by rw [hD]; rfl) (hall 4 (by decide))
      have h54 : ac.eval (.tmp 54) = .agg (vB root).toArray := hF.done 5 (54, SP.is (.agg (vB root).toArray)) (by rw [hD]; rfl) (hall 5 (by decide))
      have h55 : ac.eval (.tmp 55) = .pointer (some ⟨w.heap.size, 65, none⟩) := hF.done 6 (55, SP.is (.pointer (some ⟨w.heap.size, 65, none⟩))) (by rw [hD]; rfl) (hall 6 (by decide))
      have h56 : ac.eval (.tmp 56) = .int .i64 i := hF.done 7 (56, SP.is (.int .i64 i)) (by rw [hD]; rfl) (hall 7 (by decide))
      have h57 : ac.eval (.tmp 57) = .slice (some ⟨O, 0, none⟩) (m + 9) (m + 9) := hF.done 8 (57, SP.is (.slice (some ⟨O, 0, none⟩) (m + 9) (m + 9))) (by rw [hD]; rfl) (hall 8 (by decide))
      have h58 : ac.eval (.tmp 58) = .pointer (some ⟨w.heap.size, 66, none⟩) := hF.done 9 (58, SP.is (.pointer (some ⟨w.heap.size, 66, none⟩))) (by rw [hD]; rfl) (hall 9 (by decide))
      have h59 : ac.eval (.tmp 59) = .slice P m d1 := hF.done 10 (59, SP.is (.slice P m d1)) (by rw [hD]; rfl) (hall 10 (by decide))
      have h60 : ac.eval (.tmp 60) = .int .i64 (m : Int) := hF.done 11 (60, SP.is (.int .i64 (m : Int))) (by rw [hD]; rfl) (hall 11 (by decide))
      have h61 : ac.eval (.tmp 61) = .slice (some ⟨O, 0, none⟩) m (m + 9) := hF.done 12 (61, SP.is (.slice (some ⟨O, 0, none⟩) m (m + 9))) (by rw [hD]; rfl) (hall 12 (by decide))
      have h62 : ac.eval (.tmp 62) = .int .i64 E2 := hF.done 13 (62, SP.is (.int .i64 E2)) (by rw [hD]; rfl) (hall 13 (by decide))
      have h8 : ac.eval (.tmp 8) = .int .i64 E2 := hF.done 14 (8, SP.is (.int .i64 E2)) (by rw [hD]; rfl) (hall 14 (by decide))
      have ea := hF.lay [(49, .pointer (some ⟨w.heap.size, 0, none⟩)), (50, .agg (vB was).toArray), (51, .pointer (some ⟨w.heap.size, 32, none⟩)), (52, .int .i64 n), (53, .pointer (some ⟨w.heap.size, 33, none⟩)), (54, .agg (vB root).toArray), (55, .pointer (some ⟨w.heap.size, 65, none⟩)), (56, .int .i64 i), (57, .slice (some ⟨O, 0, none⟩) (m + 9) (m + 9)), (58, .pointer (some ⟨w.heap.size, 66, none⟩)), (59, .slice P m d1), (60, .int .i64 (m : Int)), (61, .slice (some ⟨O, 0, none⟩) m (m + 9)), (62, .int .i64 E2), (8, .int .i64 E2)] (by rw [hD, hsz]; rfl) (by simp only [List.forall_mem_cons, List.not_mem_nil, false_implies, implies_true, and_true]; exact ⟨h49, h50, h51, h52, h53, h54, h55, h56, h57, h58, h59, h60, h61, h62, h8⟩)
      rw [ha0] at ea
      simp only [List.foldl_cons, List.foldl_nil, List.setIfInBounds_toArray, List.set_cons_zero, List.set_cons_succ] at ea
      clear hF hall hr hl hD  zs1 zs4 ha0 hsz h49 h50 h51 h52 h53 h54 h55 h56 h57 h58 h59 h60 h61 h62 h8
      subst ea
      clear HC1
      generalize W = W9 at *
      go_wp2_with fail
      refine wp_named fun a0 ha0 => ?_
      have hsz : a0.tmps.size = 91 := by rw [ha0]; rfl
      have zs1 : a0.eval (.tmp 1) = .pointer (some ⟨w.heap.size, 0, none⟩) := by rw [ha0]; rfl
      have zs4 : a0.eval (.tmp 4) = .slice (some ⟨O, 0, none⟩) (m + 9) (m + 9) := by rw [ha0]; rfl
      obtain ⟨D, hD⟩ : ∃ D : List (Tmp × SP), D = [(63, SP.is (.pointer (some ⟨w.heap.size, 0, none⟩))), (64, SP.is (.agg (vB was).toArray)), (65, SP.is (.pointer (some ⟨w.heap.size, 32, none⟩))), (66, SP.is (.int .i64 n)), (67, SP.is (.pointer (some ⟨w.heap.size, 33, none⟩))), (68, SP.is (.agg (vB root).toArray)), (69, SP.is (.pointer (some ⟨w.heap.size, 65, none⟩))), (70, SP.is (.int .i64 i)), (71, SP.is (.slice (some ⟨O, 0, none⟩) (m + 9) (m + 9))), (72, SP.is (.pointer (some ⟨w.heap.size, 66, none⟩))), (73, SP.is (.slice P m d1)), (74, SP.is (.int .i64 (m : Int))), (75, SP.is (.slice (some ⟨O, 0, none⟩) m (m + 9))), (76, SP.is (.int .i64 E2)), (9, SP.is (.int .i64 E2))] := ⟨_, rfl⟩
      refine wp_region_down (by kernel_rfl) (fun listed ac W => listed.size = 15 ∧ Fp D a0 listed ac W ∧ Below W0.heap.size W0 W ∧ Row W O ((vB bo)) 24) ?_ ?_ ?_
      · exact ⟨by simp, Fp.start D a0 _ _, Below.drew hb, Row.drew ro⟩
      · clear ha0 hb ro 
        intro listed ac W k hI hdn hk
        obtain ⟨hl, hF, hb, ro⟩ := hI
        have hk1 : k < 15 := List.mem_range.1 (List.mem_filter.1 hk).1
        have hl2 : ∀ j, (listed.setIfInBounds j true).size = 15 := fun j => by rw [Array.size_setIfInBounds]; exact hl
        rcases (show k = 0 ∨ k = 1 ∨ k = 2 ∨ k = 3 ∨ k = 4 ∨ k = 5 ∨ k = 6 ∨ k = 7 ∨ k = 8 ∨ k = 9 ∨ k = 10 ∨ k = 11 ∨ k = 12 ∨ k = 13 ∨ k = 14 by omega) with rfl | rfl | rfl | rfl | rfl | rfl | rfl | rfl | rfl | rfl | rfl | rfl | rfl | rfl | rfl
        · have hk3 := hk
          have ea := ((hF.keep 1 (by rw [hD]; rfl)).trans zs1)
          exact wpOp_plain rfl rfl (wp_fp0 w.heap.size rfl ea ⟨hl2 0, (hF.put 0 63 (SP.is (.pointer (some ⟨w.heap.size, 0, none⟩))) (.pointer (some ⟨w.heap.size, 0, none⟩)) (by rw [hD]; rfl) rfl (by rw [hD]; rfl) (by rw [hsz]; decide) (by rw [hl]; decide)), hb, ro⟩)
        · have hk3 := hk
          have ea := (hF.done 0 (63, SP.is (.pointer (some ⟨w.heap.size, 0, none⟩))) (by rw [hD]; rfl) (ready_dep hk 0 (by kernel_rfl)))
          exact wpOp_plain rfl rfl (wp_load_mid 24 (.tmp 63) rfl w.heap.size 0 ea (vB was) _ (KQ.out W hb) Tryd.underlying24 rfl Hw.info ⟨hl2 1, (hF.put 1 64 (SP.is (.agg (vB was).toArray)) (.agg (vB was).toArray) (by rw [hD]; rfl) rfl (by rw [hD]; rfl) (by rw [hsz]; decide) (by rw [hl]; decide)), hb, ro⟩)
        · have hk3 := hk
          have ea := ((hF.keep 1 (by rw [hD]; rfl)).trans zs1)
          exact wpOp_plain rfl rfl (wp_fp1 w.heap.size rfl ea ⟨hl2 2, (hF.put 2 65 (SP.is (.pointer (some ⟨w.heap.size, 32, none⟩))) (.pointer (some ⟨w.heap.size, 32, none⟩)) (by rw [hD]; rfl) rfl (by rw [hD]; rfl) (by rw [hsz]; decide) (by rw [hl]; decide)), hb, ro⟩)
        · have hk3 := hk
          have ea := (hF.done 2 (65, SP.is (.pointer (some ⟨w.heap.size, 32, none⟩))) (by rw [hD]; rfl) (ready_dep hk 2 (by kernel_rfl)))
          exact wpOp_plain rfl rfl (wp_load_1 w.heap.size 32 (.int .i64 n) rfl ea (run_load_i W w.heap.size 32 _ (K32.out W hb)) ⟨hl2 3, (hF.put 3 66 (SP.is (.int .i64 n)) (.int .i64 n) (by rw [hD]; rfl) rfl (by rw [hD]; rfl) (by rw [hsz]; decide) (by rw [hl]; decide)), hb, ro⟩)
        · have hk3 := hk
          have ea := ((hF.keep 1 (by rw [hD]; rfl)).trans zs1)
          exact wpOp_plain rfl rfl (wp_fp2 w.heap.size rfl ea ⟨hl2 4, (hF.put 4 67 (SP.is (.pointer (some ⟨w.heap.size, 33, none⟩))) (.pointer (some ⟨w.heap.size, 33, none⟩)) (by rw [hD]; rfl) rfl (by rw [hD]; rfl) (by rw [hsz]; decide) (by rw [hl]; decide)), hb, ro⟩)
        · have hk3 := hk
          have ea := (hF.done 4 (67, SP.is (.pointer (some ⟨w.heap.size, 33, none⟩))) (by rw [hD]; rfl) (ready_dep hk 4 (by kernel_rfl)))
          exact wpOp_plain rfl rfl (wp_load_mid 24 (.tmp 67) rfl w.heap.size 33 ea (vB root) _ (KR.out W hb) Tryd.underlying24 rfl Hr.info ⟨hl2 5, (hF.put 5 68 (SP.is (.agg (vB root).toArray)) (.agg (vB root).toArray) (by rw [hD]; rfl) rfl (by rw [hD]; rfl) (by rw [hsz]; decide) (by rw [hl]; decide)), hb, ro⟩)
        · have hk3 := hk
          have ea := ((hF.keep 1 (by rw [hD]; rfl)).trans zs1)
          exact wpOp_plain rfl rfl (wp_fp3 w.heap.size rfl ea ⟨hl2 6, (hF.put 6 69 (SP.is (.pointer (some ⟨w.heap.size, 65, none⟩))) (.pointer (some ⟨w.heap.size, 65, none⟩)) (by rw [hD]; rfl) rfl (by rw [hD]; rfl) (by rw [hsz]; decide) (by rw [hl]; decide)), hb, ro⟩)
        · have hk3 := hk
          have ea := (hF.done 6 (69, SP.is (.pointer (some ⟨w.heap.size, 65, none⟩))) (by rw [hD]; rfl) (ready_dep hk 6 (by kernel_rfl)))
          exact wpOp_plain rfl rfl (wp_load_1 w.heap.size 65 (.int .i64 i) rfl ea (run_load_i W w.heap.size 65 _ (K65.out W hb)) ⟨hl2 7, (hF.put 7 70 (SP.is (.int .i64 i)) (.int .i64 i) (by rw [hD]; rfl) rfl (by rw [hD]; rfl) (by rw [hsz]; decide) (by rw [hl]; decide)), hb, ro⟩)
        · have hk3 := hk
          exact wpOp_plain rfl rfl (wp_move_v (ac.eval (.tmp 4)) rfl rfl ⟨hl2 8, (hF.put 8 71 (SP.is (.slice (some ⟨O, 0, none⟩) (m + 9) (m + 9))) (ac.eval (.tmp 4)) (by rw [hD]; rfl) (((hF.keep 4 (by rw [hD]; rfl)).trans zs4)) (by rw [hD]; rfl) (by rw [hsz]; decide) (by rw [hl]; decide)), hb, ro⟩)
        · have hk3 := hk
          have ea := ((hF.keep 1 (by rw [hD]; rfl)).trans zs1)
          exact wpOp_plain rfl rfl (wp_fp4 w.heap.size rfl ea ⟨hl2 9, (hF.put 9 72 (SP.is (.pointer (some ⟨w.heap.size, 66, none⟩))) (.pointer (some ⟨w.heap.size, 66, none⟩)) (by rw [hD]; rfl) rfl (by rw [hD]; rfl) (by rw [hsz]; decide) (by rw [hl]; decide)), hb, ro⟩)
        · have hk3 := hk
          have ea := (hF.done 9 (72, SP.is (.pointer (some ⟨w.heap.size, 66, none⟩))) (by rw [hD]; rfl) (ready_dep hk 9 (by kernel_rfl)))
          exact wpOp_plain rfl rfl (wp_load_1 w.heap.size 66 (.slice P m d1) rfl ea (run_load_ds W w.heap.size 66 _ (K66.out W hb)) ⟨hl2 10, (hF.put 10 73 (SP.is (.slice P m d1)) (.slice P m d1) (by rw [hD]; rfl) rfl (by rw [hD]; rfl) (by rw [hsz]; decide) (by rw [hl]; decide)), hb, ro⟩)
        · have hk3 := hk
          have ea := (hF.done 10 (73, SP.is (.slice P m d1)) (by rw [hD]; rfl) (ready_dep hk 10 (by kernel_rfl)))
          exact wpOp_plain rfl rfl (wp_len_ds P m d1 rfl ea ⟨hl2 11, (hF.put 11 74 (SP.is (.int .i64 (m : Int))) (.int .i64 (m : Int)) (by rw [hD]; rfl) rfl (by rw [hD]; rfl) (by rw [hsz]; decide) (by rw [hl]; decide)), hb, ro⟩)
        · have hk3 := hk
          have ea := (hF.done 8 (71, SP.is (.slice (some ⟨O, 0, none⟩) (m + 9) (m + 9))) (by rw [hD]; rfl) (ready_dep hk 8 (by kernel_rfl)))
          have eb := (hF.done 11 (74, SP.is (.int .i64 (m : Int))) (by rw [hD]; rfl) (ready_dep hk 11 (by kernel_rfl)))
          exact wpOp_plain rfl rfl (wp_slice_upto 42 24 (.tmp 71) (.tmp 74) O 0 (m + 9) (m + 9) m 32 rfl ea eb (by omega) Tryd.underlying42 info_dig ⟨hl2 12, (hF.put 12 75 (SP.is (.slice (some ⟨O, 0, none⟩) m (m + 9))) (.slice (some ⟨O, 0, none⟩) m (m + 9)) (by rw [hD]; rfl) rfl (by rw [hD]; rfl) (by rw [hsz]; decide) (by rw [hl]; decide)), hb, ro⟩)
        · have hk3 := hk
          have ea := (hF.done 1 (64, SP.is (.agg (vB was).toArray)) (by rw [hD]; rfl) (ready_dep hk 1 (by kernel_rfl)))
          have eb := (hF.done 3 (66, SP.is (.int .i64 n)) (by rw [hD]; rfl) (ready_dep hk 3 (by kernel_rfl)))
          have ec := (hF.done 5 (68, SP.is (.agg (vB root).toArray)) (by rw [hD]; rfl) (ready_dep hk 5 (by kernel_rfl)))
          have ed := (hF.done 7 (70, SP.is (.int .i64 i)) (by rw [hD]; rfl) (ready_dep hk 7 (by kernel_rfl)))
          have ee := (hF.done 12 (75, SP.is (.slice (some ⟨O, 0, none⟩) m (m + 9))) (by rw [hD]; rfl) (ready_dep hk 12 (by kernel_rfl)))
          refine wpOp_plain rfl rfl (wp_fcall_v 34 #[.agg (vB was).toArray, .int .i64 n, .agg (vB root).toArray, .int .i64 i, .slice (some ⟨O, 0, none⟩) m (m + 9)] rfl rfl (by show [ac.eval (.tmp 64), ac.eval (.tmp 66), ac.eval (.tmp 68), ac.eval (.tmp 70), ac.eval (.tmp 75)] = _; rw [show ac.eval (.tmp 64) = _ from ea, show ac.eval (.tmp 66) = _ from eb, show ac.eval (.tmp 68) = _ from ec, show ac.eval (.tmp 70) = _ from ed, show ac.eval (.tmp 75) = _ from ee]) (by go_simp) ((HC2.out W hb ro).mono ?_))
          rintro e W2 ⟨rfl, hB⟩
          exact ⟨_, rfl, hl2 13, ((hF.world hB).put 13 76 (SP.is (.int .i64 E2)) (.int .i64 E2) (by rw [hD]; rfl) rfl (by rw [hD]; rfl) (by rw [hsz]; decide) (by rw [hl]; decide)), hb.trans (hB.mono hb.size), Row.below ro hB (Row.lt ro)⟩
        · have hk3 := hk
          exact wpOp_plain rfl rfl (wp_assign_v (ac.eval (.tmp 76)) rfl rfl ⟨hl2 14, (hF.put 14 9 (SP.is (.int .i64 E2)) (ac.eval (.tmp 76)) (by rw [hD]; rfl) ((hF.done 13 (76, SP.is (.int .i64 E2)) (by rw [hD]; rfl) (ready_dep hk 13 (by kernel_rfl)))) (by rw [hD]; rfl) (by rw [hsz]; decide) (by rw [hl]; decide)), hb, ro⟩)
      · clear hb ro 
        intro listed ac W hI hr
        obtain ⟨hl, hF, hb, ro⟩ := hI
        have hall := all_listed (by kernel_rfl) hl hr
        have h63 : ac.eval (.tmp 63) = .pointer (some ⟨w.heap.size, 0, none⟩) := hF.done 0 (63, SP.is (.pointer (some ⟨w.heap.size, 0, none⟩))) (by rw [hD]; rfl) (hall 0 (by decide))
        have h64 : ac.eval (.tmp 64) = .agg (vB was).toArray := hF.done 1 (64, SP.is (.agg (vB was).toArray)) (by rw [hD]; rfl) (hall 1 (by decide))
        have h65 : ac.eval (.tmp 65) = .pointer (some ⟨w.heap.size, 32, none⟩) := hF.done 2 (65, SP.is (.pointer (some ⟨w.heap.size, 32, none⟩))) (by rw [hD]; rfl) (hall 2 (by decide))
        have h66 : ac.eval (.tmp 66) = .int .i64 n := hF.done 3 (66, SP.is (.int .i64 n)) (by rw [hD]; rfl) (hall 3 (by decide))
        have h67 : ac.eval (.tmp 67) = .pointer (some ⟨w.heap.size, 33, none⟩) := hF.done 4 (67, SP.is (.pointer (some ⟨w.heap.size, 33, none⟩))) (by rw [hD]; rfl) (hall 4 (by decide))
        have h68 : ac.eval (.tmp 68) = .agg (vB root).toArray := hF.done 5 (68, SP.is (.agg (vB root).toArray)) (by rw [hD]; rfl) (hall 5 (by decide))
        have h69 : ac.eval (.tmp 69) = .pointer (some ⟨w.heap.size, 65, none⟩) := hF.done 6 (69, SP.is (.pointer (some ⟨w.heap.size, 65, none⟩))) (by rw [hD]; rfl) (hall 6 (by decide))
        have h70 : ac.eval (.tmp 70) = .int .i64 i := hF.done 7 (70, SP.is (.int .i64 i)) (by rw [hD]; rfl) (hall 7 (by decide))
        have h71 : ac.eval (.tmp 71) = .slice (some ⟨O, 0, none⟩) (m + 9) (m + 9) := hF.done 8 (71, SP.is (.slice (some ⟨O, 0, none⟩) (m + 9) (m + 9))) (by rw [hD]; rfl) (hall 8 (by decide))
        have h72 : ac.eval (.tmp 72) = .pointer (some ⟨w.heap.size, 66, none⟩) := hF.done 9 (72, SP.is (.pointer (some ⟨w.heap.size, 66, none⟩))) (by rw [hD]; rfl) (hall 9 (by decide))
        have h73 : ac.eval (.tmp 73) = .slice P m d1 := hF.done 10 (73, SP.is (.slice P m d1)) (by rw [hD]; rfl) (hall 10 (by decide))
        have h74 : ac.eval (.tmp 74) = .int .i64 (m : Int) := hF.done 11 (74, SP.is (.int .i64 (m : Int))) (by rw [hD]; rfl) (hall 11 (by decide))
        have h75 : ac.eval (.tmp 75) = .slice (some ⟨O, 0, none⟩) m (m + 9) := hF.done 12 (75, SP.is (.slice (some ⟨O, 0, none⟩) m (m + 9))) (by rw [hD]; rfl) (hall 12 (by decide))
        have h76 : ac.eval (.tmp 76) = .int .i64 E2 := hF.done 13 (76, SP.is (.int .i64 E2)) (by rw [hD]; rfl) (hall 13 (by decide))
        have h9 : ac.eval (.tmp 9) = .int .i64 E2 := hF.done 14 (9, SP.is (.int .i64 E2)) (by rw [hD]; rfl) (hall 14 (by decide))
        have ea := hF.lay [(63, .pointer (some ⟨w.heap.size, 0, none⟩)), (64, .agg (vB was).toArray), (65, .pointer (some ⟨w.heap.size, 32, none⟩)), (66, .int .i64 n), (67, .pointer (some ⟨w.heap.size, 33, none⟩)), (68, .agg (vB root).toArray), (69, .pointer (some ⟨w.heap.size, 65, none⟩)), (70, .int .i64 i), (71, .slice (some ⟨O, 0, none⟩) (m + 9) (m + 9)), (72, .pointer (some ⟨w.heap.size, 66, none⟩)), (73, .slice P m d1), (74, .int .i64 (m : Int)), (75, .slice (some ⟨O, 0, none⟩) m (m + 9)), (76, .int .i64 E2), (9, .int .i64 E2)] (by rw [hD, hsz]; rfl) (by simp only [List.forall_mem_cons, List.not_mem_nil, false_implies, implies_true, and_true]; exact ⟨h63, h64, h65, h66, h67, h68, h69, h70, h71, h72, h73, h74, h75, h76, h9⟩)
        rw [ha0] at ea
        simp only [List.foldl_cons, List.foldl_nil, List.setIfInBounds_toArray, List.set_cons_zero, List.set_cons_succ] at ea
        clear hF hall hr hl hD  zs1 zs4 ha0 hsz h63 h64 h65 h66 h67 h68 h69 h70 h71 h72 h73 h74 h75 h76 h9
        subst ea
        go_wp2_with fail
        go_ret
        exact ⟨rfl, HB0.out.trans (hb.mono HB0.out.size)⟩

end Go.Proofs.YtnogjhbohljjnaaDoor
