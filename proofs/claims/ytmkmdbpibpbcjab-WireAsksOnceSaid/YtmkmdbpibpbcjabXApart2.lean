/-
  The law's apart, at the other kinds.
-/
import Derived.Test.YtmkmdbpibpbcjabXEq
import Derived.Deep.RegionLaw
namespace Go.Proofs.Ytmkmdbpibpbcjab
open Go Go.RowKit
open Sha

section
variable {ops : Array Oper} {rest : List Oper} {op : Oper} {a : Act} {w : World} {Q : Exit → Act → World → Prop}
theorem wpList_neq_q (hw : Region.wanted op (yielded ops a.tmps) = true) (x y : Operand) (yt : TypeId) (ho : op.op = .binOp .neq 25 x y yt) (l r : List Nat) (hl : l.length = 4) (hr : r.length = 4) (hx : a.eval x = .agg (vQ l).toArray) (hy : a.eval y = .agg (vQ r).toArray) (B : Bool) (hB : (!decide (l = r)) = B)
    (h : wpList Try.prog ops Q rest (a.put op.dst (.bool B)) w) : wpList Try.prog ops Q (op :: rest) a w :=
  BigFrame.wpList_want hw fun K hK => by
    subst hB
    unfold Oper.wp execOp
    simp only [ho, hx, hy, Sem.run_bind, run_eqGuard_agg w .neq _ x y _ _ guard_wide, Result.andThen_ok, run_neq_w w l r hl hr, Sem.run_pure, Oper.upon_value]
    exact hK _ _ h
end
theorem below3 {w w2 W6 W7 : World} (h1 : Below w.heap.size w w2) (h2 : Below (World.drew w2).heap.size (World.drew w2) W6) (h3 : Below W6.heap.size W6 W7) : Below w.heap.size w W7 := by
  have h2' : Below w2.heap.size w2 W6 := ⟨h2.os, h2.tape, h2.output, h2.size, h2.block⟩
  have h4 := h1.trans (h2'.mono h1.size)
  exact h4.trans (h3.mono h4.size)
theorem guard_32 : Try.prog.eqGuardType Try.prog.depth 64 = false := by kernel_rfl
theorem guard_20 : Try.prog.eqGuardType Try.prog.depth 67 = false := by kernel_rfl
theorem stp_neq_b {ops : Array Oper} {o : Oper} {a : Act} {w : World} {K : Act → World → Prop} {Q : Exit → Act → World → Prop} {E : Prop} (hg : o.guard = none) (t : TypeId) (x y : Operand) (yt : TypeId) (ho : o.op = .binOp .neq t x y yt) (n : Nat) (l r : List (BitVec 8)) (hx : a.eval x = .agg (vB l).toArray) (hy : a.eval y = .agg (vB r).toArray) (hl : l.length = n) (hr : r.length = n)
    (ht : Try.prog.underlying t = some (.array n 5)) (hm : Try.prog.eqGuardType Try.prog.depth t = false) (B : Bool) (hB : (!decide (l = r)) = B) (h : K (a.put o.dst (.bool B)) w) : if Region.wanted o (yielded ops a.tmps) = true then Oper.wp Try.prog o a w K Q else E := by
  have hw : Region.wanted o (yielded ops a.tmps) = true := by simp [Region.wanted, hg]
  rw [if_pos hw]
  subst hB
  unfold Oper.wp execOp
  simp only [ho, hx, hy, Sem.run_bind, run_eqGuard_agg w .neq t x y _ _ hm, Result.andThen_ok, run_neq_vB w t 5 n ht Try.underlying5 info_u8 l r hl hr, Sem.run_pure, Oper.upon_value]
  exact h

set_option maxRecDepth 100000 in
set_option maxHeartbeats 2000000 in
theorem apart_4 (N N' : Int) (hN1 : -9223372036854775808 ≤ N) (hN2 : N ≤ 9223372036854775807) (hN1' : -9223372036854775808 ≤ N') (hN2' : N' ≤ 9223372036854775807) (d d' : List (BitVec 8)) (n n' : Nat) (hd : d.length = n) (hd' : d'.length = n') (hn : n ≤ 4194304) (hn' : n' ≤ 4194304) (B B' : Option Addr) (cb cb' : Nat) (m0 m1 m2 m3 p0 p1 p2 p3 : Nat) (u u' : Value) (w : World) (hv : SlAt w (.slice B n cb) d) (hv' : SlAt w (.slice B' n' cb') d') (R : Bool) (hR : ap 4 N N' d d' [m0, m1, m2, m3] [p0, p1, p2, p3] = R) :
    Calls Try.prog 11 #[.agg (sc 4 N (.slice B n cb) m0 m1 m2 m3 u).toArray, .agg (sc 4 N' (.slice B' n' cb') p0 p1 p2 p3 u').toArray] w fun e w' => e = .returned (.bool R) ∧ Below w.heap.size w w' := by
  have hall := And.intro hN1 (And.intro hN2 (And.intro hN1' (And.intro hN2' (And.intro hd (And.intro hd' (And.intro hn (And.intro hn' (And.intro hv hv'))))))))
  clear hall
  obtain ⟨X, hX⟩ : ∃ X, X = (w.alloc (Obj.cells (sc 4 N (.slice B n cb) m0 m1 m2 m3 u).toArray 28)).alloc (Obj.cells (sc 4 N' (.slice B' n' cb') p0 p1 p2 p3 u').toArray 28) := ⟨_, rfl⟩
  have b0 : Below w.heap.size w (w.alloc (Obj.cells (sc 4 N (.slice B n cb) m0 m1 m2 m3 u).toArray 28)) := (Below.refl _ _).alloc (Nat.le_refl _) _
  have b1 : Below w.heap.size w X := by rw [hX]; exact b0.alloc b0.size _
  have r1 : Row X w.heap.size (sc 4 N (.slice B n cb) m0 m1 m2 m3 u) 28 := by rw [hX]; exact (Row.new' rfl rfl).alloc _
  have r2 : Row X (w.heap.size + 1) (sc 4 N' (.slice B' n' cb') p0 p1 p2 p3 u') 28 := by rw [hX]; exact Row.new' (by simp) rfl
  have g0 := r1.cell 0 _ rfl
  have g1 := r1.cell 1 _ rfl
  have g2 := r1.cell 2 _ rfl
  have k1 := r2.cell 1 _ rfl
  have k2 := r2.cell 2 _ rfl
  have HP : Hid (∀ w, _) := fun w => pick_any 4 7 (by decide) (by decide) (by decide) (by decide) w
  rw [show pk 4 7 = 4 from pk_same 4 7 (by decide) (by decide)] at HP
  have HB1 : Hid (Below w.heap.size w X) := b1
  unfold ap at hR
  simp only at hR
  have rng : ∀ j v, (q4 m0 m1 m2 m3)[j]? = some v → (sc 4 N (.slice B n cb) m0 m1 m2 m3 u)[3 + j]? = some v := fun j v hj => by
    rcases (show j = 0 ∨ j = 1 ∨ j = 2 ∨ j = 3 ∨ 4 ≤ j by omega) with rfl | rfl | rfl | rfl | hj4
    · exact hj
    · exact hj
    · exact hj
    · exact hj
    · rw [List.getElem?_eq_none (by simp; omega)] at hj; cases hj
  have rng' : ∀ j v, (q4 p0 p1 p2 p3)[j]? = some v → (sc 4 N' (.slice B' n' cb') p0 p1 p2 p3 u')[3 + j]? = some v := fun j v hj => by
    rcases (show j = 0 ∨ j = 1 ∨ j = 2 ∨ j = 3 ∨ 4 ≤ j by omega) with rfl | rfl | rfl | rfl | hj4
    · exact hj
    · exact hj
    · exact hj
    · exact hj
    · rw [List.getElem?_eq_none (by simp; omega)] at hj; cases hj
  have RW : Hid _ := r1.range 3 (q4 m0 m1 m2 m3) rng
  have RW' : Hid _ := r2.range 3 (q4 p0 p1 p2 p3) rng'
  have HR : Hid (_ = R) := hR
  clear rng rng' hR b0 b1 r1 r2 hv hv' hd hd' 
  go_enter Try.func11, Try.ntmps11
  go_wp2_with fail
  rw [← hX]
  clear hX
  refine (HP.out X).mono ?_
  rintro e w2 ⟨rfl, rfl⟩
  go_wp2_with (first
    | (refine wpList_load_w rfl 25 (.tmp 47) rfl w.heap.size 3 rfl (q4 m0 m1 m2 m3) _ RW.out Try.underlying25 rfl info_q ?_; simp only [Act.put, List.setIfInBounds_toArray, List.set_cons_zero, List.set_cons_succ])
    | (refine wpList_load_w rfl 25 (.tmp 49) rfl (w.heap.size + 1) 3 rfl (q4 p0 p1 p2 p3) _ RW'.out Try.underlying25 rfl info_q ?_; simp only [Act.put, List.setIfInBounds_toArray, List.set_cons_zero, List.set_cons_succ])
    | (refine wpList_neq_q rfl (.tmp 48) (.tmp 50) _ rfl [m0, m1, m2, m3] [p0, p1, p2, p3] rfl rfl rfl rfl R HR.out ?_; simp only [Act.put, List.setIfInBounds_toArray, List.set_cons_zero, List.set_cons_succ]))
  go_ret
  exact ⟨rfl, HB1.out⟩

set_option maxRecDepth 100000 in
set_option maxHeartbeats 2000000 in
theorem apart_5 (N N' : Int) (hN1 : -9223372036854775808 ≤ N) (hN2 : N ≤ 9223372036854775807) (hN1' : -9223372036854775808 ≤ N') (hN2' : N' ≤ 9223372036854775807) (d d' : List (BitVec 8)) (n n' : Nat) (hd : d.length = n) (hd' : d'.length = n') (hn : n ≤ 4194304) (hn' : n' ≤ 4194304) (B B' : Option Addr) (cb cb' : Nat) (m0 m1 m2 m3 p0 p1 p2 p3 : Nat) (u u' : Value) (w : World) (hv : SlAt w (.slice B n cb) d) (hv' : SlAt w (.slice B' n' cb') d') (R : Bool) (hR : ap 5 N N' d d' [m0, m1, m2, m3] [p0, p1, p2, p3] = R) :
    Calls Try.prog 11 #[.agg (sc 5 N (.slice B n cb) m0 m1 m2 m3 u).toArray, .agg (sc 5 N' (.slice B' n' cb') p0 p1 p2 p3 u').toArray] w fun e w' => e = .returned (.bool R) ∧ Below w.heap.size w w' := by
  have hall := And.intro hN1 (And.intro hN2 (And.intro hN1' (And.intro hN2' (And.intro hd (And.intro hd' (And.intro hn (And.intro hn' (And.intro hv hv'))))))))
  clear hall
  obtain ⟨X, hX⟩ : ∃ X, X = (w.alloc (Obj.cells (sc 5 N (.slice B n cb) m0 m1 m2 m3 u).toArray 28)).alloc (Obj.cells (sc 5 N' (.slice B' n' cb') p0 p1 p2 p3 u').toArray 28) := ⟨_, rfl⟩
  have b0 : Below w.heap.size w (w.alloc (Obj.cells (sc 5 N (.slice B n cb) m0 m1 m2 m3 u).toArray 28)) := (Below.refl _ _).alloc (Nat.le_refl _) _
  have b1 : Below w.heap.size w X := by rw [hX]; exact b0.alloc b0.size _
  have r1 : Row X w.heap.size (sc 5 N (.slice B n cb) m0 m1 m2 m3 u) 28 := by rw [hX]; exact (Row.new' rfl rfl).alloc _
  have r2 : Row X (w.heap.size + 1) (sc 5 N' (.slice B' n' cb') p0 p1 p2 p3 u') 28 := by rw [hX]; exact Row.new' (by simp) rfl
  have g0 := r1.cell 0 _ rfl
  have g1 := r1.cell 1 _ rfl
  have g2 := r1.cell 2 _ rfl
  have k1 := r2.cell 1 _ rfl
  have k2 := r2.cell 2 _ rfl
  have HP : Hid (∀ w, _) := fun w => pick_any 5 7 (by decide) (by decide) (by decide) (by decide) w
  rw [show pk 5 7 = 5 from pk_same 5 7 (by decide) (by decide)] at HP
  have HB1 : Hid (Below w.heap.size w X) := b1
  unfold ap at hR
  simp only at hR
  have HR : Hid (_ = R) := hR
  have hneq : ∀ w, (binOp .neq 64 (.agg (vB (dgN 32 d)).toArray) (.agg (vB (dgN 32 d')).toArray)).run Try.prog w = .ok (.bool R) w := fun w => by
    rw [← hR]; exact run_neq_vB w 64 5 32 Try.underlying64 Try.underlying5 info_u8 _ _ (dgN_len _ _) (dgN_len _ _)
  have D1 : Hid (∀ (b : Bool) (W : World), Below X.heap.size X W → Calls Try.prog 35 #[if b then .slice B n cb else .slice B' n' cb'] W fun e w' => e = .returned (.agg (vB (dgN 32 (if b then d else d'))).toArray) ∧ Below W.heap.size W w') := fun b W hB => by
    cases b
    · exact digest_of d' n' hd' B' cb' W ((hv'.be b1).be hB)
    · exact digest_of d n hd B cb W ((hv.be b1).be hB)
  have G1 : Hid (∀ W, Below X.heap.size X W → W.cell? ⟨w.heap.size, 2, none⟩ = some (.slice B n cb)) := fun W hB => cell_be g2 hB
  have G2 : Hid (∀ W, Below X.heap.size X W → W.cell? ⟨w.heap.size + 1, 2, none⟩ = some (.slice B' n' cb')) := fun W hB => cell_be k2 hB
  clear hR b0 b1 r1 r2 hv hv' hd hd' 
  go_enter Try.func11, Try.ntmps11
  go_wp2_with fail
  rw [← hX]
  clear hX
  refine (HP.out X).mono ?_
  rintro e w2 ⟨rfl, rfl⟩
  have d1 := D1.out true (World.drew w2) ⟨rfl, rfl, rfl, Nat.le_refl _, fun _ _ => rfl⟩
  have d2 := D1.out false (World.drew w2) ⟨rfl, rfl, rfl, Nat.le_refl _, fun _ _ => rfl⟩
  simp only [if_true, Bool.false_eq_true, if_false] at d1 d2
  have HD1 : Hid _ := d1
  have HD2 : Hid _ := d2
  have E1 : Hid (∀ W, Below (World.drew w2).heap.size (World.drew w2) W → Calls Try.prog 35 #[.slice B n cb] W fun e w' => e = .returned (.agg (vB (dgN 32 d)).toArray) ∧ Below W.heap.size W w') := fun W hB => D1.out true W ⟨hB.os, hB.tape, hB.output, hB.size, hB.block⟩
  have E2 : Hid (∀ W, Below (World.drew w2).heap.size (World.drew w2) W → Calls Try.prog 35 #[.slice B' n' cb'] W fun e w' => e = .returned (.agg (vB (dgN 32 d')).toArray) ∧ Below W.heap.size W w') := fun W hB => D1.out false W ⟨hB.os, hB.tape, hB.output, hB.size, hB.block⟩
  clear d1 d2 D1 hN1 hN2 hN1' hN2' hn hn'
  go_wp2_with fail
  go_region_law (first
    | (refine stp_fcall rfl 35 #[.slice B n cb] (by go_simp) (Calls.mono HD1.out ?_); rintro e W6 ⟨rfl, hB6⟩; refine ⟨_, rfl, ?_⟩; have g26 := G1.out W6 ⟨hB6.os, hB6.tape, hB6.output, hB6.size, hB6.block⟩; have k26 := G2.out W6 ⟨hB6.os, hB6.tape, hB6.output, hB6.size, hB6.block⟩; clear HD1 HD2 G1 G2)
    | (refine stp_fcall rfl 35 #[.slice B' n' cb'] (by go_simp) (Calls.mono (E2.out W6 hB6) ?_); rintro e W7 ⟨rfl, hB7⟩; refine ⟨_, rfl, ?_⟩)
    | (refine stp_neq_b rfl 64 (.tmp 56) (.tmp 59) _ rfl 32 (dgN 32 d) (dgN 32 d') rfl rfl (dgN_len _ _) (dgN_len _ _) Try.underlying64 guard_32 R HR.out ?_))
  all_goals
    have HF : Hid (Below w.heap.size w W7) := below3 HB1.out hB6 hB7
    clear hB6 hB7
    go_wp2_with fail
    go_ret
    exact ⟨rfl, HF.out⟩

set_option maxRecDepth 100000 in
set_option maxHeartbeats 2000000 in
theorem apart_6 (N N' : Int) (hN1 : -9223372036854775808 ≤ N) (hN2 : N ≤ 9223372036854775807) (hN1' : -9223372036854775808 ≤ N') (hN2' : N' ≤ 9223372036854775807) (d d' : List (BitVec 8)) (n n' : Nat) (hd : d.length = n) (hd' : d'.length = n') (hn : n ≤ 4194304) (hn' : n' ≤ 4194304) (B B' : Option Addr) (cb cb' : Nat) (m0 m1 m2 m3 p0 p1 p2 p3 : Nat) (u u' : Value) (w : World) (hv : SlAt w (.slice B n cb) d) (hv' : SlAt w (.slice B' n' cb') d') (R : Bool) (hR : ap 6 N N' d d' [m0, m1, m2, m3] [p0, p1, p2, p3] = R) :
    Calls Try.prog 11 #[.agg (sc 6 N (.slice B n cb) m0 m1 m2 m3 u).toArray, .agg (sc 6 N' (.slice B' n' cb') p0 p1 p2 p3 u').toArray] w fun e w' => e = .returned (.bool R) ∧ Below w.heap.size w w' := by
  have hall := And.intro hN1 (And.intro hN2 (And.intro hN1' (And.intro hN2' (And.intro hd (And.intro hd' (And.intro hn (And.intro hn' (And.intro hv hv'))))))))
  clear hall
  obtain ⟨X, hX⟩ : ∃ X, X = (w.alloc (Obj.cells (sc 6 N (.slice B n cb) m0 m1 m2 m3 u).toArray 28)).alloc (Obj.cells (sc 6 N' (.slice B' n' cb') p0 p1 p2 p3 u').toArray 28) := ⟨_, rfl⟩
  have b0 : Below w.heap.size w (w.alloc (Obj.cells (sc 6 N (.slice B n cb) m0 m1 m2 m3 u).toArray 28)) := (Below.refl _ _).alloc (Nat.le_refl _) _
  have b1 : Below w.heap.size w X := by rw [hX]; exact b0.alloc b0.size _
  have r1 : Row X w.heap.size (sc 6 N (.slice B n cb) m0 m1 m2 m3 u) 28 := by rw [hX]; exact (Row.new' rfl rfl).alloc _
  have r2 : Row X (w.heap.size + 1) (sc 6 N' (.slice B' n' cb') p0 p1 p2 p3 u') 28 := by rw [hX]; exact Row.new' (by simp) rfl
  have g0 := r1.cell 0 _ rfl
  have g1 := r1.cell 1 _ rfl
  have g2 := r1.cell 2 _ rfl
  have k1 := r2.cell 1 _ rfl
  have k2 := r2.cell 2 _ rfl
  have HP : Hid (∀ w, _) := fun w => pick_any 6 7 (by decide) (by decide) (by decide) (by decide) w
  rw [show pk 6 7 = 6 from pk_same 6 7 (by decide) (by decide)] at HP
  have HB1 : Hid (Below w.heap.size w X) := b1
  unfold ap at hR
  simp only at hR
  have HR : Hid (_ = R) := hR
  have hneq : ∀ w, (binOp .neq 67 (.agg (vB (dgN 20 d)).toArray) (.agg (vB (dgN 20 d')).toArray)).run Try.prog w = .ok (.bool R) w := fun w => by
    rw [← hR]; exact run_neq_vB w 67 5 20 Try.underlying67 Try.underlying5 info_u8 _ _ (dgN_len _ _) (dgN_len _ _)
  have D1 : Hid (∀ (b : Bool) (W : World), Below X.heap.size X W → Calls Try.prog 36 #[if b then .slice B n cb else .slice B' n' cb'] W fun e w' => e = .returned (.agg (vB (dgN 20 (if b then d else d'))).toArray) ∧ Below W.heap.size W w') := fun b W hB => by
    cases b
    · exact address_of d' n' hd' B' cb' W ((hv'.be b1).be hB)
    · exact address_of d n hd B cb W ((hv.be b1).be hB)
  have G1 : Hid (∀ W, Below X.heap.size X W → W.cell? ⟨w.heap.size, 2, none⟩ = some (.slice B n cb)) := fun W hB => cell_be g2 hB
  have G2 : Hid (∀ W, Below X.heap.size X W → W.cell? ⟨w.heap.size + 1, 2, none⟩ = some (.slice B' n' cb')) := fun W hB => cell_be k2 hB
  clear hR b0 b1 r1 r2 hv hv' hd hd' 
  go_enter Try.func11, Try.ntmps11
  go_wp2_with fail
  rw [← hX]
  clear hX
  refine (HP.out X).mono ?_
  rintro e w2 ⟨rfl, rfl⟩
  have d1 := D1.out true (World.drew w2) ⟨rfl, rfl, rfl, Nat.le_refl _, fun _ _ => rfl⟩
  have d2 := D1.out false (World.drew w2) ⟨rfl, rfl, rfl, Nat.le_refl _, fun _ _ => rfl⟩
  simp only [if_true, Bool.false_eq_true, if_false] at d1 d2
  have HD1 : Hid _ := d1
  have HD2 : Hid _ := d2
  have E1 : Hid (∀ W, Below (World.drew w2).heap.size (World.drew w2) W → Calls Try.prog 36 #[.slice B n cb] W fun e w' => e = .returned (.agg (vB (dgN 20 d)).toArray) ∧ Below W.heap.size W w') := fun W hB => D1.out true W ⟨hB.os, hB.tape, hB.output, hB.size, hB.block⟩
  have E2 : Hid (∀ W, Below (World.drew w2).heap.size (World.drew w2) W → Calls Try.prog 36 #[.slice B' n' cb'] W fun e w' => e = .returned (.agg (vB (dgN 20 d')).toArray) ∧ Below W.heap.size W w') := fun W hB => D1.out false W ⟨hB.os, hB.tape, hB.output, hB.size, hB.block⟩
  clear d1 d2 D1 hN1 hN2 hN1' hN2' hn hn'
  go_wp2_with fail
  go_region_law (first
    | (refine stp_fcall rfl 36 #[.slice B n cb] (by go_simp) (Calls.mono HD1.out ?_); rintro e W6 ⟨rfl, hB6⟩; refine ⟨_, rfl, ?_⟩; have g26 := G1.out W6 ⟨hB6.os, hB6.tape, hB6.output, hB6.size, hB6.block⟩; have k26 := G2.out W6 ⟨hB6.os, hB6.tape, hB6.output, hB6.size, hB6.block⟩; clear HD1 HD2 G1 G2)
    | (refine stp_fcall rfl 36 #[.slice B' n' cb'] (by go_simp) (Calls.mono (E2.out W6 hB6) ?_); rintro e W7 ⟨rfl, hB7⟩; refine ⟨_, rfl, ?_⟩)
    | (refine stp_neq_b rfl 67 (.tmp 63) (.tmp 66) _ rfl 20 (dgN 20 d) (dgN 20 d') rfl rfl (dgN_len _ _) (dgN_len _ _) Try.underlying67 guard_20 R HR.out ?_))
  all_goals
    have HF : Hid (Below w.heap.size w W7) := below3 HB1.out hB6 hB7
    clear hB6 hB7
    go_wp2_with fail
    go_ret
    exact ⟨rfl, HF.out⟩

end Go.Proofs.Ytmkmdbpibpbcjab
