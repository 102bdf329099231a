/-
  The law TreeRoots: its walk.
-/
import Derived.Test.YtnogjhbohljjnaaDoorTSome
import Derived.Test.YtnogjhbohljjnaaDoorTDg
import Derived.Deep.CutRange
namespace Go.Proofs.YtnogjhbohljjnaaDoor
open Go Go.RowKit
open Sha

/-- The cells of what P4.1 is asked of. -/
def words (s : Value) (l r : List (BitVec 8)) (v : Value) : List Value := [s] ++ (vB l ++ (vB r ++ [v]))
theorem words_at {W : World} {b : Nat} {t : TypeId} {s v : Value} {l r : List (BitVec 8)} (Hl : Dl l) (h : Row W b (words s l r v) t) : W.cell? ⟨b, 0, none⟩ = some s ∧ W.rangeAt b 1 (vB l) ∧ W.rangeAt b 33 (vB r) := by
  have ra := h.all
  unfold words at ra
  have ra1 := ran_right ra (show [s].length = 1 from rfl)
  have ra2 := ran_right ra1 Hl.len
  refine ⟨by have := ra 0 _ rfl; simpa using this, by have := ran_left ra1; simpa using this, by have := ran_left ra2; simpa using this⟩
theorem Given.be' {w w' : World} (h : Given w) (k : Below w.heap.size w w') : Given w' := h.low k

/-- The load of a loan, as one step of a region that draws. -/
theorem stp_load_lo {ops : Array Oper} {o : Oper} {a : Act} {w : World} {K : Act → World → Prop} {Q : Exit → Act → World → Prop} {E : Prop} (hg : o.guard = none) (x : Operand) (ho : o.op = .load 35 x) (b : Nat) (u v : Value) (n : Nat) (hx : a.eval x = .pointer (some ⟨b, 0, none⟩)) (hr : Row w b (lo u v n) 35)
    (h : K (a.put o.dst (.agg (lo u v n).toArray)) w) : if Region.wanted o (yielded ops a.tmps) = true then Oper.wp Tryd.prog o a w K Q else E := by
  have hw : Region.wanted o (yielded ops a.tmps) = true := by simp [Region.wanted, hg]
  rw [if_pos hw]
  exact wp_load_mid 35 x ho b 0 hx (lo u v n) _ hr.all Tryd.underlying35 rfl info_lo h

set_option maxRecDepth 100000 in
set_option maxHeartbeats 8000000 in
theorem roots_walk (d l r : List (BitVec 8)) (ps : List (List (BitVec 8))) (Hl : Dl l) (Hr : Dl r) (hd : d.length ≤ 140737488351232) (hps : ∀ i, i < ps.length → (ps.getD i []).length ≤ 140737488351232) (A0 A3 : Option Addr) (c0 c3 : Nat) (z0 : A0 = none → c0 = 0) (hc3 : ps.length ≤ c3) (cs : List Value) (hcs : cs = words (.slice A0 d.length c0) l r (.slice A3 ps.length c3)) (w : World) (fG : Given w) (f0 : SlAt w (.slice A0 d.length c0) d) (f3 : Lv w A3 ps) :
    Calls Tryd.prog 3 #[.agg cs.toArray] w fun e w' => e = .returned (.bool true) ∧ Below w.heap.size w w' := by
  obtain ⟨x, hx⟩ : ∃ x, x = dig ([0#8] ++ d) := ⟨_, rfl⟩
  obtain ⟨y, hy⟩ : ∃ y, y = dig ([1#8] ++ (l ++ r)) := ⟨_, rfl⟩
  obtain ⟨qs, hqs⟩ : ∃ qs, qs = few ps := ⟨_, rfl⟩
  obtain ⟨n, hn⟩ : ∃ n, n = qs.length := ⟨_, rfl⟩
  obtain ⟨a, ha⟩ : ∃ a, a = rt qs := ⟨_, rfl⟩
  obtain ⟨b, hb'⟩ : ∃ b, b = rt (oth qs) := ⟨_, rfl⟩
  have Hx : Dl x := by rw [hx]; exact dig_length _
  have Hy : Dl y := by rw [hy]; exact dig_length _
  have Ha : Dl a := by rw [ha]; exact rt_length _
  have Hb : Dl b := by rw [hb']; exact rt_length _
  have hnn : n ≤ 1048576 := by rw [hn, hqs]; exact few_len ps
  have hql : ∀ i, i < n → (qs.getD i []).length ≤ 140737488351232 := fun i hi => by
    rw [hn] at hi
    rw [hqs] at hi ⊢
    unfold few at hi ⊢
    rw [List.length_take] at hi
    rw [show (ps.take 1048576).getD i [] = ps.getD i [] by simp [List.getD_eq_getElem?_getD, show i < 1048576 by omega]]
    exact hps i (by omega)
  have EX : Hid (x = dig ([0#8] ++ d)) := hx
  have EY : Hid (y = dig ([1#8] ++ (l ++ r))) := hy
  have EA : Hid (a = rt qs) := ha
  have EB : Hid (b = rt (oth qs)) := hb'
  have HN : Hid (qs.length = n) := hn.symm
  have HNF : Hid ((few ps).length = n) := by show _ = _; rw [← hqs, hn]
  have HNN : Hid (n ≤ 1048576) := hnn
  have HQL : Hid (∀ i, i < n → (qs.getD i []).length ≤ 140737488351232) := hql
  have HD : Hid (d.length ≤ 140737488351232) := hd
  have HC3 : Hid (ps.length ≤ c3) := hc3
  have HNC : Hid (n ≤ c3) := by show _ ≤ _; rw [hn, hqs]; unfold few; rw [List.length_take]; omega
  have Z0 : Hid (A0 = none → c0 = 0) := z0
  have f4 : Lv w A3 qs := by rw [hqs]; exact f3.few
  have hB0 : Below w.heap.size w (w.alloc (.cells cs.toArray 27)) := (Below.refl _ _).alloc (Nat.le_refl _) _
  have r1 : Row (w.alloc (.cells cs.toArray 27)) w.heap.size cs 27 := Row.new' rfl rfl
  have ra : (w.alloc (.cells cs.toArray 27)).rangeAt w.heap.size 0 ([Value.slice A0 d.length c0] ++ (vB l ++ (vB r ++ [Value.slice A3 ps.length c3]))) := by have := r1.all; rw [hcs] at this ⊢; exact this
  have ra1 := ran_right ra (show [Value.slice A0 d.length c0].length = 1 from rfl)
  have ra2 := ran_right ra1 Hl.len
  have ra3 := ran_right ra2 Hr.len
  have g0 : (w.alloc (.cells cs.toArray 27)).cell? ⟨w.heap.size, 0, none⟩ = some (.slice A0 d.length c0) := by have := ra 0 _ rfl; simpa using this
  have q1 : (w.alloc (.cells cs.toArray 27)).rangeAt w.heap.size 1 (vB l) := by have := ran_left ra1; simpa using this
  have q33 : (w.alloc (.cells cs.toArray 27)).rangeAt w.heap.size 33 (vB r) := by have := ran_left ra2; simpa using this
  have g65 : (w.alloc (.cells cs.toArray 27)).cell? ⟨w.heap.size, 65, none⟩ = some (.slice A3 ps.length c3) := by have := ra3 0 _ rfl; simpa using this
  have FG : Hid (Given w) := fG
  have F0 : Hid (SlAt w (.slice A0 d.length c0) d) := f0
  have F4 : Hid (Lv w A3 qs) := f4
  have HCS : Hid (cs = _) := hcs
  replace f0 := f0.be hB0
  replace f3 := f3.below hB0
  replace f4 := f4.below hB0
  replace fG := fG.be' hB0
  have hb := hB0
  obtain ⟨W0, hW0⟩ : ∃ W0, W0 = (w.alloc (.cells cs.toArray 27)) := ⟨_, rfl⟩
  rw [← hW0] at g0 q1 q33 g65 f0 f3 f4 fG hb r1
  clear ra ra1 ra2 ra3 hB0 hx hy hqs hn ha hb' hcs hd hps hc3 z0 hql hnn
  go_enter Tryd.func3, Tryd.ntmps3
  go_wp2_with fail
  rw [← hW0]
  clear hW0
  refine (awake_any W0 fG.cub).mono ?_
  rintro e V0 ⟨rfl, hB⟩
  replace hb := hb.trans (hB.mono hb.size)
  replace fG := fG.be' hB
  replace r1 := Row.below r1 hB (Row.lt r1)
  replace f0 := f0.be hB
  replace f3 := f3.below hB
  replace f4 := f4.below hB
  replace q1 := range_below q1 hB (Nat.le_refl _)
  replace q33 := range_below q33 hB (Nat.le_refl _)
  replace g0 := cell_be g0 hB
  replace g65 := cell_be g65 hB
  clear hB
  go_wp2_with fail
  refine (lent_any d _ rfl HD.out A0 c0 V0 f0).mono ?_
  rintro e V1 ⟨rfl, rl, hB⟩
  replace hb := hb.trans (hB.mono hb.size)
  replace fG := fG.be' hB
  replace r1 := Row.below r1 hB (Row.lt r1)
  replace f0 := f0.be hB
  replace f3 := f3.below hB
  replace f4 := f4.below hB
  replace q1 := range_below q1 hB (Nat.le_refl _)
  replace q33 := range_below q33 hB (Nat.le_refl _)
  replace g0 := cell_be g0 hB
  replace g65 := cell_be g65 hB
  clear hB
  generalize V0.heap.size = N4 at *
  have fs : SlAt V1 (.slice (some ⟨N4, 0, none⟩) d.length (d.length + 70)) d := .inr ⟨N4, 0, d.length + 70, rfl, by omega, fun j v hj => rl.all j v (by rw [vB_append, List.getElem?_append_left (List.getElem?_eq_some_iff.1 hj).1]; exact hj)⟩
  go_wp2_with fail
  refine (leaf_v d x EX.out (by have := HD.out; omega) _ _ _ V1 fG.cub fs).mono ?_
  rintro e V2 ⟨rfl, hB⟩
  replace hb := hb.trans (hB.mono hb.size)
  replace fG := fG.be' hB
  replace r1 := Row.below r1 hB (Row.lt r1)
  replace f0 := f0.be hB
  replace f3 := f3.below hB
  replace f4 := f4.below hB
  replace q1 := range_below q1 hB (Nat.le_refl _)
  replace q33 := range_below q33 hB (Nat.le_refl _)
  replace g0 := cell_be g0 hB
  replace g65 := cell_be g65 hB
  replace rl := Row.below rl hB (Row.lt rl)
  replace fs := fs.be hB
  clear hB
  have o_r5 : w.heap.size ≤ V2.heap.size := hb.size
  have n0 : Row (V2.alloc (Obj.cells z32.toArray 24)) V2.heap.size z32 24 := Row.new' rfl rfl
  have T0 := Hx.there n0 rfl
  replace n0 := n0.over (vs := vB x) (Hx.over rfl)
  have hB : Below V2.heap.size V2 ((V2.alloc (Obj.cells z32.toArray 24)).setCells V2.heap.size 0 (vB x)) := below_setCells ((Below.refl _ _).alloc (Nat.le_refl _) (Obj.cells z32.toArray 24)) (b := V2.heap.size) (o := 0) (Nat.le_refl _) (vB x)
  replace hb := hb.trans (hB.mono hb.size)
  replace fG := fG.be' hB
  replace r1 := Row.below r1 hB (Row.lt r1)
  replace f0 := f0.be hB
  replace f3 := f3.below hB
  replace f4 := f4.below hB
  replace q1 := range_below q1 hB (Nat.le_refl _)
  replace q33 := range_below q33 hB (Nat.le_refl _)
  replace g0 := cell_be g0 hB
  replace g65 := cell_be g65 hB
  replace rl := Row.below rl hB (Row.lt rl)
  replace fs := fs.be hB
  clear hB
  have r5 := n0
  clear n0
  go_wp2_with (refine wpList_store_mid rfl 24 (.tmp 5) (.tmp 26) rfl V2.heap.size 0 (vB x).toArray rfl rfl T0 Hx.info' Hx.one ?_; simp only [Act.put]; clear T0; (change wpList _ _ _ _ _ ((V2.alloc (Obj.cells z32.toArray 24)).setCells V2.heap.size 0 (vB x))); (generalize ((V2.alloc (Obj.cells z32.toArray 24)).setCells V2.heap.size 0 (vB x)) = X3 at *); (generalize hN : V2.heap.size = N5 at *; clear hN))
  refine (kept_any d _ rfl HD.out N4 A0 c0 X3 rl f0).mono ?_
  rintro e V4 ⟨rfl, hB⟩
  replace hb := hb.trans (hB.mono hb.size)
  replace r5 := Row.below r5 hB (Row.lt r5)
  replace fG := fG.be' hB
  replace r1 := Row.below r1 hB (Row.lt r1)
  replace f0 := f0.be hB
  replace f3 := f3.below hB
  replace f4 := f4.below hB
  replace q1 := range_below q1 hB (Nat.le_refl _)
  replace q33 := range_below q33 hB (Nat.le_refl _)
  replace g0 := cell_be g0 hB
  replace g65 := cell_be g65 hB
  replace rl := Row.below rl hB (Row.lt rl)
  replace fs := fs.be hB
  clear hB
  clear fs
  clear rl
  go_wp2_with (first
    | (refine wpList_load_w rfl 24 (.tmp 31) rfl w.heap.size 1 rfl (vB l) _ q1 Tryd.underlying24 rfl Hl.info ?_; simp only [Act.put, List.setIfInBounds_toArray, List.set_cons_zero, List.set_cons_succ])
    | (refine wpList_load_w rfl 24 (.tmp 33) rfl w.heap.size 33 rfl (vB r) _ q33 Tryd.underlying24 rfl Hr.info ?_; simp only [Act.put, List.setIfInBounds_toArray, List.set_cons_zero, List.set_cons_succ]))
  refine (node_any l r y Hl Hr EY.out V4 fG.cub).mono ?_
  rintro e V5 ⟨rfl, hB⟩
  replace hb := hb.trans (hB.mono hb.size)
  replace r5 := Row.below r5 hB (Row.lt r5)
  replace fG := fG.be' hB
  replace r1 := Row.below r1 hB (Row.lt r1)
  replace f0 := f0.be hB
  replace f3 := f3.below hB
  replace f4 := f4.below hB
  replace q1 := range_below q1 hB (Nat.le_refl _)
  replace q33 := range_below q33 hB (Nat.le_refl _)
  replace g0 := cell_be g0 hB
  replace g65 := cell_be g65 hB
  clear hB
  have o_r7 : N5 < V5.heap.size := Row.lt r5
  have n0 : Row (V5.alloc (Obj.cells z32.toArray 24)) V5.heap.size z32 24 := Row.new' rfl rfl
  have T0 := Hy.there n0 rfl
  replace n0 := n0.over (vs := vB y) (Hy.over rfl)
  have hB : Below V5.heap.size V5 ((V5.alloc (Obj.cells z32.toArray 24)).setCells V5.heap.size 0 (vB y)) := below_setCells ((Below.refl _ _).alloc (Nat.le_refl _) (Obj.cells z32.toArray 24)) (b := V5.heap.size) (o := 0) (Nat.le_refl _) (vB y)
  replace hb := hb.trans (hB.mono hb.size)
  replace r5 := Row.below r5 hB (Row.lt r5)
  replace fG := fG.be' hB
  replace r1 := Row.below r1 hB (Row.lt r1)
  replace f0 := f0.be hB
  replace f3 := f3.below hB
  replace f4 := f4.below hB
  replace q1 := range_below q1 hB (Nat.le_refl _)
  replace q33 := range_below q33 hB (Nat.le_refl _)
  replace g0 := cell_be g0 hB
  replace g65 := cell_be g65 hB
  clear hB
  have r7 := n0
  clear n0
  go_wp2_with (refine wpList_store_mid rfl 24 (.tmp 7) (.tmp 35) rfl V5.heap.size 0 (vB y).toArray rfl rfl T0 Hy.info' Hy.one ?_; simp only [Act.put]; clear T0; (change wpList _ _ _ _ _ ((V5.alloc (Obj.cells z32.toArray 24)).setCells V5.heap.size 0 (vB y))); (generalize ((V5.alloc (Obj.cells z32.toArray 24)).setCells V5.heap.size 0 (vB y)) = X6 at *); (generalize hN : V5.heap.size = N7 at *; clear hN))
  refine (some_any ps _ rfl A3 c3 HC3.out X6 f3).mono ?_
  rintro e w9 ⟨rfl, rfl⟩
  rw [HNF.out]
  clear f3 g65
  go_wp2_with fail
  have HGW : Hid (w.heap.size ≤ w9.heap.size) := hb.size
  refine (lend_any qs n HN.out HNN.out HQL.out A3 c3 w9 f4).mono ?_
  rintro e V7 ⟨G, ov, L, B, rfl, lo1, hGN, hB⟩
  replace hb := hb.trans (hB.mono hb.size)
  replace r5 := Row.below r5 hB (Row.lt r5)
  replace r7 := Row.below r7 hB (Row.lt r7)
  replace fG := fG.be' hB
  replace r1 := Row.below r1 hB (Row.lt r1)
  replace f0 := f0.be hB
  replace f4 := f4.below hB
  replace q1 := range_below q1 hB (Nat.le_refl _)
  replace q33 := range_below q33 hB (Nat.le_refl _)
  replace g0 := cell_be g0 hB
  clear hB
  obtain ⟨Ao, co, eo⟩ := own_form lo1.own
  subst eo
  have HG : Hid (w.heap.size ≤ G) := Nat.le_trans HGW.out hGN
  clear hGN
  have n0 : Row (V7.alloc (Obj.cells #[.slice none 0 0, .slice none 0 0, .int .i64 0] 35)) V7.heap.size (lo (.slice none 0 0) (.slice none 0 0) 0) 35 := Row.new' rfl rfl
  have T0 := n0.there 0 (lo (.slice (some ⟨G, 0, none⟩) (n + 9) (n + 9)) (.slice Ao n co) n).toArray.size (by simp [lo])
  have r9 := n0.over (vs := (lo (.slice (some ⟨G, 0, none⟩) (n + 9) (n + 9)) (.slice Ao n co) n)) rfl
  have hB : Below V7.heap.size V7 (World.setCells (V7.alloc (Obj.cells #[.slice none 0 0, .slice none 0 0, .int .i64 0] 35)) V7.heap.size 0 (lo (.slice (some ⟨G, 0, none⟩) (n + 9) (n + 9)) (.slice Ao n co) n)) := below_setCells ((Below.refl _ _).alloc (Nat.le_refl _) _) (Nat.le_refl _) _
  replace hb := hb.trans (hB.mono hb.size)
  replace r5 := Row.below r5 hB (Row.lt r5)
  replace r7 := Row.below r7 hB (Row.lt r7)
  replace fG := fG.be' hB
  replace r1 := Row.below r1 hB (Row.lt r1)
  replace f0 := f0.be hB
  replace f4 := f4.below hB
  replace q1 := range_below q1 hB (Nat.le_refl _)
  replace q33 := range_below q33 hB (Nat.le_refl _)
  replace g0 := cell_be g0 hB
  replace lo1 := lo1.below hB
  have h90 := r9.cell 0 _ rfl
  have h92 := r9.cell 2 _ rfl
  clear hB n0
  go_wp2_with (first
    | (refine wpList_store_mid rfl 35 (.tmp 9) (.tmp 40) rfl V7.heap.size 0 (lo (.slice (some ⟨G, 0, none⟩) (n + 9) (n + 9)) (.slice Ao n co) n).toArray rfl rfl T0 info_lo (lo_one rfl rfl) ?_; simp only [Act.put]; clear T0; (change wpList _ _ _ _ _ (World.setCells (V7.alloc (Obj.cells #[.slice none 0 0, .slice none 0 0, .int .i64 0] 35)) V7.heap.size 0 (lo (.slice (some ⟨G, 0, none⟩) (n + 9) (n + 9)) (.slice Ao n co) n))); (generalize (World.setCells (V7.alloc (Obj.cells #[.slice none 0 0, .slice none 0 0, .int .i64 0] 35)) V7.heap.size 0 (lo (.slice (some ⟨G, 0, none⟩) (n + 9) (n + 9)) (.slice Ao n co) n)) = X9 at *); (generalize hN : V7.heap.size = N9 at *; clear hN))
    | (refine wpList_slice_to rfl 25 22 (.tmp 42) (.tmp 44) G 0 (n + 9) (n + 9) n rfl rfl rfl (by omega) Tryd.underlying25 info_slb ?_; simp only [Act.put, List.setIfInBounds_toArray, List.set_cons_zero, List.set_cons_succ]))
  refine (root_any n qs HN.out (by have := HNN.out; omega) (fun i hi => by have := HQL.out i (by rw [← HN.out]; exact hi); omega) a EA.out G 0 (n + 9) (by omega) X9 fG.cub (lo1.ls HN.out (fun _ _ => rfl))).mono ?_
  rintro e V8 ⟨rfl, hB⟩
  replace hb := hb.trans (hB.mono hb.size)
  replace r5 := Row.below r5 hB (Row.lt r5)
  replace r7 := Row.below r7 hB (Row.lt r7)
  replace fG := fG.be' hB
  replace r1 := Row.below r1 hB (Row.lt r1)
  replace f0 := f0.be hB
  replace f4 := f4.below hB
  replace q1 := range_below q1 hB (Nat.le_refl _)
  replace q33 := range_below q33 hB (Nat.le_refl _)
  replace g0 := cell_be g0 hB
  replace lo1 := lo1.below hB
  replace r9 := Row.below r9 hB (Row.lt r9)
  replace h90 := cell_be h90 hB
  replace h92 := cell_be h92 hB
  clear hB
  have o_r10 : N7 < V8.heap.size := Row.lt r7
  have n0 : Row (V8.alloc (Obj.cells z32.toArray 24)) V8.heap.size z32 24 := Row.new' rfl rfl
  have T0 := Ha.there n0 rfl
  replace n0 := n0.over (vs := vB a) (Ha.over rfl)
  have hB : Below V8.heap.size V8 ((V8.alloc (Obj.cells z32.toArray 24)).setCells V8.heap.size 0 (vB a)) := below_setCells ((Below.refl _ _).alloc (Nat.le_refl _) (Obj.cells z32.toArray 24)) (b := V8.heap.size) (o := 0) (Nat.le_refl _) (vB a)
  replace hb := hb.trans (hB.mono hb.size)
  replace r5 := Row.below r5 hB (Row.lt r5)
  replace r7 := Row.below r7 hB (Row.lt r7)
  replace fG := fG.be' hB
  replace r1 := Row.below r1 hB (Row.lt r1)
  replace f0 := f0.be hB
  replace f4 := f4.below hB
  replace q1 := range_below q1 hB (Nat.le_refl _)
  replace q33 := range_below q33 hB (Nat.le_refl _)
  replace g0 := cell_be g0 hB
  replace lo1 := lo1.below hB
  replace r9 := Row.below r9 hB (Row.lt r9)
  replace h90 := cell_be h90 hB
  replace h92 := cell_be h92 hB
  clear hB
  have r10 := n0
  clear n0
  go_wp2_with (first
    | (refine wpList_store_mid rfl 24 (.tmp 10) (.tmp 46) rfl V8.heap.size 0 (vB a).toArray rfl rfl T0 Ha.info' Ha.one ?_; simp only [Act.put]; clear T0; (change wpList _ _ _ _ _ ((V8.alloc (Obj.cells z32.toArray 24)).setCells V8.heap.size 0 (vB a))); (generalize ((V8.alloc (Obj.cells z32.toArray 24)).setCells V8.heap.size 0 (vB a)) = X9 at *); (generalize hN : V8.heap.size = N10 at *; clear hN))
    | (refine wpList_load_w rfl 35 (.tmp 9) rfl N9 0 rfl (lo (.slice (some ⟨G, 0, none⟩) (n + 9) (n + 9)) (.slice Ao n co) n) _ r9.all Tryd.underlying35 rfl info_lo ?_; simp only [Act.put, List.setIfInBounds_toArray, List.set_cons_zero, List.set_cons_succ]))
  refine (back_any qs n HN.out HNN.out HQL.out G _ L B A3 c3 X9 lo1 f4).mono ?_
  rintro e V10 ⟨rfl, hB⟩
  replace hb := hb.trans (hB.mono hb.size)
  replace r5 := Row.below r5 hB (Row.lt r5)
  replace r7 := Row.below r7 hB (Row.lt r7)
  replace r10 := Row.below r10 hB (Row.lt r10)
  replace fG := fG.be' hB
  replace r1 := Row.below r1 hB (Row.lt r1)
  replace f0 := f0.be hB
  replace f4 := f4.below hB
  replace q1 := range_below q1 hB (Nat.le_refl _)
  replace q33 := range_below q33 hB (Nat.le_refl _)
  replace g0 := cell_be g0 hB
  replace lo1 := lo1.below hB
  replace r9 := Row.below r9 hB (Row.lt r9)
  replace h90 := cell_be h90 hB
  replace h92 := cell_be h92 hB
  clear hB
  go_wp2_with fail
  have h91 := r9.cell 1 _ rfl
  have HGB : Hid (∀ i j, i < n → j < n → B i ≠ V10.heap.size + 1 + j) := fun i j hi _ => by have := (lo1.each i hi).2.lt; omega
  go_cut [53] from 50 to 53 (fun c53 wz => Below w.heap.size w wz ∧ Loan wz G (.slice Ao n co) L B qs (oth qs) n n n 9 ∧ Row wz N9 (lo (.slice (some ⟨G, 0, none⟩) (n + 9) (n + 9)) (.slice Ao n co) n) 35 ∧ Row wz w.heap.size cs 27 ∧ Row wz (N5) (vB x) 24 ∧ Row wz (N7) (vB y) 24 ∧ Row wz (N10) (vB a) 24)
  case first =>
    go_region_law (first
      | (refine stp_fcall rfl 19 #[.slice A3 n c3] (by go_simp) ((other_any qs n HN.out HNN.out HQL.out A3 c3 (World.drew V10) f4).mono ?_); rintro e W6 ⟨rfl, tw, hB5⟩; (have hB6 : Below V10.heap.size V10 W6 := ⟨hB5.os, hB5.tape, hB5.output, hB5.size, hB5.block⟩); clear hB5; refine ⟨_, rfl, ?_⟩; (have r96 := Row.below r9 hB6 (Row.lt r9)); (have h906 := r96.cell 0 _ rfl); (have h916 := r96.cell 1 _ rfl); (have h926 := r96.cell 2 _ rfl); (have lo6 := lo1.below hB6); (have hb6 := hb.trans (hB6.mono hb.size)))
      | (refine stp_fcall rfl 18 #[.agg #[.slice (some ⟨G, 0, none⟩) (n + 9) (n + 9), .slice Ao n co, .int .i64 (n : Int)], .slice (some ⟨V10.heap.size, 0, none⟩) n n] (by go_simp) ((lwrite_any qs qs (oth qs) n HNN.out HQL.out (fun _ _ => rfl) (fun i _ => by rw [oth_get, List.length_map]) w.heap.size G V10.heap.size (.slice Ao n co) L B w W6 hb6 HG.out HGB.out lo6 tw).mono ?_); rintro e W7 ⟨rfl, lo7, hb7, _, ot7⟩; refine ⟨_, rfl, ?_⟩))
    all_goals
      go_wp2_with fail
      go_meet
      exact ⟨hb7, lo7, ot7 _ _ _ r96 (by decide), ot7 _ _ _ (Row.below r1 hB6 (Row.lt r1)) (by decide), ot7 _ _ _ (Row.below r5 hB6 (Row.lt r5)) (by decide), ot7 _ _ _ (Row.below r7 hB6 (Row.lt r7)) (by decide), ot7 _ _ _ (Row.below r10 hB6 (Row.lt r10)) (by decide)⟩
  case rest =>
    clear hb lo1 r9 r1 h90 h91 h92 fG f0 f4 q1 q33 g0 HGB r5 r7 r10
    obtain ⟨hb, lo1, r9, r1, r5, r7, r10⟩ := hcut
    have fG := FG.out.low hb
    have f0 := F0.out.be hb
    have f4 := F4.out.below hb
    rw [HCS.out] at r1
    obtain ⟨g0, q1, q33⟩ := words_at Hl r1
    clear r1
    have h90 := r9.cell 0 _ rfl
    have h92 := r9.cell 2 _ rfl
    clear r9
    have ls := lo1.ls (qs := oth qs) (by rw [oth_len]; exact HN.out) (fun i _ => by rw [oth_get, List.length_map])
    clear lo1
    have HOL : Hid (∀ i, i < n → ((oth qs).getD i []).length ≤ 140737488351232) := fun i hi => by rw [oth_get, List.length_map]; exact HQL.out i hi
    have HON : Hid ((oth qs).length = n) := by show _ = _; rw [oth_len]; exact HN.out
    go_wp2_with (refine wpList_slice_to rfl 25 22 (.tmp 55) (.tmp 57) G 0 (n + 9) (n + 9) n rfl rfl rfl (by omega) Tryd.underlying25 info_slb ?_; simp only [Act.put, List.setIfInBounds_toArray, List.set_cons_zero, List.set_cons_succ])
    refine (root_any n (oth qs) HON.out (by have := HNN.out; omega) (fun i hi => by have := HOL.out i (by rw [← HON.out]; exact hi); omega) b EB.out G 0 (n + 9) (by omega) wc fG.cub ls).mono ?_
    rintro e V11 ⟨rfl, hB⟩
    replace hb := hb.trans (hB.mono hb.size)
    replace r5 := Row.below r5 hB (Row.lt r5)
    replace r7 := Row.below r7 hB (Row.lt r7)
    replace r10 := Row.below r10 hB (Row.lt r10)
    replace fG := fG.be' hB
    replace f0 := f0.be hB
    replace f4 := f4.below hB
    replace q1 := range_below q1 hB (Nat.le_refl _)
    replace q33 := range_below q33 hB (Nat.le_refl _)
    replace g0 := cell_be g0 hB
    clear hB
    clear ls h90 h92
    have o_r12 : N10 < V11.heap.size := Row.lt r10
    have n0 : Row (V11.alloc (Obj.cells z32.toArray 24)) V11.heap.size z32 24 := Row.new' rfl rfl
    have T0 := Hb.there n0 rfl
    replace n0 := n0.over (vs := vB b) (Hb.over rfl)
    have hB : Below V11.heap.size V11 ((V11.alloc (Obj.cells z32.toArray 24)).setCells V11.heap.size 0 (vB b)) := below_setCells ((Below.refl _ _).alloc (Nat.le_refl _) (Obj.cells z32.toArray 24)) (b := V11.heap.size) (o := 0) (Nat.le_refl _) (vB b)
    replace hb := hb.trans (hB.mono hb.size)
    replace r5 := Row.below r5 hB (Row.lt r5)
    replace r7 := Row.below r7 hB (Row.lt r7)
    replace r10 := Row.below r10 hB (Row.lt r10)
    replace fG := fG.be' hB
    replace f0 := f0.be hB
    replace f4 := f4.below hB
    replace q1 := range_below q1 hB (Nat.le_refl _)
    replace q33 := range_below q33 hB (Nat.le_refl _)
    replace g0 := cell_be g0 hB
    clear hB
    have r12 := n0
    clear n0
    go_wp2_with (refine wpList_store_mid rfl 24 (.tmp 12) (.tmp 59) rfl V11.heap.size 0 (vB b).toArray rfl rfl T0 Hb.info' Hb.one ?_; simp only [Act.put]; clear T0; (change wpList _ _ _ _ _ ((V11.alloc (Obj.cells z32.toArray 24)).setCells V11.heap.size 0 (vB b))); (generalize ((V11.alloc (Obj.cells z32.toArray 24)).setCells V11.heap.size 0 (vB b)) = X12 at *); (generalize hN : V11.heap.size = N12 at *; clear hN))
    refine (rleaf_any d x EX.out _ rfl (by have := HD.out; omega) A0 c0 Z0.out X12 fG f0).mono ?_
    rintro e V13 ⟨rfl, hB⟩
    replace hb := hb.trans (hB.mono hb.size)
    replace r5 := Row.below r5 hB (Row.lt r5)
    replace r7 := Row.below r7 hB (Row.lt r7)
    replace r10 := Row.below r10 hB (Row.lt r10)
    replace r12 := Row.below r12 hB (Row.lt r12)
    replace fG := fG.be' hB
    replace f0 := f0.be hB
    replace f4 := f4.below hB
    replace q1 := range_below q1 hB (Nat.le_refl _)
    replace q33 := range_below q33 hB (Nat.le_refl _)
    replace g0 := cell_be g0 hB
    clear hB
    have o_r13 : N12 < V13.heap.size := Row.lt r12
    have n0 : Row (V13.alloc (Obj.cells z32.toArray 24)) V13.heap.size z32 24 := Row.new' rfl rfl
    have T0 := Hx.there n0 rfl
    replace n0 := n0.over (vs := vB x) (Hx.over rfl)
    have hB : Below V13.heap.size V13 ((V13.alloc (Obj.cells z32.toArray 24)).setCells V13.heap.size 0 (vB x)) := below_setCells ((Below.refl _ _).alloc (Nat.le_refl _) (Obj.cells z32.toArray 24)) (b := V13.heap.size) (o := 0) (Nat.le_refl _) (vB x)
    replace hb := hb.trans (hB.mono hb.size)
    replace r5 := Row.below r5 hB (Row.lt r5)
    replace r7 := Row.below r7 hB (Row.lt r7)
    replace r10 := Row.below r10 hB (Row.lt r10)
    replace r12 := Row.below r12 hB (Row.lt r12)
    replace fG := fG.be' hB
    replace f0 := f0.be hB
    replace f4 := f4.below hB
    replace q1 := range_below q1 hB (Nat.le_refl _)
    replace q33 := range_below q33 hB (Nat.le_refl _)
    replace g0 := cell_be g0 hB
    clear hB
    have r13 := n0
    clear n0
    go_wp2_with (first
      | (refine wpList_store_mid rfl 24 (.tmp 13) (.tmp 62) rfl V13.heap.size 0 (vB x).toArray rfl rfl T0 Hx.info' Hx.one ?_; simp only [Act.put]; clear T0; (change wpList _ _ _ _ _ ((V13.alloc (Obj.cells z32.toArray 24)).setCells V13.heap.size 0 (vB x))); (generalize ((V13.alloc (Obj.cells z32.toArray 24)).setCells V13.heap.size 0 (vB x)) = X14 at *); (generalize hN : V13.heap.size = N13 at *; clear hN))
      | (refine wpList_load_w rfl 24 (.tmp 63) rfl w.heap.size 1 rfl (vB l) _ q1 Tryd.underlying24 rfl Hl.info ?_; simp only [Act.put, List.setIfInBounds_toArray, List.set_cons_zero, List.set_cons_succ])
      | (refine wpList_load_w rfl 24 (.tmp 65) rfl w.heap.size 33 rfl (vB r) _ q33 Tryd.underlying24 rfl Hr.info ?_; simp only [Act.put, List.setIfInBounds_toArray, List.set_cons_zero, List.set_cons_succ]))
    refine (rnode_any l r y Hl Hr EY.out X14 fG).mono ?_
    rintro e V15 ⟨rfl, hB⟩
    replace hb := hb.trans (hB.mono hb.size)
    replace r5 := Row.below r5 hB (Row.lt r5)
    replace r7 := Row.below r7 hB (Row.lt r7)
    replace r10 := Row.below r10 hB (Row.lt r10)
    replace r12 := Row.below r12 hB (Row.lt r12)
    replace r13 := Row.below r13 hB (Row.lt r13)
    replace fG := fG.be' hB
    replace f0 := f0.be hB
    replace f4 := f4.below hB
    replace q1 := range_below q1 hB (Nat.le_refl _)
    replace q33 := range_below q33 hB (Nat.le_refl _)
    replace g0 := cell_be g0 hB
    clear hB
    have o_r14 : N13 < V15.heap.size := Row.lt r13
    have n0 : Row (V15.alloc (Obj.cells z32.toArray 24)) V15.heap.size z32 24 := Row.new' rfl rfl
    have T0 := Hy.there n0 rfl
    replace n0 := n0.over (vs := vB y) (Hy.over rfl)
    have hB : Below V15.heap.size V15 ((V15.alloc (Obj.cells z32.toArray 24)).setCells V15.heap.size 0 (vB y)) := below_setCells ((Below.refl _ _).alloc (Nat.le_refl _) (Obj.cells z32.toArray 24)) (b := V15.heap.size) (o := 0) (Nat.le_refl _) (vB y)
    replace hb := hb.trans (hB.mono hb.size)
    replace r5 := Row.below r5 hB (Row.lt r5)
    replace r7 := Row.below r7 hB (Row.lt r7)
    replace r10 := Row.below r10 hB (Row.lt r10)
    replace r12 := Row.below r12 hB (Row.lt r12)
    replace r13 := Row.below r13 hB (Row.lt r13)
    replace fG := fG.be' hB
    replace f0 := f0.be hB
    replace f4 := f4.below hB
    replace q1 := range_below q1 hB (Nat.le_refl _)
    replace q33 := range_below q33 hB (Nat.le_refl _)
    replace g0 := cell_be g0 hB
    clear hB
    have r14 := n0
    clear n0
    go_wp2_with (refine wpList_store_mid rfl 24 (.tmp 14) (.tmp 67) rfl V15.heap.size 0 (vB y).toArray rfl rfl T0 Hy.info' Hy.one ?_; simp only [Act.put]; clear T0; (change wpList _ _ _ _ _ ((V15.alloc (Obj.cells z32.toArray 24)).setCells V15.heap.size 0 (vB y))); (generalize ((V15.alloc (Obj.cells z32.toArray 24)).setCells V15.heap.size 0 (vB y)) = X16 at *); (generalize hN : V15.heap.size = N14 at *; clear hN))
    refine (rroot_lv qs n HN.out HNN.out HQL.out a EA.out A3 c3 HNC.out X16 fG f4).mono ?_
    rintro e V17 ⟨rfl, hB⟩
    replace hb := hb.trans (hB.mono hb.size)
    replace r5 := Row.below r5 hB (Row.lt r5)
    replace r7 := Row.below r7 hB (Row.lt r7)
    replace r10 := Row.below r10 hB (Row.lt r10)
    replace r12 := Row.below r12 hB (Row.lt r12)
    replace r13 := Row.below r13 hB (Row.lt r13)
    replace r14 := Row.below r14 hB (Row.lt r14)
    replace fG := fG.be' hB
    replace f0 := f0.be hB
    replace f4 := f4.below hB
    replace q1 := range_below q1 hB (Nat.le_refl _)
    replace q33 := range_below q33 hB (Nat.le_refl _)
    replace g0 := cell_be g0 hB
    clear hB
    have o_r15 : N14 < V17.heap.size := Row.lt r14
    have n0 : Row (V17.alloc (Obj.cells z32.toArray 24)) V17.heap.size z32 24 := Row.new' rfl rfl
    have T0 := Ha.there n0 rfl
    replace n0 := n0.over (vs := vB a) (Ha.over rfl)
    have hB : Below V17.heap.size V17 ((V17.alloc (Obj.cells z32.toArray 24)).setCells V17.heap.size 0 (vB a)) := below_setCells ((Below.refl _ _).alloc (Nat.le_refl _) (Obj.cells z32.toArray 24)) (b := V17.heap.size) (o := 0) (Nat.le_refl _) (vB a)
    replace hb := hb.trans (hB.mono hb.size)
    replace r5 := Row.below r5 hB (Row.lt r5)
    replace r7 := Row.below r7 hB (Row.lt r7)
    replace r10 := Row.below r10 hB (Row.lt r10)
    replace r12 := Row.below r12 hB (Row.lt r12)
    replace r13 := Row.below r13 hB (Row.lt r13)
    replace r14 := Row.below r14 hB (Row.lt r14)
    replace fG := fG.be' hB
    replace f0 := f0.be hB
    replace f4 := f4.below hB
    replace q1 := range_below q1 hB (Nat.le_refl _)
    replace q33 := range_below q33 hB (Nat.le_refl _)
    replace g0 := cell_be g0 hB
    clear hB
    have r15 := n0
    clear n0
    go_wp2_with (refine wpList_store_mid rfl 24 (.tmp 15) (.tmp 69) rfl V17.heap.size 0 (vB a).toArray rfl rfl T0 Ha.info' Ha.one ?_; simp only [Act.put]; clear T0; (change wpList _ _ _ _ _ ((V17.alloc (Obj.cells z32.toArray 24)).setCells V17.heap.size 0 (vB a))); (generalize ((V17.alloc (Obj.cells z32.toArray 24)).setCells V17.heap.size 0 (vB a)) = X18 at *); (generalize hN : V17.heap.size = N15 at *; clear hN))
    refine (other_any qs n HN.out HNN.out HQL.out A3 c3 X18 f4).mono ?_
    rintro e V19 ⟨rfl, tw, hB⟩
    replace hb := hb.trans (hB.mono hb.size)
    replace r5 := Row.below r5 hB (Row.lt r5)
    replace r7 := Row.below r7 hB (Row.lt r7)
    replace r10 := Row.below r10 hB (Row.lt r10)
    replace r12 := Row.below r12 hB (Row.lt r12)
    replace r13 := Row.below r13 hB (Row.lt r13)
    replace r14 := Row.below r14 hB (Row.lt r14)
    replace r15 := Row.below r15 hB (Row.lt r15)
    replace fG := fG.be' hB
    replace f0 := f0.be hB
    replace f4 := f4.below hB
    replace q1 := range_below q1 hB (Nat.le_refl _)
    replace q33 := range_below q33 hB (Nat.le_refl _)
    replace g0 := cell_be g0 hB
    clear hB
    go_wp2_with fail
    refine (rroot_any n (oth qs) HON.out (by have := HNN.out; omega) (fun i hi => by have := HOL.out i (by rw [← HON.out]; exact hi); omega) b EB.out X18.heap.size 0 n (Nat.le_refl _) V19 fG (tw.ln HON.out)).mono ?_
    rintro e V20 ⟨rfl, hB⟩
    replace hb := hb.trans (hB.mono hb.size)
    replace r5 := Row.below r5 hB (Row.lt r5)
    replace r7 := Row.below r7 hB (Row.lt r7)
    replace r10 := Row.below r10 hB (Row.lt r10)
    replace r12 := Row.below r12 hB (Row.lt r12)
    replace r13 := Row.below r13 hB (Row.lt r13)
    replace r14 := Row.below r14 hB (Row.lt r14)
    replace r15 := Row.below r15 hB (Row.lt r15)
    replace fG := fG.be' hB
    replace f0 := f0.be hB
    replace f4 := f4.below hB
    replace q1 := range_below q1 hB (Nat.le_refl _)
    replace q33 := range_below q33 hB (Nat.le_refl _)
    replace g0 := cell_be g0 hB
    clear hB
    clear tw
    have o_r16 : N15 < V20.heap.size := Row.lt r15
    have n0 : Row (V20.alloc (Obj.cells z32.toArray 24)) V20.heap.size z32 24 := Row.new' rfl rfl
    have T0 := Hb.there n0 rfl
    replace n0 := n0.over (vs := vB b) (Hb.over rfl)
    have hB : Below V20.heap.size V20 ((V20.alloc (Obj.cells z32.toArray 24)).setCells V20.heap.size 0 (vB b)) := below_setCells ((Below.refl _ _).alloc (Nat.le_refl _) (Obj.cells z32.toArray 24)) (b := V20.heap.size) (o := 0) (Nat.le_refl _) (vB b)
    replace hb := hb.trans (hB.mono hb.size)
    replace r5 := Row.below r5 hB (Row.lt r5)
    replace r7 := Row.below r7 hB (Row.lt r7)
    replace r10 := Row.below r10 hB (Row.lt r10)
    replace r12 := Row.below r12 hB (Row.lt r12)
    replace r13 := Row.below r13 hB (Row.lt r13)
    replace r14 := Row.below r14 hB (Row.lt r14)
    replace r15 := Row.below r15 hB (Row.lt r15)
    replace fG := fG.be' hB
    replace f0 := f0.be hB
    replace f4 := f4.below hB
    replace q1 := range_below q1 hB (Nat.le_refl _)
    replace q33 := range_below q33 hB (Nat.le_refl _)
    replace g0 := cell_be g0 hB
    clear hB
    have r16 := n0
    clear n0
    go_wp2_with (first
      | (refine wpList_store_mid rfl 24 (.tmp 16) (.tmp 72) rfl V20.heap.size 0 (vB b).toArray rfl rfl T0 Hb.info' Hb.one ?_; simp only [Act.put]; clear T0; (change wpList _ _ _ _ _ ((V20.alloc (Obj.cells z32.toArray 24)).setCells V20.heap.size 0 (vB b))); (generalize ((V20.alloc (Obj.cells z32.toArray 24)).setCells V20.heap.size 0 (vB b)) = X21 at *); (generalize hN : V20.heap.size = N16 at *; clear hN))
      | (refine wpList_load_w rfl 24 (.tmp 5) rfl N5 0 rfl (vB x) _ r5.all Tryd.underlying24 rfl Hx.info ?_; simp only [Act.put, List.setIfInBounds_toArray, List.set_cons_zero, List.set_cons_succ])
      | (refine wpList_load_w rfl 24 (.tmp 13) rfl N13 0 rfl (vB x) _ r13.all Tryd.underlying24 rfl Hx.info ?_; simp only [Act.put, List.setIfInBounds_toArray, List.set_cons_zero, List.set_cons_succ])
      | (refine wpList_load_w rfl 24 (.tmp 7) rfl N7 0 rfl (vB y) _ r7.all Tryd.underlying24 rfl Hy.info ?_; simp only [Act.put, List.setIfInBounds_toArray, List.set_cons_zero, List.set_cons_succ])
      | (refine wpList_load_w rfl 24 (.tmp 14) rfl N14 0 rfl (vB y) _ r14.all Tryd.underlying24 rfl Hy.info ?_; simp only [Act.put, List.setIfInBounds_toArray, List.set_cons_zero, List.set_cons_succ])
      | (refine wpList_load_w rfl 24 (.tmp 10) rfl N10 0 rfl (vB a) _ r10.all Tryd.underlying24 rfl Ha.info ?_; simp only [Act.put, List.setIfInBounds_toArray, List.set_cons_zero, List.set_cons_succ])
      | (refine wpList_load_w rfl 24 (.tmp 15) rfl N15 0 rfl (vB a) _ r15.all Tryd.underlying24 rfl Ha.info ?_; simp only [Act.put, List.setIfInBounds_toArray, List.set_cons_zero, List.set_cons_succ])
      | (refine wpList_load_w rfl 24 (.tmp 12) rfl N12 0 rfl (vB b) _ r12.all Tryd.underlying24 rfl Hb.info ?_; simp only [Act.put, List.setIfInBounds_toArray, List.set_cons_zero, List.set_cons_succ])
      | (refine wpList_load_w rfl 24 (.tmp 16) rfl N16 0 rfl (vB b) _ r16.all Tryd.underlying24 rfl Hb.info ?_; simp only [Act.put, List.setIfInBounds_toArray, List.set_cons_zero, List.set_cons_succ])
      | (refine wpList_eql_same rfl (.tmp 81) (.tmp 82) 24 rfl x Hx rfl rfl ?_; simp only [Act.put, List.setIfInBounds_toArray, List.set_cons_zero, List.set_cons_succ])
      | (refine wpList_eql_same rfl (.tmp 86) (.tmp 87) 24 rfl y Hy rfl rfl ?_; simp only [Act.put, List.setIfInBounds_toArray, List.set_cons_zero, List.set_cons_succ])
      | (refine wpList_eql_same rfl (.tmp 91) (.tmp 92) 24 rfl a Ha rfl rfl ?_; simp only [Act.put, List.setIfInBounds_toArray, List.set_cons_zero, List.set_cons_succ])
      | (refine wpList_eql_same rfl (.tmp 96) (.tmp 97) 24 rfl b Hb rfl rfl ?_; simp only [Act.put, List.setIfInBounds_toArray, List.set_cons_zero, List.set_cons_succ]))
    go_ret
    exact ⟨rfl, hb⟩

end Go.Proofs.YtnogjhbohljjnaaDoor
