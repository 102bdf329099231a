/-
  pick, stepped without a state; the law LedgerNils: the walk.
-/
import Derived.Test.YtojmhmnpidhfjaaDoorLgV
import Derived.Test.YtojmhmnpidhfjaaDoorLgN
import Derived.Test.YtojmhmnpidhfjaaDoorLgM
namespace Go.Proofs.YtojmhmnpidhfjaaDoor
open Go Go.RowKit Go.Maps
open Sha
open Wd

def pk (c n : Int) : Int := (if c < 0 then -(c + 1) else c) % n
theorem pk_range (c n : Int) (hn : 0 < n) : 0 ≤ pk c n ∧ pk c n < n := ⟨Int.emod_nonneg _ (by omega), Int.emod_lt_of_pos _ hn⟩
set_option maxRecDepth 100000 in
theorem pick8 (c n : Int) (hn : 0 < n) (h1 : -9223372036854775808 ≤ c) (h2 : c ≤ 9223372036854775807) (hn2 : n ≤ 9223372036854775807) (w : World) :
    Calls Tryd.prog 5 #[.int .i64 c, .int .i64 n] w fun e w' => e = .returned (.int .i64 (pk c n)) ∧ w' = w := by
  have hn0 : ¬ n = 0 := by omega
  have hn1 : ¬ n = -1 := by omega
  have hr := pk_range c n hn
  by_cases hc : c < 0
  · have e1 : Hid (pk c n = (-(c + 1)) % n) := by show _ = _; unfold pk; rw [if_pos hc]
    have e3 : (-(c + 1)).tmod n = pk c n := by rw [e1.out]; exact Int.tmod_eq_emod_of_nonneg (by omega)
    have e4 : (-1 + -c).tmod n = pk c n := by rw [show -1 + -c = -(c + 1) by omega]; exact e3
    have e5 : (-c + -1).tmod n = pk c n := by rw [show -c + -1 = -(c + 1) by omega]; exact e3
    generalize pk c n = r at *
    go_enter Tryd.func5, Tryd.ntmps5
    go_wp2
    go_ret
    exact ⟨by first | rfl | (simp; omega), rfl⟩
  · have e1 : Hid (pk c n = c % n) := by show _ = _; unfold pk; rw [if_neg hc]
    have e3 : c.tmod n = pk c n := by rw [e1.out]; exact Int.tmod_eq_emod_of_nonneg (by omega)
    generalize pk c n = r at *
    go_enter Tryd.func5, Tryd.ntmps5
    go_wp2
    go_ret
    exact ⟨by first | rfl | (simp; omega), rfl⟩

abbrev zT : List Value := [.int .i64 0, .bool false, .bool false, .int .u64 0, .int .u64 0, .int .u64 0, .int .u64 0, .int .u64 0, .int .u64 0, .int .u64 0, .int .u64 0, .int .i64 0]
abbrev rT : List Value := [.int .i64 1, .bool false, .bool false, .int .u64 0, .int .u64 0, .int .u64 0, .int .u64 0, .int .u64 0, .int .u64 0, .int .u64 0, .int .u64 0, .int .i64 0]
theorem build_t1 (w : World) : (Instr.build 35 #[(0, .int .i64 1)]).run Tryd.prog w = .ok (.agg rT.toArray) w := by
  go_simp
theorem build_t2 (w : World) : (Instr.build 35 #[(0, .int .i64 1), (1, .agg zK.toArray)]).run Tryd.prog w = .ok (.agg rT.toArray) w := by
  go_simp
theorem build_t3 (w : World) : (Instr.build 35 #[(0, .int .i64 1), (2, .agg zW.toArray)]).run Tryd.prog w = .ok (.agg rT.toArray) w := by
  go_simp
theorem info_td : (Tryd.prog.info? 35).map (·.size) = some 12 := by kernel_rfl
theorem guardTd : Tryd.prog.eqGuardType Tryd.prog.depth 35 = false := by kernel_rfl
theorem eqWd (d : Nat) (w : World) : (Op.equalIn (d + 2) 26 (.agg #[.int .u64 0, .int .u64 0, .int .u64 0, .int .u64 0]) (.agg #[.int .u64 0, .int .u64 0, .int .u64 0, .int .u64 0])).run Tryd.prog w = .ok true w := by
  have q := run_equalIn_vQ (P := Tryd.prog) (w := w) d 26 24 4 Tryd.underlying26 Tryd.underlying24 sz_u64 [0, 0, 0, 0] [0, 0, 0, 0] rfl rfl
  rw [decide_eq_true rfl] at q
  exact q
theorem eqTd (w : World) : (binOp .eql 35 (.agg rT.toArray) (.agg rT.toArray)).run Tryd.prog w = .ok (.bool true) w := by
  have h1 : ∀ w, (Op.equalIn 9998 26 (.agg #[.int .u64 0, .int .u64 0, .int .u64 0, .int .u64 0]) (.agg #[.int .u64 0, .int .u64 0, .int .u64 0, .int .u64 0])).run Tryd.prog w = .ok true w := fun w => eqWd 9996 w
  have h2 : ∀ w, (Op.equalIn 9999 26 (.agg #[.int .u64 0, .int .u64 0, .int .u64 0, .int .u64 0]) (.agg #[.int .u64 0, .int .u64 0, .int .u64 0, .int .u64 0])).run Tryd.prog w = .ok true w := fun w => eqWd 9997 w
  go_simp
section
variable {ops : Array Oper} {rest : List Oper} {op : Oper} {a : Act} {w : World} {Q : Exit → Act → World → Prop}
theorem wpList_allocT (hgd : op.guard = none) (ho : op.op = .alloc 35) (h : ∀ X, Row X w.heap.size zT 35 → Below w.heap.size w X → X.heap.size = w.heap.size + 1 → wpList Tryd.prog ops Q rest (a.put op.dst (.pointer (some ⟨w.heap.size, 0, none⟩))) X) : wpList Tryd.prog ops Q (op :: rest) a w :=
  wpList_plain hgd fun _ hK => by
    unfold Oper.wp execOp
    simp only [ho]
    go_simp
    exact hK _ _ (h _ (Row.new' (cs := zT) rfl rfl) ((Below.refl _ _).alloc (Nat.le_refl _) _) (by simp))
theorem wpList_buildT1 (hw : Region.wanted op (yielded ops a.tmps) = true) (x : Operand) (ho : op.op = .build 35 #[(0, x)]) (hx : a.eval x = .int .i64 1) (L : List Value) (hL : L = rT) (h : wpList Tryd.prog ops Q rest (a.put op.dst (.agg L.toArray)) w) : wpList Tryd.prog ops Q (op :: rest) a w :=
  BigFrame.wpList_want hw fun _ hK => by
    subst hL
    have hr := build_t1 w
    unfold Oper.wp execOp
    simp only [ho, List.map_toArray, List.map_cons, List.map_nil, hx, Sem.run_bind, hr, Result.andThen_ok, Sem.run_pure, Oper.upon_value]
    exact hK _ _ h
theorem wpList_buildT2 (hgd : op.guard = none) (x y : Operand) (ho : op.op = .build 35 #[(0, x), (1, y)]) (hx : a.eval x = .int .i64 1) (M : List Value) (hM : M = zK) (hy : a.eval y = .agg M.toArray) (L : List Value) (hL : L = rT) (h : wpList Tryd.prog ops Q rest (a.put op.dst (.agg L.toArray)) w) : wpList Tryd.prog ops Q (op :: rest) a w :=
  wpList_plain hgd fun _ hK => by
    subst hL hM
    have hr := build_t2 w
    unfold Oper.wp execOp
    simp only [ho, List.map_toArray, List.map_cons, List.map_nil, hx, hy, Sem.run_bind, hr, Result.andThen_ok, Sem.run_pure, Oper.upon_value]
    exact hK _ _ h
theorem wpList_buildT3 (hgd : op.guard = none) (x y : Operand) (ho : op.op = .build 35 #[(0, x), (2, y)]) (hx : a.eval x = .int .i64 1) (M : List Value) (hM : M = zW) (hy : a.eval y = .agg M.toArray) (L : List Value) (hL : L = rT) (h : wpList Tryd.prog ops Q rest (a.put op.dst (.agg L.toArray)) w) : wpList Tryd.prog ops Q (op :: rest) a w :=
  wpList_plain hgd fun _ hK => by
    subst hL hM
    have hr := build_t3 w
    unfold Oper.wp execOp
    simp only [ho, List.map_toArray, List.map_cons, List.map_nil, hx, hy, Sem.run_bind, hr, Result.andThen_ok, Sem.run_pure, Oper.upon_value]
    exact hK _ _ h
theorem wpList_eqlTd (hw : Region.wanted op (yielded ops a.tmps) = true) (x y : Operand) (yt : TypeId) (ho : op.op = .binOp .eql 35 x y yt) (L : List Value) (hL : L = rT) (hx : a.eval x = .agg L.toArray) (hy : a.eval y = .agg L.toArray)
    (h : wpList Tryd.prog ops Q rest (a.put op.dst (.bool true)) w) : wpList Tryd.prog ops Q (op :: rest) a w :=
  BigFrame.wpList_want hw fun _ hK => by
    subst hL
    unfold Oper.wp execOp
    simp only [ho, hx, hy, Sem.run_bind, run_eqGuard_agg w .eql 35 x y _ _ guardTd, Result.andThen_ok, eqTd, Sem.run_pure, Oper.upon_value]
    exact hK _ _ h
end
theorem sub_range {w : World} {b : Nat} {cs : List Value} {t : TypeId} (r : Row w b cs t) (o n : Nat) : w.rangeAt b o ((cs.drop o).take n) := r.range o _ (fun j v hj => by
  rw [List.getElem?_take] at hj
  split at hj
  · rwa [List.getElem?_drop] at hj
  · cases hj)
theorem sub_len {cs : List Value} (hl : cs.length = 66) (o n : Nat) (h : o + n ≤ 66) : ((cs.drop o).take n).length = n := by rw [List.length_take, List.length_drop, hl]; omega
set_option maxRecDepth 100000 in
set_option maxHeartbeats 2000000 in
theorem stepped_0 (cs : List Value) (_hl : cs.length = 66) (z0 z1 : Int) (h1 : -9223372036854775808 ≤ z0) (h2 : z0 ≤ 9223372036854775807) (hk : pk z0 13 = 0) (hc0 : cs[0]? = some (.int .i64 z0)) (hc1 : cs[1]? = some (.int .i64 z1)) (LR : List Value) (hLR : LR = rT) (w : World) :
    Calls Tryd.prog 6 #[.pointer none, .agg cs.toArray] w fun e w' => e = .returned (.agg LR.toArray) ∧ Below w.heap.size w w' := by
  have HP : Hid (∀ W, Calls Tryd.prog 5 #[.int .i64 z0, .int .i64 13] W fun e w' => e = .returned (.int .i64 0) ∧ w' = W) := fun W => by rw [← hk]; exact pick8 z0 13 (by decide) h1 h2 (by decide) W
  have HC0 : Hid (cs[0]? = some (.int .i64 z0)) := hc0
  have HC1 : Hid (cs[1]? = some (.int .i64 z1)) := hc1
  have HLRE : Hid (LR = rT) := hLR
  have HLRI : Hid ((Tryd.prog.info? 35).map (·.size) = some LR.length) := by show _ = _; rw [hLR]; exact info_td
  have HLRN : Hid (LR.length = zT.length) := by show _ = _; rw [hLR]; rfl
  have HLRO : Hid (LR.toArray.all (·.oneCell') = true) := by show _ = true; rw [hLR, ← Array.all_toList]; rfl
  clear _hl h1 h2 hk hc0 hc1 hLR
  go_enter Tryd.func6, Tryd.ntmps6
  go_upto_region 1 with (first
    | (refine wpList_boxG 28 rfl (.tmp 1) rfl cs rfl ?_; intro X3 q1 q2 q3; have R3 : Hid (Row X3 _ cs 28) := q1; have B3 : Hid (Below _ _ X3) := q2; clear q1 q2 q3; simp only [Act.put, List.setIfInBounds_toArray, List.set_cons_zero, List.set_cons_succ])
    | (refine wpList_allocT rfl rfl ?_; intro X4 q1 q2 q3; have R4 : Hid (Row X4 _ zT 35) := q1; have B4 : Hid (Below _ _ X4) := q2; clear q1 q2 q3; simp only [Act.put, List.setIfInBounds_toArray, List.set_cons_zero, List.set_cons_succ]))
  obtain ⟨b3, hb3⟩ : ∃ b, b = w.heap.size := ⟨_, rfl⟩
  obtain ⟨b4, hb4⟩ : ∃ b, b = X3.heap.size := ⟨_, rfl⟩
  have BX : Hid (Below w.heap.size w X4) := B3.out.trans (B4.out.mono B3.out.size)
  replace R3 : Hid (Row X4 b3 cs 28) := by rw [hb3]; exact Row.below R3.out B4.out R3.out.lt
  replace R4 : Hid (Row X4 b4 zT 35) := by rw [hb4]; exact R4.out
  have HW4 : Hid (w.heap.size ≤ b4) := by show _ ≤ _; rw [hb4]; exact B3.out.size
  rw [← hb3, ← hb4]
  clear hb3 hb4 B3 B4
  have c0 := R3.out.cell 0 _ HC0.out
  have c1 := R3.out.cell 1 _ HC1.out
  go_wp2_with fail
  refine Calls.mono (HP.out X4) ?_
  rintro e Vx ⟨rfl, hqq⟩
  obtain rfl := hqq.symm
  go_wp2_with fail
  refine Calls.mono (register_nil z1  X4) ?_
  rintro e V ⟨rfl, hB⟩
  replace R4 : Hid (Row V b4 zT 35) := Row.below R4.out hB R4.out.lt
  replace BX : Hid (Below w.heap.size w V) := BX.out.trans (hB.mono BX.out.size)
  clear hB c0 c1 R3
  go_wp2_with (first
    | (refine wpList_buildT1 rfl (.tmp 19) rfl rfl LR HLRE.out ?_; simp only [Act.put, List.setIfInBounds_toArray, List.set_cons_zero, List.set_cons_succ])
    | (refine wpList_storeL rfl 35 (.tmp 4) (.tmp 20) rfl b4 LR zT 35 rfl rfl R4.out HLRN.out HLRI.out HLRO.out ?_; intro Y q1 q2; have HY : Hid (Y = _) := q1; have RY : Hid (Row Y b4 LR 35) := q2; clear q1 q2; simp only [Act.put]))
  exact bodyPost_ret (results_rowS Tryd.results6 _ _ b4 35 LR rfl RY.out Tryd.underlying35 HLRI.out) rfl ⟨rfl, by rw [HY.out]; exact below_setCells BX.out HW4.out _⟩
set_option maxRecDepth 100000 in
set_option maxHeartbeats 2000000 in
theorem stepped_1 (cs : List Value) (_hl : cs.length = 66) (z0 z1 : Int) (h1 : -9223372036854775808 ≤ z0) (h2 : z0 ≤ 9223372036854775807) (hk : pk z0 13 = 1) (hc0 : cs[0]? = some (.int .i64 z0)) (hc1 : cs[1]? = some (.int .i64 z1)) (LR : List Value) (hLR : LR = rT) (w : World) :
    Calls Tryd.prog 6 #[.pointer none, .agg cs.toArray] w fun e w' => e = .returned (.agg LR.toArray) ∧ Below w.heap.size w w' := by
  have HP : Hid (∀ W, Calls Tryd.prog 5 #[.int .i64 z0, .int .i64 13] W fun e w' => e = .returned (.int .i64 1) ∧ w' = W) := fun W => by rw [← hk]; exact pick8 z0 13 (by decide) h1 h2 (by decide) W
  have HC0 : Hid (cs[0]? = some (.int .i64 z0)) := hc0
  have HC1 : Hid (cs[1]? = some (.int .i64 z1)) := hc1
  have HLRE : Hid (LR = rT) := hLR
  have HLRI : Hid ((Tryd.prog.info? 35).map (·.size) = some LR.length) := by show _ = _; rw [hLR]; exact info_td
  have HLRN : Hid (LR.length = zT.length) := by show _ = _; rw [hLR]; rfl
  have HLRO : Hid (LR.toArray.all (·.oneCell') = true) := by show _ = true; rw [hLR, ← Array.all_toList]; rfl
  clear _hl h1 h2 hk hc0 hc1 hLR
  go_enter Tryd.func6, Tryd.ntmps6
  go_upto_region 1 with (first
    | (refine wpList_boxG 28 rfl (.tmp 1) rfl cs rfl ?_; intro X3 q1 q2 q3; have R3 : Hid (Row X3 _ cs 28) := q1; have B3 : Hid (Below _ _ X3) := q2; clear q1 q2 q3; simp only [Act.put, List.setIfInBounds_toArray, List.set_cons_zero, List.set_cons_succ])
    | (refine wpList_allocT rfl rfl ?_; intro X4 q1 q2 q3; have R4 : Hid (Row X4 _ zT 35) := q1; have B4 : Hid (Below _ _ X4) := q2; clear q1 q2 q3; simp only [Act.put, List.setIfInBounds_toArray, List.set_cons_zero, List.set_cons_succ]))
  obtain ⟨b3, hb3⟩ : ∃ b, b = w.heap.size := ⟨_, rfl⟩
  obtain ⟨b4, hb4⟩ : ∃ b, b = X3.heap.size := ⟨_, rfl⟩
  have BX : Hid (Below w.heap.size w X4) := B3.out.trans (B4.out.mono B3.out.size)
  replace R3 : Hid (Row X4 b3 cs 28) := by rw [hb3]; exact Row.below R3.out B4.out R3.out.lt
  replace R4 : Hid (Row X4 b4 zT 35) := by rw [hb4]; exact R4.out
  have HW4 : Hid (w.heap.size ≤ b4) := by show _ ≤ _; rw [hb4]; exact B3.out.size
  rw [← hb3, ← hb4]
  clear hb3 hb4 B3 B4
  have c0 := R3.out.cell 0 _ HC0.out
  have c1 := R3.out.cell 1 _ HC1.out
  go_wp2_with fail
  refine Calls.mono (HP.out X4) ?_
  rintro e Vx ⟨rfl, hqq⟩
  obtain rfl := hqq.symm
  go_wp2_with fail
  refine Calls.mono (pause_nil z1  X4) ?_
  rintro e V ⟨rfl, hB⟩
  replace R4 : Hid (Row V b4 zT 35) := Row.below R4.out hB R4.out.lt
  replace BX : Hid (Below w.heap.size w V) := BX.out.trans (hB.mono BX.out.size)
  clear hB c0 c1 R3
  go_wp2_with (first
    | (refine wpList_buildT1 rfl (.tmp 26) rfl rfl LR HLRE.out ?_; simp only [Act.put, List.setIfInBounds_toArray, List.set_cons_zero, List.set_cons_succ])
    | (refine wpList_storeL rfl 35 (.tmp 4) (.tmp 27) rfl b4 LR zT 35 rfl rfl R4.out HLRN.out HLRI.out HLRO.out ?_; intro Y q1 q2; have HY : Hid (Y = _) := q1; have RY : Hid (Row Y b4 LR 35) := q2; clear q1 q2; simp only [Act.put]))
  exact bodyPost_ret (results_rowS Tryd.results6 _ _ b4 35 LR rfl RY.out Tryd.underlying35 HLRI.out) rfl ⟨rfl, by rw [HY.out]; exact below_setCells BX.out HW4.out _⟩
set_option maxRecDepth 100000 in
set_option maxHeartbeats 2000000 in
theorem stepped_2 (cs : List Value) (_hl : cs.length = 66) (z0 z1 : Int) (h1 : -9223372036854775808 ≤ z0) (h2 : z0 ≤ 9223372036854775807) (hk : pk z0 13 = 2) (hc0 : cs[0]? = some (.int .i64 z0)) (hc1 : cs[1]? = some (.int .i64 z1)) (LR : List Value) (hLR : LR = rT) (w : World) :
    Calls Tryd.prog 6 #[.pointer none, .agg cs.toArray] w fun e w' => e = .returned (.agg LR.toArray) ∧ Below w.heap.size w w' := by
  have HP : Hid (∀ W, Calls Tryd.prog 5 #[.int .i64 z0, .int .i64 13] W fun e w' => e = .returned (.int .i64 2) ∧ w' = W) := fun W => by rw [← hk]; exact pick8 z0 13 (by decide) h1 h2 (by decide) W
  have HC0 : Hid (cs[0]? = some (.int .i64 z0)) := hc0
  have HC1 : Hid (cs[1]? = some (.int .i64 z1)) := hc1
  have HLRE : Hid (LR = rT) := hLR
  have HLRI : Hid ((Tryd.prog.info? 35).map (·.size) = some LR.length) := by show _ = _; rw [hLR]; exact info_td
  have HLRN : Hid (LR.length = zT.length) := by show _ = _; rw [hLR]; rfl
  have HLRO : Hid (LR.toArray.all (·.oneCell') = true) := by show _ = true; rw [hLR, ← Array.all_toList]; rfl
  clear _hl h1 h2 hk hc0 hc1 hLR
  go_enter Tryd.func6, Tryd.ntmps6
  go_upto_region 1 with (first
    | (refine wpList_boxG 28 rfl (.tmp 1) rfl cs rfl ?_; intro X3 q1 q2 q3; have R3 : Hid (Row X3 _ cs 28) := q1; have B3 : Hid (Below _ _ X3) := q2; clear q1 q2 q3; simp only [Act.put, List.setIfInBounds_toArray, List.set_cons_zero, List.set_cons_succ])
    | (refine wpList_allocT rfl rfl ?_; intro X4 q1 q2 q3; have R4 : Hid (Row X4 _ zT 35) := q1; have B4 : Hid (Below _ _ X4) := q2; clear q1 q2 q3; simp only [Act.put, List.setIfInBounds_toArray, List.set_cons_zero, List.set_cons_succ]))
  obtain ⟨b3, hb3⟩ : ∃ b, b = w.heap.size := ⟨_, rfl⟩
  obtain ⟨b4, hb4⟩ : ∃ b, b = X3.heap.size := ⟨_, rfl⟩
  have BX : Hid (Below w.heap.size w X4) := B3.out.trans (B4.out.mono B3.out.size)
  replace R3 : Hid (Row X4 b3 cs 28) := by rw [hb3]; exact Row.below R3.out B4.out R3.out.lt
  replace R4 : Hid (Row X4 b4 zT 35) := by rw [hb4]; exact R4.out
  have HW4 : Hid (w.heap.size ≤ b4) := by show _ ≤ _; rw [hb4]; exact B3.out.size
  rw [← hb3, ← hb4]
  clear hb3 hb4 B3 B4
  have c0 := R3.out.cell 0 _ HC0.out
  have c1 := R3.out.cell 1 _ HC1.out
  go_wp2_with fail
  refine Calls.mono (HP.out X4) ?_
  rintro e Vx ⟨rfl, hqq⟩
  obtain rfl := hqq.symm
  go_wp2_with fail
  refine Calls.mono (resume_nil z1  X4) ?_
  rintro e V ⟨rfl, hB⟩
  replace R4 : Hid (Row V b4 zT 35) := Row.below R4.out hB R4.out.lt
  replace BX : Hid (Below w.heap.size w V) := BX.out.trans (hB.mono BX.out.size)
  clear hB c0 c1 R3
  go_wp2_with (first
    | (refine wpList_buildT1 rfl (.tmp 33) rfl rfl LR HLRE.out ?_; simp only [Act.put, List.setIfInBounds_toArray, List.set_cons_zero, List.set_cons_succ])
    | (refine wpList_storeL rfl 35 (.tmp 4) (.tmp 34) rfl b4 LR zT 35 rfl rfl R4.out HLRN.out HLRI.out HLRO.out ?_; intro Y q1 q2; have HY : Hid (Y = _) := q1; have RY : Hid (Row Y b4 LR 35) := q2; clear q1 q2; simp only [Act.put]))
  exact bodyPost_ret (results_rowS Tryd.results6 _ _ b4 35 LR rfl RY.out Tryd.underlying35 HLRI.out) rfl ⟨rfl, by rw [HY.out]; exact below_setCells BX.out HW4.out _⟩
set_option maxRecDepth 100000 in
set_option maxHeartbeats 2000000 in
theorem stepped_3 (cs : List Value) (hl : cs.length = 66) (z0 z1 : Int) (h1 : -9223372036854775808 ≤ z0) (h2 : z0 ≤ 9223372036854775807) (hk : pk z0 13 = 3) (hc0 : cs[0]? = some (.int .i64 z0)) (hc1 : cs[1]? = some (.int .i64 z1)) (LR : List Value) (hLR : LR = rT) (w : World) :
    Calls Tryd.prog 6 #[.pointer none, .agg cs.toArray] w fun e w' => e = .returned (.agg LR.toArray) ∧ Below w.heap.size w w' := by
  have HP : Hid (∀ W, Calls Tryd.prog 5 #[.int .i64 z0, .int .i64 13] W fun e w' => e = .returned (.int .i64 3) ∧ w' = W) := fun W => by rw [← hk]; exact pick8 z0 13 (by decide) h1 h2 (by decide) W
  have HC0 : Hid (cs[0]? = some (.int .i64 z0)) := hc0
  have HC1 : Hid (cs[1]? = some (.int .i64 z1)) := hc1
  have HLRE : Hid (LR = rT) := hLR
  have HLRI : Hid ((Tryd.prog.info? 35).map (·.size) = some LR.length) := by show _ = _; rw [hLR]; exact info_td
  have HLRN : Hid (LR.length = zT.length) := by show _ = _; rw [hLR]; rfl
  have HLRO : Hid (LR.toArray.all (·.oneCell') = true) := by show _ = true; rw [hLR, ← Array.all_toList]; rfl
  obtain ⟨MA, hMA⟩ : ∃ M, M = (cs.drop 2).take 20 := ⟨_, rfl⟩
  have HMA : Hid (MA = (cs.drop 2).take 20) := hMA
  have HIA : Hid ((Tryd.prog.info? 23).map (·.size) = some MA.length) := by show _ = _; rw [hMA, sub_len hl 2 20 (by decide)]; kernel_rfl
  obtain ⟨MW, hMW⟩ : ∃ M, M = (cs.drop 62).take 4 := ⟨_, rfl⟩
  have HMW : Hid (MW = (cs.drop 62).take 4) := hMW
  have HIW : Hid ((Tryd.prog.info? 26).map (·.size) = some MW.length) := by show _ = _; rw [hMW, sub_len hl 62 4 (by decide)]; kernel_rfl
  clear hl h1 h2 hk hc0 hc1 hLR hMA hMW
  go_enter Tryd.func6, Tryd.ntmps6
  go_upto_region 1 with (first
    | (refine wpList_boxG 28 rfl (.tmp 1) rfl cs rfl ?_; intro X3 q1 q2 q3; have R3 : Hid (Row X3 _ cs 28) := q1; have B3 : Hid (Below _ _ X3) := q2; clear q1 q2 q3; simp only [Act.put, List.setIfInBounds_toArray, List.set_cons_zero, List.set_cons_succ])
    | (refine wpList_allocT rfl rfl ?_; intro X4 q1 q2 q3; have R4 : Hid (Row X4 _ zT 35) := q1; have B4 : Hid (Below _ _ X4) := q2; clear q1 q2 q3; simp only [Act.put, List.setIfInBounds_toArray, List.set_cons_zero, List.set_cons_succ]))
  obtain ⟨b3, hb3⟩ : ∃ b, b = w.heap.size := ⟨_, rfl⟩
  obtain ⟨b4, hb4⟩ : ∃ b, b = X3.heap.size := ⟨_, rfl⟩
  have BX : Hid (Below w.heap.size w X4) := B3.out.trans (B4.out.mono B3.out.size)
  replace R3 : Hid (Row X4 b3 cs 28) := by rw [hb3]; exact Row.below R3.out B4.out R3.out.lt
  replace R4 : Hid (Row X4 b4 zT 35) := by rw [hb4]; exact R4.out
  have HW4 : Hid (w.heap.size ≤ b4) := by show _ ≤ _; rw [hb4]; exact B3.out.size
  rw [← hb3, ← hb4]
  clear hb3 hb4 B3 B4
  have c0 := R3.out.cell 0 _ HC0.out
  have c1 := R3.out.cell 1 _ HC1.out
  go_wp2_with fail
  refine Calls.mono (HP.out X4) ?_
  rintro e Vx ⟨rfl, hqq⟩
  obtain rfl := hqq.symm
  have SA : Hid (X4.rangeAt b3 2 MA) := by show World.rangeAt _ _ _ _; rw [HMA.out]; exact sub_range R3.out 2 20
  have SW : Hid (X4.rangeAt b3 62 MW) := by show World.rangeAt _ _ _ _; rw [HMW.out]; exact sub_range R3.out 62 4
  go_wp2_with (first
    | (refine wpList_load_w rfl 23 (.tmp 40) rfl b3 2 rfl MA _ SA.out Tryd.underlying23 rfl HIA.out ?_; simp only [Act.put, List.setIfInBounds_toArray, List.set_cons_zero, List.set_cons_succ])
    | (refine wpList_load_w rfl 26 (.tmp 42) rfl b3 62 rfl MW _ SW.out Tryd.underlying26 rfl HIW.out ?_; simp only [Act.put, List.setIfInBounds_toArray, List.set_cons_zero, List.set_cons_succ]))
  refine Calls.mono (mint_nil z1 MA.toArray MW.toArray X4) ?_
  rintro e V ⟨rfl, hB⟩
  replace R4 : Hid (Row V b4 zT 35) := Row.below R4.out hB R4.out.lt
  replace BX : Hid (Below w.heap.size w V) := BX.out.trans (hB.mono BX.out.size)
  clear hB c0 c1 R3
  go_wp2_with (first
    | (refine wpList_buildT1 rfl (.tmp 44) rfl rfl LR HLRE.out ?_; simp only [Act.put, List.setIfInBounds_toArray, List.set_cons_zero, List.set_cons_succ])
    | (refine wpList_storeL rfl 35 (.tmp 4) (.tmp 45) rfl b4 LR zT 35 rfl rfl R4.out HLRN.out HLRI.out HLRO.out ?_; intro Y q1 q2; have HY : Hid (Y = _) := q1; have RY : Hid (Row Y b4 LR 35) := q2; clear q1 q2; simp only [Act.put]))
  exact bodyPost_ret (results_rowS Tryd.results6 _ _ b4 35 LR rfl RY.out Tryd.underlying35 HLRI.out) rfl ⟨rfl, by rw [HY.out]; exact below_setCells BX.out HW4.out _⟩
set_option maxRecDepth 100000 in
set_option maxHeartbeats 2000000 in
theorem stepped_4 (cs : List Value) (hl : cs.length = 66) (z0 z1 : Int) (h1 : -9223372036854775808 ≤ z0) (h2 : z0 ≤ 9223372036854775807) (hk : pk z0 13 = 4) (hc0 : cs[0]? = some (.int .i64 z0)) (hc1 : cs[1]? = some (.int .i64 z1)) (LR : List Value) (hLR : LR = rT) (w : World) :
    Calls Tryd.prog 6 #[.pointer none, .agg cs.toArray] w fun e w' => e = .returned (.agg LR.toArray) ∧ Below w.heap.size w w' := by
  have HP : Hid (∀ W, Calls Tryd.prog 5 #[.int .i64 z0, .int .i64 13] W fun e w' => e = .returned (.int .i64 4) ∧ w' = W) := fun W => by rw [← hk]; exact pick8 z0 13 (by decide) h1 h2 (by decide) W
  have HC0 : Hid (cs[0]? = some (.int .i64 z0)) := hc0
  have HC1 : Hid (cs[1]? = some (.int .i64 z1)) := hc1
  have HLRE : Hid (LR = rT) := hLR
  have HLRI : Hid ((Tryd.prog.info? 35).map (·.size) = some LR.length) := by show _ = _; rw [hLR]; exact info_td
  have HLRN : Hid (LR.length = zT.length) := by show _ = _; rw [hLR]; rfl
  have HLRO : Hid (LR.toArray.all (·.oneCell') = true) := by show _ = true; rw [hLR, ← Array.all_toList]; rfl
  obtain ⟨MA, hMA⟩ : ∃ M, M = (cs.drop 2).take 20 := ⟨_, rfl⟩
  have HMA : Hid (MA = (cs.drop 2).take 20) := hMA
  have HIA : Hid ((Tryd.prog.info? 23).map (·.size) = some MA.length) := by show _ = _; rw [hMA, sub_len hl 2 20 (by decide)]; kernel_rfl
  obtain ⟨MW, hMW⟩ : ∃ M, M = (cs.drop 62).take 4 := ⟨_, rfl⟩
  have HMW : Hid (MW = (cs.drop 62).take 4) := hMW
  have HIW : Hid ((Tryd.prog.info? 26).map (·.size) = some MW.length) := by show _ = _; rw [hMW, sub_len hl 62 4 (by decide)]; kernel_rfl
  clear hl h1 h2 hk hc0 hc1 hLR hMA hMW
  go_enter Tryd.func6, Tryd.ntmps6
  go_upto_region 1 with (first
    | (refine wpList_boxG 28 rfl (.tmp 1) rfl cs rfl ?_; intro X3 q1 q2 q3; have R3 : Hid (Row X3 _ cs 28) := q1; have B3 : Hid (Below _ _ X3) := q2; clear q1 q2 q3; simp only [Act.put, List.setIfInBounds_toArray, List.set_cons_zero, List.set_cons_succ])
    | (refine wpList_allocT rfl rfl ?_; intro X4 q1 q2 q3; have R4 : Hid (Row X4 _ zT 35) := q1; have B4 : Hid (Below _ _ X4) := q2; clear q1 q2 q3; simp only [Act.put, List.setIfInBounds_toArray, List.set_cons_zero, List.set_cons_succ]))
  obtain ⟨b3, hb3⟩ : ∃ b, b = w.heap.size := ⟨_, rfl⟩
  obtain ⟨b4, hb4⟩ : ∃ b, b = X3.heap.size := ⟨_, rfl⟩
  have BX : Hid (Below w.heap.size w X4) := B3.out.trans (B4.out.mono B3.out.size)
  replace R3 : Hid (Row X4 b3 cs 28) := by rw [hb3]; exact Row.below R3.out B4.out R3.out.lt
  replace R4 : Hid (Row X4 b4 zT 35) := by rw [hb4]; exact R4.out
  have HW4 : Hid (w.heap.size ≤ b4) := by show _ ≤ _; rw [hb4]; exact B3.out.size
  rw [← hb3, ← hb4]
  clear hb3 hb4 B3 B4
  have c0 := R3.out.cell 0 _ HC0.out
  have c1 := R3.out.cell 1 _ HC1.out
  go_wp2_with fail
  refine Calls.mono (HP.out X4) ?_
  rintro e Vx ⟨rfl, hqq⟩
  obtain rfl := hqq.symm
  have SA : Hid (X4.rangeAt b3 2 MA) := by show World.rangeAt _ _ _ _; rw [HMA.out]; exact sub_range R3.out 2 20
  have SW : Hid (X4.rangeAt b3 62 MW) := by show World.rangeAt _ _ _ _; rw [HMW.out]; exact sub_range R3.out 62 4
  go_wp2_with (first
    | (refine wpList_load_w rfl 23 (.tmp 51) rfl b3 2 rfl MA _ SA.out Tryd.underlying23 rfl HIA.out ?_; simp only [Act.put, List.setIfInBounds_toArray, List.set_cons_zero, List.set_cons_succ])
    | (refine wpList_load_w rfl 26 (.tmp 53) rfl b3 62 rfl MW _ SW.out Tryd.underlying26 rfl HIW.out ?_; simp only [Act.put, List.setIfInBounds_toArray, List.set_cons_zero, List.set_cons_succ]))
  refine Calls.mono (burn_nil z1 MA.toArray MW.toArray X4) ?_
  rintro e V ⟨rfl, hB⟩
  replace R4 : Hid (Row V b4 zT 35) := Row.below R4.out hB R4.out.lt
  replace BX : Hid (Below w.heap.size w V) := BX.out.trans (hB.mono BX.out.size)
  clear hB c0 c1 R3
  go_wp2_with (first
    | (refine wpList_buildT1 rfl (.tmp 55) rfl rfl LR HLRE.out ?_; simp only [Act.put, List.setIfInBounds_toArray, List.set_cons_zero, List.set_cons_succ])
    | (refine wpList_storeL rfl 35 (.tmp 4) (.tmp 56) rfl b4 LR zT 35 rfl rfl R4.out HLRN.out HLRI.out HLRO.out ?_; intro Y q1 q2; have HY : Hid (Y = _) := q1; have RY : Hid (Row Y b4 LR 35) := q2; clear q1 q2; simp only [Act.put]))
  exact bodyPost_ret (results_rowS Tryd.results6 _ _ b4 35 LR rfl RY.out Tryd.underlying35 HLRI.out) rfl ⟨rfl, by rw [HY.out]; exact below_setCells BX.out HW4.out _⟩
set_option maxRecDepth 100000 in
set_option maxHeartbeats 2000000 in
theorem stepped_5 (cs : List Value) (hl : cs.length = 66) (z0 z1 : Int) (h1 : -9223372036854775808 ≤ z0) (h2 : z0 ≤ 9223372036854775807) (hk : pk z0 13 = 5) (hc0 : cs[0]? = some (.int .i64 z0)) (hc1 : cs[1]? = some (.int .i64 z1)) (LR : List Value) (hLR : LR = rT) (w : World) :
    Calls Tryd.prog 6 #[.pointer none, .agg cs.toArray] w fun e w' => e = .returned (.agg LR.toArray) ∧ Below w.heap.size w w' := by
  have HP : Hid (∀ W, Calls Tryd.prog 5 #[.int .i64 z0, .int .i64 13] W fun e w' => e = .returned (.int .i64 5) ∧ w' = W) := fun W => by rw [← hk]; exact pick8 z0 13 (by decide) h1 h2 (by decide) W
  have HC0 : Hid (cs[0]? = some (.int .i64 z0)) := hc0
  have HC1 : Hid (cs[1]? = some (.int .i64 z1)) := hc1
  have HLRE : Hid (LR = rT) := hLR
  have HLRI : Hid ((Tryd.prog.info? 35).map (·.size) = some LR.length) := by show _ = _; rw [hLR]; exact info_td
  have HLRN : Hid (LR.length = zT.length) := by show _ = _; rw [hLR]; rfl
  have HLRO : Hid (LR.toArray.all (·.oneCell') = true) := by show _ = true; rw [hLR, ← Array.all_toList]; rfl
  obtain ⟨MA, hMA⟩ : ∃ M, M = (cs.drop 2).take 20 := ⟨_, rfl⟩
  have HMA : Hid (MA = (cs.drop 2).take 20) := hMA
  have HIA : Hid ((Tryd.prog.info? 23).map (·.size) = some MA.length) := by show _ = _; rw [hMA, sub_len hl 2 20 (by decide)]; kernel_rfl
  obtain ⟨MB, hMB⟩ : ∃ M, M = (cs.drop 22).take 20 := ⟨_, rfl⟩
  have HMB : Hid (MB = (cs.drop 22).take 20) := hMB
  have HIB : Hid ((Tryd.prog.info? 23).map (·.size) = some MB.length) := by show _ = _; rw [hMB, sub_len hl 22 20 (by decide)]; kernel_rfl
  obtain ⟨MW, hMW⟩ : ∃ M, M = (cs.drop 62).take 4 := ⟨_, rfl⟩
  have HMW : Hid (MW = (cs.drop 62).take 4) := hMW
  have HIW : Hid ((Tryd.prog.info? 26).map (·.size) = some MW.length) := by show _ = _; rw [hMW, sub_len hl 62 4 (by decide)]; kernel_rfl
  clear hl h1 h2 hk hc0 hc1 hLR hMA hMB hMW
  go_enter Tryd.func6, Tryd.ntmps6
  go_upto_region 1 with (first
    | (refine wpList_boxG 28 rfl (.tmp 1) rfl cs rfl ?_; intro X3 q1 q2 q3; have R3 : Hid (Row X3 _ cs 28) := q1; have B3 : Hid (Below _ _ X3) := q2; clear q1 q2 q3; simp only [Act.put, List.setIfInBounds_toArray, List.set_cons_zero, List.set_cons_succ])
    | (refine wpList_allocT rfl rfl ?_; intro X4 q1 q2 q3; have R4 : Hid (Row X4 _ zT 35) := q1; have B4 : Hid (Below _ _ X4) := q2; clear q1 q2 q3; simp only [Act.put, List.setIfInBounds_toArray, List.set_cons_zero, List.set_cons_succ]))
  obtain ⟨b3, hb3⟩ : ∃ b, b = w.heap.size := ⟨_, rfl⟩
  obtain ⟨b4, hb4⟩ : ∃ b, b = X3.heap.size := ⟨_, rfl⟩
  have BX : Hid (Below w.heap.size w X4) := B3.out.trans (B4.out.mono B3.out.size)
  replace R3 : Hid (Row X4 b3 cs 28) := by rw [hb3]; exact Row.below R3.out B4.out R3.out.lt
  replace R4 : Hid (Row X4 b4 zT 35) := by rw [hb4]; exact R4.out
  have HW4 : Hid (w.heap.size ≤ b4) := by show _ ≤ _; rw [hb4]; exact B3.out.size
  rw [← hb3, ← hb4]
  clear hb3 hb4 B3 B4
  have c0 := R3.out.cell 0 _ HC0.out
  have c1 := R3.out.cell 1 _ HC1.out
  go_wp2_with fail
  refine Calls.mono (HP.out X4) ?_
  rintro e Vx ⟨rfl, hqq⟩
  obtain rfl := hqq.symm
  have SA : Hid (X4.rangeAt b3 2 MA) := by show World.rangeAt _ _ _ _; rw [HMA.out]; exact sub_range R3.out 2 20
  have SB : Hid (X4.rangeAt b3 22 MB) := by show World.rangeAt _ _ _ _; rw [HMB.out]; exact sub_range R3.out 22 20
  have SW : Hid (X4.rangeAt b3 62 MW) := by show World.rangeAt _ _ _ _; rw [HMW.out]; exact sub_range R3.out 62 4
  go_wp2_with (first
    | (refine wpList_load_w rfl 23 (.tmp 62) rfl b3 2 rfl MA _ SA.out Tryd.underlying23 rfl HIA.out ?_; simp only [Act.put, List.setIfInBounds_toArray, List.set_cons_zero, List.set_cons_succ])
    | (refine wpList_load_w rfl 23 (.tmp 64) rfl b3 22 rfl MB _ SB.out Tryd.underlying23 rfl HIB.out ?_; simp only [Act.put, List.setIfInBounds_toArray, List.set_cons_zero, List.set_cons_succ])
    | (refine wpList_load_w rfl 26 (.tmp 66) rfl b3 62 rfl MW _ SW.out Tryd.underlying26 rfl HIW.out ?_; simp only [Act.put, List.setIfInBounds_toArray, List.set_cons_zero, List.set_cons_succ]))
  refine Calls.mono (move_nil z1 MA.toArray MB.toArray MW.toArray X4) ?_
  rintro e V ⟨rfl, hB⟩
  replace R4 : Hid (Row V b4 zT 35) := Row.below R4.out hB R4.out.lt
  replace BX : Hid (Below w.heap.size w V) := BX.out.trans (hB.mono BX.out.size)
  clear hB c0 c1 R3
  go_wp2_with (first
    | (refine wpList_buildT1 rfl (.tmp 68) rfl rfl LR HLRE.out ?_; simp only [Act.put, List.setIfInBounds_toArray, List.set_cons_zero, List.set_cons_succ])
    | (refine wpList_storeL rfl 35 (.tmp 4) (.tmp 69) rfl b4 LR zT 35 rfl rfl R4.out HLRN.out HLRI.out HLRO.out ?_; intro Y q1 q2; have HY : Hid (Y = _) := q1; have RY : Hid (Row Y b4 LR 35) := q2; clear q1 q2; simp only [Act.put]))
  exact bodyPost_ret (results_rowS Tryd.results6 _ _ b4 35 LR rfl RY.out Tryd.underlying35 HLRI.out) rfl ⟨rfl, by rw [HY.out]; exact below_setCells BX.out HW4.out _⟩
set_option maxRecDepth 100000 in
set_option maxHeartbeats 2000000 in
theorem stepped_6 (cs : List Value) (hl : cs.length = 66) (z0 z1 : Int) (h1 : -9223372036854775808 ≤ z0) (h2 : z0 ≤ 9223372036854775807) (hk : pk z0 13 = 6) (hc0 : cs[0]? = some (.int .i64 z0)) (hc1 : cs[1]? = some (.int .i64 z1)) (LR : List Value) (hLR : LR = rT) (w : World) :
    Calls Tryd.prog 6 #[.pointer none, .agg cs.toArray] w fun e w' => e = .returned (.agg LR.toArray) ∧ Below w.heap.size w w' := by
  have HP : Hid (∀ W, Calls Tryd.prog 5 #[.int .i64 z0, .int .i64 13] W fun e w' => e = .returned (.int .i64 6) ∧ w' = W) := fun W => by rw [← hk]; exact pick8 z0 13 (by decide) h1 h2 (by decide) W
  have HC0 : Hid (cs[0]? = some (.int .i64 z0)) := hc0
  have HC1 : Hid (cs[1]? = some (.int .i64 z1)) := hc1
  have HLRE : Hid (LR = rT) := hLR
  have HLRI : Hid ((Tryd.prog.info? 35).map (·.size) = some LR.length) := by show _ = _; rw [hLR]; exact info_td
  have HLRN : Hid (LR.length = zT.length) := by show _ = _; rw [hLR]; rfl
  have HLRO : Hid (LR.toArray.all (·.oneCell') = true) := by show _ = true; rw [hLR, ← Array.all_toList]; rfl
  obtain ⟨MA, hMA⟩ : ∃ M, M = (cs.drop 2).take 20 := ⟨_, rfl⟩
  have HMA : Hid (MA = (cs.drop 2).take 20) := hMA
  have HIA : Hid ((Tryd.prog.info? 23).map (·.size) = some MA.length) := by show _ = _; rw [hMA, sub_len hl 2 20 (by decide)]; kernel_rfl
  obtain ⟨MB, hMB⟩ : ∃ M, M = (cs.drop 22).take 20 := ⟨_, rfl⟩
  have HMB : Hid (MB = (cs.drop 22).take 20) := hMB
  have HIB : Hid ((Tryd.prog.info? 23).map (·.size) = some MB.length) := by show _ = _; rw [hMB, sub_len hl 22 20 (by decide)]; kernel_rfl
  obtain ⟨MW, hMW⟩ : ∃ M, M = (cs.drop 62).take 4 := ⟨_, rfl⟩
  have HMW : Hid (MW = (cs.drop 62).take 4) := hMW
  have HIW : Hid ((Tryd.prog.info? 26).map (·.size) = some MW.length) := by show _ = _; rw [hMW, sub_len hl 62 4 (by decide)]; kernel_rfl
  clear hl h1 h2 hk hc0 hc1 hLR hMA hMB hMW
  go_enter Tryd.func6, Tryd.ntmps6
  go_upto_region 1 with (first
    | (refine wpList_boxG 28 rfl (.tmp 1) rfl cs rfl ?_; intro X3 q1 q2 q3; have R3 : Hid (Row X3 _ cs 28) := q1; have B3 : Hid (Below _ _ X3) := q2; clear q1 q2 q3; simp only [Act.put, List.setIfInBounds_toArray, List.set_cons_zero, List.set_cons_succ])
    | (refine wpList_allocT rfl rfl ?_; intro X4 q1 q2 q3; have R4 : Hid (Row X4 _ zT 35) := q1; have B4 : Hid (Below _ _ X4) := q2; clear q1 q2 q3; simp only [Act.put, List.setIfInBounds_toArray, List.set_cons_zero, List.set_cons_succ]))
  obtain ⟨b3, hb3⟩ : ∃ b, b = w.heap.size := ⟨_, rfl⟩
  obtain ⟨b4, hb4⟩ : ∃ b, b = X3.heap.size := ⟨_, rfl⟩
  have BX : Hid (Below w.heap.size w X4) := B3.out.trans (B4.out.mono B3.out.size)
  replace R3 : Hid (Row X4 b3 cs 28) := by rw [hb3]; exact Row.below R3.out B4.out R3.out.lt
  replace R4 : Hid (Row X4 b4 zT 35) := by rw [hb4]; exact R4.out
  have HW4 : Hid (w.heap.size ≤ b4) := by show _ ≤ _; rw [hb4]; exact B3.out.size
  rw [← hb3, ← hb4]
  clear hb3 hb4 B3 B4
  have c0 := R3.out.cell 0 _ HC0.out
  have c1 := R3.out.cell 1 _ HC1.out
  go_wp2_with fail
  refine Calls.mono (HP.out X4) ?_
  rintro e Vx ⟨rfl, hqq⟩
  obtain rfl := hqq.symm
  have SA : Hid (X4.rangeAt b3 2 MA) := by show World.rangeAt _ _ _ _; rw [HMA.out]; exact sub_range R3.out 2 20
  have SB : Hid (X4.rangeAt b3 22 MB) := by show World.rangeAt _ _ _ _; rw [HMB.out]; exact sub_range R3.out 22 20
  have SW : Hid (X4.rangeAt b3 62 MW) := by show World.rangeAt _ _ _ _; rw [HMW.out]; exact sub_range R3.out 62 4
  go_wp2_with (first
    | (refine wpList_load_w rfl 23 (.tmp 75) rfl b3 2 rfl MA _ SA.out Tryd.underlying23 rfl HIA.out ?_; simp only [Act.put, List.setIfInBounds_toArray, List.set_cons_zero, List.set_cons_succ])
    | (refine wpList_load_w rfl 23 (.tmp 77) rfl b3 22 rfl MB _ SB.out Tryd.underlying23 rfl HIB.out ?_; simp only [Act.put, List.setIfInBounds_toArray, List.set_cons_zero, List.set_cons_succ])
    | (refine wpList_load_w rfl 26 (.tmp 79) rfl b3 62 rfl MW _ SW.out Tryd.underlying26 rfl HIW.out ?_; simp only [Act.put, List.setIfInBounds_toArray, List.set_cons_zero, List.set_cons_succ]))
  refine Calls.mono (allow_nil z1 MA.toArray MB.toArray MW.toArray X4) ?_
  rintro e V ⟨rfl, hB⟩
  replace R4 : Hid (Row V b4 zT 35) := Row.below R4.out hB R4.out.lt
  replace BX : Hid (Below w.heap.size w V) := BX.out.trans (hB.mono BX.out.size)
  clear hB c0 c1 R3
  go_wp2_with (first
    | (refine wpList_buildT1 rfl (.tmp 81) rfl rfl LR HLRE.out ?_; simp only [Act.put, List.setIfInBounds_toArray, List.set_cons_zero, List.set_cons_succ])
    | (refine wpList_storeL rfl 35 (.tmp 4) (.tmp 82) rfl b4 LR zT 35 rfl rfl R4.out HLRN.out HLRI.out HLRO.out ?_; intro Y q1 q2; have HY : Hid (Y = _) := q1; have RY : Hid (Row Y b4 LR 35) := q2; clear q1 q2; simp only [Act.put]))
  exact bodyPost_ret (results_rowS Tryd.results6 _ _ b4 35 LR rfl RY.out Tryd.underlying35 HLRI.out) rfl ⟨rfl, by rw [HY.out]; exact below_setCells BX.out HW4.out _⟩
set_option maxRecDepth 100000 in
set_option maxHeartbeats 2000000 in
theorem stepped_7 (cs : List Value) (hl : cs.length = 66) (z0 z1 : Int) (h1 : -9223372036854775808 ≤ z0) (h2 : z0 ≤ 9223372036854775807) (hk : pk z0 13 = 7) (hc0 : cs[0]? = some (.int .i64 z0)) (hc1 : cs[1]? = some (.int .i64 z1)) (LR : List Value) (hLR : LR = rT) (w : World) :
    Calls Tryd.prog 6 #[.pointer none, .agg cs.toArray] w fun e w' => e = .returned (.agg LR.toArray) ∧ Below w.heap.size w w' := by
  have HP : Hid (∀ W, Calls Tryd.prog 5 #[.int .i64 z0, .int .i64 13] W fun e w' => e = .returned (.int .i64 7) ∧ w' = W) := fun W => by rw [← hk]; exact pick8 z0 13 (by decide) h1 h2 (by decide) W
  have HC0 : Hid (cs[0]? = some (.int .i64 z0)) := hc0
  have HC1 : Hid (cs[1]? = some (.int .i64 z1)) := hc1
  have HLRE : Hid (LR = rT) := hLR
  have HLRI : Hid ((Tryd.prog.info? 35).map (·.size) = some LR.length) := by show _ = _; rw [hLR]; exact info_td
  have HLRN : Hid (LR.length = zT.length) := by show _ = _; rw [hLR]; rfl
  have HLRO : Hid (LR.toArray.all (·.oneCell') = true) := by show _ = true; rw [hLR, ← Array.all_toList]; rfl
  obtain ⟨MA, hMA⟩ : ∃ M, M = (cs.drop 2).take 20 := ⟨_, rfl⟩
  have HMA : Hid (MA = (cs.drop 2).take 20) := hMA
  have HIA : Hid ((Tryd.prog.info? 23).map (·.size) = some MA.length) := by show _ = _; rw [hMA, sub_len hl 2 20 (by decide)]; kernel_rfl
  obtain ⟨MB, hMB⟩ : ∃ M, M = (cs.drop 22).take 20 := ⟨_, rfl⟩
  have HMB : Hid (MB = (cs.drop 22).take 20) := hMB
  have HIB : Hid ((Tryd.prog.info? 23).map (·.size) = some MB.length) := by show _ = _; rw [hMB, sub_len hl 22 20 (by decide)]; kernel_rfl
  obtain ⟨MC, hMC⟩ : ∃ M, M = (cs.drop 42).take 20 := ⟨_, rfl⟩
  have HMC : Hid (MC = (cs.drop 42).take 20) := hMC
  have HIC : Hid ((Tryd.prog.info? 23).map (·.size) = some MC.length) := by show _ = _; rw [hMC, sub_len hl 42 20 (by decide)]; kernel_rfl
  obtain ⟨MW, hMW⟩ : ∃ M, M = (cs.drop 62).take 4 := ⟨_, rfl⟩
  have HMW : Hid (MW = (cs.drop 62).take 4) := hMW
  have HIW : Hid ((Tryd.prog.info? 26).map (·.size) = some MW.length) := by show _ = _; rw [hMW, sub_len hl 62 4 (by decide)]; kernel_rfl
  clear hl h1 h2 hk hc0 hc1 hLR hMA hMB hMC hMW
  go_enter Tryd.func6, Tryd.ntmps6
  go_upto_region 1 with (first
    | (refine wpList_boxG 28 rfl (.tmp 1) rfl cs rfl ?_; intro X3 q1 q2 q3; have R3 : Hid (Row X3 _ cs 28) := q1; have B3 : Hid (Below _ _ X3) := q2; clear q1 q2 q3; simp only [Act.put, List.setIfInBounds_toArray, List.set_cons_zero, List.set_cons_succ])
    | (refine wpList_allocT rfl rfl ?_; intro X4 q1 q2 q3; have R4 : Hid (Row X4 _ zT 35) := q1; have B4 : Hid (Below _ _ X4) := q2; clear q1 q2 q3; simp only [Act.put, List.setIfInBounds_toArray, List.set_cons_zero, List.set_cons_succ]))
  obtain ⟨b3, hb3⟩ : ∃ b, b = w.heap.size := ⟨_, rfl⟩
  obtain ⟨b4, hb4⟩ : ∃ b, b = X3.heap.size := ⟨_, rfl⟩
  have BX : Hid (Below w.heap.size w X4) := B3.out.trans (B4.out.mono B3.out.size)
  replace R3 : Hid (Row X4 b3 cs 28) := by rw [hb3]; exact Row.below R3.out B4.out R3.out.lt
  replace R4 : Hid (Row X4 b4 zT 35) := by rw [hb4]; exact R4.out
  have HW4 : Hid (w.heap.size ≤ b4) := by show _ ≤ _; rw [hb4]; exact B3.out.size
  rw [← hb3, ← hb4]
  clear hb3 hb4 B3 B4
  have c0 := R3.out.cell 0 _ HC0.out
  have c1 := R3.out.cell 1 _ HC1.out
  go_wp2_with fail
  refine Calls.mono (HP.out X4) ?_
  rintro e Vx ⟨rfl, hqq⟩
  obtain rfl := hqq.symm
  have SA : Hid (X4.rangeAt b3 2 MA) := by show World.rangeAt _ _ _ _; rw [HMA.out]; exact sub_range R3.out 2 20
  have SB : Hid (X4.rangeAt b3 22 MB) := by show World.rangeAt _ _ _ _; rw [HMB.out]; exact sub_range R3.out 22 20
  have SC : Hid (X4.rangeAt b3 42 MC) := by show World.rangeAt _ _ _ _; rw [HMC.out]; exact sub_range R3.out 42 20
  have SW : Hid (X4.rangeAt b3 62 MW) := by show World.rangeAt _ _ _ _; rw [HMW.out]; exact sub_range R3.out 62 4
  go_wp2_with (first
    | (refine wpList_load_w rfl 23 (.tmp 88) rfl b3 2 rfl MA _ SA.out Tryd.underlying23 rfl HIA.out ?_; simp only [Act.put, List.setIfInBounds_toArray, List.set_cons_zero, List.set_cons_succ])
    | (refine wpList_load_w rfl 23 (.tmp 90) rfl b3 22 rfl MB _ SB.out Tryd.underlying23 rfl HIB.out ?_; simp only [Act.put, List.setIfInBounds_toArray, List.set_cons_zero, List.set_cons_succ])
    | (refine wpList_load_w rfl 23 (.tmp 92) rfl b3 42 rfl MC _ SC.out Tryd.underlying23 rfl HIC.out ?_; simp only [Act.put, List.setIfInBounds_toArray, List.set_cons_zero, List.set_cons_succ])
    | (refine wpList_load_w rfl 26 (.tmp 94) rfl b3 62 rfl MW _ SW.out Tryd.underlying26 rfl HIW.out ?_; simp only [Act.put, List.setIfInBounds_toArray, List.set_cons_zero, List.set_cons_succ]))
  refine Calls.mono (pull_nil z1 MA.toArray MB.toArray MC.toArray MW.toArray X4) ?_
  rintro e V ⟨rfl, hB⟩
  replace R4 : Hid (Row V b4 zT 35) := Row.below R4.out hB R4.out.lt
  replace BX : Hid (Below w.heap.size w V) := BX.out.trans (hB.mono BX.out.size)
  clear hB c0 c1 R3
  go_wp2_with (first
    | (refine wpList_buildT1 rfl (.tmp 96) rfl rfl LR HLRE.out ?_; simp only [Act.put, List.setIfInBounds_toArray, List.set_cons_zero, List.set_cons_succ])
    | (refine wpList_storeL rfl 35 (.tmp 4) (.tmp 97) rfl b4 LR zT 35 rfl rfl R4.out HLRN.out HLRI.out HLRO.out ?_; intro Y q1 q2; have HY : Hid (Y = _) := q1; have RY : Hid (Row Y b4 LR 35) := q2; clear q1 q2; simp only [Act.put]))
  exact bodyPost_ret (results_rowS Tryd.results6 _ _ b4 35 LR rfl RY.out Tryd.underlying35 HLRI.out) rfl ⟨rfl, by rw [HY.out]; exact below_setCells BX.out HW4.out _⟩
set_option maxRecDepth 100000 in
set_option maxHeartbeats 2000000 in
theorem stepped_8 (cs : List Value) (_hl : cs.length = 66) (z0 z1 : Int) (h1 : -9223372036854775808 ≤ z0) (h2 : z0 ≤ 9223372036854775807) (hk : pk z0 13 = 8) (hc0 : cs[0]? = some (.int .i64 z0)) (hc1 : cs[1]? = some (.int .i64 z1)) (LR : List Value) (hLR : LR = rT) (w : World) :
    Calls Tryd.prog 6 #[.pointer none, .agg cs.toArray] w fun e w' => e = .returned (.agg LR.toArray) ∧ Below w.heap.size w w' := by
  have HP : Hid (∀ W, Calls Tryd.prog 5 #[.int .i64 z0, .int .i64 13] W fun e w' => e = .returned (.int .i64 8) ∧ w' = W) := fun W => by rw [← hk]; exact pick8 z0 13 (by decide) h1 h2 (by decide) W
  have HC0 : Hid (cs[0]? = some (.int .i64 z0)) := hc0
  have HC1 : Hid (cs[1]? = some (.int .i64 z1)) := hc1
  have HLRE : Hid (LR = rT) := hLR
  have HLRI : Hid ((Tryd.prog.info? 35).map (·.size) = some LR.length) := by show _ = _; rw [hLR]; exact info_td
  have HLRN : Hid (LR.length = zT.length) := by show _ = _; rw [hLR]; rfl
  have HLRO : Hid (LR.toArray.all (·.oneCell') = true) := by show _ = true; rw [hLR, ← Array.all_toList]; rfl
  obtain ⟨LZ, hLZ⟩ : ∃ L : List Value, L = zK := ⟨_, rfl⟩
  have HLZE : Hid (LZ = zK) := hLZ
  have HLZI : Hid ((Tryd.prog.info? 33).map (·.size) = some LZ.length) := by show _ = _; rw [hLZ]; exact info_tok
  have HLZN : Hid (LZ.length = zK.length) := by show _ = _; rw [hLZ]
  have HLZO : Hid (LZ.toArray.all (·.oneCell') = true) := tok_one hLZ
  have HCL : Hid (∀ W, Calls Tryd.prog 12 #[.pointer none, .int .i64 z1] W fun e w' => e = .returned (.tuple #[.agg LZ.toArray, .int .i64 1]) ∧ Below W.heap.size W w') := fun W => by rw [hLZ]; exact token_nil z1 W
  clear _hl h1 h2 hk hc0 hc1 hLR hLZ
  go_enter Tryd.func6, Tryd.ntmps6
  go_upto_region 1 with (first
    | (refine wpList_boxG 28 rfl (.tmp 1) rfl cs rfl ?_; intro X3 q1 q2 q3; have R3 : Hid (Row X3 _ cs 28) := q1; have B3 : Hid (Below _ _ X3) := q2; clear q1 q2 q3; simp only [Act.put, List.setIfInBounds_toArray, List.set_cons_zero, List.set_cons_succ])
    | (refine wpList_allocT rfl rfl ?_; intro X4 q1 q2 q3; have R4 : Hid (Row X4 _ zT 35) := q1; have B4 : Hid (Below _ _ X4) := q2; clear q1 q2 q3; simp only [Act.put, List.setIfInBounds_toArray, List.set_cons_zero, List.set_cons_succ]))
  obtain ⟨b3, hb3⟩ : ∃ b, b = w.heap.size := ⟨_, rfl⟩
  obtain ⟨b4, hb4⟩ : ∃ b, b = X3.heap.size := ⟨_, rfl⟩
  have BX : Hid (Below w.heap.size w X4) := B3.out.trans (B4.out.mono B3.out.size)
  replace R3 : Hid (Row X4 b3 cs 28) := by rw [hb3]; exact Row.below R3.out B4.out R3.out.lt
  replace R4 : Hid (Row X4 b4 zT 35) := by rw [hb4]; exact R4.out
  have HW4 : Hid (w.heap.size ≤ b4) := by show _ ≤ _; rw [hb4]; exact B3.out.size
  rw [← hb3, ← hb4]
  clear hb3 hb4 B3 B4
  have c0 := R3.out.cell 0 _ HC0.out
  have c1 := R3.out.cell 1 _ HC1.out
  go_wp2_with fail
  refine Calls.mono (HP.out X4) ?_
  rintro e Vx ⟨rfl, hqq⟩
  obtain rfl := hqq.symm
  go_wp2_with fail
  refine Calls.mono (HCL.out X4) ?_
  rintro e V ⟨rfl, hB⟩
  replace R4 : Hid (Row V b4 zT 35) := Row.below R4.out hB R4.out.lt
  replace BX : Hid (Below w.heap.size w V) := BX.out.trans (hB.mono BX.out.size)
  obtain ⟨b5, hb5⟩ : ∃ b, b = V.heap.size := ⟨_, rfl⟩
  have HB5 : Hid (b5 = V.heap.size) := hb5
  clear hB c0 c1 R3 hb5
  go_upto_region 20 with (first
    | (refine wpList_allocK rfl rfl ?_; intro X5 q1 q2 q3; have Q5 : Hid (Row X5 _ zK 33) := q1; have B5 : Hid (Below _ _ X5) := q2; clear q1 q2 q3; simp only [Act.put, List.setIfInBounds_toArray, List.set_cons_zero, List.set_cons_succ])
    | (refine wpList_storeL rfl 33 (.tmp 5) (.tmp 105) rfl V.heap.size LZ zK 33 rfl rfl Q5.out HLZN.out HLZI.out HLZO.out ?_; intro Y5 q1 q2; have HY5 : Hid (Y5 = _) := q1; have RY5 : Hid (Row Y5 V.heap.size LZ 33) := q2; clear q1 q2; simp only [Act.put]))
  rw [← HB5.out] at RY5 HY5
  rw [← HB5.out]
  have c5 : Below V.heap.size V Y5 := by rw [HY5.out]; exact below_setCells B5.out (by rw [HB5.out]; exact Nat.le_refl _) _
  replace R4 : Hid (Row Y5 b4 zT 35) := Row.below R4.out c5 R4.out.lt
  replace BX : Hid (Below w.heap.size w Y5) := BX.out.trans (c5.mono BX.out.size)
  have S5 : Hid (Y5.rangeAt b5 0 LZ) := RY5.out.all
  clear c5 RY5 HY5 B5 Q5 HB5
  go_wp2_with (first
    | (refine wpList_load_w rfl 33 (.tmp 5) rfl b5 0 rfl LZ _ S5.out Tryd.underlying33 rfl HLZI.out ?_; simp only [Act.put, List.setIfInBounds_toArray, List.set_cons_zero, List.set_cons_succ])
    | (refine wpList_buildT2 rfl (.tmp 107) (.tmp 108) rfl rfl LZ HLZE.out rfl LR HLRE.out ?_; simp only [Act.put, List.setIfInBounds_toArray, List.set_cons_zero, List.set_cons_succ])
    | (refine wpList_storeL rfl 35 (.tmp 4) (.tmp 109) rfl b4 LR zT 35 rfl rfl R4.out HLRN.out HLRI.out HLRO.out ?_; intro Y q1 q2; have HY : Hid (Y = _) := q1; have RY : Hid (Row Y b4 LR 35) := q2; clear q1 q2; simp only [Act.put]))
  exact bodyPost_ret (results_rowS Tryd.results6 _ _ b4 35 LR rfl RY.out Tryd.underlying35 HLRI.out) rfl ⟨rfl, by rw [HY.out]; exact below_setCells BX.out HW4.out _⟩
set_option maxRecDepth 100000 in
set_option maxHeartbeats 2000000 in
theorem stepped_9 (cs : List Value) (hl : cs.length = 66) (z0 z1 : Int) (h1 : -9223372036854775808 ≤ z0) (h2 : z0 ≤ 9223372036854775807) (hk : pk z0 13 = 9) (hc0 : cs[0]? = some (.int .i64 z0)) (hc1 : cs[1]? = some (.int .i64 z1)) (LR : List Value) (hLR : LR = rT) (w : World) :
    Calls Tryd.prog 6 #[.pointer none, .agg cs.toArray] w fun e w' => e = .returned (.agg LR.toArray) ∧ Below w.heap.size w w' := by
  have HP : Hid (∀ W, Calls Tryd.prog 5 #[.int .i64 z0, .int .i64 13] W fun e w' => e = .returned (.int .i64 9) ∧ w' = W) := fun W => by rw [← hk]; exact pick8 z0 13 (by decide) h1 h2 (by decide) W
  have HC0 : Hid (cs[0]? = some (.int .i64 z0)) := hc0
  have HC1 : Hid (cs[1]? = some (.int .i64 z1)) := hc1
  have HLRE : Hid (LR = rT) := hLR
  have HLRI : Hid ((Tryd.prog.info? 35).map (·.size) = some LR.length) := by show _ = _; rw [hLR]; exact info_td
  have HLRN : Hid (LR.length = zT.length) := by show _ = _; rw [hLR]; rfl
  have HLRO : Hid (LR.toArray.all (·.oneCell') = true) := by show _ = true; rw [hLR, ← Array.all_toList]; rfl
  obtain ⟨MA, hMA⟩ : ∃ M, M = (cs.drop 2).take 20 := ⟨_, rfl⟩
  have HMA : Hid (MA = (cs.drop 2).take 20) := hMA
  have HIA : Hid ((Tryd.prog.info? 23).map (·.size) = some MA.length) := by show _ = _; rw [hMA, sub_len hl 2 20 (by decide)]; kernel_rfl
  obtain ⟨LZ, hLZ⟩ : ∃ L : List Value, L = zW := ⟨_, rfl⟩
  have HLZE : Hid (LZ = zW) := hLZ
  have HLZI : Hid ((Tryd.prog.info? 26).map (·.size) = some LZ.length) := by show _ = _; rw [hLZ]; exact info_w4l
  have HLZJ : Hid ((Tryd.prog.info? 26).map (·.size) = some LZ.toArray.size) := by show _ = _; rw [List.size_toArray, hLZ]; exact info_w4l
  have HLZN : Hid (LZ.length = zW.length) := by show _ = _; rw [hLZ]
  have HLZO : Hid (LZ.toArray.all (·.oneCell') = true) := by show _ = true; rw [hLZ, ← Array.all_toList]; rfl
  have HCL : Hid (∀ W, Calls Tryd.prog 11 #[.pointer none, .int .i64 z1, .agg MA.toArray] W fun e w' => e = .returned (.tuple #[.agg LZ.toArray, .int .i64 1]) ∧ Below W.heap.size W w') := fun W => by rw [hLZ]; exact balance_nil z1 MA.toArray W
  clear hl h1 h2 hk hc0 hc1 hLR hMA hLZ
  go_enter Tryd.func6, Tryd.ntmps6
  go_upto_region 1 with (first
    | (refine wpList_boxG 28 rfl (.tmp 1) rfl cs rfl ?_; intro X3 q1 q2 q3; have R3 : Hid (Row X3 _ cs 28) := q1; have B3 : Hid (Below _ _ X3) := q2; clear q1 q2 q3; simp only [Act.put, List.setIfInBounds_toArray, List.set_cons_zero, List.set_cons_succ])
    | (refine wpList_allocT rfl rfl ?_; intro X4 q1 q2 q3; have R4 : Hid (Row X4 _ zT 35) := q1; have B4 : Hid (Below _ _ X4) := q2; clear q1 q2 q3; simp only [Act.put, List.setIfInBounds_toArray, List.set_cons_zero, List.set_cons_succ]))
  obtain ⟨b3, hb3⟩ : ∃ b, b = w.heap.size := ⟨_, rfl⟩
  obtain ⟨b4, hb4⟩ : ∃ b, b = X3.heap.size := ⟨_, rfl⟩
  have BX : Hid (Below w.heap.size w X4) := B3.out.trans (B4.out.mono B3.out.size)
  replace R3 : Hid (Row X4 b3 cs 28) := by rw [hb3]; exact Row.below R3.out B4.out R3.out.lt
  replace R4 : Hid (Row X4 b4 zT 35) := by rw [hb4]; exact R4.out
  have HW4 : Hid (w.heap.size ≤ b4) := by show _ ≤ _; rw [hb4]; exact B3.out.size
  rw [← hb3, ← hb4]
  clear hb3 hb4 B3 B4
  have c0 := R3.out.cell 0 _ HC0.out
  have c1 := R3.out.cell 1 _ HC1.out
  go_wp2_with fail
  refine Calls.mono (HP.out X4) ?_
  rintro e Vx ⟨rfl, hqq⟩
  obtain rfl := hqq.symm
  have SA : Hid (X4.rangeAt b3 2 MA) := by show World.rangeAt _ _ _ _; rw [HMA.out]; exact sub_range R3.out 2 20
  go_wp2_with (first
    | (refine wpList_load_w rfl 23 (.tmp 116) rfl b3 2 rfl MA _ SA.out Tryd.underlying23 rfl HIA.out ?_; simp only [Act.put, List.setIfInBounds_toArray, List.set_cons_zero, List.set_cons_succ]))
  refine Calls.mono (HCL.out X4) ?_
  rintro e V ⟨rfl, hB⟩
  replace R4 : Hid (Row V b4 zT 35) := Row.below R4.out hB R4.out.lt
  replace BX : Hid (Below w.heap.size w V) := BX.out.trans (hB.mono BX.out.size)
  obtain ⟨b5, hb5⟩ : ∃ b, b = V.heap.size := ⟨_, rfl⟩
  have HB5 : Hid (b5 = V.heap.size) := hb5
  clear hB c0 c1 R3 hb5
  go_upto_region 23 with (first
    | (refine wpList_allocW rfl rfl ?_; intro X5 q1 q2 q3; have Q5 : Hid (Row X5 _ zW 26) := q1; have B5 : Hid (Below _ _ X5) := q2; clear q1 q2 q3; simp only [Act.put, List.setIfInBounds_toArray, List.set_cons_zero, List.set_cons_succ])
    | (refine wpList_storeL rfl 26 (.tmp 7) (.tmp 119) rfl V.heap.size LZ zW 26 rfl rfl Q5.out HLZN.out HLZI.out HLZO.out ?_; intro Y5 q1 q2; have HY5 : Hid (Y5 = _) := q1; have RY5 : Hid (Row Y5 V.heap.size LZ 26) := q2; clear q1 q2; simp only [Act.put]))
  rw [← HB5.out] at RY5 HY5
  rw [← HB5.out]
  have c5 : Below V.heap.size V Y5 := by rw [HY5.out]; exact below_setCells B5.out (by rw [HB5.out]; exact Nat.le_refl _) _
  replace R4 : Hid (Row Y5 b4 zT 35) := Row.below R4.out c5 R4.out.lt
  replace BX : Hid (Below w.heap.size w Y5) := BX.out.trans (c5.mono BX.out.size)
  have S5 : Hid (Y5.rangeAt b5 0 LZ) := RY5.out.all
  clear c5 RY5 HY5 B5 Q5 HB5
  go_wp2_with (first
    | (refine wpList_load_w rfl 26 (.tmp 7) rfl b5 0 rfl LZ _ S5.out Tryd.underlying26 rfl HLZI.out ?_; simp only [Act.put, List.setIfInBounds_toArray, List.set_cons_zero, List.set_cons_succ])
    | (refine wpList_buildT3 rfl (.tmp 121) (.tmp 122) rfl rfl LZ HLZE.out rfl LR HLRE.out ?_; simp only [Act.put, List.setIfInBounds_toArray, List.set_cons_zero, List.set_cons_succ])
    | (refine wpList_storeL rfl 35 (.tmp 4) (.tmp 123) rfl b4 LR zT 35 rfl rfl R4.out HLRN.out HLRI.out HLRO.out ?_; intro Y q1 q2; have HY : Hid (Y = _) := q1; have RY : Hid (Row Y b4 LR 35) := q2; clear q1 q2; simp only [Act.put]))
  exact bodyPost_ret (results_rowS Tryd.results6 _ _ b4 35 LR rfl RY.out Tryd.underlying35 HLRI.out) rfl ⟨rfl, by rw [HY.out]; exact below_setCells BX.out HW4.out _⟩
set_option maxRecDepth 100000 in
set_option maxHeartbeats 2000000 in
theorem stepped_10 (cs : List Value) (hl : cs.length = 66) (z0 z1 : Int) (h1 : -9223372036854775808 ≤ z0) (h2 : z0 ≤ 9223372036854775807) (hk : pk z0 13 = 10) (hc0 : cs[0]? = some (.int .i64 z0)) (hc1 : cs[1]? = some (.int .i64 z1)) (LR : List Value) (hLR : LR = rT) (w : World) :
    Calls Tryd.prog 6 #[.pointer none, .agg cs.toArray] w fun e w' => e = .returned (.agg LR.toArray) ∧ Below w.heap.size w w' := by
  have HP : Hid (∀ W, Calls Tryd.prog 5 #[.int .i64 z0, .int .i64 13] W fun e w' => e = .returned (.int .i64 10) ∧ w' = W) := fun W => by rw [← hk]; exact pick8 z0 13 (by decide) h1 h2 (by decide) W
  have HC0 : Hid (cs[0]? = some (.int .i64 z0)) := hc0
  have HC1 : Hid (cs[1]? = some (.int .i64 z1)) := hc1
  have HLRE : Hid (LR = rT) := hLR
  have HLRI : Hid ((Tryd.prog.info? 35).map (·.size) = some LR.length) := by show _ = _; rw [hLR]; exact info_td
  have HLRN : Hid (LR.length = zT.length) := by show _ = _; rw [hLR]; rfl
  have HLRO : Hid (LR.toArray.all (·.oneCell') = true) := by show _ = true; rw [hLR, ← Array.all_toList]; rfl
  obtain ⟨MA, hMA⟩ : ∃ M, M = (cs.drop 2).take 20 := ⟨_, rfl⟩
  have HMA : Hid (MA = (cs.drop 2).take 20) := hMA
  have HIA : Hid ((Tryd.prog.info? 23).map (·.size) = some MA.length) := by show _ = _; rw [hMA, sub_len hl 2 20 (by decide)]; kernel_rfl
  obtain ⟨MB, hMB⟩ : ∃ M, M = (cs.drop 22).take 20 := ⟨_, rfl⟩
  have HMB : Hid (MB = (cs.drop 22).take 20) := hMB
  have HIB : Hid ((Tryd.prog.info? 23).map (·.size) = some MB.length) := by show _ = _; rw [hMB, sub_len hl 22 20 (by decide)]; kernel_rfl
  obtain ⟨LZ, hLZ⟩ : ∃ L : List Value, L = zW := ⟨_, rfl⟩
  have HLZE : Hid (LZ = zW) := hLZ
  have HLZI : Hid ((Tryd.prog.info? 26).map (·.size) = some LZ.length) := by show _ = _; rw [hLZ]; exact info_w4l
  have HLZJ : Hid ((Tryd.prog.info? 26).map (·.size) = some LZ.toArray.size) := by show _ = _; rw [List.size_toArray, hLZ]; exact info_w4l
  have HLZN : Hid (LZ.length = zW.length) := by show _ = _; rw [hLZ]
  have HLZO : Hid (LZ.toArray.all (·.oneCell') = true) := by show _ = true; rw [hLZ, ← Array.all_toList]; rfl
  have HCL : Hid (∀ W, Calls Tryd.prog 18 #[.pointer none, .int .i64 z1, .agg MA.toArray, .agg MB.toArray] W fun e w' => e = .returned (.tuple #[.agg LZ.toArray, .int .i64 1]) ∧ Below W.heap.size W w') := fun W => by rw [hLZ]; exact allowed_nil z1 MA.toArray MB.toArray W
  clear hl h1 h2 hk hc0 hc1 hLR hMA hMB hLZ
  go_enter Tryd.func6, Tryd.ntmps6
  go_upto_region 1 with (first
    | (refine wpList_boxG 28 rfl (.tmp 1) rfl cs rfl ?_; intro X3 q1 q2 q3; have R3 : Hid (Row X3 _ cs 28) := q1; have B3 : Hid (Below _ _ X3) := q2; clear q1 q2 q3; simp only [Act.put, List.setIfInBounds_toArray, List.set_cons_zero, List.set_cons_succ])
    | (refine wpList_allocT rfl rfl ?_; intro X4 q1 q2 q3; have R4 : Hid (Row X4 _ zT 35) := q1; have B4 : Hid (Below _ _ X4) := q2; clear q1 q2 q3; simp only [Act.put, List.setIfInBounds_toArray, List.set_cons_zero, List.set_cons_succ]))
  obtain ⟨b3, hb3⟩ : ∃ b, b = w.heap.size := ⟨_, rfl⟩
  obtain ⟨b4, hb4⟩ : ∃ b, b = X3.heap.size := ⟨_, rfl⟩
  have BX : Hid (Below w.heap.size w X4) := B3.out.trans (B4.out.mono B3.out.size)
  replace R3 : Hid (Row X4 b3 cs 28) := by rw [hb3]; exact Row.below R3.out B4.out R3.out.lt
  replace R4 : Hid (Row X4 b4 zT 35) := by rw [hb4]; exact R4.out
  have HW4 : Hid (w.heap.size ≤ b4) := by show _ ≤ _; rw [hb4]; exact B3.out.size
  rw [← hb3, ← hb4]
  clear hb3 hb4 B3 B4
  have c0 := R3.out.cell 0 _ HC0.out
  have c1 := R3.out.cell 1 _ HC1.out
  go_wp2_with fail
  refine Calls.mono (HP.out X4) ?_
  rintro e Vx ⟨rfl, hqq⟩
  obtain rfl := hqq.symm
  have SA : Hid (X4.rangeAt b3 2 MA) := by show World.rangeAt _ _ _ _; rw [HMA.out]; exact sub_range R3.out 2 20
  have SB : Hid (X4.rangeAt b3 22 MB) := by show World.rangeAt _ _ _ _; rw [HMB.out]; exact sub_range R3.out 22 20
  go_wp2_with (first
    | (refine wpList_load_w rfl 23 (.tmp 130) rfl b3 2 rfl MA _ SA.out Tryd.underlying23 rfl HIA.out ?_; simp only [Act.put, List.setIfInBounds_toArray, List.set_cons_zero, List.set_cons_succ])
    | (refine wpList_load_w rfl 23 (.tmp 132) rfl b3 22 rfl MB _ SB.out Tryd.underlying23 rfl HIB.out ?_; simp only [Act.put, List.setIfInBounds_toArray, List.set_cons_zero, List.set_cons_succ]))
  refine Calls.mono (HCL.out X4) ?_
  rintro e V ⟨rfl, hB⟩
  replace R4 : Hid (Row V b4 zT 35) := Row.below R4.out hB R4.out.lt
  replace BX : Hid (Below w.heap.size w V) := BX.out.trans (hB.mono BX.out.size)
  obtain ⟨b5, hb5⟩ : ∃ b, b = V.heap.size := ⟨_, rfl⟩
  have HB5 : Hid (b5 = V.heap.size) := hb5
  clear hB c0 c1 R3 hb5
  go_upto_region 26 with (first
    | (refine wpList_allocW rfl rfl ?_; intro X5 q1 q2 q3; have Q5 : Hid (Row X5 _ zW 26) := q1; have B5 : Hid (Below _ _ X5) := q2; clear q1 q2 q3; simp only [Act.put, List.setIfInBounds_toArray, List.set_cons_zero, List.set_cons_succ])
    | (refine wpList_storeL rfl 26 (.tmp 9) (.tmp 135) rfl V.heap.size LZ zW 26 rfl rfl Q5.out HLZN.out HLZI.out HLZO.out ?_; intro Y5 q1 q2; have HY5 : Hid (Y5 = _) := q1; have RY5 : Hid (Row Y5 V.heap.size LZ 26) := q2; clear q1 q2; simp only [Act.put]))
  rw [← HB5.out] at RY5 HY5
  rw [← HB5.out]
  have c5 : Below V.heap.size V Y5 := by rw [HY5.out]; exact below_setCells B5.out (by rw [HB5.out]; exact Nat.le_refl _) _
  replace R4 : Hid (Row Y5 b4 zT 35) := Row.below R4.out c5 R4.out.lt
  replace BX : Hid (Below w.heap.size w Y5) := BX.out.trans (c5.mono BX.out.size)
  have S5 : Hid (Y5.rangeAt b5 0 LZ) := RY5.out.all
  clear c5 RY5 HY5 B5 Q5 HB5
  go_wp2_with (first
    | (refine wpList_load_w rfl 26 (.tmp 9) rfl b5 0 rfl LZ _ S5.out Tryd.underlying26 rfl HLZI.out ?_; simp only [Act.put, List.setIfInBounds_toArray, List.set_cons_zero, List.set_cons_succ])
    | (refine wpList_buildT3 rfl (.tmp 137) (.tmp 138) rfl rfl LZ HLZE.out rfl LR HLRE.out ?_; simp only [Act.put, List.setIfInBounds_toArray, List.set_cons_zero, List.set_cons_succ])
    | (refine wpList_storeL rfl 35 (.tmp 4) (.tmp 139) rfl b4 LR zT 35 rfl rfl R4.out HLRN.out HLRI.out HLRO.out ?_; intro Y q1 q2; have HY : Hid (Y = _) := q1; have RY : Hid (Row Y b4 LR 35) := q2; clear q1 q2; simp only [Act.put]))
  exact bodyPost_ret (results_rowS Tryd.results6 _ _ b4 35 LR rfl RY.out Tryd.underlying35 HLRI.out) rfl ⟨rfl, by rw [HY.out]; exact below_setCells BX.out HW4.out _⟩
theorem stepped_any (cs : List Value) (hl : cs.length = 66) (z0 z1 : Int) (h1 : -9223372036854775808 ≤ z0) (h2 : z0 ≤ 9223372036854775807) (hk : pk z0 13 ≤ 10) (hc0 : cs[0]? = some (.int .i64 z0)) (hc1 : cs[1]? = some (.int .i64 z1)) (LR : List Value) (hLR : LR = rT) (w : World) :
    Calls Tryd.prog 6 #[.pointer none, .agg cs.toArray] w fun e w' => e = .returned (.agg LR.toArray) ∧ Below w.heap.size w w' := by
  have hr := pk_range z0 13 (by decide)
  rcases (show pk z0 13 = 0 ∨ pk z0 13 = 1 ∨ pk z0 13 = 2 ∨ pk z0 13 = 3 ∨ pk z0 13 = 4 ∨ pk z0 13 = 5 ∨ pk z0 13 = 6 ∨ pk z0 13 = 7 ∨ pk z0 13 = 8 ∨ pk z0 13 = 9 ∨ pk z0 13 = 10 by omega) with h | h | h | h | h | h | h | h | h | h | h
  · exact stepped_0 cs hl z0 z1 h1 h2 h hc0 hc1 LR hLR w
  · exact stepped_1 cs hl z0 z1 h1 h2 h hc0 hc1 LR hLR w
  · exact stepped_2 cs hl z0 z1 h1 h2 h hc0 hc1 LR hLR w
  · exact stepped_3 cs hl z0 z1 h1 h2 h hc0 hc1 LR hLR w
  · exact stepped_4 cs hl z0 z1 h1 h2 h hc0 hc1 LR hLR w
  · exact stepped_5 cs hl z0 z1 h1 h2 h hc0 hc1 LR hLR w
  · exact stepped_6 cs hl z0 z1 h1 h2 h hc0 hc1 LR hLR w
  · exact stepped_7 cs hl z0 z1 h1 h2 h hc0 hc1 LR hLR w
  · exact stepped_8 cs hl z0 z1 h1 h2 h hc0 hc1 LR hLR w
  · exact stepped_9 cs hl z0 z1 h1 h2 h hc0 hc1 LR hLR w
  · exact stepped_10 cs hl z0 z1 h1 h2 h hc0 hc1 LR hLR w
set_option maxRecDepth 100000 in
set_option maxHeartbeats 2000000 in
theorem nils_walk (cs : List Value) (hl : cs.length = 66) (z0 z1 : Int) (h1 : -9223372036854775808 ≤ z0) (h2 : z0 ≤ 9223372036854775807) (hc0 : cs[0]? = some (.int .i64 z0)) (hc1 : cs[1]? = some (.int .i64 z1)) (w : World) :
    Calls Tryd.prog 3 #[.agg cs.toArray] w fun e w' => e = .returned (.bool true) ∧ Below w.heap.size w w' := by
  obtain ⟨LR, hLR⟩ : ∃ L : List Value, L = rT := ⟨_, rfl⟩
  obtain ⟨r, hr⟩ : ∃ r, r = pk z0 13 := ⟨_, rfl⟩
  have HP : Hid (∀ W, Calls Tryd.prog 5 #[.int .i64 z0, .int .i64 13] W fun e w' => e = .returned (.int .i64 r) ∧ w' = W) := fun W => by rw [hr]; exact pick8 z0 13 (by decide) h1 h2 (by decide) W
  have HST : Hid (r ≤ 10 → ∀ W, Calls Tryd.prog 6 #[.pointer none, .agg cs.toArray] W fun e w' => e = .returned (.agg LR.toArray) ∧ Below W.heap.size W w') := fun hle W => stepped_any cs hl z0 z1 h1 h2 (by rw [← hr]; exact hle) hc0 hc1 LR hLR W
  have HLRE : Hid (LR = rT) := hLR
  have HLRI : Hid ((Tryd.prog.info? 35).map (·.size) = some LR.length) := by show _ = _; rw [hLR]; exact info_td
  have HLRN : Hid (LR.length = zT.length) := by show _ = _; rw [hLR]; rfl
  have HLRO : Hid (LR.toArray.all (·.oneCell') = true) := by show _ = true; rw [hLR, ← Array.all_toList]; rfl
  have HC0 : Hid (cs[0]? = some (.int .i64 z0)) := hc0
  have HCI : Hid ((Tryd.prog.info? 28).map (·.size) = some cs.length) := by show _ = _; rw [hl]; kernel_rfl
  clear hl h1 h2 hc0 hc1 hLR hr
  go_enter Tryd.func3, Tryd.ntmps3
  go_wp2_with (refine wpList_boxG 28 rfl (.tmp 0) rfl cs rfl ?_; intro X1 q1 q2 q3; have R1 : Hid (Row X1 _ cs 28) := q1; have B1 : Hid (Below _ _ X1) := q2; clear q1 q2 q3; simp only [Act.put, List.setIfInBounds_toArray, List.set_cons_zero, List.set_cons_succ])
  obtain ⟨b1, hb1⟩ : ∃ b, b = w.heap.size := ⟨_, rfl⟩
  replace R1 : Hid (Row X1 b1 cs 28) := by rw [hb1]; exact R1.out
  rw [← hb1]
  clear hb1
  refine Calls.mono (known_any X1) ?_
  rintro e V ⟨rfl, hB⟩
  replace R1 : Hid (Row V b1 cs 28) := Row.below R1.out hB R1.out.lt
  have BB : Hid (Below w.heap.size w V) := B1.out.trans (hB.mono B1.out.size)
  have c0 := R1.out.cell 0 _ HC0.out
  clear hB B1
  go_wp2_with fail
  refine Calls.mono (HP.out V) ?_
  rintro e Vx ⟨rfl, hqq⟩
  obtain rfl := hqq.symm
  by_cases hle : r ≤ 10
  · have hgt : ¬ ((10 : Int) < r) := by omega
    have HS : Hid _ := HST.out hle V
    have RC : Hid (V.rangeAt b1 0 cs) := R1.out.all
    clear hle HST HP c0
    go_wp2_with (refine wpList_load_w rfl 28 (.tmp 1) rfl b1 0 rfl cs _ RC.out Tryd.underlying28 rfl HCI.out ?_; simp only [Act.put, List.setIfInBounds_toArray, List.set_cons_zero, List.set_cons_succ])
    refine Calls.mono HS.out ?_
    rintro e V2 ⟨rfl, hB⟩
    replace BB : Hid (Below w.heap.size w V2) := BB.out.trans (hB.mono BB.out.size)
    obtain ⟨b4, hb4⟩ : ∃ b, b = V2.heap.size := ⟨_, rfl⟩
    have HB4 : Hid (b4 = V2.heap.size) := hb4
    clear hB hb4 HS RC R1
    go_upto_region 5 with (first
      | (refine wpList_allocT rfl rfl ?_; intro X4 q1 q2 q3; have R4 : Hid (Row X4 _ zT 35) := q1; have B4 : Hid (Below _ _ X4) := q2; clear q1 q2 q3; simp only [Act.put, List.setIfInBounds_toArray, List.set_cons_zero, List.set_cons_succ])
      | (refine wpList_storeL rfl 35 (.tmp 4) (.tmp 12) rfl V2.heap.size LR zT 35 rfl rfl R4.out HLRN.out HLRI.out HLRO.out ?_; intro Y q1 q2; have HY : Hid (Y = _) := q1; have RY : Hid (Row Y V2.heap.size LR 35) := q2; clear q1 q2; simp only [Act.put]))
    rw [← HB4.out] at RY HY
    rw [← HB4.out]
    have cc : Below V2.heap.size V2 Y := by rw [HY.out]; exact below_setCells B4.out (by rw [HB4.out]; exact Nat.le_refl _) _
    replace BB : Hid (Below w.heap.size w Y) := BB.out.trans (cc.mono BB.out.size)
    have SY : Hid (Y.rangeAt b4 0 LR) := RY.out.all
    clear cc RY HY B4 R4 HB4
    go_wp2_with (first
      | (refine wpList_load_w rfl 35 (.tmp 4) rfl b4 0 rfl LR _ SY.out Tryd.underlying35 rfl HLRI.out ?_; simp only [Act.put, List.setIfInBounds_toArray, List.set_cons_zero, List.set_cons_succ])
      | (refine wpList_buildT1 rfl (.const (.int .i64 1)) rfl rfl LR HLRE.out ?_; simp only [Act.put, List.setIfInBounds_toArray, List.set_cons_zero, List.set_cons_succ])
      | (refine wpList_eqlTd rfl (.tmp 15) (.tmp 16) _ rfl LR HLRE.out rfl rfl ?_; simp only [Act.put, List.setIfInBounds_toArray, List.set_cons_zero, List.set_cons_succ]))
    go_ret
    exact ⟨rfl, BB.out⟩
  · have hgt : (10 : Int) < r := by omega
    clear hle HST HP c0
    go_wp2_with fail
    go_ret
    exact ⟨rfl, BB.out⟩

end Go.Proofs.YtojmhmnpidhfjaaDoor
