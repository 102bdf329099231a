/-
  the outbox: a book's Leaf; the law's known.
-/
import Derived.Test.YtehjadgmleoobaaObC
namespace Go.Proofs.Ytehjadgmleoobaa
open Go Go.RowKit
open Sha

set_option maxRecDepth 100000 in
set_option maxHeartbeats 4000000 in
theorem leaf_ok (w0 : World) (B : Nat) (v : Value) (ts : List (List (BitVec 8))) (hts : ts.length ≤ 1000000) (i : Nat) (ix en tk : Int) (rc : List (BitVec 8)) (am : List Nat) (hrc : rc.length = 20) (ham : am.length = 4) (hq4 : ∀ x ∈ am, x < 18446744073709551616) (hm : may ix en tk am = true) (hi : ts[i]? = some (lfb ix en tk rc am)) (w : World) (hb : Bk w0 w B v ts) :
    Calls Try.prog 15 #[.pointer (some ⟨B, 0, none⟩), .int .i64 (i : Int)] w fun e w' => e = .returned (.tuple #[.agg (lf ix en tk rc am).toArray, .int .i64 0]) ∧ Below w.heap.size w w' := by
  have hlt : i < ts.length := (List.getElem?_eq_some_iff.1 hi).1
  obtain ⟨cs, h1, h2⟩ := hb.own
  obtain ⟨u, hu, hbw⟩ := h2 i _ hi
  obtain ⟨gv, cv, rfl, _⟩ := Lw.open h1 (by omega)
  have hcell : w.cell? ⟨gv, i, none⟩ = some u := by have := Lw.range h1 i u hu; rwa [Nat.zero_add] at this
  obtain ⟨A, c, rfl, _, hnil⟩ := Bw.form hbw
  obtain ⟨n, hn⟩ : ∃ n, n = (lfb ix en tk rc am).length := ⟨_, rfl⟩
  obtain ⟨N, hN⟩ : ∃ N, N = ts.length := ⟨_, rfl⟩
  obtain ⟨L, hL⟩ : ∃ L, L = lf ix en tk rc am := ⟨_, rfl⟩
  have HRD : Hid (∀ X, Below w.heap.size w X → Calls Try.prog 10 #[.slice A n c] X fun e w' => e = .returned (.tuple #[.agg L.toArray, .int .i64 0]) ∧ Below X.heap.size X w') := fun X k => by
    rw [hL]
    exact read_leaf ix en tk rc am hrc ham hq4 hm _ rfl A n c hn.symm hnil X (by rw [hn]; exact Bw.sl (Bw.be hbw k))
  have HI : Hid ((Try.prog.info? 39).map (·.size) = some L.length) := by rw [hL]; exact info_lf hrc ham
  have HLL : Hid (L.length = zLf.length) := by show _ = _; rw [hL, lf_len hrc ham]; rfl
  have HO : Hid (L.toArray.all (·.oneCell') = true) := by rw [hL]; exact lf_all
  have HB : Hid (w.cell? ⟨B, 0, none⟩ = some (.slice (some ⟨gv, 0, none⟩) N cv)) := by rw [hN]; exact hb.row.cell 0 _ rfl
  have HC : Hid (w.cell? ⟨gv, i, none⟩ = some (.slice A n c)) := by rw [hn]; exact hcell
  have hiN : i < N := by omega
  have hNm : N ≤ 1000000 := by omega
  rw [← hL]
  clear hL hN hn hb h1 h2 hu hbw hcell hi hrc ham hq4 hm hlt hts hnil
  go_enter Try.func15, Try.ntmps15
  go_upto_region 1 with (refine wpList_allocLf rfl rfl ?_; intro X0 q1 q2 q3; have RQ : Hid (Row X0 w.heap.size zLf 39) := q1; have B0 : Hid (Below w.heap.size w X0) := q2; have cB : X0.cell? ⟨B, 0, none⟩ = some (.slice (some ⟨gv, 0, none⟩) N cv) := (q2.cell (p := ⟨B, 0, none⟩) (World.block_lt_of_cell? w _ HB.out)).trans HB.out; have cC : X0.cell? ⟨gv, i, none⟩ = some (.slice A n c) := (q2.cell (p := ⟨gv, i, none⟩) (World.block_lt_of_cell? w _ HC.out)).trans HC.out; clear q1 q2 q3; simp only [Act.put, List.setIfInBounds_toArray, List.set_cons_zero, List.set_cons_succ])
  go_wp2_with (first
    | (go_at_call 16; refine Calls.mono (len_any (some ⟨gv, 0, none⟩) N cv X0) ?_; rintro e X ⟨rfl, hq⟩; obtain rfl := hq.symm)
    | (go_at_call 10; refine Calls.mono (HRD.out X0 B0.out) ?_; rintro e X1 ⟨rfl, q⟩; have B1 : Hid (Below w.heap.size w X1) := B0.out.trans (q.mono B0.out.size); have R1 : Hid (Row X1 w.heap.size zLf 39) := Row.below RQ.out q RQ.out.lt; clear q)
    | (refine wpList_storeL rfl 39 (.tmp 4) (.tmp 31) rfl w.heap.size L zLf 39 rfl rfl R1.out HLL.out HI.out HO.out ?_; intro X9 q1 q2; have E9 : Hid (X9 = _) := q1; have R9 : Hid (Row X9 w.heap.size L 39) := q2; clear q1 q2; simp only [Act.put]))
  have hE : Below w.heap.size w X9 := by rw [E9.out]; exact below_setCells B1.out (Nat.le_refl _) _
  exact bodyPost_ret (results_rowS_tmp Try.results15 _ _ w.heap.size 39 L (.int .i64 0) rfl rfl R9.out Try.underlying39 HI.out) rfl ⟨rfl, hE⟩
def L0 : List Value := lf 0 5 3 (List.replicate 20 0#8) [256, 0, 0, 0]
def d0 : List (BitVec 8) := [76#8, 0#8, 1#8, 5#8, 1#8, 3#8] ++ List.replicate 20 0#8 ++ [2#8, 1#8, 0#8]
theorem d0_eq : lfb 0 5 3 (List.replicate 20 0#8) [256, 0, 0, 0] = d0 := by decide +kernel
theorem may0 : may 0 5 3 [256, 0, 0, 0] = true := by decide +kernel
theorem q0 : ∀ x ∈ [256, 0, 0, 0], x < 18446744073709551616 := by decide
theorem built_w : Try.prog.built 37 [(0, .int .u64 256)] = some #[.int .u64 256, .int .u64 0, .int .u64 0, .int .u64 0] := by kernel_rfl
theorem built_l : Try.prog.built 39 [(1, .int .i64 5), (2, .int .i64 3), (4, .agg #[.int .u64 256, .int .u64 0, .int .u64 0, .int .u64 0])] = some L0.toArray := by kernel_rfl
theorem guardL : Try.prog.eqGuardType Try.prog.depth 39 = false := by kernel_rfl
theorem szU8 (w : World) : (sizeOf 5).run Try.prog w = .ok 1 w := by
  obtain ⟨ie, z, h1, _, h3, _, _⟩ := info_u8open
  simp [sizeOf, typeInfo, h1, h3]
theorem szU64 (w : World) : (sizeOf 35).run Try.prog w = .ok 1 w := by
  go_simp
theorem eqAz (w : World) : (Op.equalIn 9999 34 (.agg #[.int .u8 0, .int .u8 0, .int .u8 0, .int .u8 0, .int .u8 0, .int .u8 0, .int .u8 0, .int .u8 0, .int .u8 0, .int .u8 0, .int .u8 0, .int .u8 0, .int .u8 0, .int .u8 0, .int .u8 0, .int .u8 0, .int .u8 0, .int .u8 0, .int .u8 0, .int .u8 0]) (.agg #[.int .u8 0, .int .u8 0, .int .u8 0, .int .u8 0, .int .u8 0, .int .u8 0, .int .u8 0, .int .u8 0, .int .u8 0, .int .u8 0, .int .u8 0, .int .u8 0, .int .u8 0, .int .u8 0, .int .u8 0, .int .u8 0, .int .u8 0, .int .u8 0, .int .u8 0, .int .u8 0])).run Try.prog w = .ok true w := by
  have q := run_equalIn_bytes (P := Try.prog) w 9997 34 5 20 Try.underlying34 Try.underlying5 szU8 (toU (List.replicate 20 0#8)) (toU (List.replicate 20 0#8)) rfl rfl
  rw [toU_beq, decide_eq_true rfl, ← vB_cell] at q
  exact q
theorem eqWz (w : World) : (Op.equalIn 9999 37 (.agg #[.int .u64 256, .int .u64 0, .int .u64 0, .int .u64 0]) (.agg #[.int .u64 256, .int .u64 0, .int .u64 0, .int .u64 0])).run Try.prog w = .ok true w := by
  have q := run_equalIn_vQ (P := Try.prog) (w := w) 9997 37 35 4 Try.underlying37 Try.underlying35 szU64 [256, 0, 0, 0] [256, 0, 0, 0] rfl rfl
  rw [decide_eq_true rfl] at q
  exact q
set_option maxRecDepth 100000 in
set_option maxHeartbeats 4000000 in
theorem eqL0 (w : World) : (binOp .eql 39 (.agg L0.toArray) (.agg L0.toArray)).run Try.prog w = .ok (.bool true) w := by
  have hA := fun w => eqAz w
  have hW := fun w => eqWz w
  have e : L0 = [.int .i64 0, .int .i64 5, .int .i64 3, .int .u8 0, .int .u8 0, .int .u8 0, .int .u8 0, .int .u8 0, .int .u8 0, .int .u8 0, .int .u8 0, .int .u8 0, .int .u8 0, .int .u8 0, .int .u8 0, .int .u8 0, .int .u8 0, .int .u8 0, .int .u8 0, .int .u8 0, .int .u8 0, .int .u8 0, .int .u8 0, .int .u64 256, .int .u64 0, .int .u64 0, .int .u64 0] := rfl
  rw [e]
  clear e
  go_simp
section
variable {ops : Array Oper} {rest : List Oper} {op : Oper} {a : Act} {w : World} {Q : Exit → Act → World → Prop}
theorem wpList_buildWz (hgd : op.guard = none) (ho : op.op = .build 37 #[(0, .const (.int .u64 256))]) (h : wpList Try.prog ops Q rest (a.put op.dst (.agg #[.int .u64 256, .int .u64 0, .int .u64 0, .int .u64 0])) w) : wpList Try.prog ops Q (op :: rest) a w :=
  wpList_plain hgd fun _ hK => by
    have hr := run_build (P := Try.prog) w 37 #[(0, .int .u64 256)] _ built_w
    have hc : a.eval (.const (.int .u64 256)) = .int .u64 256 := rfl
    unfold Oper.wp execOp
    simp only [ho, List.map_toArray, List.map_cons, List.map_nil, hc, Sem.run_bind, hr, Result.andThen_ok, Sem.run_pure, Oper.upon_value]
    exact hK _ _ h
theorem wpList_buildLf (hgd : op.guard = none) (x : Operand) (ho : op.op = .build 39 #[(1, .const (.int .i64 5)), (2, .const (.int .i64 3)), (4, x)]) (hx : a.eval x = .agg #[.int .u64 256, .int .u64 0, .int .u64 0, .int .u64 0]) (L : List Value) (hL : L = L0) (h : wpList Try.prog ops Q rest (a.put op.dst (.agg L.toArray)) w) : wpList Try.prog ops Q (op :: rest) a w :=
  wpList_plain hgd fun _ hK => by
    subst hL
    have hr := run_build (P := Try.prog) w 39 #[(1, .int .i64 5), (2, .int .i64 3), (4, .agg #[.int .u64 256, .int .u64 0, .int .u64 0, .int .u64 0])] _ built_l
    have hc : a.eval (.const (.int .i64 5)) = .int .i64 5 := rfl
    have hc3 : a.eval (.const (.int .i64 3)) = .int .i64 3 := rfl
    unfold Oper.wp execOp
    simp only [ho, List.map_toArray, List.map_cons, List.map_nil, hx, hc, hc3, Sem.run_bind, hr, Result.andThen_ok, Sem.run_pure, Oper.upon_value]
    exact hK _ _ h
theorem wpList_eqlLf (hw : Region.wanted op (yielded ops a.tmps) = true) (x y : Operand) (yt : TypeId) (ho : op.op = .binOp .eql 39 x y yt) (L : List Value) (hx : a.eval x = .agg L.toArray) (hy : a.eval y = .agg L.toArray)
    (hr : ∀ w, (binOp .eql 39 (.agg L.toArray) (.agg L.toArray)).run Try.prog w = .ok (.bool true) w) (h : wpList Try.prog ops Q rest (a.put op.dst (.bool true)) w) : wpList Try.prog ops Q (op :: rest) a w :=
  BigFrame.wpList_want hw fun _ hK => by
    unfold Oper.wp execOp
    simp only [ho, hx, hy, Sem.run_bind, run_eqGuard_agg w .eql 39 x y _ _ guardL, Result.andThen_ok, hr, Sem.run_pure, Oper.upon_value]
    exact hK _ _ h
end
set_option maxRecDepth 100000 in
set_option maxHeartbeats 4000000 in
theorem obk_any (w : World) : Calls Try.prog 4 #[] w fun e w' => e = .returned (.bool true) ∧ Below w.heap.size w w' := by
  obtain ⟨L, hL⟩ : ∃ L, L = L0 := ⟨_, rfl⟩
  have HL : Hid (L = L0) := hL
  have HI : Hid ((Try.prog.info? 39).map (·.size) = some L.length) := by rw [hL]; exact info_lf rfl rfl
  have HLL : Hid (L.length = zLf.length) := by show _ = _; rw [hL]; rfl
  have HO : Hid (L.toArray.all (·.oneCell') = true) := by rw [hL]; exact lf_all
  have HEQ : Hid (∀ w, (binOp .eql 39 (.agg L.toArray) (.agg L.toArray)).run Try.prog w = .ok (.bool true) w) := by rw [hL]; exact eqL0
  have HBY : Hid (∀ X, Calls Try.prog 5 #[.agg L.toArray] X fun e w' => ∃ g cap, e = .returned (.tuple #[.slice (some ⟨g, 0, none⟩) 29 cap, .int .i64 0]) ∧ Bw w' (.slice (some ⟨g, 0, none⟩) 29 cap) d0 ∧ Fresh X.heap.size (.slice (some ⟨g, 0, none⟩) 29 cap) ∧ Below X.heap.size X w') := fun X => by
    refine (bytes_ok 0 5 3 (List.replicate 20 0#8) [256, 0, 0, 0] rfl rfl q0 may0 L hL X).mono ?_
    rintro e w' ⟨A, n, cap, hn, q1, q2, q3, q4⟩
    rw [d0_eq] at hn q2
    obtain rfl : n = 29 := hn
    rcases q2.2 with ⟨h1, _⟩ | ⟨g, c', cur, hv, r⟩
    · simp at h1
    · simp only [Value.slice.injEq] at hv
      obtain ⟨rfl, _, rfl⟩ := hv
      exact ⟨g, cap, q1, q2, q3, q4⟩
  have HPU : Hid (∀ w0 X B, Bk w0 X B (.slice none 0 0) [] → Calls Try.prog 14 #[.pointer (some ⟨B, 0, none⟩), .agg L.toArray] X fun e w' => e = .returned (.int .i64 0) ∧ ∃ v', Bk w0 w' B v' [d0] ∧ Gro (fun g => g = B) X w') := fun w0 X B hb => by
    refine (put_ok w0 B _ [] (Nat.zero_le _) 5 3 (List.replicate 20 0#8) [256, 0, 0, 0] rfl rfl q0 may0 L hL X hb).mono ?_
    rintro e w' ⟨q1, v', q2, q3⟩
    refine ⟨q1, v', ?_, Gro.mono q3 (fun g q => by rcases q with q | q; exact q; cases q)⟩
    have e : lfb (([] : List (List (BitVec 8))).length : Int) 5 3 (List.replicate 20 0#8) [256, 0, 0, 0] = d0 := d0_eq
    rwa [e] at q2
  have HLE : Hid (∀ w0 X B v, Bk w0 X B v [d0] → Calls Try.prog 15 #[.pointer (some ⟨B, 0, none⟩), .int .i64 0] X fun e w' => e = .returned (.tuple #[.agg L.toArray, .int .i64 0]) ∧ Below X.heap.size X w') := fun w0 X B v hb => by
    have := leaf_ok w0 B v [d0] (by decide) 0 0 5 3 (List.replicate 20 0#8) [256, 0, 0, 0] rfl rfl q0 may0 (by rw [d0_eq]; rfl) X hb
    rw [hL]
    exact this
  clear hL
  go_enter Try.func4, Try.ntmps4
  go_upto_region 4 with (go_at_call 13; refine Calls.mono (new_any w) ?_; rintro e X1 ⟨rfl, q⟩; have K1 : Hid (Bk w X1 w.heap.size (.slice none 0 0) []) := q; clear q)
  go_upto_region 5 with (first
    | (refine wpList_buildWz rfl rfl ?_; simp only [Act.put, List.setIfInBounds_toArray, List.set_cons_zero, List.set_cons_succ])
    | (refine wpList_buildLf rfl (.tmp 11) rfl rfl L HL.out ?_; simp only [Act.put, List.setIfInBounds_toArray, List.set_cons_zero, List.set_cons_succ])
    | (refine wpList_allocLf rfl rfl ?_; intro X2 q1 q2 q3; have R2 : Hid (Row X2 X1.heap.size zLf 39) := q1; have B2 : Hid (Below X1.heap.size X1 X2) := q2; clear q1 q2 q3; simp only [Act.put, List.setIfInBounds_toArray, List.set_cons_zero, List.set_cons_succ])
    | (refine wpList_storeL rfl 39 (.tmp 2) (.tmp 12) rfl X1.heap.size L zLf 39 rfl rfl R2.out HLL.out HI.out HO.out ?_; intro X3 q1 q2; have E3 : Hid (X3 = _) := q1; have R3 : Hid (Row X3 X1.heap.size L 39) := q2; clear q1 q2; simp only [Act.put]))
  have B3 : Below X1.heap.size X1 X3 := by rw [E3.out]; exact below_setCells B2.out (Nat.le_refl _) _
  have K3 : Hid (Bk w X3 w.heap.size (.slice none 0 0) []) := K1.out.keep B3
  obtain ⟨b, hb⟩ : ∃ b, b = X1.heap.size := ⟨_, rfl⟩
  obtain ⟨B, hB⟩ : ∃ B, B = w.heap.size := ⟨_, rfl⟩
  rw [← hb] at R3 ⊢
  rw [← hB] at K3 ⊢
  clear hb hB E3 B3 B2 R2 K1
  go_upto_region 6 with (first
    | (refine wpList_load_w rfl 39 (.tmp 2) rfl b 0 rfl L _ R3.out.all Try.underlying39 rfl HI.out ?_; simp only [Act.put, List.setIfInBounds_toArray, List.set_cons_zero, List.set_cons_succ])
    | (go_at_call 5; refine Calls.mono (HBY.out X3) ?_; rintro e X4 ⟨gx, cx, rfl, q1, q2, q3⟩; have W4 : Hid (Bw X4 (.slice (some ⟨gx, 0, none⟩) 29 cx) d0) := q1; have R4 : Hid (Row X4 b L 39) := Row.below R3.out q3 R3.out.lt; have K4 : Hid (Bk w X4 B (.slice none 0 0) []) := K3.out.keep q3; clear q1 q2 q3 K3 R3))
  go_upto_region 7 with (first
    | (refine wpList_load_w rfl 39 (.tmp 2) rfl b 0 rfl L _ R4.out.all Try.underlying39 rfl HI.out ?_; simp only [Act.put, List.setIfInBounds_toArray, List.set_cons_zero, List.set_cons_succ])
    | (go_at_call 14; refine Calls.mono (HPU.out w X4 B K4.out) ?_; rintro e X5 ⟨rfl, v5, q1, q2⟩; have K5 : Hid (Bk w X5 B v5 [d0]) := q1; have R5 : Hid (Row X5 b L 39) := q2.row R4.out (row_ne R4.out K4.out.row (by decide)); have W5 : Hid (Bw X5 (.slice (some ⟨gx, 0, none⟩) 29 cx) d0) := Bw.gro W4.out q2 (Bw.ne W4.out K4.out.row (by decide)); clear q1 q2 K4 R4 W4))
  go_upto_region 8 with (first
    | (go_at_call 15; refine Calls.mono (HLE.out w X5 B v5 K5.out) ?_; rintro e X6 ⟨rfl, q⟩; have K6 : Hid (Bk w X6 B v5 [d0]) := K5.out.keep q; have R6 : Hid (Row X6 b L 39) := Row.below R5.out q R5.out.lt; have W6 : Hid (Bw X6 (.slice (some ⟨gx, 0, none⟩) 29 cx) d0) := Bw.be W5.out q; clear q K5 R5 W5)
    | (refine wpList_allocLf rfl rfl ?_; intro X7 q1 q2 q3; have R7 : Hid (Row X7 X6.heap.size zLf 39) := q1; have B7 : Hid (Below X6.heap.size X6 X7) := q2; clear q1 q2 q3; simp only [Act.put, List.setIfInBounds_toArray, List.set_cons_zero, List.set_cons_succ])
    | (refine wpList_storeL rfl 39 (.tmp 6) (.tmp 24) rfl X6.heap.size L zLf 39 rfl rfl R7.out HLL.out HI.out HO.out ?_; intro X8 q1 q2; have E8 : Hid (X8 = _) := q1; have R8 : Hid (Row X8 X6.heap.size L 39) := q2; clear q1 q2; simp only [Act.put]))
  have B8 : Below X6.heap.size X6 X8 := by rw [E8.out]; exact below_setCells B7.out (Nat.le_refl _) _
  have K8 : Hid (Bk w X8 B v5 [d0]) := K6.out.keep B8
  have RB8 : Hid (Row X8 b L 39) := Row.below R6.out B8 R6.out.lt
  have hx : X8.rangeAt gx 0 (vB d0) := by
    rcases Bw.sl (Bw.be W6.out B8) with ⟨h, _⟩ | ⟨ab, ao, c', hv, _, r⟩
    · cases h
    · simp only [Value.slice.injEq, Option.some.injEq, Addr.mk.injEq] at hv
      obtain ⟨⟨rfl, rfl, _⟩, _, _⟩ := hv
      exact r
  have x0 : X8.cell? ⟨gx, 0, none⟩ = some (.int .u8 76) := hx 0 _ rfl
  have x1 : X8.cell? ⟨gx, 1, none⟩ = some (.int .u8 0) := hx 1 _ rfl
  have x2 : X8.cell? ⟨gx, 2, none⟩ = some (.int .u8 1) := hx 2 _ rfl
  have x3 : X8.cell? ⟨gx, 3, none⟩ = some (.int .u8 5) := hx 3 _ rfl
  obtain ⟨A5, c5, e5⟩ := K8.out.form
  have cB : X8.cell? ⟨B, 0, none⟩ = some (.slice A5 1 c5) := by have := K8.out.row.cell 0 _ rfl; rw [e5] at this; exact this
  have HBE : Hid (Below w.heap.size w X8) := K8.out.be
  obtain ⟨b6, hb6⟩ : ∃ b6, b6 = X6.heap.size := ⟨_, rfl⟩
  rw [← hb6] at R8 ⊢
  clear hx e5 K8 K6 E8 B8 B7 R7 R6 W6 hb6
  go_wp2_with (first
    | (refine wpList_load_w rfl 39 (.tmp 6) rfl b6 0 rfl L _ R8.out.all Try.underlying39 rfl HI.out ?_; simp only [Act.put, List.setIfInBounds_toArray, List.set_cons_zero, List.set_cons_succ])
    | (refine wpList_load_w rfl 39 (.tmp 2) rfl b 0 rfl L _ RB8.out.all Try.underlying39 rfl HI.out ?_; simp only [Act.put, List.setIfInBounds_toArray, List.set_cons_zero, List.set_cons_succ])
    | (refine wpList_eqlLf rfl (.tmp 66) (.tmp 67) _ rfl L rfl rfl HEQ.out ?_; simp only [Act.put, List.setIfInBounds_toArray, List.set_cons_zero, List.set_cons_succ])
    | (go_at_call 16; refine Calls.mono (len_any A5 1 c5 X8) ?_; rintro e X ⟨rfl, hq⟩; obtain rfl := hq.symm))
  go_ret
  exact ⟨rfl, HBE.out⟩

end Go.Proofs.Ytehjadgmleoobaa
