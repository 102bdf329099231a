/-
  LetterEntryBack: an entry is built; steps of regions that draw.
-/
import Derived.Test.YtaaehdlenigomaaGreatLeM
import Derived.Test.YtaaehdlenigomaaGreatLtJ
import Derived.Test.YtaaehdlenigomaaGreatXLaw
import Derived.Test.YtaaehdlenigomaaGreatLeR

namespace Go.Proofs.YtaaehdlenigomaaGreat
open Go Go.RowKit
open Sha

set_option maxRecDepth 100000 in
theorem pick6 (c n : Int) (hn : 0 < n) (h1 : -9223372036854775808 ≤ c) (h2 : c ≤ 9223372036854775807) (hn2 : n ≤ 9223372036854775807) (w : World) :
    Calls Tryz.prog 5 #[.int .i64 c, .int .i64 n] w fun e w' => e = .returned (.int .i64 (pk c n)) ∧ w' = w := by
  have hn0 : ¬ n = 0 := by omega
  have hn1 : ¬ n = -1 := by omega
  have hr := pk_range c n hn
  by_cases hc : c < 0
  · have e1 : Hid (pk c n = (-(c + 1)) % n) := by show _ = _; unfold pk; rw [if_pos hc]
    have e3 : (-(c + 1)).tmod n = pk c n := by rw [e1.out]; exact Int.tmod_eq_emod_of_nonneg (by omega)
    have e4 : (-1 + -c).tmod n = pk c n := by rw [show -1 + -c = -(c + 1) by omega]; exact e3
    have e5 : (-c + -1).tmod n = pk c n := by rw [show -c + -1 = -(c + 1) by omega]; exact e3
    generalize pk c n = r at *
    go_enter Tryz.func5, Tryz.ntmps5
    go_wp2
    go_ret
    exact ⟨by first | rfl | (simp; omega), rfl⟩
  · have e1 : Hid (pk c n = c % n) := by show _ = _; unfold pk; rw [if_neg hc]
    have e3 : c.tmod n = pk c n := by rw [e1.out]; exact Int.tmod_eq_emod_of_nonneg (by omega)
    generalize pk c n = r at *
    go_enter Tryz.func5, Tryz.ntmps5
    go_wp2
    go_ret
    exact ⟨by first | rfl | (simp; omega), rfl⟩

set_option maxRecDepth 100000 in
set_option maxHeartbeats 1000000 in
theorem own6 (B : Option Addr) (n cb : Nat) (bs : List (BitVec 8)) (hb : bs.length = n) (hl : n ≤ 140737488351232) (w : World) (hv : SlAt w (.slice B n cb) bs) :
    Calls Tryz.prog 10 #[.slice B n cb] w fun e w' => e = .returned (.slice (some ⟨w.heap.size, 0, none⟩) n n) ∧ Row w' w.heap.size (vB bs) 5 ∧ Below w.heap.size w w' := by
  have HV : Hid _ := hv
  have HB : Hid (bs.length = n) := hb
  have HT : Hid ((vB (bs.take n)).length = n) := by show _ = _; rw [vB_length, List.length_take, hb]; omega
  have E : Hid (bs.take n = bs) := by show _ = _; rw [← hb, List.take_length]
  clear hv hb
  go_enter Tryz.func10, Tryz.ntmps10
  go_wp2_with (first
    | (refine wpList_make1 rfl _ _ rfl n _ _ rfl rfl rfl rfl (by omega) ?_; intro W r1 b1 s1; have R1 : Hid _ := r1; have B1 : Hid (Below w.heap.size w W) := b1; have TH : Hid (W.there w.heap.size 0 (vB (bs.take n)).length) := r1.there 0 _ (by rw [HT.out, vB_length, List.length_replicate]; exact Nat.le_of_eq (Nat.zero_add _)); clear r1 b1 s1)
    | (refine wpList_copyb rfl (.tmp 7) (.tmp 8) rfl w.heap.size n n cb B bs HB.out rfl rfl (SlAt.be HV.out B1.out) TH.out ?_; simp only [Act.put, List.setIfInBounds_toArray, List.set_cons_zero, List.set_cons_succ]))
  have hr := Row.setCells 0 (vB (bs.take n)) R1.out (by rw [HT.out, vB_length, List.length_replicate]; exact Nat.le_of_eq (Nat.zero_add _))
  have hB := below_setCells B1.out (b := w.heap.size) (o := 0) (Nat.le_refl _) (vB (bs.take n))
  have e2 : List.take 0 (vB (List.replicate n 0#8)) ++ vB (bs.take n) ++ List.drop (0 + (vB (bs.take n)).length) (vB (List.replicate n 0#8)) = vB bs := by
    rw [HT.out, E.out, List.drop_of_length_le (by rw [vB_length, List.length_replicate]; omega)]; simp
  rw [e2] at hr
  have HR : Hid _ := hr
  have HBB : Hid _ := hB
  clear hr hB e2
  generalize World.setCells W w.heap.size 0 (vB (bs.take n)) = X at *
  go_wp2_with fail
  go_ret
  exact ⟨rfl, HR.out, HBB.out⟩


set_option maxRecDepth 100000 in
set_option maxHeartbeats 4000000 in
theorem sameE (k tm tk gs : Int) (sd rc : List (BitVec 8)) (am : List Nat) (A1 A2 : Option Addr) (n c1 c2 : Nat) (d : List (BitVec 8)) (h1 : sd.length = 20) (h2 : rc.length = 20) (h3 : am.length = 4) (L M : List Value) (hL : L = ent k sd tm tk rc am gs (.slice A1 n c1)) (hM : M = ent k sd tm tk rc am gs (.slice A2 n c2)) (w : World) (s1 : ∀ W, Below w.heap.size w W → SlAt W (.slice A1 n c1) d) (s2 : ∀ W, Below w.heap.size w W → SlAt W (.slice A2 n c2) d) :
    Calls Tryz.prog 8 #[.agg L.toArray, .agg M.toArray] w fun e w' => e = .returned (.bool true) ∧ Below w.heap.size w w' := by
  obtain ⟨W1, hW1, r1, b1⟩ := boxed L tEnt w
  obtain ⟨W2, hW2, r2, b2⟩ := boxed M tEnt W1
  have hb : Below w.heap.size w W2 := b1.trans (b2.mono b1.size)
  have HS : Hid _ := same6 d (.slice A1 n c1) (.slice A2 n c2) W2 (s1 W2 hb) (s2 W2 hb)
  have HB : Hid (Below w.heap.size w W2) := hb
  rw [hL] at r1
  rw [hM] at r2
  have e1 : En W2 w.heap.size k sd tm tk rc am gs (.slice A1 n c1) := En.be ⟨r1, h1, h2, h3⟩ b2
  have e2 : En W2 W1.heap.size k sd tm tk rc am gs (.slice A2 n c2) := ⟨r2, h1, h2, h3⟩
  obtain ⟨x, hx⟩ : ∃ x, x = w.heap.size := ⟨_, rfl⟩
  obtain ⟨y, hy⟩ : ∃ y, y = w.heap.size + 1 := ⟨_, rfl⟩
  have hy1 : W1.heap.size = y := by rw [hy, hW1]; simp
  rw [← hx] at e1
  rw [hy1] at e2
  have HX : Hid (x = w.heap.size) := hx
  have HY : Hid (y = w.heap.size + 1) := hy
  have HW1 : Hid (W1 = _) := hW1
  have HW2 : Hid (W2 = _) := hW2
  have a0 := e1.c_kind
  have a2 := e1.c_time
  have a3 := e1.c_token
  have a6 := e1.c_gas
  have a7 := e1.c_body
  have b0 := e2.c_kind
  have b2 := e2.c_time
  have b3 := e2.c_token
  have b6 := e2.c_gas
  have b7 := e2.c_body
  have Rx_1 : Hid (W2.rangeAt x 1 (vB sd)) := e1.r_sender
  have Ry_1 : Hid (W2.rangeAt y 1 (vB sd)) := e2.r_sender
  have Rx_23 : Hid (W2.rangeAt x 23 (vB rc)) := e1.r_to
  have Ry_23 : Hid (W2.rangeAt y 23 (vB rc)) := e2.r_to
  have Rx_43 : Hid (W2.rangeAt x 43 (vQ am)) := e1.r_amount
  have Ry_43 : Hid (W2.rangeAt y 43 (vQ am)) := e2.r_amount
  have HIsd : Hid ((Tryz.prog.info? 23).map (·.size) = some (vB sd).length) := by show _ = _; rw [vB_length, h1]; kernel_rfl
  have HIrc : Hid ((Tryz.prog.info? 23).map (·.size) = some (vB rc).length) := by show _ = _; rw [vB_length, h2]; kernel_rfl
  have HIam : Hid ((Tryz.prog.info? 26).map (·.size) = some (vQ am).length) := by show _ = _; rw [vQ_len, h3]; kernel_rfl
  have K1 : Hid (sd.length = 20) := h1
  have K2 : Hid (rc.length = 20) := h2
  have K3 : Hid (am.length = 4) := h3
  clear hL hM r1 r2 b1 hb e1 e2 h1 h2 h3 hW1 hW2 s1 s2 hx hy hy1
  go_enter Tryz.func8, Tryz.ntmps8
  go_upto_region 1 with fail
  rw [← HW1.out, ← HW2.out, ← HY.out, ← HX.out]
  go_wp2_with (first
    | (refine wpList_load_w rfl 23 (.tmp 11) rfl x 1 rfl (vB sd) _ Rx_1.out Tryz.underlying23 rfl HIsd.out ?_; simp only [Act.put, List.setIfInBounds_toArray, List.set_cons_zero, List.set_cons_succ])
    | (refine wpList_load_w rfl 23 (.tmp 13) rfl y 1 rfl (vB sd) _ Ry_1.out Tryz.underlying23 rfl HIsd.out ?_; simp only [Act.put, List.setIfInBounds_toArray, List.set_cons_zero, List.set_cons_succ])
    | (refine wpList_load_w rfl 23 (.tmp 32) rfl x 23 rfl (vB rc) _ Rx_23.out Tryz.underlying23 rfl HIrc.out ?_; simp only [Act.put, List.setIfInBounds_toArray, List.set_cons_zero, List.set_cons_succ])
    | (refine wpList_load_w rfl 23 (.tmp 34) rfl y 23 rfl (vB rc) _ Ry_23.out Tryz.underlying23 rfl HIrc.out ?_; simp only [Act.put, List.setIfInBounds_toArray, List.set_cons_zero, List.set_cons_succ])
    | (refine wpList_load_w rfl 26 (.tmp 39) rfl x 43 rfl (vQ am) _ Rx_43.out Tryz.underlying26 rfl HIam.out ?_; simp only [Act.put, List.setIfInBounds_toArray, List.set_cons_zero, List.set_cons_succ])
    | (refine wpList_load_w rfl 26 (.tmp 41) rfl y 43 rfl (vQ am) _ Ry_43.out Tryz.underlying26 rfl HIam.out ?_; simp only [Act.put, List.setIfInBounds_toArray, List.set_cons_zero, List.set_cons_succ])
    | (refine wpList_eql_b rfl 23 (.tmp 12) (.tmp 14) _ rfl 5 20 sd sd rfl rfl Tryz.underlying23 Tryz.underlying5 info_u8 K1.out K1.out guardA true (decide_eq_true rfl) ?_; simp only [Act.put, List.setIfInBounds_toArray, List.set_cons_zero, List.set_cons_succ])
    | (refine wpList_eql_b rfl 23 (.tmp 33) (.tmp 35) _ rfl 5 20 rc rc rfl rfl Tryz.underlying23 Tryz.underlying5 info_u8 K2.out K2.out guardA true (decide_eq_true rfl) ?_; simp only [Act.put, List.setIfInBounds_toArray, List.set_cons_zero, List.set_cons_succ])
    | (refine wpList_eql_q rfl (.tmp 40) (.tmp 42) _ rfl am am K3.out K3.out rfl rfl true (decide_eq_true rfl) ?_; simp only [Act.put, List.setIfInBounds_toArray, List.set_cons_zero, List.set_cons_succ])
    | (go_at_call 9; refine Calls.mono HS.out ?_; rintro e Wz ⟨rfl, hqq⟩; obtain rfl := hqq.symm))
  go_ret
  exact ⟨rfl, HB.out⟩

end Go.Proofs.YtaaehdlenigomaaGreat

namespace Go.Proofs.YtaaehdlenigomaaGreat
open Go Go.RowKit
open Sha

theorem stp_app {ops : Array Oper} {o : Oper} {a : Act} {w : World} {K : Act → World → Prop} {Q : Exit → Act → World → Prop} {E : Prop} (hg : o.guard = none) (s x : Operand) (ho : o.op = .call { callee := .builtin .append, args := #[s, x], argTypes := #[28, 28] }) (v : Value) (l news : List (BitVec 8)) (hs : a.eval s = v) (hown : Bw w v l)
    (A : Option Addr) (m cap : Nat) (hm : news.length = m) (hx : a.eval x = .slice A m cap) (hX : SlAt w (.slice A m cap) news) (hnil : A = none → cap = 0) (hk : l.length + m ≤ 140737488355328)
    (h : ∀ v' w', Bw w' v' (l ++ news) → w.grownBy w' v.ownBlock → (v'.ownBlock = v.ownBlock ∨ v'.ownBlock = some w.heap.size) → K (a.put o.dst v') w') : if Region.wanted o (yielded ops a.tmps) = true then Oper.wp Tryz.prog o a w K Q else E := by
  have hw : Region.wanted o (yielded ops a.tmps) = true := by simp [Region.wanted, hg]
  rw [if_pos hw]
  exact wp_app s x ho v l news hs hown A m cap hm hx hX hnil hk h
theorem stp_store {P : Program} {ops : Array Oper} {o : Oper} {a : Act} {w : World} {K : Act → World → Prop} {Q : Exit → Act → World → Prop} {E : Prop} (hg : o.guard = none) (ty : TypeId) (x y : Operand) (ho : o.op = .store ty x y)
    (b f : Nat) (cells : Array Value) (hx : a.eval x = .pointer (some ⟨b, f, none⟩)) (hy : a.eval y = .agg cells) (ht : w.there b f cells.size) (hi : (P.info? ty).map (·.size) = some cells.size) (h1 : cells.all (·.oneCell') = true)
    (h : K (a.put o.dst undef) (w.setCells b f cells.toList)) : if Region.wanted o (yielded ops a.tmps) = true then Oper.wp P o a w K Q else E := by
  have hw : Region.wanted o (yielded ops a.tmps) = true := by simp [Region.wanted, hg]
  rw [if_pos hw]
  exact wp_store_mid ty x y ho b f cells hx hy ht hi h1 h
set_option maxRecDepth 100000 in
theorem build_ent1 (k tm : Int) (s0 s1 s2 s3 s4 s5 s6 s7 s8 s9 s10 s11 s12 s13 s14 s15 s16 s17 s18 s19 : BitVec 8) (w : World) : (Instr.build 36 #[(0, .int .i64 k), (1, .agg #[.int .u8 (c s0), .int .u8 (c s1), .int .u8 (c s2), .int .u8 (c s3), .int .u8 (c s4), .int .u8 (c s5), .int .u8 (c s6), .int .u8 (c s7), .int .u8 (c s8), .int .u8 (c s9), .int .u8 (c s10), .int .u8 (c s11), .int .u8 (c s12), .int .u8 (c s13), .int .u8 (c s14), .int .u8 (c s15), .int .u8 (c s16), .int .u8 (c s17), .int .u8 (c s18), .int .u8 (c s19)]), (2, .int .i64 tm)]).run Tryz.prog w = .ok (.agg (ent k [s0, s1, s2, s3, s4, s5, s6, s7, s8, s9, s10, s11, s12, s13, s14, s15, s16, s17, s18, s19] tm 0 (List.replicate 20 0#8) (List.replicate 4 0) 0 (.slice none 0 0)).toArray) w := by
  go_simp
  rfl
theorem build_ent (k tm : Int) (sd : List (BitVec 8)) (h : sd.length = 20) (w : World) : (Instr.build 36 #[(0, .int .i64 k), (1, .agg (vB sd).toArray), (2, .int .i64 tm)]).run Tryz.prog w = .ok (.agg (ent k sd tm 0 (List.replicate 20 0#8) (List.replicate 4 0) 0 (.slice none 0 0)).toArray) w := by
  match sd, h with
  | [s0, s1, s2, s3, s4, s5, s6, s7, s8, s9, s10, s11, s12, s13, s14, s15, s16, s17, s18, s19], _ => exact build_ent1 k tm s0 s1 s2 s3 s4 s5 s6 s7 s8 s9 s10 s11 s12 s13 s14 s15 s16 s17 s18 s19 w
section
variable {P : Program} {o : Oper} {a : Act} {w : World} {K : Act → World → Prop} {Q : Exit → Act → World → Prop}
theorem wp_slice_hi (t e : TypeId) (x z : Operand) (b f n cap k : Nat) (ho : o.op = .slice t x none (some z) none) (hx : a.eval x = .slice (some ⟨b, f, none⟩) n cap) (hz : a.eval z = .int .i64 (k : Int)) (hk : k ≤ cap)
    (hu : P.underlying t = some (.slice e)) {s : Nat} (hs : (P.info? e).map (·.size) = some s) (h : K (a.put o.dst (.slice (some ⟨b, f, none⟩) k cap)) w) : Oper.wp P o a w K Q := by
  cases hq : P.info? e with
  | none => simp [hq] at hs
  | some i =>
    have hr : (Instr.sliceAt t (.slice (some ⟨b, f, none⟩) n cap) none (some (.int .i64 (k : Int))) none).run P w = .ok (.slice (some ⟨b, f, none⟩) k cap) w := by
      simp [Instr.sliceAt, Instr.slice, run_underlying hu, Instr.sliceBounds, Instr.sliceBound, asIntOf, sizeOf, typeInfo, hq, hk, Addr.add_mid]
    unfold Oper.wp execOp
    simp only [ho, hx, hz, Option.map_some, Option.map_none, Sem.run_bind, hr, Result.andThen_ok, Sem.run_pure, Oper.upon_value]
    exact h
end
section
variable {P : Program} {ops : Array Oper} {rest : List Oper} {op : Oper} {a : Act} {w : World} {Q : Exit → Act → World → Prop}
theorem wpList_slice_hi (hw : Region.wanted op (yielded ops a.tmps) = true) (t e : TypeId) (x z : Operand) (ho : op.op = .slice t x none (some z) none) (b f n cap k : Nat) (hx : a.eval x = .slice (some ⟨b, f, none⟩) n cap) (hz : a.eval z = .int .i64 (k : Int)) (hk : k ≤ cap)
    (hu : P.underlying t = some (.slice e)) {s : Nat} (hs : (P.info? e).map (·.size) = some s) (h : wpList P ops Q rest (a.put op.dst (.slice (some ⟨b, f, none⟩) k cap)) w) : wpList P ops Q (op :: rest) a w :=
  BigFrame.wpList_want hw fun _ hK => wp_slice_hi t e x z b f n cap k ho hx hz hk hu hs (hK _ _ h)
end
section
variable {o : Oper} {a : Act} {w : World} {K : Act → World → Prop} {Q : Exit → Act → World → Prop}
theorem wp_fb0 {x : Operand} (b : Nat) (ho : o.op = .fieldAddr 32 x 0) (hx : a.eval x = .pointer (some ⟨b, 0, none⟩)) (h : K (a.put o.dst (.pointer (some ⟨b, 0, none⟩))) w) : Oper.wp Tryz.prog o a w K Q := by
  unfold Oper.wp execOp
  simp only [ho, hx]
  go_simp
  exact h
theorem wp_fb1 {x : Operand} (b : Nat) (ho : o.op = .fieldAddr 32 x 1) (hx : a.eval x = .pointer (some ⟨b, 0, none⟩)) (h : K (a.put o.dst (.pointer (some ⟨b, 20, none⟩))) w) : Oper.wp Tryz.prog o a w K Q := by
  unfold Oper.wp execOp
  simp only [ho, hx]
  go_simp
  exact h
theorem wp_loadi {x : Operand} (ho : o.op = .load 3 x) (b f : Nat) (hx : a.eval x = .pointer (some ⟨b, f, none⟩)) (n : Int) (hc : w.cell? ⟨b, f, none⟩ = some (.int .i64 n)) (h : K (a.put o.dst (.int .i64 n)) w) : Oper.wp Tryz.prog o a w K Q := by
  unfold Oper.wp execOp
  simp only [ho, hx]
  go_simp
  exact h
set_option maxRecDepth 100000 in
theorem wp_allocE (ho : o.op = .alloc 36) (h : K (a.put o.dst (.pointer (some ⟨w.heap.size, 0, none⟩))) (w.alloc (Obj.cells (en 0 0 (.slice none 0 0)).toArray 36))) : Oper.wp Tryz.prog o a w K Q := by
  unfold Oper.wp execOp
  simp only [ho]
  go_simp
  exact h
theorem wp_buildE {x1 x2 : Operand} (ho : o.op = .build 36 #[(0, .const (.int .i64 2)), (1, x1), (2, x2)]) (tm : Int) (sd : List (BitVec 8)) (h4 : sd.length = 20) (h1 : a.eval x1 = .agg (vB sd).toArray) (h2 : a.eval x2 = .int .i64 tm) (Lz : List Value) (hL : Lz = ent 2 sd tm 0 (List.replicate 20 0#8) (List.replicate 4 0) 0 (.slice none 0 0)) (h : K (a.put o.dst (.agg Lz.toArray)) w) : Oper.wp Tryz.prog o a w K Q := by
  subst hL
  have hb := build_ent 2 tm sd h4 w
  have h0 : a.eval (.const (.int .i64 2)) = .int .i64 2 := rfl
  unfold Oper.wp execOp
  simp only [ho, List.map_toArray, List.map_cons, List.map_nil, h1, h2, h0, Sem.run_bind, hb, Result.andThen_ok, Sem.run_pure, Oper.upon_value]
  exact h
end
section
variable {k tk nm gs t : Int} {fr rc sd : List (BitVec 8)} {am : List Nat} {x y : Value} {b : Nat} {w : World} {B : Bool}
theorem raw_tk (h : Row w b (lb.raw k tk nm gs fr rc am x y) 30) : w.cell? ⟨b, 1, none⟩ = some (.int .i64 tk) := h.cell 1 _ rfl
theorem raw_gs (h : Row w b (lb.raw k tk nm gs fr rc am x y) 30) : w.cell? ⟨b, 3, none⟩ = some (.int .i64 gs) := h.cell 3 _ rfl
theorem raw_rc (h : Row w b (lb.raw k tk nm gs fr rc am x y) 30) (h1 : fr.length = 20) : w.rangeAt b 24 (vB rc) := h.range 24 _ (fun j u hj => by
  have hlt : j < (vB rc).length := (List.getElem?_eq_some_iff.1 hj).1
  rw [show 24 + j = (20 + j) + 4 by omega]
  exact ((app_at (vB fr) _ 20 j (by rw [vB_length, h1])).trans (List.getElem?_append_left hlt)).trans hj)
theorem raw_am (h : Row w b (lb.raw k tk nm gs fr rc am x y) 30) (h1 : fr.length = 20) (h2 : rc.length = 20) : w.rangeAt b 44 (vQ am) := h.range 44 _ (fun j u hj => by
  have hlt : j < (vQ am).length := (List.getElem?_eq_some_iff.1 hj).1
  rw [show 44 + j = (20 + (20 + j)) + 4 by omega]
  exact (((app_at (vB fr) _ 20 (20 + j) (by rw [vB_length, h1])).trans (app_at (vB rc) _ 20 j (by rw [vB_length, h2]))).trans (List.getElem?_append_left hlt)).trans hj)
theorem bear_sd (h : Row w b (lb.bear sd t B) 32) : w.rangeAt b 0 (vB sd) := h.range 0 _ (fun j u hj => by
  have hlt : j < (vB sd).length := (List.getElem?_eq_some_iff.1 hj).1
  rw [Nat.zero_add]
  exact (List.getElem?_append_left hlt).trans hj)
theorem bear_t (h : Row w b (lb.bear sd t B) 32) (h1 : sd.length = 20) : w.cell? ⟨b, 20, none⟩ = some (.int .i64 t) := h.cell 20 _ (app_at (vB sd) _ 20 0 (by rw [vB_length, h1]))
theorem bear_b (h : Row w b (lb.bear sd t B) 32) (h1 : sd.length = 20) : w.cell? ⟨b, 21, none⟩ = some (.bool B) := h.cell 21 _ (app_at (vB sd) _ 20 1 (by rw [vB_length, h1]))
end

end Go.Proofs.YtaaehdlenigomaaGreat
