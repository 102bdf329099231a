/-
  laws; layToken.
-/
import Derived.Test.YtojmhmnpidhfjaaDoorLgK
import Derived.Test.YtojmhmnpidhfjaaDoorLgG
import Derived.Test.YtojmhmnpidhfjaaDoorLgJ
import Derived.Test.YtojmhmnpidhfjaaDoorTRl
import Derived.ArgAppend
namespace Go.Proofs.YtojmhmnpidhfjaaDoor
open Go Go.RowKit Go.Maps
open Sha
open Wd

abbrev zP : List Value := [.pointer none, .int .u8 0]
abbrev zK : List Value := [.bool false, .bool false, .int .u64 0, .int .u64 0, .int .u64 0, .int .u64 0]
abbrev zL : List Value := [.string ⟨#[]⟩, .int .u64 0, .int .u64 0, .int .u64 0, .int .u64 0]
abbrev zW : List Value := [.int .u64 0, .int .u64 0, .int .u64 0, .int .u64 0]
section
variable {P : Program} {ops : Array Oper} {rest : List Oper} {op : Oper} {a : Act} {w : World} {Q : Exit → Act → World → Prop}
/-- A whole struct, stored. -/
theorem wpList_storeL (hgd : op.guard = none) (ty : TypeId) (x y : Operand) (ho : op.op = .store ty x y) (b : Nat) (L M : List Value) (t : TypeId) (hx : a.eval x = .pointer (some ⟨b, 0, none⟩)) (hy : a.eval y = .agg L.toArray) (r : Row w b M t) (hl : L.length = M.length) (hi : (P.info? ty).map (·.size) = some L.length) (h1 : L.toArray.all (·.oneCell') = true)
    (h : ∀ X, X = w.setCells b 0 L → Row X b L t → wpList P ops Q rest (a.put op.dst undef) X) : wpList P ops Q (op :: rest) a w :=
  wpList_store_mid hgd ty x y ho b 0 L.toArray hx hy (r.there 0 _ (by rw [List.size_toArray, hl, Nat.zero_add]; exact Nat.le_refl _)) (by rw [hi, List.size_toArray]) h1 (h _ rfl (r.over hl))
theorem wpList_boxG (ty : TypeId) (hgd : op.guard = none) (x : Operand) (ho : op.op = .box ty x) (L : List Value) (hx : a.eval x = .agg L.toArray) (h : ∀ X, Row X w.heap.size L ty → Below w.heap.size w X → X.heap.size = w.heap.size + 1 → wpList P ops Q rest (a.put op.dst (.pointer (some ⟨w.heap.size, 0, none⟩))) X) : wpList P ops Q (op :: rest) a w :=
  wpList_plain hgd fun _ hK => by
    unfold Oper.wp execOp
    simp only [ho, hx]
    go_simp
    exact hK _ _ (h _ (Row.new' rfl rfl) ((Below.refl _ _).alloc (Nat.le_refl _) _) (by simp))
theorem wpList_allocP (hgd : op.guard = none) (ho : op.op = .alloc 61) (h : ∀ X, Row X w.heap.size zP 61 → Below w.heap.size w X → X.heap.size = w.heap.size + 1 → wpList Tryd.prog ops Q rest (a.put op.dst (.pointer (some ⟨w.heap.size, 0, none⟩))) X) : wpList Tryd.prog ops Q (op :: rest) a w :=
  wpList_plain hgd fun _ hK => by
    unfold Oper.wp execOp
    simp only [ho]
    go_simp
    exact hK _ _ (h _ (Row.new' (cs := zP) rfl rfl) ((Below.refl _ _).alloc (Nat.le_refl _) _) (by simp))
theorem wpList_allocK (hgd : op.guard = none) (ho : op.op = .alloc 33) (h : ∀ X, Row X w.heap.size zK 33 → Below w.heap.size w X → X.heap.size = w.heap.size + 1 → wpList Tryd.prog ops Q rest (a.put op.dst (.pointer (some ⟨w.heap.size, 0, none⟩))) X) : wpList Tryd.prog ops Q (op :: rest) a w :=
  wpList_plain hgd fun _ hK => by
    unfold Oper.wp execOp
    simp only [ho]
    go_simp
    exact hK _ _ (h _ (Row.new' (cs := zK) rfl rfl) ((Below.refl _ _).alloc (Nat.le_refl _) _) (by simp))
theorem wpList_allocL (hgd : op.guard = none) (ho : op.op = .alloc 68) (h : ∀ X, Row X w.heap.size zL 68 → Below w.heap.size w X → X.heap.size = w.heap.size + 1 → wpList Tryd.prog ops Q rest (a.put op.dst (.pointer (some ⟨w.heap.size, 0, none⟩))) X) : wpList Tryd.prog ops Q (op :: rest) a w :=
  wpList_plain hgd fun _ hK => by
    unfold Oper.wp execOp
    simp only [ho]
    go_simp
    exact hK _ _ (h _ (Row.new' (cs := zL) rfl rfl) ((Below.refl _ _).alloc (Nat.le_refl _) _) (by simp))
theorem wpList_allocW (hgd : op.guard = none) (ho : op.op = .alloc 26) (h : ∀ X, Row X w.heap.size zW 26 → Below w.heap.size w X → X.heap.size = w.heap.size + 1 → wpList Tryd.prog ops Q rest (a.put op.dst (.pointer (some ⟨w.heap.size, 0, none⟩))) X) : wpList Tryd.prog ops Q (op :: rest) a w :=
  wpList_plain hgd fun _ hK => by
    unfold Oper.wp execOp
    simp only [ho]
    go_simp
    exact hK _ _ (h _ (Row.new' (cs := zW) rfl rfl) ((Below.refl _ _).alloc (Nat.le_refl _) _) (by simp))
end
section
variable {o : Oper} {a : Act} {w : World} {K : Act → World → Prop} {Q : Exit → Act → World → Prop}
theorem wp_appb (s x : Operand) (ho : o.op = .call { callee := .builtin .append, args := #[s, x], argTypes := #[55, 55] }) (g g2 k m t : Nat) (d news : List (BitVec 8)) (hd : d.length = k) (hm : news.length = m) (ht : k + m = t) (h0 : 0 < m) (hk : t ≤ 1000) (hs : a.eval s = .slice (some ⟨g, 0, none⟩) k k) (hr : Row w g (vB d) 5) (hx : a.eval x = .slice (some ⟨g2, 0, none⟩) m m) (hr2 : Row w g2 (vB news) 5)
    (h : ∀ A c w', Bw w' (.slice A t c) (d ++ news) → (A = none → False) → Below w.heap.size w w' → K (a.put o.dst (.slice A t c)) w') : Oper.wp Tryd.prog o a w K Q := by
  obtain ⟨ie, z, h1, h2, h3, h5, h4⟩ := info_u8open
  obtain ⟨v', w', hrun, r1, r2⟩ := run_append_arg_grows (P := Tryd.prog) w 55 o.type 5 ie z 1 1 Tryd.underlying55 h1 h2 h3 h5 h4 (by decide) ⟨g, 0, none⟩ k k (vB d) (by rw [vB_length, hd, Nat.mul_one]) (fun j u hj => by rw [Addr.add_mid]; exact hr.all j u hj) ⟨g2, 0, none⟩ m m (vB news) (by rw [vB_length, hm, Nat.mul_one]) (fun j u hj => by rw [Addr.add_mid]; exact hr2.all j u hj) (by omega) (by unfold maxLen; omega) (by omega)
  have hbw : Bw w' v' (d ++ news) := by
    obtain ⟨q1, q2⟩ := r1
    refine ⟨by rw [List.length_append, hd, hm]; simp [vB_length, hd, hm], ?_⟩
    rcases q2 with ⟨_, q3⟩ | ⟨g', cap', cur, q3, _, q4, q5, q6, q7, q8⟩
    · omega
    · refine .inr ⟨g', cap', cur, by rw [List.length_append, hd, hm]; exact q3, Nat.zero_le _, q4, by rw [List.length_append, hd, hm]; exact q5, q6, q7, ?_⟩
      rw [List.length_append, hd, hm, vB_app]
      exact q8
  obtain ⟨A, c, hv, _, _⟩ := Bw.form hbw
  rw [List.length_append, hd, hm, ht] at hv
  subst hv
  have hB : Below w.heap.size w w' := (Below.refl _ _).grown r2 (Nat.le_refl _) (fun k e => by cases e)
  unfold Oper.wp
  simp [execOp, ho, resolve, invoke, builtin, hs, hx, hrun, Result.andThen]
  exact h A c w' hbw (fun e => by have := sl_nil hbw e; omega) hB
theorem wp_f_p0 {x : Operand} (b : Nat) (ho : o.op = .fieldAddr 61 x 0) (hx : a.eval x = .pointer (some ⟨b, 0, none⟩)) (h : K (a.put o.dst (.pointer (some ⟨b, 0, none⟩))) w) : Oper.wp Tryd.prog o a w K Q := by
  unfold Oper.wp execOp
  simp only [ho, hx]
  go_simp
  exact h
theorem wp_f_t2 {x : Operand} (b : Nat) (ho : o.op = .fieldAddr 33 x 2) (hx : a.eval x = .pointer (some ⟨b, 0, none⟩)) (h : K (a.put o.dst (.pointer (some ⟨b, 2, none⟩))) w) : Oper.wp Tryd.prog o a w K Q := by
  unfold Oper.wp execOp
  simp only [ho, hx]
  go_simp
  exact h
theorem wp_f_l {x : Operand} (b k : Nat) (hk : k = 0 ∨ k = 1) (ho : o.op = .fieldAddr 68 x k) (hx : a.eval x = .pointer (some ⟨b, 0, none⟩)) (h : K (a.put o.dst (.pointer (some ⟨b, k, none⟩))) w) : Oper.wp Tryd.prog o a w K Q := by
  unfold Oper.wp execOp
  rcases hk with rfl | rfl <;> simp only [ho, hx] <;> go_simp <;> exact h
theorem wp_loadp {x : Operand} (ho : o.op = .load 38 x) (b f : Nat) (hx : a.eval x = .pointer (some ⟨b, f, none⟩)) (p : Option Addr) (hc : w.cell? ⟨b, f, none⟩ = some (.pointer p)) (h : K (a.put o.dst (.pointer p)) w) : Oper.wp Tryd.prog o a w K Q := by
  unfold Oper.wp execOp
  simp only [ho, hx]
  go_simp
  exact h
theorem wp_loads {x : Operand} (ho : o.op = .load 9 x) (b f : Nat) (hx : a.eval x = .pointer (some ⟨b, f, none⟩)) (p : ByteArray) (hc : w.cell? ⟨b, f, none⟩ = some (.string p)) (h : K (a.put o.dst (.string p)) w) : Oper.wp Tryd.prog o a w K Q := by
  unfold Oper.wp execOp
  simp only [ho, hx]
  go_simp
  exact h
end
theorem zero_u8 : ((Tryd.prog.info? 5).bind (·.zero)).isSome = true := by kernel_rfl
theorem info_w4l : (Tryd.prog.info? 26).map (·.size) = some 4 := by kernel_rfl
/-- Bytes that are new. -/
def SP.by (n : Nat) (d : List (BitVec 8)) : SP := ⟨fun W v => ∃ N, v = .slice (some ⟨N, 0, none⟩) n n ∧ Row W N (vB d) 5, fun _ _ _ hB ⟨N, e, r⟩ => ⟨N, e, Row.below r hB (Row.lt r)⟩⟩
/-- Bytes that are somebody's. -/
def SP.own (n : Nat) (d : List (BitVec 8)) : SP := ⟨fun W v => ∃ A c, v = .slice A n c ∧ Bw W (.slice A n c) d ∧ (A = none → False), fun _ _ _ hB ⟨A, c, e, r, h⟩ => ⟨A, c, e, Bw.be r hB, h⟩⟩
theorem Lg.below {w0 w w' : World} {S q : Nat} {f : ByteArray → List (BitVec 8)} (h : Lg w0 w S q f) (b : Below w.heap.size w w') : Lg w0 w' S q f := h.be b
theorem Kp.below {w w1 w' : World} (h : Kp w w1) (b : Below w1.heap.size w1 w') : Kp w w' := h.trans (Kp.of_below b)
theorem tok_am {L : List Value} {th pa : Bool} {n : Int} (h : L = [.bool th, .bool pa, .int .u64 n, .int .u64 0, .int .u64 0, .int .u64 0]) {w : World} {b : Nat} {t : TypeId} (r : Row w b L t) : w.rangeAt b 2 [.int .u64 n, .int .u64 0, .int .u64 0, .int .u64 0] := r.range 2 _ (fun j v hj => by
  subst h
  match j, hj with
  | 0, hj => exact hj
  | 1, hj => exact hj
  | 2, hj => exact hj
  | 3, hj => exact hj)
set_option maxRecDepth 100000 in
set_option maxHeartbeats 4000000 in
theorem layT (w0 : World) (S q : Nat) (f f2 : ByteArray → List (BitVec 8)) (hq : q < 999990) (n : Nat) (hn : n < 1000000) (LP LT : List Value) (hLP : LP = [.pointer (some ⟨S, 0, none⟩), .int .u8 5]) (hLT : LT = [.bool true, .bool false, .int .u64 (n : Int), .int .u64 0, .int .u64 0, .int .u64 0]) (hf2 : f2 = upd f tK (1#8 :: wB n)) (w : World) (h : Lg w0 w S q f) :
    Calls Tryd.prog 25 #[.agg LP.toArray, .agg LT.toArray] w fun e w' => e = .returned (.int .i64 0) ∧ Lg w0 w' S (q + 1) f2 ∧ Kp w w' := by
  have HPE : Hid (LP = [.pointer (some ⟨S, 0, none⟩), .int .u8 5]) := hLP
  have HTE : Hid (LT = [.bool true, .bool false, .int .u64 (n : Int), .int .u64 0, .int .u64 0, .int .u64 0]) := hLT
  have HPI : Hid ((Tryd.prog.info? 61).map (·.size) = some LP.length) := by show _ = _; rw [hLP]; exact info_pg
  have HF2 : Hid (f2 = _) := hf2
  have HQ : Hid (q < 999990) := hq
  have HN : Hid (n < 1000000) := hn
  have HG : Hid (Lg w0 w S q f) := h
  obtain ⟨LA, hLA⟩ : ∃ L : List Value, L = [.int .u64 (n : Int), .int .u64 0, .int .u64 0, .int .u64 0] := ⟨_, rfl⟩
  have HAE : Hid (LA = [.int .u64 (n : Int), .int .u64 0, .int .u64 0, .int .u64 0]) := hLA
  have HAI : Hid ((Tryd.prog.info? 26).map (·.size) = some LA.length) := by show _ = _; rw [hLA]; exact info_w4l
  clear hLP hLT hf2 hq hn h hLA
  go_enter Tryd.func25, Tryd.ntmps25
  go_upto_region 1 with (first
    | (refine wpList_boxG 61 rfl (.tmp 0) rfl LP rfl ?_; intro X0 q1 q2 q3; have R2 : Hid (Row X0 _ LP 61) := q1; have B0 : Hid (Below _ _ X0) := q2; clear q1 q2 q3; simp only [Act.put, List.setIfInBounds_toArray, List.set_cons_zero, List.set_cons_succ])
    | (refine wpList_boxG 33 rfl (.tmp 1) rfl LT rfl ?_; intro X1 q1 q2 q3; have R3 : Hid (Row X1 _ LT 33) := q1; have B1 : Hid (Below _ _ X1) := q2; clear q1 q2 q3; simp only [Act.put, List.setIfInBounds_toArray, List.set_cons_zero, List.set_cons_succ]))
  obtain ⟨b2, hb2⟩ : ∃ b, b = w.heap.size := ⟨_, rfl⟩
  obtain ⟨b3, hb3⟩ : ∃ b, b = X0.heap.size := ⟨_, rfl⟩
  have bX : Below w.heap.size w X1 := B0.out.trans (B1.out.mono B0.out.size)
  rw [← hb3] at R3
  replace R2 : Hid (Row X1 b2 LP 61) := by rw [hb2]; exact Row.below R2.out B1.out R2.out.lt
  rw [← hb2, ← hb3]
  replace HG : Hid (Lg w0 X1 S q f) := HG.out.be bX
  have HK : Hid (Kp w X1) := Kp.of_below bX
  have c1 := R3.out.cell 1 (.bool false) (by rw [HTE.out]; rfl)
  clear bX hb2 hb3 B0 B1
  go_upto_region 4 with fail
  have r2 := R2.out
  have r3 := R3.out
  have hG := HG.out
  have hK := HK.out
  have hb1 := Below.refl X1.heap.size X1
  clear R2 R3 HG HK c1
  refine wp_named fun a0 ha0 => ?_
  have hsz : a0.tmps.size = 19 := by rw [ha0]; rfl
  have zs2 : a0.eval (.tmp 2) = .pointer (some ⟨b2, 0, none⟩) := by rw [ha0]; rfl
  have zs3 : a0.eval (.tmp 3) = .pointer (some ⟨b3, 0, none⟩) := by rw [ha0]; rfl
  have zs5 : a0.eval (.tmp 5) = .int .u8 1 := by rw [ha0]; rfl
  obtain ⟨D, hD⟩ : ∃ D : List (Tmp × SP), D = [(8, SP.is (.pointer (some ⟨b2, 0, none⟩))), (9, SP.is (.pointer (some ⟨S, 0, none⟩))), (10, SP.is (.agg LP.toArray)), (11, SP.is (.string tK)), (12, SP.is (.int .u8 1)), (13, SP.any), (14, SP.is (.pointer (some ⟨b3, 2, none⟩))), (15, SP.is (.agg LA.toArray)), (16, SP.any), (17, SP.any), (18, SP.is (.int .i64 0)), (4, SP.is (.int .i64 0))] := ⟨_, rfl⟩
  refine wp_region_then (by kernel_rfl) 10 (by decide) (by kernel_rfl) (fun listed ac W => Fp D a0 listed ac W ∧ Below X1.heap.size X1 W ∧ Row W b2 LP 61 ∧ Row W b3 LT 33 ∧ Lg w0 W S q f ∧ Kp w W ∧ (listed.getD 5 false = true → (SP.by 1 [1#8]).P W (ac.eval (.tmp 13))) ∧ (listed.getD 8 false = true → (SP.by 32 (wB n)).P W (ac.eval (.tmp 16))) ∧ (listed.getD 9 false = true → (SP.own 33 (1#8 :: wB n)).P W (ac.eval (.tmp 17)))) (fun listed ac W => Fp D a0 listed ac W ∧ Lg w0 W S (q + 1) f2 ∧ Kp w W) ?_ ?_ ?_ ?_ ?_
  · exact ⟨Fp.start D a0 _ _, Below.drew hb1, Row.drew r2, Row.drew r3, hG.below (Below.drew (Below.refl _ _)), hK.below (Below.drew (Below.refl _ _)), (fun h => (start_no h).elim), (fun h => (start_no h).elim), (fun h => (start_no h).elim)⟩
  · clear ha0 hb1 r2 r3 hG hK
    intro listed ac W k hl hI hdn hk hne hnl
    replace hl : listed.size = 12 := hl
    obtain ⟨hF, hb1, r2, r3, hG, hK, ti5, ti8, ti9⟩ := hI
    have hk1 : k < 12 := List.mem_range.1 (List.mem_filter.1 hk).1
    rcases (show k = 0 ∨ k = 1 ∨ k = 2 ∨ k = 3 ∨ k = 4 ∨ k = 5 ∨ k = 6 ∨ k = 7 ∨ k = 8 ∨ k = 9 ∨ k = 10 ∨ k = 11 by omega) with rfl | rfl | rfl | rfl | rfl | rfl | rfl | rfl | rfl | rfl | rfl | rfl
    · have hk3 := hk
      have e2 := ((hF.keep 2 (by rw [hD]; rfl)).trans zs2)
      exact wpOp_plain rfl rfl (wp_f_p0 b2 rfl e2 ⟨(hF.put 0 8 (SP.is (.pointer (some ⟨b2, 0, none⟩))) (.pointer (some ⟨b2, 0, none⟩)) (by rw [hD]; rfl) rfl (by rw [hD]; rfl) (by rw [hsz]; decide) (by rw [hl]; decide)), hb1, r2, r3, hG, hK, (fun h1 => by change (SP.by 1 [1#8]).P _ ((ac.put (some 8) _).eval (.tmp 13)); rw [eval_put_other ac _ (by decide)]; exact ti5 (by rwa [getD_set _ _ _ (by decide)] at h1)), (fun h1 => by change (SP.by 32 (wB n)).P _ ((ac.put (some 8) _).eval (.tmp 16)); rw [eval_put_other ac _ (by decide)]; exact ti8 (by rwa [getD_set _ _ _ (by decide)] at h1)), (fun h1 => by change (SP.own 33 (1#8 :: wB n)).P _ ((ac.put (some 8) _).eval (.tmp 17)); rw [eval_put_other ac _ (by decide)]; exact ti9 (by rwa [getD_set _ _ _ (by decide)] at h1))⟩)
    · have hk3 := hk
      have e8 := (hF.done 0 (8, SP.is (.pointer (some ⟨b2, 0, none⟩))) (by rw [hD]; rfl) (ready_dep hk 0 (by kernel_rfl)))
      exact wpOp_plain rfl rfl (wp_loadp rfl b2 0 e8 _ (r2.cell 0 _ (by rw [HPE.out]; rfl)) ⟨(hF.put 1 9 (SP.is (.pointer (some ⟨S, 0, none⟩))) (.pointer (some ⟨S, 0, none⟩)) (by rw [hD]; rfl) rfl (by rw [hD]; rfl) (by rw [hsz]; decide) (by rw [hl]; decide)), hb1, r2, r3, hG, hK, (fun h1 => by change (SP.by 1 [1#8]).P _ ((ac.put (some 9) _).eval (.tmp 13)); rw [eval_put_other ac _ (by decide)]; exact ti5 (by rwa [getD_set _ _ _ (by decide)] at h1)), (fun h1 => by change (SP.by 32 (wB n)).P _ ((ac.put (some 9) _).eval (.tmp 16)); rw [eval_put_other ac _ (by decide)]; exact ti8 (by rwa [getD_set _ _ _ (by decide)] at h1)), (fun h1 => by change (SP.own 33 (1#8 :: wB n)).P _ ((ac.put (some 9) _).eval (.tmp 17)); rw [eval_put_other ac _ (by decide)]; exact ti9 (by rwa [getD_set _ _ _ (by decide)] at h1))⟩)
    · have hk3 := hk
      exact wpOp_plain rfl rfl (wp_load_mid 61 (.tmp 2) rfl b2 0 ((hF.keep 2 (by rw [hD]; rfl)).trans zs2) LP _ r2.all Tryd.underlying61 rfl HPI.out ⟨(hF.put 2 10 (SP.is (.agg LP.toArray)) (.agg LP.toArray) (by rw [hD]; rfl) rfl (by rw [hD]; rfl) (by rw [hsz]; decide) (by rw [hl]; decide)), hb1, r2, r3, hG, hK, (fun h1 => by change (SP.by 1 [1#8]).P _ ((ac.put (some 10) _).eval (.tmp 13)); rw [eval_put_other ac _ (by decide)]; exact ti5 (by rwa [getD_set _ _ _ (by decide)] at h1)), (fun h1 => by change (SP.by 32 (wB n)).P _ ((ac.put (some 10) _).eval (.tmp 16)); rw [eval_put_other ac _ (by decide)]; exact ti8 (by rwa [getD_set _ _ _ (by decide)] at h1)), (fun h1 => by change (SP.own 33 (1#8 :: wB n)).P _ ((ac.put (some 10) _).eval (.tmp 17)); rw [eval_put_other ac _ (by decide)]; exact ti9 (by rwa [getD_set _ _ _ (by decide)] at h1))⟩)
    · have hk3 := hk
      have e10 := (hF.done 2 (10, SP.is (.agg LP.toArray)) (by rw [hD]; rfl) (ready_dep hk 2 (by kernel_rfl)))
      refine wpOp_plain rfl rfl (wp_fcall_v 45 #[.agg LP.toArray, .string ⟨#[116]⟩, .slice none 0 0] rfl rfl (by show [ac.eval (.tmp 10), .string ⟨#[116]⟩, .slice none 0 0] = _; rw [show ac.eval (.tmp 10) = .agg LP.toArray from e10]) (by go_simp) (((show Calls Tryd.prog 45 #[.agg LP.toArray, .string ⟨#[116]⟩, .slice none 0 0] W _ by rw [HPE.out]; exact kT S W)).mono ?_))
      rintro e W2 ⟨rfl, hB⟩
      exact ⟨_, rfl, ((hF.world hB).put 3 11 (SP.is (.string tK)) (.string tK) (by rw [hD]; rfl) rfl (by rw [hD]; rfl) (by rw [hsz]; decide) (by rw [hl]; decide)), hb1.trans (hB.mono hb1.size), Row.below r2 hB (Row.lt r2), Row.below r3 hB (Row.lt r3), hG.below hB, hK.below hB, (fun h1 => by change (SP.by 1 [1#8]).P _ ((ac.put (some 11) _).eval (.tmp 13)); rw [eval_put_other ac _ (by decide)]; exact (SP.by 1 [1#8]).st _ _ _ hB (ti5 (by rwa [getD_set _ _ _ (by decide)] at h1))), (fun h1 => by change (SP.by 32 (wB n)).P _ ((ac.put (some 11) _).eval (.tmp 16)); rw [eval_put_other ac _ (by decide)]; exact (SP.by 32 (wB n)).st _ _ _ hB (ti8 (by rwa [getD_set _ _ _ (by decide)] at h1))), (fun h1 => by change (SP.own 33 (1#8 :: wB n)).P _ ((ac.put (some 11) _).eval (.tmp 17)); rw [eval_put_other ac _ (by decide)]; exact (SP.own 33 (1#8 :: wB n)).st _ _ _ hB (ti9 (by rwa [getD_set _ _ _ (by decide)] at h1)))⟩
    · have hk3 := hk
      exact wpOp_plain rfl rfl (wp_move_v (ac.eval (.tmp 5)) rfl rfl ⟨(hF.put 4 12 (SP.is (.int .u8 1)) (ac.eval (.tmp 5)) (by rw [hD]; rfl) (((hF.keep 5 (by rw [hD]; rfl)).trans zs5)) (by rw [hD]; rfl) (by rw [hsz]; decide) (by rw [hl]; decide)), hb1, r2, r3, hG, hK, (fun h1 => by change (SP.by 1 [1#8]).P _ ((ac.put (some 12) _).eval (.tmp 13)); rw [eval_put_other ac _ (by decide)]; exact ti5 (by rwa [getD_set _ _ _ (by decide)] at h1)), (fun h1 => by change (SP.by 32 (wB n)).P _ ((ac.put (some 12) _).eval (.tmp 16)); rw [eval_put_other ac _ (by decide)]; exact ti8 (by rwa [getD_set _ _ _ (by decide)] at h1)), (fun h1 => by change (SP.own 33 (1#8 :: wB n)).P _ ((ac.put (some 12) _).eval (.tmp 17)); rw [eval_put_other ac _ (by decide)]; exact ti9 (by rwa [getD_set _ _ _ (by decide)] at h1))⟩)
    · have hk3 := hk
      have e12 := (hF.done 4 (12, SP.is (.int .u8 1)) (by rw [hD]; rfl) (ready_dep hk 4 (by kernel_rfl)))
      have hB : Below W.heap.size W (W.alloc (Obj.cells ((vB [1#8]) : List Value).toArray 5)) := (Below.refl _ _).alloc (Nat.le_refl _) _
      exact wpOp_plain rfl rfl (wp_build1 55 5 1 _ (vB [1#8]) rfl Tryd.underlying55 info_u8 zero_u8 rfl (by decide) (by decide) (fun v hv => by obtain rfl := List.mem_singleton.1 hv; rfl) (by show [(0, ac.eval (.tmp 12))] = _; rw [show ac.eval (.tmp 12) = .int .u8 1 from e12]; rfl) ⟨((hF.world hB).put 5 13 (SP.any) (.slice (some ⟨W.heap.size, 0, none⟩) 1 1) (by rw [hD]; rfl) trivial (by rw [hD]; rfl) (by rw [hsz]; decide) (by rw [hl]; decide)), hb1.trans (hB.mono hb1.size), Row.below r2 hB (Row.lt r2), Row.below r3 hB (Row.lt r3), hG.below hB, hK.below hB, (fun _ => by change (SP.by 1 [1#8]).P _ ((ac.put (some 13) _).eval (.tmp 13)); rw [eval_put_same ac _ (by rw [hF.size, hsz]; decide)]; exact ⟨W.heap.size, rfl, Row.new' rfl rfl⟩), (fun h1 => by change (SP.by 32 (wB n)).P _ ((ac.put (some 13) _).eval (.tmp 16)); rw [eval_put_other ac _ (by decide)]; exact (SP.by 32 (wB n)).st _ _ _ hB (ti8 (by rwa [getD_set _ _ _ (by decide)] at h1))), (fun h1 => by change (SP.own 33 (1#8 :: wB n)).P _ ((ac.put (some 13) _).eval (.tmp 17)); rw [eval_put_other ac _ (by decide)]; exact (SP.own 33 (1#8 :: wB n)).st _ _ _ hB (ti9 (by rwa [getD_set _ _ _ (by decide)] at h1)))⟩)
    · have hk3 := hk
      have e3 := ((hF.keep 3 (by rw [hD]; rfl)).trans zs3)
      exact wpOp_plain rfl rfl (wp_f_t2 b3 rfl e3 ⟨(hF.put 6 14 (SP.is (.pointer (some ⟨b3, 2, none⟩))) (.pointer (some ⟨b3, 2, none⟩)) (by rw [hD]; rfl) rfl (by rw [hD]; rfl) (by rw [hsz]; decide) (by rw [hl]; decide)), hb1, r2, r3, hG, hK, (fun h1 => by change (SP.by 1 [1#8]).P _ ((ac.put (some 14) _).eval (.tmp 13)); rw [eval_put_other ac _ (by decide)]; exact ti5 (by rwa [getD_set _ _ _ (by decide)] at h1)), (fun h1 => by change (SP.by 32 (wB n)).P _ ((ac.put (some 14) _).eval (.tmp 16)); rw [eval_put_other ac _ (by decide)]; exact ti8 (by rwa [getD_set _ _ _ (by decide)] at h1)), (fun h1 => by change (SP.own 33 (1#8 :: wB n)).P _ ((ac.put (some 14) _).eval (.tmp 17)); rw [eval_put_other ac _ (by decide)]; exact ti9 (by rwa [getD_set _ _ _ (by decide)] at h1))⟩)
    · have hk3 := hk
      exact wpOp_plain rfl rfl (wp_load_mid 26 (.tmp 14) rfl b3 2 (hF.done 6 (14, SP.is (.pointer (some ⟨b3, 2, none⟩))) (by rw [hD]; rfl) (ready_dep hk 6 (by kernel_rfl))) LA _ (by rw [HAE.out]; exact tok_am HTE.out r3) Tryd.underlying26 rfl HAI.out ⟨(hF.put 7 15 (SP.is (.agg LA.toArray)) (.agg LA.toArray) (by rw [hD]; rfl) rfl (by rw [hD]; rfl) (by rw [hsz]; decide) (by rw [hl]; decide)), hb1, r2, r3, hG, hK, (fun h1 => by change (SP.by 1 [1#8]).P _ ((ac.put (some 15) _).eval (.tmp 13)); rw [eval_put_other ac _ (by decide)]; exact ti5 (by rwa [getD_set _ _ _ (by decide)] at h1)), (fun h1 => by change (SP.by 32 (wB n)).P _ ((ac.put (some 15) _).eval (.tmp 16)); rw [eval_put_other ac _ (by decide)]; exact ti8 (by rwa [getD_set _ _ _ (by decide)] at h1)), (fun h1 => by change (SP.own 33 (1#8 :: wB n)).P _ ((ac.put (some 15) _).eval (.tmp 17)); rw [eval_put_other ac _ (by decide)]; exact ti9 (by rwa [getD_set _ _ _ (by decide)] at h1))⟩)
    · have hk3 := hk
      have e15 := (hF.done 7 (15, SP.is (.agg LA.toArray)) (by rw [hD]; rfl) (ready_dep hk 7 (by kernel_rfl)))
      refine wpOp_plain rfl rfl (wp_fcall_v 48 #[.agg LA.toArray] rfl rfl (by show [ac.eval (.tmp 15)] = _; rw [show ac.eval (.tmp 15) = .agg LA.toArray from e15]) (by go_simp) (((show Calls Tryd.prog 48 #[.agg LA.toArray] W _ by rw [HAE.out]; exact bytesS n HN.out W)).mono ?_))
      rintro e W2 ⟨N, hN, hR, rfl, hB⟩
      exact ⟨_, rfl, ((hF.world hB).put 8 16 (SP.any) (.slice (some ⟨N, 0, none⟩) 32 32) (by rw [hD]; rfl) trivial (by rw [hD]; rfl) (by rw [hsz]; decide) (by rw [hl]; decide)), hb1.trans (hB.mono hb1.size), Row.below r2 hB (Row.lt r2), Row.below r3 hB (Row.lt r3), hG.below hB, hK.below hB, (fun h1 => by change (SP.by 1 [1#8]).P _ ((ac.put (some 16) _).eval (.tmp 13)); rw [eval_put_other ac _ (by decide)]; exact (SP.by 1 [1#8]).st _ _ _ hB (ti5 (by rwa [getD_set _ _ _ (by decide)] at h1))), (fun _ => by change (SP.by 32 (wB n)).P _ ((ac.put (some 16) _).eval (.tmp 16)); rw [eval_put_same ac _ (by rw [hF.size, hsz]; decide)]; exact ⟨N, rfl, hR⟩), (fun h1 => by change (SP.own 33 (1#8 :: wB n)).P _ ((ac.put (some 16) _).eval (.tmp 17)); rw [eval_put_other ac _ (by decide)]; exact (SP.own 33 (1#8 :: wB n)).st _ _ _ hB (ti9 (by rwa [getD_set _ _ _ (by decide)] at h1)))⟩
    · have hk3 := hk
      obtain ⟨n1, e13, q13⟩ := (ti5 (ready_dep hk 5 (by kernel_rfl)))
      obtain ⟨n2, e16, q16⟩ := (ti8 (ready_dep hk 8 (by kernel_rfl)))
      refine wpOp_plain rfl rfl (wp_appb (.tmp 13) (.tmp 16) rfl n1 n2 1 32 33 [1#8] (wB n) rfl (wB_len n) rfl (by decide) (by decide) e13 q13 e16 q16 ?_)
      intro A c W2 hw1 hnn hB
      exact ⟨((hF.world hB).put 9 17 (SP.any) (.slice A 33 c) (by rw [hD]; rfl) trivial (by rw [hD]; rfl) (by rw [hsz]; decide) (by rw [hl]; decide)), hb1.trans (hB.mono hb1.size), Row.below r2 hB (Row.lt r2), Row.below r3 hB (Row.lt r3), hG.below hB, hK.below hB, (fun h1 => by change (SP.by 1 [1#8]).P _ ((ac.put (some 17) _).eval (.tmp 13)); rw [eval_put_other ac _ (by decide)]; exact (SP.by 1 [1#8]).st _ _ _ hB (ti5 (by rwa [getD_set _ _ _ (by decide)] at h1))), (fun h1 => by change (SP.by 32 (wB n)).P _ ((ac.put (some 17) _).eval (.tmp 16)); rw [eval_put_other ac _ (by decide)]; exact (SP.by 32 (wB n)).st _ _ _ hB (ti8 (by rwa [getD_set _ _ _ (by decide)] at h1))), (fun _ => by change (SP.own 33 (1#8 :: wB n)).P _ ((ac.put (some 17) _).eval (.tmp 17)); rw [eval_put_same ac _ (by rw [hF.size, hsz]; decide)]; exact ⟨A, c, rfl, hw1, hnn⟩)⟩
    · exact absurd rfl hne
    · exact absurd (ready_dep hk 10 (by kernel_rfl)) hnl
  · clear ha0 hb1 r2 r3 hG hK
    intro listed ac W hl hI hdn hk
    replace hl : listed.size = 12 := hl
    obtain ⟨hF, hb1, r2, r3, hG, hK, ti5, ti8, ti9⟩ := hI
    have e9 := (hF.done 1 (9, SP.is (.pointer (some ⟨S, 0, none⟩))) (by rw [hD]; rfl) (ready_dep hk 1 (by kernel_rfl)))
    have e11 := (hF.done 3 (11, SP.is (.string tK)) (by rw [hD]; rfl) (ready_dep hk 3 (by kernel_rfl)))
    obtain ⟨A, c, e17, hw1, hnn⟩ := (ti9 (ready_dep hk 9 (by kernel_rfl)))
    refine wpOp_plain rfl rfl (wp_fcall_v 47 #[.pointer (some ⟨S, 0, none⟩), .string tK, .slice A 33 c] rfl rfl (by show [ac.eval (.tmp 9), ac.eval (.tmp 11), ac.eval (.tmp 17)] = _; rw [show ac.eval (.tmp 9) = _ from e9, show ac.eval (.tmp 11) = _ from e11, e17]) (by go_simp) (((show Calls Tryd.prog 47 #[.pointer (some ⟨S, 0, none⟩), .string tK, .slice A 33 c] W fun e w' => e = .returned (.int .i64 0) ∧ Lg w0 w' S (q + 1) f2 ∧ Kp W w' by rw [HF2.out]; exact put_lg w0 S q f (by have := HQ.out; omega) tK tk_key A 33 c (1#8 :: wB n) (by rw [List.length_cons, wB_len]) (by decide) (fun e => (hnn e).elim) W hG (fun W2 k2 => Bw.sl (k2.bw hw1)))).mono ?_))
    rintro e W2 ⟨rfl, hG2, hK2⟩
    have hT : Fp D a0 listed ac W2 := hF.turn (by rw [hD]; simp only [List.forall_mem_cons, List.not_mem_nil, false_implies, implies_true, and_true]; exact ⟨fun _ h => h, fun _ h => h, fun _ h => h, fun _ h => h, fun _ h => h, fun _ h => h, fun _ h => h, fun _ h => h, fun _ h => h, fun _ h => h, fun _ h => h, fun _ h => h⟩)
    exact ⟨_, rfl, (hT.put 10 18 (SP.is (.int .i64 0)) _ (by rw [hD]; rfl) rfl (by rw [hD]; rfl) (by rw [hsz]; decide) (by rw [hl]; decide)), hG2, hK.trans hK2⟩
  · clear ha0 hb1 r2 r3 hG hK
    intro listed ac W k hl hJ hdn hk hne hyl
    replace hl : listed.size = 12 := hl
    obtain ⟨hF, hG, hK⟩ := hJ
    have hk1 : k < 12 := List.mem_range.1 (List.mem_filter.1 hk).1
    rcases (show k = 0 ∨ k = 1 ∨ k = 2 ∨ k = 3 ∨ k = 4 ∨ k = 5 ∨ k = 6 ∨ k = 7 ∨ k = 8 ∨ k = 9 ∨ k = 10 ∨ k = 11 by omega) with rfl | rfl | rfl | rfl | rfl | rfl | rfl | rfl | rfl | rfl | rfl | rfl
    · exact absurd (hdn 1 (hdn 10 hyl 1 (by kernel_rfl)) 0 (by kernel_rfl)) (not_yet hk)
    · exact absurd (hdn 10 hyl 1 (by kernel_rfl)) (not_yet hk)
    · exact absurd (hdn 3 (hdn 10 hyl 3 (by kernel_rfl)) 2 (by kernel_rfl)) (not_yet hk)
    · exact absurd (hdn 10 hyl 3 (by kernel_rfl)) (not_yet hk)
    · exact absurd (hdn 5 (hdn 9 (hdn 10 hyl 9 (by kernel_rfl)) 5 (by kernel_rfl)) 4 (by kernel_rfl)) (not_yet hk)
    · exact absurd (hdn 9 (hdn 10 hyl 9 (by kernel_rfl)) 5 (by kernel_rfl)) (not_yet hk)
    · exact absurd (hdn 7 (hdn 8 (hdn 9 (hdn 10 hyl 9 (by kernel_rfl)) 8 (by kernel_rfl)) 7 (by kernel_rfl)) 6 (by kernel_rfl)) (not_yet hk)
    · exact absurd (hdn 8 (hdn 9 (hdn 10 hyl 9 (by kernel_rfl)) 8 (by kernel_rfl)) 7 (by kernel_rfl)) (not_yet hk)
    · exact absurd (hdn 9 (hdn 10 hyl 9 (by kernel_rfl)) 8 (by kernel_rfl)) (not_yet hk)
    · exact absurd (hdn 10 hyl 9 (by kernel_rfl)) (not_yet hk)
    · exact absurd rfl hne
    · exact wpOp_plain rfl rfl (wp_assign_v (ac.eval (.tmp 18)) rfl rfl ⟨(hF.put 11 4 (SP.is (.int .i64 0)) _ (by rw [hD]; rfl) (hF.done 10 (18, SP.is (.int .i64 0)) (by rw [hD]; rfl) (ready_dep hk 10 (by kernel_rfl))) (by rw [hD]; rfl) (by rw [hsz]; decide) (by rw [hl]; decide)), hG, hK⟩)
  · clear hb1 r2 r3 hG hK
    intro listed ac W hl hJ hr
    replace hl : listed.size = 12 := hl
    obtain ⟨hF, hG, hK⟩ := hJ
    have hall := all_listed (by kernel_rfl) hl hr
    have h8 : ac.eval (.tmp 8) = .pointer (some ⟨b2, 0, none⟩) := hF.done 0 (8, SP.is (.pointer (some ⟨b2, 0, none⟩))) (by rw [hD]; rfl) (hall 0 (by decide))
    have h9 : ac.eval (.tmp 9) = .pointer (some ⟨S, 0, none⟩) := hF.done 1 (9, SP.is (.pointer (some ⟨S, 0, none⟩))) (by rw [hD]; rfl) (hall 1 (by decide))
    have h10 : ac.eval (.tmp 10) = .agg LP.toArray := hF.done 2 (10, SP.is (.agg LP.toArray)) (by rw [hD]; rfl) (hall 2 (by decide))
    have h11 : ac.eval (.tmp 11) = .string tK := hF.done 3 (11, SP.is (.string tK)) (by rw [hD]; rfl) (hall 3 (by decide))
    have h12 : ac.eval (.tmp 12) = .int .u8 1 := hF.done 4 (12, SP.is (.int .u8 1)) (by rw [hD]; rfl) (hall 4 (by decide))
    obtain ⟨x13, h13⟩ : ∃ x, ac.eval (.tmp 13) = x := ⟨_, rfl⟩
    have h14 : ac.eval (.tmp 14) = .pointer (some ⟨b3, 2, none⟩) := hF.done 6 (14, SP.is (.pointer (some ⟨b3, 2, none⟩))) (by rw [hD]; rfl) (hall 6 (by decide))
    have h15 : ac.eval (.tmp 15) = .agg LA.toArray := hF.done 7 (15, SP.is (.agg LA.toArray)) (by rw [hD]; rfl) (hall 7 (by decide))
    obtain ⟨x16, h16⟩ : ∃ x, ac.eval (.tmp 16) = x := ⟨_, rfl⟩
    obtain ⟨x17, h17⟩ : ∃ x, ac.eval (.tmp 17) = x := ⟨_, rfl⟩
    have h18 : ac.eval (.tmp 18) = .int .i64 0 := hF.done 10 (18, SP.is (.int .i64 0)) (by rw [hD]; rfl) (hall 10 (by decide))
    have h4 : ac.eval (.tmp 4) = .int .i64 0 := hF.done 11 (4, SP.is (.int .i64 0)) (by rw [hD]; rfl) (hall 11 (by decide))
    have ea := hF.lay [(8, .pointer (some ⟨b2, 0, none⟩)), (9, .pointer (some ⟨S, 0, none⟩)), (10, .agg LP.toArray), (11, .string tK), (12, .int .u8 1), (13, x13), (14, .pointer (some ⟨b3, 2, none⟩)), (15, .agg LA.toArray), (16, x16), (17, x17), (18, .int .i64 0), (4, .int .i64 0)] (by rw [hD, hsz]; rfl) (by simp only [List.forall_mem_cons, List.not_mem_nil, false_implies, implies_true, and_true]; exact ⟨h8, h9, h10, h11, h12, h13, h14, h15, h16, h17, h18, h4⟩)
    rw [ha0] at ea
    simp only [List.foldl_cons, List.foldl_nil, List.setIfInBounds_toArray, List.set_cons_zero, List.set_cons_succ] at ea
    clear hF hall hr hl hD zs2 zs3 zs5 ha0 hsz h8 h9 h10 h11 h12 h13 h14 h15 h16 h17 h18 h4
    subst ea
    have HG : Hid (Lg w0 W S (q + 1) f2) := hG
    have HK : Hid (Kp w W) := hK
    clear hG hK
    go_wp2_with fail
    go_ret
    exact ⟨rfl, HG.out, HK.out⟩

end Go.Proofs.YtojmhmnpidhfjaaDoor
