/-
  EscrowGives: its walk.
-/
import Derived.Test.YtkbdnebmekhcdaaEsL
import Derived.Test.YtkbdnebmekhcdaaWRef
namespace Go.Proofs.Ytkbdnebmekhcdaa
open Go Go.RowKit Go.Maps
open Wd

def gcs (t i : Int) (a b : Nat) : List Value := .int .i64 t :: .int .i64 i :: (vQ (dgs a 4) ++ vQ (dgs b 4))
theorem gcs_len (t i : Int) (a b : Nat) : (gcs t i a b).length = 10 := by simp [gcs, vQ_length, dgs_length]
theorem gcs_a {w : World} {g : Nat} {t i : Int} {a b : Nat} {ty : TypeId} (h : Row w g (gcs t i a b) ty) : w.rangeAt g 2 (vQ (dgs a 4)) := h.range 2 _ (fun j v hv => by
  rw [Nat.add_comm]
  show (vQ (dgs a 4) ++ vQ (dgs b 4))[j]? = some v
  rw [List.getElem?_append_left (List.getElem?_eq_some_iff.1 hv).1]
  exact hv)
theorem gcs_b {w : World} {g : Nat} {t i : Int} {a b : Nat} {ty : TypeId} (h : Row w g (gcs t i a b) ty) : w.rangeAt g 6 (vQ (dgs b 4)) := h.range 6 _ (fun j v hv => by
  rw [Nat.add_comm]
  show (vQ (dgs a 4) ++ vQ (dgs b 4))[j + 4]? = some v
  rw [List.getElem?_append_right (by simp [vQ_length, dgs_length])]
  rw [show j + 4 - (vQ (dgs a 4)).length = j by simp [vQ_length, dgs_length]]
  exact hv)
theorem refCmp_c' {ca cb : List Value} {a b : Nat} (Ha : Wc ca a) (Hb : Wc cb b) (ha : a < 2 ^ 256) (hb : b < 2 ^ 256) {E : Int} (hE : cmpR a b = E) (w : World) : Calls Try.prog 26 #[.agg ca.toArray, .agg cb.toArray] w fun e w' => e = .returned (.int .i64 E) ∧ Below w.heap.size w w' := by
  subst hE; rw [Ha, Hb]
  exact refCmp_any a b ha hb w
theorem row_apart {w : World} {p c b : Nat} {s : St} {cs : List Value} {t : TypeId} {w0 : World} (h : Vl w0 w p c s) (r : Row w b cs t) (ht : t ≠ tV) : b ≠ p := by
  rintro rfl
  obtain ⟨m1, m2, hV, _⟩ := h
  exact ht (row_ty r hV.row)

section
variable {ops : Array Oper} {rest : List Oper} {op : Oper} {a : Act} {w : World} {Q : Exit → Act → World → Prop}
theorem ld_o (x : Operand) (ho : op.op = .load 33 x) (b o : Nat) (hx : a.eval x = .pointer (some ⟨b, o, none⟩)) (cs : List Value) (hc : w.rangeAt b o cs) (hi : (Try.prog.info? 33).map (·.size) = some cs.length) (hw : Region.wanted op (yielded ops a.tmps) = true)
    (h : wpList Try.prog ops Q rest (a.put op.dst (.agg cs.toArray)) w) : wpList Try.prog ops Q (op :: rest) a w := wpList_load_w hw _ x ho b o hx cs _ hc Try.underlying33 rfl hi h
theorem eql_o (x y : Operand) (yt : TypeId) (ho : op.op = .binOp .eql 33 x y yt) {c d : List Value} {m n : Nat} (Hc : Wc c m) (Hd : Wc d n) (hm : m < 2 ^ 256) (hn : n < 2 ^ 256) (hx : a.eval x = .agg c.toArray) (hy : a.eval y = .agg d.toArray) {B : Bool} (hB : decide (m = n) = B) (hw : Region.wanted op (yielded ops a.tmps) = true)
    (h : wpList Try.prog ops Q rest (a.put op.dst (.bool B)) w) : wpList Try.prog ops Q (op :: rest) a w := wpList_eql_c hw x y yt ho Hc Hd hm hn hx hy hB h
theorem neq_o (x y : Operand) (yt : TypeId) (ho : op.op = .binOp .neq 33 x y yt) {c d : List Value} {m n : Nat} (Hc : Wc c m) (Hd : Wc d n) (hm : m < 2 ^ 256) (hn : n < 2 ^ 256) (hx : a.eval x = .agg c.toArray) (hy : a.eval y = .agg d.toArray) {B : Bool} (hB : (!decide (m = n)) = B) (hw : Region.wanted op (yielded ops a.tmps) = true)
    (h : wpList Try.prog ops Q rest (a.put op.dst (.bool B)) w) : wpList Try.prog ops Q (op :: rest) a w := wpList_neq_c hw x y yt ho Hc Hd hm hn hx hy hB h
end

theorem quo_o {ops : Array Oper} {rest : List Oper} {op : Oper} {a : Act} {w : World} {Q : Exit → Act → World → Prop} (x y : Operand) (t yt : TypeId) (ho : op.op = .binOp .quo t x y yt) (hgd : op.guard = none) (ht : t = 3) (u v r : Int) (hx : a.eval x = .int .i64 u) (hy : a.eval y = .int .i64 v) (h0 : ¬ v = 0) (hr : IntKind.i64.wrap (u.tdiv v) = r)
    (h : wpList Try.prog ops Q rest (a.put op.dst (.int .i64 r)) w) : wpList Try.prog ops Q (op :: rest) a w :=
  wpList_plain hgd fun _ hK => by
    subst ht hr
    unfold Oper.wp execOp
    simp only [ho, hx, hy]
    go_simp
    exact hK _ _ h
theorem sub_o {ops : Array Oper} {rest : List Oper} {op : Oper} {a : Act} {w : World} {Q : Exit → Act → World → Prop} (x y : Operand) (t yt : TypeId) (ho : op.op = .binOp .sub t x y yt) (hgd : op.guard = none) (ht : t = 3) (u v r : Int) (hx : a.eval x = .int .i64 u) (hy : a.eval y = .int .i64 v) (hr : IntKind.i64.wrap (u - v) = r)
    (h : wpList Try.prog ops Q rest (a.put op.dst (.int .i64 r)) w) : wpList Try.prog ops Q (op :: rest) a w :=
  wpList_plain hgd fun _ hK => by
    subst ht hr
    unfold Oper.wp execOp
    simp only [ho, hx, hy]
    go_simp
    exact hK _ _ h
theorem mul_o {ops : Array Oper} {rest : List Oper} {op : Oper} {a : Act} {w : World} {Q : Exit → Act → World → Prop} (x y : Operand) (t yt : TypeId) (ho : op.op = .binOp .mul t x y yt) (hgd : op.guard = none) (ht : t = 3) (u v r : Int) (hx : a.eval x = .int .i64 u) (hy : a.eval y = .int .i64 v) (hr : IntKind.i64.wrap (u * v) = r)
    (h : wpList Try.prog ops Q rest (a.put op.dst (.int .i64 r)) w) : wpList Try.prog ops Q (op :: rest) a w :=
  wpList_plain hgd fun _ hK => by
    subst ht hr
    unfold Oper.wp execOp
    simp only [ho, hx, hy]
    go_simp
    exact hK _ _ h
theorem add_o {ops : Array Oper} {rest : List Oper} {op : Oper} {a : Act} {w : World} {Q : Exit → Act → World → Prop} (x y : Operand) (t yt : TypeId) (ho : op.op = .binOp .add t x y yt) (hgd : op.guard = none) (ht : t = 3) (u v r : Int) (hx : a.eval x = .int .i64 u) (hy : a.eval y = .int .i64 v) (hr : IntKind.i64.wrap (u + v) = r)
    (h : wpList Try.prog ops Q rest (a.put op.dst (.int .i64 r)) w) : wpList Try.prog ops Q (op :: rest) a w :=
  wpList_plain hgd fun _ hK => by
    subst ht hr
    unfold Oper.wp execOp
    simp only [ho, hx, hy]
    go_simp
    exact hK _ _ h

set_option maxRecDepth 100000 in
set_option maxHeartbeats 8000000 in
theorem gives_core (t i : Int) (ht : I64 t) (hi : I64 i) (a b : Nat) (ha : a < 2 ^ 256) (hb : b < 2 ^ 256) (tk ix : Int) (htk : pk t 64 = tk) (hix : pk i 1099511627776 = ix) (g1 g2 g3 g4 g5 g6 g7 : St) (E2 E3 E7 cv h2 z z' y jx : Int) (m1 : Nat) (hm1 : m1 < 2 ^ 256) (az ls : Bool)
    (f1 : sList k0 tk = (g1, 0)) (f2 : sDep g1 tk a = (g2, E2)) (f3 : sPay g2 ix tk b = (g3, E3)) (f4 : sStop g3 tk true = (g4, 0)) (f5 : fnd g4.T tk = (true, m1, 0)) (f6 : sPay g4 jx tk m1 = (g5, 0)) (f7 : sLock g5 a = (g6, 0)) (f8 : sFree g6 b = (g7, E7)) (f9 : fnd g7.T tk = (true, 0, 0)) (f10 : paid g3.U ix = !ls) (hI : I64 ix)
    (haz : decide (a = 0) = az) (hcv : cmpR a b = cv) (hls : decide (cv < 0) = ls) (e2 : E2 = if az then 144 else 0) (e3 : E3 = if ls then 146 else 0) (e7 : E7 = if ls then 149 else 0)
    (q1 : IntKind.i64.wrap (ix.tdiv 2) = h2) (q2 : IntKind.i64.wrap (ix.tdiv 549755813888) = z) (q3 : IntKind.i64.wrap (1 - z) = z') (q4 : IntKind.i64.wrap (549755813888 * z') = y) (q5 : IntKind.i64.wrap (h2 + y) = jx) (w : World) :
    Calls Try.prog 7 #[.agg (gcs t i a b).toArray] w fun e w' => e = .returned (.bool true) ∧ Below w.heap.size w w' := by
  rw [i64_iff] at ht hi
  obtain ⟨gc, hgc⟩ : ∃ c, c = gcs t i a b := ⟨_, rfl⟩
  obtain ⟨ca, hca⟩ : ∃ c, c = vQ (dgs a 4) := ⟨_, rfl⟩
  obtain ⟨cb, hcb⟩ : ∃ c, c = vQ (dgs b 4) := ⟨_, rfl⟩
  have HA : Hid (Wc ca a) := hca
  have HB : Hid (Wc cb b) := hcb
  have HGL : Hid (gc.length = 10) := by rw [hgc]; exact gcs_len _ _ _ _
  have HG0 : Hid (gc[0]? = some (.int .i64 t)) := by rw [hgc]; exact rfl
  have HG1 : Hid (gc[1]? = some (.int .i64 i)) := by rw [hgc]; exact rfl
  have HGA : Hid (∀ X g, Row X g gc 57 → X.rangeAt g 2 ca) := fun X g h => by rw [hca]; rw [hgc] at h; exact gcs_a h
  have HGB : Hid (∀ X g, Row X g gc 57 → X.rangeAt g 6 cb) := fun X g h => by rw [hcb]; rw [hgc] at h; exact gcs_b h
  have HP1 : Hid (∀ X, Calls Try.prog 11 #[.int .i64 t, .int .i64 64] X fun e w' => e = .returned (.int .i64 tk) ∧ w' = X) := fun X => by rw [← htk]; exact pick_any t 64 (by decide) ht.1 (by omega) (by decide) X
  have HP2 : Hid (∀ X, Calls Try.prog 11 #[.int .i64 i, .int .i64 1099511627776] X fun e w' => e = .returned (.int .i64 ix) ∧ w' = X) := fun X => by rw [← hix]; exact pick_any i 1099511627776 (by decide) hi.1 (by omega) (by decide) X
  have Hha : Hid (a < 2 ^ 256) := ha
  have Hhb : Hid (b < 2 ^ 256) := hb
  have Hm1 : Hid (m1 < 2 ^ 256) := hm1
  have F1 : Hid (_ = _) := f1
  have F2 : Hid (_ = _) := f2
  have F3 : Hid (_ = _) := f3
  have F4 : Hid (_ = _) := f4
  have F5 : Hid (_ = _) := f5
  have F6 : Hid (_ = _) := f6
  have F7 : Hid (_ = _) := f7
  have F8 : Hid (_ = _) := f8
  have F9 : Hid (_ = _) := f9
  have F10 : Hid (_ = _) := f10
  have HIX : Hid (I64 ix) := hI
  have HAZ : Hid (decide (a = 0) = az) := haz
  have HCV : Hid (cmpR a b = cv) := hcv
  have HLS : Hid (decide (cv < 0) = ls) := hls
  have HE2 : Hid (E2 = if az then 144 else 0) := e2
  have HE3 : Hid (E3 = if ls then 146 else 0) := e3
  have HE7 : Hid (E7 = if ls then 149 else 0) := e7
  have Q1 : Hid (_ = _) := q1
  have Q2 : Hid (_ = _) := q2
  have Q3 : Hid (_ = _) := q3
  have Q4 : Hid (_ = _) := q4
  have Q5 : Hid (_ = _) := q5
  rw [← hgc]
  clear hgc hca hcb ht hi ha hb hm1 f1 f2 f3 f4 f5 f6 f7 f8 f9 f10 hI haz hcv hls e2 e3 e7 q1 q2 q3 q4 q5 htk hix
  go_enter Try.func7, Try.ntmps7
  go_upto_region 1 with (refine wpList_boxG 57 rfl (.tmp 0) rfl gc rfl ?_; intro X1 r1 r2; have RGX1 : Hid (Row X1 w.heap.size gc 57) := r1; have B1 : Hid (Below w.heap.size w X1) := r2; clear r1 r2)
  obtain ⟨bg, hbg⟩ : ∃ b, b = w.heap.size := ⟨_, rfl⟩
  rw [← hbg] at RGX1 ⊢
  clear hbg
  go_upto_region 2 with (go_at_call 8; refine Calls.mono (known_any X1) ?_; rintro e X2 ⟨rfl, r⟩; have RGX2 : Hid (Row X2 bg gc 57) := Row.below RGX1.out r RGX1.out.lt; have B2 : Hid (Below w.heap.size w X2) := B1.out.trans (r.mono B1.out.size); clear r)
  clear RGX1 B1
  go_upto_region 3 with (go_at_call 9; refine Calls.mono (new_l w X2 B2.out) ?_; rintro e X3 ⟨p, rfl, _, v, r⟩; have VX3 : Hid (Vl w X3 p 0 k0) := v; have RGX3 : Hid (Row X3 bg gc 57) := Row.below RGX2.out r RGX2.out.lt; clear v r)
  clear RGX2 B2
  have HNRG : Hid (bg ≠ p) := row_apart VX3.out RGX3.out (by decide)
  have c0 := RGX3.out.cell 0 _ HG0.out
  have c1 := RGX3.out.cell 1 _ HG1.out
  go_upto_region 6 with (go_at_call 11; refine Calls.mono (HP1.out X3) ?_; rintro e X ⟨rfl, hqq⟩; obtain rfl := hqq.symm)
  go_upto_region 7 with (go_at_call 11; refine Calls.mono (HP2.out X3) ?_; rintro e X ⟨rfl, hqq⟩; obtain rfl := hqq.symm)
  clear c0 c1
  go_upto_region 8 with (first
    | (refine wpList_load_w rfl 33 (.tmp 32) rfl bg 2 rfl ca _ (HGA.out X3 bg RGX3.out) Try.underlying33 rfl HA.out.info ?_)
    | (refine wpList_allocW rfl rfl ?_; intro Xa r1 r2; have RZ : Hid (Row Xa X3.heap.size (vQ (List.replicate 4 0)) 33) := r1; have BZ : Hid (Below X3.heap.size X3 Xa) := r2; clear r1 r2)
    | (refine wpList_storeL rfl 33 (.tmp 7) (.tmp 33) rfl X3.heap.size ca (vQ (List.replicate 4 0)) 33 rfl rfl RZ.out (HA.out.len.trans zw_len.symm) HA.out.info HA.out.one ?_; intro X4 r1 r2; have RAX4 : Hid (Row X4 X3.heap.size ca 33) := r1; have BZ4 : Hid (Below X3.heap.size X3 X4) := gro_new BZ.out (Nat.le_refl _) r2; clear r1 r2))
  obtain ⟨ba, hba⟩ : ∃ b, b = X3.heap.size := ⟨_, rfl⟩
  rw [← hba] at RAX4 ⊢
  have VX4 : Hid (Vl w X4 p 0 k0) := VX3.out.be BZ4.out
  have RGX4 : Hid (Row X4 bg gc 57) := Row.below RGX3.out BZ4.out RGX3.out.lt
  clear hba RZ BZ BZ4 VX3 RGX3
  go_upto_region 9 with (first
    | (refine wpList_load_w rfl 33 (.tmp 34) rfl bg 6 rfl cb _ (HGB.out X4 bg RGX4.out) Try.underlying33 rfl HB.out.info ?_)
    | (refine wpList_allocW rfl rfl ?_; intro Xa r1 r2; have RZ : Hid (Row Xa X4.heap.size (vQ (List.replicate 4 0)) 33) := r1; have BZ : Hid (Below X4.heap.size X4 Xa) := r2; clear r1 r2)
    | (refine wpList_storeL rfl 33 (.tmp 8) (.tmp 35) rfl X4.heap.size cb (vQ (List.replicate 4 0)) 33 rfl rfl RZ.out (HB.out.len.trans zw_len.symm) HB.out.info HB.out.one ?_; intro X5 r1 r2; have RBX5 : Hid (Row X5 X4.heap.size cb 33) := r1; have BZ5 : Hid (Below X4.heap.size X4 X5) := gro_new BZ.out (Nat.le_refl _) r2; clear r1 r2))
  obtain ⟨bb, hbb⟩ : ∃ b, b = X4.heap.size := ⟨_, rfl⟩
  rw [← hbb] at RBX5 ⊢
  have VX5 : Hid (Vl w X5 p 0 k0) := VX4.out.be BZ5.out
  have RAX5 : Hid (Row X5 ba ca 33) := Row.below RAX4.out BZ5.out RAX4.out.lt
  clear hbb RZ BZ BZ5 VX4 RGX4 RAX4
  have HNRA : Hid (ba ≠ p) := row_apart VX5.out RAX5.out (by decide)
  have HNRB : Hid (bb ≠ p) := row_apart VX5.out RBX5.out (by decide)
  go_upto_region 10 with (go_at_call 23; refine Calls.mono (list_l VX5.out (by decide) tk F1.out) ?_; rintro e X6 ⟨rfl, v, k⟩; have VX6 : Hid (Vl w X6 p 2 g1) := v; have RAX6 : Hid (Row X6 ba ca 33) := k.row RAX5.out HNRA.out; have RBX6 : Hid (Row X6 bb cb 33) := k.row RBX5.out HNRB.out; clear v k)
  clear VX5 RAX5 RBX5
  go_upto_region 11 with (first
    | (refine ld_o (.tmp 7) rfl ba 0 rfl ca RAX6.out.all HA.out.info rfl ?_)
    | (go_at_call 24; refine Calls.mono ((by have h := dep_l VX6.out (by decide) tk a Hha.out F2.out; rw [← HA.out] at h; exact h)) ?_; rintro e X7 ⟨rfl, v, k⟩; have VX7 : Hid (Vl w X7 p 4 g2) := v; have RAX7 : Hid (Row X7 ba ca 33) := k.row RAX6.out HNRA.out; have RBX7 : Hid (Row X7 bb cb 33) := k.row RBX6.out HNRB.out; clear v k))
  clear VX6 RAX6 RBX6
  go_upto_region 12 with (first
    | (refine ld_o (.tmp 8) rfl bb 0 rfl cb RBX7.out.all HB.out.info rfl ?_)
    | (go_at_call 25; refine Calls.mono ((by have h := pay_l VX7.out (by decide) ix tk b Hhb.out F3.out; rw [← HB.out] at h; exact h)) ?_; rintro e X8 ⟨rfl, v, k⟩; have VX8 : Hid (Vl w X8 p 6 g3) := v; have RAX8 : Hid (Row X8 ba ca 33) := k.row RAX7.out HNRA.out; have RBX8 : Hid (Row X8 bb cb 33) := k.row RBX7.out HNRB.out; clear v k))
  clear VX7 RAX7 RBX7
  have hls := HLS.out
  go_upto_region 13 with (first
    | (refine ld_o (.tmp 7) rfl ba 0 rfl ca RAX8.out.all HA.out.info rfl ?_)
    | (refine ld_o (.tmp 8) rfl bb 0 rfl cb RBX8.out.all HB.out.info rfl ?_)
    | (go_at_call 26; refine Calls.mono (refCmp_c' HA.out HB.out Hha.out Hhb.out HCV.out X8) ?_; rintro e X9 ⟨rfl, r⟩; have VX9 : Hid (Vl w X9 p 6 g3) := VX8.out.be r; have RAX9 : Hid (Row X9 ba ca 33) := Row.below RAX8.out r RAX8.out.lt; have RBX9 : Hid (Row X9 bb cb 33) := Row.below RBX8.out r RBX8.out.lt; clear r))
  clear hls HLS HCV VX8 RAX8 RBX8
  obtain ⟨ch, hch⟩ : ∃ c, c = vQ (dgs m1 4) := ⟨_, rfl⟩
  have HH : Hid (Wc ch m1) := hch
  clear hch
  have HZ0 : Hid (Wc (vQ (dgs 0 4)) 0) := rfl
  have HZL : Hid (0 < 2 ^ 256) := by show _ < _; decide
  have HZE : Hid (decide ((0 : Nat) = 0) = true) := by show _ = _; decide
  go_cut [71] from 52 to 71 (fun c71 wz => c71 = .bool false ∧ wz = X9)
  case first =>
    have hE2 := HE2.out
    have HAN : Hid ((!decide (a = 0)) = !az) := congrArg Bool.not HAZ.out
    cases az
    all_goals
      simp only [if_true, if_false, Bool.false_eq_true] at hE2
      subst hE2
      go_wp2_with (first
        | (refine ld_o (.tmp 7) rfl ba 0 rfl ca RAX9.out.all HA.out.info rfl ?_)
        | (refine eql_o (.tmp 52) (.tmp 53) _ rfl HA.out HZ0.out Hha.out HZL.out rfl rfl HAZ.out rfl ?_)
        | (refine neq_o (.tmp 60) (.tmp 61) _ rfl HA.out HZ0.out Hha.out HZL.out rfl rfl HAN.out rfl ?_))
      go_meet
      exact ⟨rfl, rfl⟩
  case rest =>
    obtain ⟨rfl, rfl⟩ := hcut
    clear HAZ HE2
    go_upto_region 15 with fail
    go_cut [92] from 72 to 92 (fun c92 wz => c92 = .bool false ∧ Vl w wz p 6 g3 ∧ Row wz ba ca 33 ∧ Row wz bb cb 33)
    case first =>
      have hE3 := HE3.out
      have hpd := F10.out
      cases ls
      all_goals
        simp only [if_true, if_false, Bool.false_eq_true, Bool.not_true, Bool.not_false] at hE3 hpd
        subst hE3
        have HPD : Hid _ := hpd
        clear hpd
        go_wp2_with (go_at_call 21; refine Calls.mono (paid_l VX9.out ix HIX.out) ?_; rw [HPD.out]; rintro e X10 ⟨rfl, v, k⟩; have VX10 : Hid (Vl w X10 p 6 g3) := v; have RAX10 : Hid (Row X10 ba ca 33) := k.row RAX9.out HNRA.out; have RBX10 : Hid (Row X10 bb cb 33) := k.row RBX9.out HNRB.out; clear v k)
        go_meet
        exact ⟨rfl, VX10.out, RAX10.out, RBX10.out⟩
    case rest =>
      obtain ⟨rfl, v, r1, r2⟩ := hcut
      have VY0 : Hid (Vl w wc p 6 g3) := v
      have RAY0 : Hid (Row wc ba ca 33) := r1
      have RBY0 : Hid (Row wc bb cb 33) := r2
      clear v r1 r2 HE3 F10 VX9 RAX9 RBX9
      go_upto_region 18 with (go_at_call 27; refine Calls.mono (stop_l VY0.out (by decide) tk true F4.out) ?_; rintro e Y1 ⟨rfl, v, k⟩; have VY1 : Hid (Vl w Y1 p 8 g4) := v; have RAY1 : Hid (Row Y1 ba ca 33) := k.row RAY0.out HNRA.out; have RBY1 : Hid (Row Y1 bb cb 33) := k.row RBY0.out HNRB.out; clear v k)
      clear VY0 RAY0 RBY0
      go_upto_region 19 with (first
        | (go_at_call 20; refine Calls.mono ((by have h := held_l VY1.out tk F5.out; rw [← HH.out] at h; exact h)) ?_; rintro e Y2 ⟨rfl, v, k⟩; have VY2 : Hid (Vl w Y2 p 8 g4) := v; have RAY2 : Hid (Row Y2 ba ca 33) := k.row RAY1.out HNRA.out; have RBY2 : Hid (Row Y2 bb cb 33) := k.row RBY1.out HNRB.out; clear v k)
        | (refine wpList_allocW rfl rfl ?_; intro Ya r1 r2; have RZ : Hid (Row Ya Y2.heap.size (vQ (List.replicate 4 0)) 33) := r1; have BZ : Hid (Below Y2.heap.size Y2 Ya) := r2; clear r1 r2)
        | (refine wpList_storeL rfl 33 (.tmp 14) (.tmp 98) rfl Y2.heap.size ch (vQ (List.replicate 4 0)) 33 rfl rfl RZ.out (HH.out.len.trans zw_len.symm) HH.out.info HH.out.one ?_; intro Y3 r1 r2; have RHY3 : Hid (Row Y3 Y2.heap.size ch 33) := r1; have BZ3 : Hid (Below Y2.heap.size Y2 Y3) := gro_new BZ.out (Nat.le_refl _) r2; clear r1 r2))
      obtain ⟨bh, hbh⟩ : ∃ b, b = Y2.heap.size := ⟨_, rfl⟩
      rw [← hbh] at RHY3 ⊢
      have VY3 : Hid (Vl w Y3 p 8 g4) := VY2.out.be BZ3.out
      have RAY3 : Hid (Row Y3 ba ca 33) := Row.below RAY2.out BZ3.out RAY2.out.lt
      have RBY3 : Hid (Row Y3 bb cb 33) := Row.below RBY2.out BZ3.out RBY2.out.lt
      clear hbh RZ BZ BZ3 VY2 RAY2 RBY2 VY1 RAY1 RBY1
      go_upto_region 20 with (first
        | (refine quo_o (.tmp 100) (.const (.int .i64 2)) _ _ rfl rfl rfl ix 2 h2 rfl rfl (by decide) Q1.out ?_)
        | (refine quo_o (.tmp 102) (.const (.int .i64 549755813888)) _ _ rfl rfl rfl ix 549755813888 z rfl rfl (by decide) Q2.out ?_)
        | (refine sub_o (.const (.int .i64 1)) (.tmp 103) _ _ rfl rfl rfl 1 z z' rfl rfl Q3.out ?_)
        | (refine mul_o (.const (.int .i64 549755813888)) (.tmp 104) _ _ rfl rfl rfl 549755813888 z' y rfl rfl Q4.out ?_)
        | (refine add_o (.tmp 101) (.tmp 105) _ _ rfl rfl rfl h2 y jx rfl rfl Q5.out ?_)
        | (refine ld_o (.tmp 14) rfl bh 0 rfl ch RHY3.out.all HH.out.info rfl ?_)
        | (go_at_call 25; refine Calls.mono ((by have h := pay_l VY3.out (by decide) jx tk m1 Hm1.out F6.out; rw [← HH.out] at h; exact h)) ?_; rintro e Y4 ⟨rfl, v, k⟩; have VY4 : Hid (Vl w Y4 p 10 g5) := v; have RAY4 : Hid (Row Y4 ba ca 33) := k.row RAY3.out HNRA.out; have RBY4 : Hid (Row Y4 bb cb 33) := k.row RBY3.out HNRB.out; clear v k))
      clear VY3 RAY3 RBY3
      go_upto_region 21 with (first
        | (refine ld_o (.tmp 7) rfl ba 0 rfl ca RAY4.out.all HA.out.info rfl ?_)
        | (go_at_call 28; refine Calls.mono ((by have h := lock_l VY4.out a Hha.out F7.out; rw [← HA.out] at h; exact h)) ?_; rintro e Y5 ⟨rfl, v, k⟩; have VY5 : Hid (Vl w Y5 p 12 g6) := v; have RAY5 : Hid (Row Y5 ba ca 33) := k.row RAY4.out HNRA.out; have RBY5 : Hid (Row Y5 bb cb 33) := k.row RBY4.out HNRB.out; clear v k))
      clear VY4 RAY4 RBY4
      go_upto_region 22 with (first
        | (refine ld_o (.tmp 8) rfl bb 0 rfl cb RBY5.out.all HB.out.info rfl ?_)
        | (go_at_call 29; refine Calls.mono ((by have h := free_l VY5.out b Hhb.out F8.out; rw [← HB.out] at h; exact h)) ?_; rintro e Y6 ⟨rfl, v, k⟩; have VY6 : Hid (Vl w Y6 p 14 g7) := v; clear v k))
      clear VY5 RAY5 RBY5
      go_cut [2] from 116 to 138 (fun c2 wz => c2 = .bool true ∧ Vl w wz p 14 g7)
      case first =>
        have hE7 := HE7.out
        cases ls
        all_goals
          simp only [if_true, if_false, Bool.false_eq_true] at hE7
          subst hE7
          go_wp2_with (first
            | (go_at_call 20; refine Calls.mono (held_l VY6.out tk F9.out) ?_; rintro e Y7 ⟨rfl, v, k⟩; have VY7 : Hid (Vl w Y7 p 14 g7) := v; clear v k)
            | (refine eql_o (.tmp 125) (.tmp 126) _ rfl HZ0.out HZ0.out HZL.out HZL.out rfl rfl HZE.out rfl ?_))
          go_meet
          exact ⟨rfl, VY7.out⟩
      case rest =>
        obtain ⟨rfl, v⟩ := hcut
        have VY8 : Hid (Vl w wc p 14 g7) := v
        clear v
        go_wp2_with fail
        go_ret
        exact ⟨rfl, VY8.out.below⟩


end Go.Proofs.Ytkbdnebmekhcdaa
