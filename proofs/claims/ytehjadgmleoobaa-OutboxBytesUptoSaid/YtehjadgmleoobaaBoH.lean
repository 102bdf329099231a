/-
  the law OutboxBytes: laws of its second loop.
-/
import Derived.Test.YtehjadgmleoobaaBoE
import Derived.Laws.Concat

namespace Go.Proofs.Ytehjadgmleoobaa
open Go Go.RowKit
open Sha

theorem formB_len (ix en tk : Int) (rc : List (BitVec 8)) (am : List Nat) (hto : rc.length = 20) : (formB ix en tk rc am).length ≤ 153 := by
  have h1 := nf_len ix
  have h2 := nf_len en
  have h3 := nf_len tk
  have h4 := wf_len am
  have dn : ∀ (bs : List (BitVec 8)) (E n : Int), (dnB bs E n).length ≤ bs.length + (nf n).length := fun bs E n => by
    unfold dnB
    split
    · rw [List.length_append]; exact Nat.le_refl _
    · omega
  have k0 := dB_len [] 0 [76#8]
  have k1 := dn (dB [] 0 [76#8]) 0 ix
  have k2 := dn (fmB1 ix) (fmE1 ix) en
  have k3 := dn (fmB2 ix en) (fmE2 ix en) tk
  have k4 := dB_len (fmB3 ix en tk) (fmE3 ix en tk) rc
  have k5 := dB_len (fmB4 ix en tk rc) (fmE3 ix en tk) (wf am)
  simp only [List.length_nil, List.length_singleton] at k0
  change (fmB1 ix).length ≤ _ at k1
  change (fmB2 ix en).length ≤ _ at k2
  change (fmB3 ix en tk).length ≤ _ at k3
  change (fmB4 ix en tk rc).length ≤ _ at k4
  change (formB ix en tk rc am).length ≤ _ at k5
  omega
section
variable {w0 w w' : World} {B : Nat} {rl rw vl vw v : Value} {us ws : List Value} {ds es : List (List (BitVec 8))} {d : List (BitVec 8)}
theorem Bbk.start (r : Row w B (bkc (.slice none 0 0) (.slice none 0 0)) 28) (h0 : w0.heap.size ≤ B) (k : Below w0.heap.size w0 w) : Bbk w0 w B (.slice none 0 0) (.slice none 0 0) (.slice none 0 0) (.slice none 0 0) [] [] [] [] :=
  ⟨r, Lw.nil _ _ _, Lw.nil _ _ _, (fun g e => by simp [Value.ownBlock] at e), (fun i d hd => by simp at hd), (fun i d hd => by simp at hd), (fun i j u v _ hu => by simp at hu), h0, (fun g e => by simp [Value.ownBlock] at e), (fun g e => by simp [Value.ownBlock] at e), (fun u hu => by simp at hu), k⟩
theorem Bbk.ap (h : Bbk w0 w B vl vw vl vw us ws ds es) (k : Bw w v d) : ∀ g, v.ownBlock = some g → Ap B vl vw g := fun g e =>
  ⟨Bw.ne k h.row (by decide) g e, fun q => bl_ne2 k h.ll g e q.symm, fun q => bl_ne2 k h.lw g e q.symm⟩
end
/-- The book, with q answers kept, and the texts, m of them; the answers lie below N. -/
def Lp (w0 w : World) (B q m : Nat) (TA : Option Addr) (tc N : Nat) : Prop :=
  ∃ (vl vw : Value) (us ws : List Value) (ds : List (List (BitVec 8))) (vs : List Value) (ts : List (List (BitVec 8))), Bbk w0 w B vl vw vl vw us ws ds ds ∧ ds.length = q ∧ (∀ d ∈ ds, d.length ≤ 1000000) ∧ (∀ u ∈ us, ∀ g, u.ownBlock = some g → g < N) ∧ Tl w B vl vw TA vs ts ∧ ts.length = m ∧ (∀ d ∈ ts, d.length ≤ 100000000) ∧ m ≤ tc ∧ (TA = none → tc = 0)
section
variable {w0 w w' : World} {B q m tc N N' : Nat} {TA : Option Addr}
theorem Lp.below (h : Lp w0 w B q m TA tc N) (k : Below w.heap.size w w') : Lp w0 w' B q m TA tc N := by
  obtain ⟨vl, vw, us, ws, ds, vs, ts, h1, h2, h3, h4, h5, h6⟩ := h
  exact ⟨vl, vw, us, ws, ds, vs, ts, h1.below k, h2, h3, h4, h5.below k, h6⟩
theorem Lp.cap (h : Lp w0 w B q m TA tc N) : m ≤ tc ∧ (TA = none → tc = 0) := by
  obtain ⟨vl, vw, us, ws, ds, vs, ts, h1, h2, h3, h4, h5, h6, h7, h8⟩ := h
  exact h8
theorem Lp.be (h : Lp w0 w B q m TA tc N) : Below w0.heap.size w0 w := by
  obtain ⟨vl, vw, us, ws, ds, vs, ts, h1, _⟩ := h
  exact h1.be
theorem Lp.now (h : Lp w0 w B q m TA tc N) : Lp w0 w B q m TA tc w.heap.size := by
  obtain ⟨vl, vw, us, ws, ds, vs, ts, h1, h2, h3, _, h5⟩ := h
  refine ⟨vl, vw, us, ws, ds, vs, ts, h1, h2, h3, fun u hu g e => ?_, h5⟩
  obtain ⟨i, hi⟩ := List.getElem?_of_mem hu
  have hl := Lw.len h1.ll
  have hlt : i < ds.length := by have := (List.getElem?_eq_some_iff.1 hi).1; omega
  obtain ⟨u', q1, q2⟩ := h1.eu i _ (List.getElem?_eq_getElem hlt)
  rw [hi] at q1
  obtain rfl := Option.some.inj q1
  exact Bw.lt q2 g e
theorem keeps_lp (h : Lp w0 w B q m TA tc N) (hq : q ≤ 999999) (d : List (BitVec 8)) (A1 A2 : Option Addr) (n c1 c2 : Nat) (hn : n = d.length) (hn2 : n ≤ 1000000) (h1 : Bw w (.slice A1 n c1) d) (h2 : Bw w (.slice A2 n c2) d)
    (hf : ∀ g, (Value.slice A1 n c1).ownBlock = some g → N ≤ g ∧ g < N') (hN : N ≤ N') (h0 : w0.heap.size ≤ N) :
    Calls Try.prog 7 #[.pointer (some ⟨B, 0, none⟩), .slice A1 n c1, .slice A2 n c2] w fun e w' => e = .returned (.tuple #[]) ∧ Lp w0 w' B (q + 1) m TA tc N' ∧ ∀ u d', Bw w u d' → Bw w' u d' := by
  obtain ⟨vl, vw, us, ws, ds, vs, ts, k1, k2, k3, k4, k5, k6⟩ := h
  refine (keeps_ok w0 B vl vw us ws ds (by omega) d A1 A2 n c1 c2 hn hn2 w h1 (fun v hv g e q => by have := k4 v hv g e; have := (hf g q).1; omega) (fun g e => Nat.le_trans h0 (hf g e).1) h2 k1).mono ?_
  rintro e w' ⟨rfl, vl', vw', x, p1, p2, p3, p4⟩
  refine ⟨rfl, ⟨vl', vw', _, _, _, vs, ts, p1, by rw [List.length_append, k2]; rfl, fun d' hd => ?_, fun u hu g e => ?_, k5.keep p2 p3 p4, k6⟩, fun u d' hu => Bw.gro hu p2 (fun g e => (k1.ap hu g e).no)⟩
  · rcases List.mem_append.1 hd with hd | hd
    · exact k3 d' hd
    · obtain rfl := List.mem_singleton.1 hd
      omega
  · rcases List.mem_append.1 hu with hu | hu
    · have := k4 u hu g e; omega
    · obtain rfl := List.mem_singleton.1 hu
      exact (hf g e).2
end
section
variable {Q : Exit → Act → World → Prop} {o : Oper} {a : Act} {w : World} {K : Act → World → Prop}
theorem wp_appLp (s x : Operand) (ho : o.op = .call { callee := .builtin .append, args := #[s, x], argTypes := #[23, 23] }) (w0 : World) (B q m : Nat) (TA : Option Addr) (tc N : Nat) (hL : Lp w0 w B q m TA tc N) (hm : m ≤ 1000000000) (hs : a.eval s = .slice TA m m) (M : Nat) (u : Value) (d : List (BitVec 8)) (hx : a.eval x = .slice (some ⟨M, 0, none⟩) 1 1) (hr : Row w M [u] 29) (hu : Bw w u d) (hd : d.length ≤ 100000000)
    (h : ∀ A' c' w', Lp w0 w' B q (m + 1) A' c' N → Below w.heap.size w w' → K (a.put o.dst (.slice A' (m + 1) c')) w') : Oper.wp Try.prog o a w K Q := by
  obtain ⟨vl, vw, us, ws, ds, vs, ts, k1, k2, k3, k4, k5, k6, k7, k8, k9⟩ := hL
  have hvs : vs.length = m := by rw [k5.len, k6]
  have hu1 : u.oneCell' = true := by obtain ⟨A, cap, rfl, _⟩ := Bw.form hu; rfl
  refine wp_appT s x ho TA m vs hvs hm hs (fun j v hj => by obtain ⟨b, o, q1, q2, _⟩ := k5.lies j v hj; exact ⟨b, o, q1, q2⟩) (fun e => by have := k9 e; omega) M u hu1 hx hr ?_
  intro A' c' w' p1 p2 p3
  obtain ⟨_, _, e, hc, hnl⟩ := Lw.form p1
  simp only [Value.slice.injEq] at e
  obtain ⟨rfl, _, rfl⟩ := e
  exact h A' c' w' ⟨vl, vw, us, ws, ds, vs ++ [u], ts ++ [d], k1.below p3, k2, k3, k4, Tl.app k5 p3 p1 p2 k1.row.lt (fun g e => Lw.lt k1.ll g e) (fun g e => Lw.lt k1.lw g e) (Txd.of_bw (Bw.be hu p3) (k1.ap hu)), by rw [List.length_append, k6]; rfl, fun d' hd' => by
    rcases List.mem_append.1 hd' with hd' | hd'
    · exact k7 d' hd'
    · obtain rfl := List.mem_singleton.1 hd'; exact hd, hc, hnl⟩ p3
end

end Go.Proofs.Ytehjadgmleoobaa

namespace Go.Proofs.Ytehjadgmleoobaa
open Go Go.RowKit
open Sha

theorem eqAgb (w : World) (l r : List (BitVec 8)) (hl : l.length = 20) (hr : r.length = 20) : (Op.equalIn 9999 34 (.agg (vB l).toArray) (.agg (vB r).toArray)).run Try.prog w = .ok (decide (l = r)) w := by
  have q := run_equalIn_bytes (P := Try.prog) w 9997 34 5 20 Try.underlying34 Try.underlying5 szU8 (toU l) (toU r) (by rw [toU_length, hl]) (by rw [toU_length, hr])
  rw [toU_beq, ← vB_cell, ← vB_cell] at q
  exact q
theorem eqWgb (w : World) (l r : List Nat) (hl : l.length = 4) (hr : r.length = 4) : (Op.equalIn 9999 37 (.agg (vQ l).toArray) (.agg (vQ r).toArray)).run Try.prog w = .ok (decide (l = r)) w :=
  run_equalIn_vQ (P := Try.prog) (w := w) 9997 37 35 4 Try.underlying37 Try.underlying35 szU64 l r hl hr
set_option maxRecDepth 100000 in
set_option maxHeartbeats 4000000 in
theorem neG1b (ix en tk en' tk' : Int) (s0 s1 s2 s3 s4 s5 s6 s7 s8 s9 s10 s11 s12 s13 s14 s15 s16 s17 s18 s19 t0 t1 t2 t3 t4 t5 t6 t7 t8 t9 t10 t11 t12 t13 t14 t15 t16 t17 t18 t19 : BitVec 8) (a0 a1 a2 a3 b0 b1 b2 b3 : Nat) (B BA BW : Bool) (w : World) (hA : ∀ w, (Op.equalIn 9999 34 (.agg #[.int .u8 (c s0), .int .u8 (c s1), .int .u8 (c s2), .int .u8 (c s3), .int .u8 (c s4), .int .u8 (c s5), .int .u8 (c s6), .int .u8 (c s7), .int .u8 (c s8), .int .u8 (c s9), .int .u8 (c s10), .int .u8 (c s11), .int .u8 (c s12), .int .u8 (c s13), .int .u8 (c s14), .int .u8 (c s15), .int .u8 (c s16), .int .u8 (c s17), .int .u8 (c s18), .int .u8 (c s19)]) (.agg #[.int .u8 (c t0), .int .u8 (c t1), .int .u8 (c t2), .int .u8 (c t3), .int .u8 (c t4), .int .u8 (c t5), .int .u8 (c t6), .int .u8 (c t7), .int .u8 (c t8), .int .u8 (c t9), .int .u8 (c t10), .int .u8 (c t11), .int .u8 (c t12), .int .u8 (c t13), .int .u8 (c t14), .int .u8 (c t15), .int .u8 (c t16), .int .u8 (c t17), .int .u8 (c t18), .int .u8 (c t19)])).run Try.prog w = .ok BA w) (hW : ∀ w, (Op.equalIn 9999 37 (.agg #[.int .u64 (a0 : Int), .int .u64 (a1 : Int), .int .u64 (a2 : Int), .int .u64 (a3 : Int)]) (.agg #[.int .u64 (b0 : Int), .int .u64 (b1 : Int), .int .u64 (b2 : Int), .int .u64 (b3 : Int)])).run Try.prog w = .ok BW w)
    (hB : B = !(decide (en = en') && decide (tk = tk') && BA && BW)) :
    (binOp .neq 39 (.agg #[.int .i64 ix, .int .i64 en, .int .i64 tk, .int .u8 (c s0), .int .u8 (c s1), .int .u8 (c s2), .int .u8 (c s3), .int .u8 (c s4), .int .u8 (c s5), .int .u8 (c s6), .int .u8 (c s7), .int .u8 (c s8), .int .u8 (c s9), .int .u8 (c s10), .int .u8 (c s11), .int .u8 (c s12), .int .u8 (c s13), .int .u8 (c s14), .int .u8 (c s15), .int .u8 (c s16), .int .u8 (c s17), .int .u8 (c s18), .int .u8 (c s19), .int .u64 (a0 : Int), .int .u64 (a1 : Int), .int .u64 (a2 : Int), .int .u64 (a3 : Int)]) (.agg #[.int .i64 ix, .int .i64 en', .int .i64 tk', .int .u8 (c t0), .int .u8 (c t1), .int .u8 (c t2), .int .u8 (c t3), .int .u8 (c t4), .int .u8 (c t5), .int .u8 (c t6), .int .u8 (c t7), .int .u8 (c t8), .int .u8 (c t9), .int .u8 (c t10), .int .u8 (c t11), .int .u8 (c t12), .int .u8 (c t13), .int .u8 (c t14), .int .u8 (c t15), .int .u8 (c t16), .int .u8 (c t17), .int .u8 (c t18), .int .u8 (c t19), .int .u64 (b0 : Int), .int .u64 (b1 : Int), .int .u64 (b2 : Int), .int .u64 (b3 : Int)])).run Try.prog w = .ok (.bool B) w := by
  subst hB
  by_cases h1 : en = en'
  · subst h1
    by_cases h2 : tk = tk'
    · subst h2
      cases BA with
      | false =>
        go_simp
      | true =>
        cases BW with
        | false =>
          go_simp
        | true =>
          go_simp
    · go_simp
  · go_simp
theorem neGb (ix en tk en' tk' : Int) (rc rc' : List (BitVec 8)) (am am' : List Nat) (h : rc.length = 20) (h' : rc'.length = 20) (h4 : am.length = 4) (h4' : am'.length = 4) (B : Bool) (hB : B = !(decide (en = en') && decide (tk = tk') && decide (rc = rc') && decide (am = am'))) (w : World) : (binOp .neq 39 (.agg (lf ix en tk rc am).toArray) (.agg (lf ix en' tk' rc' am').toArray)).run Try.prog w = .ok (.bool B) w := by
  match rc, h, am, h4, rc', h', am', h4' with
  | [s0, s1, s2, s3, s4, s5, s6, s7, s8, s9, s10, s11, s12, s13, s14, s15, s16, s17, s18, s19], _, [a0, a1, a2, a3], _, [t0, t1, t2, t3, t4, t5, t6, t7, t8, t9, t10, t11, t12, t13, t14, t15, t16, t17, t18, t19], _, [b0, b1, b2, b3], _ =>
    exact neG1b ix en tk en' tk' s0 s1 s2 s3 s4 s5 s6 s7 s8 s9 s10 s11 s12 s13 s14 s15 s16 s17 s18 s19 t0 t1 t2 t3 t4 t5 t6 t7 t8 t9 t10 t11 t12 t13 t14 t15 t16 t17 t18 t19 a0 a1 a2 a3 b0 b1 b2 b3 B _ _ w (fun w => eqAgb w [s0, s1, s2, s3, s4, s5, s6, s7, s8, s9, s10, s11, s12, s13, s14, s15, s16, s17, s18, s19] [t0, t1, t2, t3, t4, t5, t6, t7, t8, t9, t10, t11, t12, t13, t14, t15, t16, t17, t18, t19] rfl rfl) (fun w => eqWgb w [a0, a1, a2, a3] [b0, b1, b2, b3] rfl rfl) hB
section
variable {ops : Array Oper} {rest : List Oper} {op : Oper} {a : Act} {w : World} {Q : Exit → Act → World → Prop}
theorem wpList_neqGb (hw : Region.wanted op (yielded ops a.tmps) = true) (x y : Operand) (yt : TypeId) (ho : op.op = .binOp .neq 39 x y yt) (L M : List Value) (B : Bool) (hx : a.eval x = .agg L.toArray) (hy : a.eval y = .agg M.toArray)
    (hr : ∀ w, (binOp .neq 39 (.agg L.toArray) (.agg M.toArray)).run Try.prog w = .ok (.bool B) w) (h : wpList Try.prog ops Q rest (a.put op.dst (.bool B)) w) : wpList Try.prog ops Q (op :: rest) a w :=
  BigFrame.wpList_want hw fun _ hK => by
    unfold Oper.wp execOp
    simp only [ho, hx, hy, Sem.run_bind, run_eqGuard_agg w .neq 39 x y _ _ guardL, Result.andThen_ok, hr, Sem.run_pure, Oper.upon_value]
    exact hK _ _ h
end


theorem neLL (ix en tk : Int) (rc : List (BitVec 8)) (am : List Nat) (h : rc.length = 20) (h4 : am.length = 4) (w : World) : (binOp .neq 39 (.agg (lf ix en tk rc am).toArray) (.agg (lf ix en tk rc am).toArray)).run Try.prog w = .ok (.bool false) w :=
  neGb ix en tk en tk rc rc am am h h h4 h4 false (by simp) w
theorem c_xor1b (x : BitVec 8) : bits BinOp.xor IntKind.u8 (c x) 1 = c (x ^^^ 1#8) := by
  revert x
  decide +revert
abbrev e3 : List (BitVec 8) := [91#8, 92#8, 93#8]
theorem str_app (d e : List (BitVec 8)) : str d ++ str e = str (d ++ e) := by
  apply ByteArray.ext
  rw [ByteArray.data_append]
  unfold str
  apply Array.ext'
  rw [Array.toList_append, strOfNums_data, strOfNums_data, strOfNums_data, List.map_append, List.map_append]
theorem str_size (d : List (BitVec 8)) : (str d).size = d.length := by
  have : (str d).data.toList.length = d.length := by unfold str; rw [strOfNums_data, List.length_map, List.length_map]
  exact (show (str d).size = (str d).data.toList.length from (by rw [Array.length_toList]; rfl)).trans this
theorem str_e3 : (⟨#[91, 92, 93]⟩ : ByteArray) = str e3 := by
  apply ByteArray.ext
  apply Array.ext'
  unfold str
  rw [strOfNums_data]
  rfl
/-- A list's bytes turned, as far as j. -/
def xr (j : Nat) (d : List (BitVec 8)) : List (BitVec 8) := (d.take j).map (· ^^^ 1#8) ++ d.drop j
theorem xr_len (j : Nat) (d : List (BitVec 8)) : (xr j d).length = d.length := by
  unfold xr; rw [List.length_append, List.length_map, ← List.length_append, List.take_append_drop]
theorem xr_zero (d : List (BitVec 8)) : xr 0 d = d := by unfold xr; simp
theorem xr_get (j : Nat) (d : List (BitVec 8)) (hj : j < d.length) : (xr j d)[j]? = some d[j] := by
  unfold xr
  rw [List.getElem?_append_right (by rw [List.length_map, List.length_take]; omega), List.length_map, List.length_take, Nat.min_eq_left (by omega), Nat.sub_self, List.getElem?_drop, Nat.add_zero, List.getElem?_eq_getElem hj]
theorem xr_set (j : Nat) (d : List (BitVec 8)) (hj : j < d.length) : (xr j d).set j (d[j] ^^^ 1#8) = xr (j + 1) d := by
  unfold xr
  rw [List.set_append_right _ _ (by rw [List.length_map, List.length_take]; omega), List.length_map, List.length_take, Nat.min_eq_left (by omega), Nat.sub_self, List.drop_eq_getElem_cons hj, List.set_cons_zero, List.take_succ_eq_append_getElem hj, List.map_append, List.append_assoc]
  rfl
section
variable {ops : Array Oper} {rest : List Oper} {op : Oper} {a : Act} {w : World} {Q : Exit → Act → World → Prop} {K : Act → World → Prop} {o : Oper}
theorem wp_neqGb (x y : Operand) (yt : TypeId) (ho : o.op = .binOp .neq 39 x y yt) (L M : List Value) (B : Bool) (hx : a.eval x = .agg L.toArray) (hy : a.eval y = .agg M.toArray) (hr : ∀ w, (binOp .neq 39 (.agg L.toArray) (.agg M.toArray)).run Try.prog w = .ok (.bool B) w) (h : K (a.put o.dst (.bool B)) w) : Oper.wp Try.prog o a w K Q := by
  unfold Oper.wp execOp
  simp only [ho, hx, hy, Sem.run_bind, run_eqGuard_agg w .neq 39 x y _ _ guardL, Result.andThen_ok, hr, Sem.run_pure, Oper.upon_value]
  exact h
theorem wp_neqE {x y : Operand} {t yt : TypeId} (ho : o.op = .binOp .neq t x y yt) (E : Int) (hx : a.eval x = .int .i64 E) (hy : a.eval y = .int .i64 E) (h : K (a.put o.dst (.bool false)) w) : Oper.wp Try.prog o a w K Q := by
  unfold Oper.wp execOp
  simp only [ho, hx, hy]
  simp [go_sem]
  exact h
theorem wp_adds {x : Operand} {yt : TypeId} (ho : o.op = .binOp .add 9 x (.const (.string ⟨#[91, 92, 93]⟩)) yt) (d : List (BitVec 8)) (hd : d.length ≤ 100000000) (hx : a.eval x = .string (str d)) (h : K (a.put o.dst (.string (str (d ++ e3)))) w) : Oper.wp Try.prog o a w K Q := by
  unfold Oper.wp execOp
  simp only [ho, hx]
  simp [go_sem, Act.eval]
  have hs : (str d).size + 3 ≤ 9223372036854775807 := by rw [str_size]; omega
  rw [str_e3, str_app, if_neg (by omega)]
  simp only [Oper.upon_value]
  exact h
theorem wpList_xor1 (hw : op.guard = none) (x : Operand) (yt : TypeId) (ho : op.op = .binOp .xor 5 x (.const (.int .u8 1)) yt) (y : BitVec 8) (hx : a.eval x = .int .u8 (c y)) (h : wpList Try.prog ops Q rest (a.put op.dst (.int .u8 (c (y ^^^ 1#8)))) w) : wpList Try.prog ops Q (op :: rest) a w :=
  wpList_plain hw fun _ hK => by
    unfold Oper.wp execOp
    simp only [ho, hx]
    simp [go_sem, Act.eval, c_xor1b]
    exact hK _ _ h
theorem wpList_setB (hw : op.guard = none) (x y : Operand) (ho : op.op = .store 5 x y) (b i : Nat) (z : Int) (cs : List Value) (t : TypeId) (hx : a.eval x = .pointer (some ⟨b, i, none⟩)) (hy : a.eval y = .int .u8 z) (r : Row w b cs t) (hl : i < cs.length)
    (h : ∀ X, X = w.setCell ⟨b, i, none⟩ (.int .u8 z) → wpList Try.prog ops Q rest (a.put op.dst undef) X) : wpList Try.prog ops Q (op :: rest) a w :=
  wpList_plain hw fun _ hK => wp_setb x y ho b i z cs t hx hy r hl fun X e => hK _ _ (h X e)
theorem wpList_cutn (hw : op.guard = none) (x z : Operand) (ho : op.op = .slice 29 x none (some z) none) (b n cap k : Nat) (hx : a.eval x = .slice (some ⟨b, 0, none⟩) n cap) (hz : a.eval z = .int .i64 (k : Int)) (hk : k ≤ cap)
    (h : wpList Try.prog ops Q rest (a.put op.dst (.slice (some ⟨b, 0, none⟩) k cap)) w) : wpList Try.prog ops Q (op :: rest) a w :=
  wpList_plain hw fun _ hK => by
    have hu := info_u8
    cases hq : Try.prog.info? 5 with
    | none => simp [hq] at hu
    | some i =>
      have hr : (Instr.sliceAt 29 (.slice (some ⟨b, 0, none⟩) n cap) none (some (.int .i64 (k : Int))) none).run Try.prog w = .ok (.slice (some ⟨b, 0, none⟩) k cap) w := by
        simp [Instr.sliceAt, Instr.slice, run_underlying Try.underlying29, Instr.sliceBounds, Instr.sliceBound, asIntOf, sizeOf, typeInfo, hq, hk, Addr.add_mid]
      unfold Oper.wp execOp
      simp only [ho, hx, hz, Option.map_some, Option.map_none, Sem.run_bind, hr, Result.andThen_ok, Sem.run_pure, Oper.upon_value]
      exact hK _ _ h
/-- Three bytes behind a list of one's own. -/
theorem wpList_app3 (hgd : op.guard = none) (s x : Operand) (ho : op.op = .call { callee := .builtin .append, args := #[s, x], argTypes := #[29, 29] }) (N0 g1 n M : Nat) (d : List (BitVec 8)) (hd : d.length = n) (hn : n ≤ 100000000) (hN : N0 ≤ g1) (hN2 : N0 ≤ w.heap.size) (hs : a.eval s = .slice (some ⟨g1, 0, none⟩) n n) (r1 : Row w g1 (vB d) 5) (hx : a.eval x = .slice (some ⟨M, 0, none⟩) 3 3) (r2 : SlAt w (.slice (some ⟨M, 0, none⟩) 3 3) e3)
    (h : ∀ G c' w', N0 ≤ G → n + 3 ≤ c' → Bw w' (.slice (some ⟨G, 0, none⟩) (n + 3) c') (d ++ e3) → Below N0 w w' → wpList Try.prog ops Q rest (a.put op.dst (.slice (some ⟨G, 0, none⟩) (n + 3) c')) w') : wpList Try.prog ops Q (op :: rest) a w := by
  refine wpList_app hgd s x ho (.slice (some ⟨g1, 0, none⟩) n n) d e3 hs (by subst hd; exact row_bw r1 (by omega)) (some ⟨M, 0, none⟩) 3 3 rfl hx r2 (fun e => by cases e) (by omega) ?_
  intro v' w' p1 p2 p3
  have hl : (d ++ e3).length = n + 3 := by rw [List.length_append, hd]; rfl
  obtain ⟨G, c', e, hc⟩ := Lw.open (w := w') (e := 5) (s := 1) (v := v') (n := (d ++ e3).length) (xs := vB (d ++ e3)) p1 (by rw [hl]; omega)
  rw [hl] at e hc
  subst e
  have hG : N0 ≤ G := by
    rcases p3 with q | q
    · simp only [Value.ownBlock, Option.some.injEq] at q; omega
    · simp only [Value.ownBlock, Option.some.injEq] at q; omega
  exact h G c' w' hG hc p1 ((Below.refl _ _).grown p2 hN2 (fun k e => by simp only [Value.ownBlock, Option.some.injEq] at e; omega))
end
theorem Bw.cutsl {w : World} {G n c' : Nat} {d e : List (BitVec 8)} {m : Nat} (h : Bw w (.slice (some ⟨G, 0, none⟩) m c') (d ++ e)) (hd : d.length = n) (hc : n ≤ c') : SlAt w (.slice (some ⟨G, 0, none⟩) n c') d := by
  rcases Bw.sl h with ⟨e0, _⟩ | ⟨ab, ao, cap, e1, _, r⟩
  · have : d = [] := (List.append_eq_nil_iff.1 e0).1
    subst this
    exact .inl ⟨rfl, _, _, by rw [← hd]; rfl⟩
  · simp only [Value.slice.injEq, Option.some.injEq, Addr.mk.injEq] at e1
    obtain ⟨⟨rfl, rfl, _⟩, _, rfl⟩ := e1
    refine .inr ⟨G, 0, c', by rw [hd], by omega, fun j v hj => r j v ?_⟩
    rw [vB_append, List.getElem?_append_left ((List.getElem?_eq_some_iff.1 hj).1)]
    exact hj

end Go.Proofs.Ytehjadgmleoobaa
