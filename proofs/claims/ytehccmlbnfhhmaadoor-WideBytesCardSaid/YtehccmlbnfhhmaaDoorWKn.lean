/-
  Numbers in cells, by a letter each; the calls by such letters.
-/
import Derived.Test.YtehccmlbnfhhmaaDoorWText
import Derived.Test.YtehccmlbnfhhmaaDoorWDivv
import Derived.Test.YtehccmlbnfhhmaaDoorWCmp
import Derived.BigFrame
namespace Go.Proofs.YtehccmlbnfhhmaaDoor
open Go Go.RowKit
open Wd
open Go.Lib (decDigits nDigits)

/-- The cells c are the parts of m. -/
def Wc (c : List Value) (m : Nat) : Prop := c = vQ (dgs m 4)
theorem Wc.len {c : List Value} {m : Nat} (h : Wc c m) : c.length = 4 := by rw [h, vQ_length, dgs_length]
theorem Wc.info {c : List Value} {m : Nat} (h : Wc c m) : (Tryd.prog.info? 24).map (·.size) = some c.length := by rw [info_w4, h.len]
theorem Wc.info' {c : List Value} {m : Nat} (h : Wc c m) : (Tryd.prog.info? 24).map (·.size) = some c.toArray.size := by rw [info_w4]; simp [h.len]
theorem Wc.one {c : List Value} {m : Nat} (h : Wc c m) : c.toArray.all (·.oneCell') = true := all_oneCell_toArray (by rw [h]; exact vQ_one _)
theorem Wc.there {c : List Value} {m : Nat} (h : Wc c m) {W : World} {b : Nat} {ds : List Value} {t : TypeId} (r : Row W b ds t) (hl : ds.length = 4) : W.there b 0 c.toArray.size := r.there 0 _ (by simp [h.len, hl])
theorem Wc.zero : Wc [.int .u64 0, .int .u64 0, .int .u64 0, .int .u64 0] 0 := rfl

section
variable {P : Program} {ops : Array Oper} {rest : List Oper} {op : Oper} {a : Act} {w : World} {Q : Exit → Act → World → Prop}
/-- A load of a whole row, guarded or not. -/
theorem wpList_load_w (hw : Region.wanted op (yielded ops a.tmps) = true) (ty : TypeId) (x : Operand) (ho : op.op = .load ty x)
    (b o : Nat) (hx : a.eval x = .pointer (some ⟨b, o, none⟩)) (cs : List Value) (d : TypeDesc) (hc : w.rangeAt b o cs)
    (hu : P.underlying ty = some d) (hd : d.isRow = true) (hi : (P.info? ty).map (·.size) = some cs.length)
    (h : wpList P ops Q rest (a.put op.dst (.agg cs.toArray)) w) : wpList P ops Q (op :: rest) a w :=
  BigFrame.wpList_want hw fun _ hK => wp_load_mid ty x ho b o hx cs d hc hu hd hi (hK _ _ h)
theorem wpList_eql_c (hw : Region.wanted op (yielded ops a.tmps) = true) (x y : Operand) (yt : TypeId) (ho : op.op = .binOp .eql 24 x y yt) {c d : List Value} {m n : Nat} (Hc : Wc c m) (Hd : Wc d n) (hm : m < 2 ^ 256) (hn : n < 2 ^ 256) (hx : a.eval x = .agg c.toArray) (hy : a.eval y = .agg d.toArray)
    {B : Bool} (hB : decide (m = n) = B) (h : wpList Tryd.prog ops Q rest (a.put op.dst (.bool B)) w) : wpList Tryd.prog ops Q (op :: rest) a w :=
  wpList_eql_wide hw x y yt ho m n hm hn (by rw [hx, Hc]) (by rw [hy, Hd]) (by rw [hB]; exact h)
theorem wpList_neq_c (hw : Region.wanted op (yielded ops a.tmps) = true) (x y : Operand) (yt : TypeId) (ho : op.op = .binOp .neq 24 x y yt) {c d : List Value} {m n : Nat} (Hc : Wc c m) (Hd : Wc d n) (hm : m < 2 ^ 256) (hn : n < 2 ^ 256) (hx : a.eval x = .agg c.toArray) (hy : a.eval y = .agg d.toArray)
    {B : Bool} (hB : (!decide (m = n)) = B) (h : wpList Tryd.prog ops Q rest (a.put op.dst (.bool B)) w) : wpList Tryd.prog ops Q (op :: rest) a w :=
  wpList_neq_wide hw x y yt ho m n hm hn (by rw [hx, Hc]) (by rw [hy, Hd]) (by rw [hB]; exact h)
theorem wp_eql_c {o : Oper} {K : Act → World → Prop} (x y : Operand) (yt : TypeId) (ho : o.op = .binOp .eql 24 x y yt) {c d : List Value} {m n : Nat} (Hc : Wc c m) (Hd : Wc d n) (hm : m < 2 ^ 256) (hn : n < 2 ^ 256) (hx : a.eval x = .agg c.toArray) (hy : a.eval y = .agg d.toArray)
    {B : Bool} (hB : decide (m = n) = B) (h : K (a.put o.dst (.bool B)) w) : Oper.wp Tryd.prog o a w K Q := by
  have hr := run_eql_w w (dgs m 4) (dgs n 4) (dgs_length _ _) (dgs_length _ _)
  rw [show decide (dgs m 4 = dgs n 4) = B by rw [← hB, Bool.eq_iff_iff]; simp only [decide_eq_true_eq]; exact dgs_eq m n hm hn] at hr
  rw [Hc] at hx
  rw [Hd] at hy
  unfold Oper.wp execOp
  simp only [ho, hx, hy, Sem.run_bind, run_eqGuard_agg w .eql _ x y _ _ guard_wide, Result.andThen_ok, hr, Sem.run_pure, Oper.upon_value]
  exact h
end

theorem add_c {ca cb : List Value} {a b : Nat} (Ha : Wc ca a) (Hb : Wc cb b) (ha : a < 2 ^ 256) (hb : b < 2 ^ 256) {r : Nat} {E : Int} (hr : addR a b = r) (hE : addE a b = E) (w : World) : Calls Tryd.prog 10 #[.agg ca.toArray, .agg cb.toArray] w fun e w' => ∃ c, Wc c r ∧ e = .returned (.tuple #[.agg c.toArray, .int .i64 E]) ∧ Below w.heap.size w w' := by
  subst hr hE; rw [Ha, Hb]
  exact (add_any a b ha hb w).mono fun e w' h => ⟨_, rfl, h.1, h.2⟩
theorem sub_c {ca cb : List Value} {a b : Nat} (Ha : Wc ca a) (Hb : Wc cb b) (ha : a < 2 ^ 256) (hb : b < 2 ^ 256) {r : Nat} {E : Int} (hr : subR a b = r) (hE : subE a b = E) (w : World) : Calls Tryd.prog 12 #[.agg ca.toArray, .agg cb.toArray] w fun e w' => ∃ c, Wc c r ∧ e = .returned (.tuple #[.agg c.toArray, .int .i64 E]) ∧ Below w.heap.size w w' := by
  subst hr hE; rw [Ha, Hb]
  exact (sub_any a b ha hb w).mono fun e w' h => ⟨_, rfl, h.1, h.2⟩
theorem mul_c {ca cb : List Value} {a b : Nat} (Ha : Wc ca a) (Hb : Wc cb b) (ha : a < 2 ^ 256) (hb : b < 2 ^ 256) {r : Nat} {E : Int} (hr : mulR a b = r) (hE : mulE a b = E) (w : World) : Calls Tryd.prog 14 #[.agg ca.toArray, .agg cb.toArray] w fun e w' => ∃ c, Wc c r ∧ e = .returned (.tuple #[.agg c.toArray, .int .i64 E]) ∧ Below w.heap.size w w' := by
  subst hr hE; rw [Ha, Hb]
  exact (mul_any a b ha hb w).mono fun e w' h => ⟨_, rfl, h.1, h.2⟩
theorem cmp_c {ca cb : List Value} {a b : Nat} (Ha : Wc ca a) (Hb : Wc cb b) (ha : a < 2 ^ 256) (hb : b < 2 ^ 256) {E : Int} (hE : cmpR a b = E) (w : World) : Calls Tryd.prog 20 #[.agg ca.toArray, .agg cb.toArray] w fun e w' => e = .returned (.int .i64 E) ∧ Below w.heap.size w w' := by
  subst hE; rw [Ha, Hb]
  exact cmp_any a b ha hb w
theorem div_c {ca cb : List Value} {a b : Nat} (Ha : Wc ca a) (Hb : Wc cb b) (ha : a < 2 ^ 256) (hb : b < 2 ^ 256) {q r : Nat} {E : Int} (hq : divQ a b = q) (hr : divR a b = r) (hE : divE b = E) (w : World) : Calls Tryd.prog 16 #[.agg ca.toArray, .agg cb.toArray] w fun e w' => ∃ c d, Wc c q ∧ Wc d r ∧ e = .returned (.tuple #[.agg c.toArray, .agg d.toArray, .int .i64 E]) ∧ Below w.heap.size w w' := by
  subst hq hr hE; rw [Ha, Hb]
  exact (div_any a b ha hb w).mono fun e w' h => ⟨_, _, rfl, rfl, h.1, h.2⟩
theorem text_c {ca : List Value} {a : Nat} (Ha : Wc ca a) (ha : a < 2 ^ 256) {D : List UInt8} (hD : decDigits a = D) (w : World) (hp : P10 w) : Calls Tryd.prog 39 #[.agg ca.toArray] w fun e w' => e = .returned (.string ⟨D.toArray⟩) ∧ Below w.heap.size w w' := by
  subst hD; rw [Ha]
  exact text_any a ha w hp

/-! ### The greatest number -/
def topDigs : List UInt8 := [49, 49, 53, 55, 57, 50, 48, 56, 57, 50, 51, 55, 51, 49, 54, 49, 57, 53, 52, 50, 51, 53, 55, 48, 57, 56, 53, 48, 48, 56, 54, 56, 55, 57, 48, 55, 56, 53, 51, 50, 54, 57, 57, 56, 52, 54, 54, 53, 54, 52, 48, 53, 54, 52, 48, 51, 57, 52, 53, 55, 53, 56, 52, 48, 48, 55, 57, 49, 51, 49, 50, 57, 54, 51, 57, 57, 51, 53]
theorem dec_top : decDigits 115792089237316195423570985008687907853269984665640564039457584007913129639935 = topDigs := by
  rw [Lib.decDigits_eq, Lib.nDigits_unique 77 _ (by decide) (by decide)]
  decide
theorem parse_top : parse (topDigs.map UInt8.toNat) = some 115792089237316195423570985008687907853269984665640564039457584007913129639935 := by
  have h := parse_nums 115792089237316195423570985008687907853269984665640564039457584007913129639935 (by decide)
  unfold nums at h
  rw [dec_top] at h
  exact h
theorem str_of (s : ByteArray) (l : List UInt8) (h : s.data.toList = l) : StrN s (l.map UInt8.toNat) := by
  subst h
  refine ⟨by rw [List.length_map]; rfl, fun x hx => ?_, fun i hi => ?_⟩
  · obtain ⟨y, _, rfl⟩ := List.mem_map.1 hx
    exact y.toNat_lt
  · have : i < s.data.size := hi
    rw [List.getD_eq_getElem?_getD, List.getElem?_map, Array.getElem?_toList, Array.getElem?_eq_getElem this]
    rfl
theorem parse_top_c (s : ByteArray) (h : s.data.toList = topDigs) (w : World) : Calls Tryd.prog 41 #[.string s] w fun e w' => ∃ c, Wc c 115792089237316195423570985008687907853269984665640564039457584007913129639935 ∧ e = .returned (.tuple #[.agg c.toArray, .int .i64 0]) ∧ Below w.heap.size w w' := by
  have hp := parse_any s _ (str_of s _ h) (by decide) w
  rw [parse_top] at hp
  exact hp.mono fun e w' h => ⟨_, rfl, h.1, h.2⟩

set_option maxHeartbeats 1000000 in
theorem top_c (w : World) : Calls Tryd.prog 43 #[] w fun e w' => ∃ c, Wc c 115792089237316195423570985008687907853269984665640564039457584007913129639935 ∧ e = .returned (.agg c.toArray) ∧ Below w.heap.size w w' := by
  obtain ⟨c, Hc⟩ : ∃ c, Wc c 115792089237316195423570985008687907853269984665640564039457584007913129639935 := ⟨_, rfl⟩
  have hc : c = [.int .u64 18446744073709551615, .int .u64 18446744073709551615, .int .u64 18446744073709551615, .int .u64 18446744073709551615] := Hc
  have n0 : Row (w.alloc (Obj.cells #[Value.int IntKind.u64 0, Value.int IntKind.u64 0, Value.int IntKind.u64 0, Value.int IntKind.u64 0] 24)) w.heap.size (vQ (List.replicate 4 0)) 24 := Row.new' rfl rfl
  have T := Hc.there n0 rfl
  have fin := n0.over (vs := c) (by rw [Hc.len]; rfl)
  have hb := below_setCells (((Below.refl w.heap.size w).alloc (Nat.le_refl _) (Obj.cells #[Value.int IntKind.u64 0, Value.int IntKind.u64 0, Value.int IntKind.u64 0, Value.int IntKind.u64 0] 24))) (b := w.heap.size) (o := 0) (Nat.le_refl _) c
  have HC : Hid (c = [.int .u64 18446744073709551615, .int .u64 18446744073709551615, .int .u64 18446744073709551615, .int .u64 18446744073709551615]) := hc
  clear n0 hc
  go_enter Tryd.func43, Tryd.ntmps43
  go_wp2_with (refine wpList_store_mid rfl 24 (.tmp 0) (.tmp 1) rfl w.heap.size 0 c.toArray rfl (by rw [HC.out]; rfl) T Hc.info' Hc.one ?_; simp only [Act.put])
  exact bodyPost_ret (results_row Tryd.results43 _ _ w.heap.size 24 c rfl fin Tryd.underlying24 info_w4 Hc.len) rfl ⟨c, Hc, rfl, hb⟩

end Go.Proofs.YtehccmlbnfhhmaaDoor
