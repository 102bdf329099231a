/-
  Numbers in cells, by a letter each; the calls by such letters.
-/
import Derived.Test.YtefjonidpmpjbaaWText
import Derived.Test.YtefjonidpmpjbaaWDivv
import Derived.Test.YtefjonidpmpjbaaWCmp
import Derived.BigFrame
namespace Go.Proofs.Ytefjonidpmpjbaa
open Go Go.RowKit
open Wd
open Go.Lib (decDigits nDigits)

/-- The cells c are the parts of m. -/
def Wc (c : List Value) (m : Nat) : Prop := c = vQ (dgs m 4)
theorem Wc.len {c : List Value} {m : Nat} (h : Wc c m) : c.length = 4 := by rw [h, vQ_length, dgs_length]
theorem Wc.info {c : List Value} {m : Nat} (h : Wc c m) : (Try.prog.info? 33).map (·.size) = some c.length := by rw [info_w4, h.len]
theorem Wc.info' {c : List Value} {m : Nat} (h : Wc c m) : (Try.prog.info? 33).map (·.size) = some c.toArray.size := by rw [info_w4]; simp [h.len]
theorem Wc.one {c : List Value} {m : Nat} (h : Wc c m) : c.toArray.all (·.oneCell') = true := all_oneCell_toArray (by rw [h]; exact vQ_one _)
theorem Wc.there {c : List Value} {m : Nat} (h : Wc c m) {W : World} {b : Nat} {ds : List Value} {t : TypeId} (r : Row W b ds t) (hl : ds.length = 4) : W.there b 0 c.toArray.size := r.there 0 _ (by simp [h.len, hl])
theorem Wc.zero : Wc [.int .u64 0, .int .u64 0, .int .u64 0, .int .u64 0] 0 := rfl

section
variable {P : Program} {ops : Array Oper} {rest : List Oper} {op : Oper} {a : Act} {w : World} {Q : Exit → Act → World → Prop}
/-- A load of a whole row, guarded or not. -/
theorem wpList_load_w (hw : Region.wanted op (yielded ops a.tmps) = true) (ty : TypeId) (x : Operand) (ho : op.op = .load ty x)
    (b o : Nat) (hx : a.eval x = .pointer (some ⟨b, o, none⟩)) (cs : List Value) (d : TypeDesc) (hc : w.rangeAt b o cs)
    (hu : P.underlying ty = some d) (hd : d.isRow = true) (hi : (P.info? ty).map (·.size) = some cs.length)
    (h : wpList P ops Q rest (a.put op.dst (.agg cs.toArray)) w) : wpList P ops Q (op :: rest) a w :=
  BigFrame.wpList_want hw fun _ hK => wp_load_mid ty x ho b o hx cs d hc hu hd hi (hK _ _ h)
theorem wpList_eql_c (hw : Region.wanted op (yielded ops a.tmps) = true) (x y : Operand) (yt : TypeId) (ho : op.op = .binOp .eql 33 x y yt) {c d : List Value} {m n : Nat} (Hc : Wc c m) (Hd : Wc d n) (hm : m < 2 ^ 256) (hn : n < 2 ^ 256) (hx : a.eval x = .agg c.toArray) (hy : a.eval y = .agg d.toArray)
    {B : Bool} (hB : decide (m = n) = B) (h : wpList Try.prog ops Q rest (a.put op.dst (.bool B)) w) : wpList Try.prog ops Q (op :: rest) a w :=
  wpList_eql_wide hw x y yt ho m n hm hn (by rw [hx, Hc]) (by rw [hy, Hd]) (by rw [hB]; exact h)
theorem wpList_neq_c (hw : Region.wanted op (yielded ops a.tmps) = true) (x y : Operand) (yt : TypeId) (ho : op.op = .binOp .neq 33 x y yt) {c d : List Value} {m n : Nat} (Hc : Wc c m) (Hd : Wc d n) (hm : m < 2 ^ 256) (hn : n < 2 ^ 256) (hx : a.eval x = .agg c.toArray) (hy : a.eval y = .agg d.toArray)
    {B : Bool} (hB : (!decide (m = n)) = B) (h : wpList Try.prog ops Q rest (a.put op.dst (.bool B)) w) : wpList Try.prog ops Q (op :: rest) a w :=
  wpList_neq_wide hw x y yt ho m n hm hn (by rw [hx, Hc]) (by rw [hy, Hd]) (by rw [hB]; exact h)
theorem wp_eql_c {o : Oper} {K : Act → World → Prop} (x y : Operand) (yt : TypeId) (ho : o.op = .binOp .eql 33 x y yt) {c d : List Value} {m n : Nat} (Hc : Wc c m) (Hd : Wc d n) (hm : m < 2 ^ 256) (hn : n < 2 ^ 256) (hx : a.eval x = .agg c.toArray) (hy : a.eval y = .agg d.toArray)
    {B : Bool} (hB : decide (m = n) = B) (h : K (a.put o.dst (.bool B)) w) : Oper.wp Try.prog o a w K Q := by
  have hr := run_eql_w w (dgs m 4) (dgs n 4) (dgs_length _ _) (dgs_length _ _)
  rw [show decide (dgs m 4 = dgs n 4) = B by rw [← hB, Bool.eq_iff_iff]; simp only [decide_eq_true_eq]; exact dgs_eq m n hm hn] at hr
  rw [Hc] at hx
  rw [Hd] at hy
  unfold Oper.wp execOp
  simp only [ho, hx, hy, Sem.run_bind, run_eqGuard_agg w .eql _ x y _ _ guard_wide, Result.andThen_ok, hr, Sem.run_pure, Oper.upon_value]
  exact h
end

theorem add_c {ca cb : List Value} {a b : Nat} (Ha : Wc ca a) (Hb : Wc cb b) (ha : a < 2 ^ 256) (hb : b < 2 ^ 256) {r : Nat} {E : Int} (hr : addR a b = r) (hE : addE a b = E) (w : World) : Calls Try.prog 51 #[.agg ca.toArray, .agg cb.toArray] w fun e w' => ∃ c, Wc c r ∧ e = .returned (.tuple #[.agg c.toArray, .int .i64 E]) ∧ Below w.heap.size w w' := by
  subst hr hE; rw [Ha, Hb]
  exact (add_any a b ha hb w).mono fun e w' h => ⟨_, rfl, h.1, h.2⟩
theorem sub_c {ca cb : List Value} {a b : Nat} (Ha : Wc ca a) (Hb : Wc cb b) (ha : a < 2 ^ 256) (hb : b < 2 ^ 256) {r : Nat} {E : Int} (hr : subR a b = r) (hE : subE a b = E) (w : World) : Calls Try.prog 52 #[.agg ca.toArray, .agg cb.toArray] w fun e w' => ∃ c, Wc c r ∧ e = .returned (.tuple #[.agg c.toArray, .int .i64 E]) ∧ Below w.heap.size w w' := by
  subst hr hE; rw [Ha, Hb]
  exact (sub_any a b ha hb w).mono fun e w' h => ⟨_, rfl, h.1, h.2⟩
/-! ### The greatest number -/
def topDigs : List UInt8 := [49, 49, 53, 55, 57, 50, 48, 56, 57, 50, 51, 55, 51, 49, 54, 49, 57, 53, 52, 50, 51, 53, 55, 48, 57, 56, 53, 48, 48, 56, 54, 56, 55, 57, 48, 55, 56, 53, 51, 50, 54, 57, 57, 56, 52, 54, 54, 53, 54, 52, 48, 53, 54, 52, 48, 51, 57, 52, 53, 55, 53, 56, 52, 48, 48, 55, 57, 49, 51, 49, 50, 57, 54, 51, 57, 57, 51, 53]
theorem dec_top : decDigits 115792089237316195423570985008687907853269984665640564039457584007913129639935 = topDigs := by
  rw [Lib.decDigits_eq, Lib.nDigits_unique 77 _ (by decide) (by decide)]
  decide
theorem parse_top : parse (topDigs.map UInt8.toNat) = some 115792089237316195423570985008687907853269984665640564039457584007913129639935 := by
  have h := parse_nums 115792089237316195423570985008687907853269984665640564039457584007913129639935 (by decide)
  unfold nums at h
  rw [dec_top] at h
  exact h
theorem str_of (s : ByteArray) (l : List UInt8) (h : s.data.toList = l) : StrN s (l.map UInt8.toNat) := by
  subst h
  refine ⟨by rw [List.length_map]; rfl, fun x hx => ?_, fun i hi => ?_⟩
  · obtain ⟨y, _, rfl⟩ := List.mem_map.1 hx
    exact y.toNat_lt
  · have : i < s.data.size := hi
    rw [List.getD_eq_getElem?_getD, List.getElem?_map, Array.getElem?_toList, Array.getElem?_eq_getElem this]
    rfl
end Go.Proofs.Ytefjonidpmpjbaa
