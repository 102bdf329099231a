/-
  Lists of bytes told as natural numbers; a list that a call owns, opened and shut.
-/
import Derived.Test.YtdlmighfmkhpkaaWText
import Derived.Test.YtdlmighfmkhpkaaWDivv
import Derived.Test.YtdlmighfmkhpkaaWCmp
import Derived.BigFrame
import Derived.Laws.AppendOwn

namespace Go.Proofs.Ytdlmighfmkhpkaa
open Go Go.RowKit
open Wd
open Go.Lib (decDigits nDigits)

/-- The cells c are the parts of m. -/
def Wc (c : List Value) (m : Nat) : Prop := c = vQ (dgs m 4)
theorem Wc.len {c : List Value} {m : Nat} (h : Wc c m) : c.length = 4 := by rw [h, vQ_length, dgs_length]
theorem Wc.info {c : List Value} {m : Nat} (h : Wc c m) : (Try.prog.info? 29).map (·.size) = some c.length := by rw [info_w4, h.len]
theorem Wc.info' {c : List Value} {m : Nat} (h : Wc c m) : (Try.prog.info? 29).map (·.size) = some c.toArray.size := by rw [info_w4]; simp [h.len]
theorem Wc.one {c : List Value} {m : Nat} (h : Wc c m) : c.toArray.all (·.oneCell') = true := all_oneCell_toArray (by rw [h]; exact vQ_one _)
theorem Wc.there {c : List Value} {m : Nat} (h : Wc c m) {W : World} {b : Nat} {ds : List Value} {t : TypeId} (r : Row W b ds t) (hl : ds.length = 4) : W.there b 0 c.toArray.size := r.there 0 _ (by simp [h.len, hl])
theorem Wc.zero : Wc [.int .u64 0, .int .u64 0, .int .u64 0, .int .u64 0] 0 := rfl

section
variable {P : Program} {ops : Array Oper} {rest : List Oper} {op : Oper} {a : Act} {w : World} {Q : Exit → Act → World → Prop}
/-- A load of a whole row, guarded or not. -/
theorem wpList_load_w (hw : Region.wanted op (yielded ops a.tmps) = true) (ty : TypeId) (x : Operand) (ho : op.op = .load ty x)
    (b o : Nat) (hx : a.eval x = .pointer (some ⟨b, o, none⟩)) (cs : List Value) (d : TypeDesc) (hc : w.rangeAt b o cs)
    (hu : P.underlying ty = some d) (hd : d.isRow = true) (hi : (P.info? ty).map (·.size) = some cs.length)
    (h : wpList P ops Q rest (a.put op.dst (.agg cs.toArray)) w) : wpList P ops Q (op :: rest) a w :=
  BigFrame.wpList_want hw fun _ hK => wp_load_mid ty x ho b o hx cs d hc hu hd hi (hK _ _ h)
theorem wpList_eql_c (hw : Region.wanted op (yielded ops a.tmps) = true) (x y : Operand) (yt : TypeId) (ho : op.op = .binOp .eql 29 x y yt) {c d : List Value} {m n : Nat} (Hc : Wc c m) (Hd : Wc d n) (hm : m < 2 ^ 256) (hn : n < 2 ^ 256) (hx : a.eval x = .agg c.toArray) (hy : a.eval y = .agg d.toArray)
    {B : Bool} (hB : decide (m = n) = B) (h : wpList Try.prog ops Q rest (a.put op.dst (.bool B)) w) : wpList Try.prog ops Q (op :: rest) a w :=
  wpList_eql_wide hw x y yt ho m n hm hn (by rw [hx, Hc]) (by rw [hy, Hd]) (by rw [hB]; exact h)
theorem wpList_neq_c (hw : Region.wanted op (yielded ops a.tmps) = true) (x y : Operand) (yt : TypeId) (ho : op.op = .binOp .neq 29 x y yt) {c d : List Value} {m n : Nat} (Hc : Wc c m) (Hd : Wc d n) (hm : m < 2 ^ 256) (hn : n < 2 ^ 256) (hx : a.eval x = .agg c.toArray) (hy : a.eval y = .agg d.toArray)
    {B : Bool} (hB : (!decide (m = n)) = B) (h : wpList Try.prog ops Q rest (a.put op.dst (.bool B)) w) : wpList Try.prog ops Q (op :: rest) a w :=
  wpList_neq_wide hw x y yt ho m n hm hn (by rw [hx, Hc]) (by rw [hy, Hd]) (by rw [hB]; exact h)
theorem wp_eql_c {o : Oper} {K : Act → World → Prop} (x y : Operand) (yt : TypeId) (ho : o.op = .binOp .eql 29 x y yt) {c d : List Value} {m n : Nat} (Hc : Wc c m) (Hd : Wc d n) (hm : m < 2 ^ 256) (hn : n < 2 ^ 256) (hx : a.eval x = .agg c.toArray) (hy : a.eval y = .agg d.toArray)
    {B : Bool} (hB : decide (m = n) = B) (h : K (a.put o.dst (.bool B)) w) : Oper.wp Try.prog o a w K Q := by
  have hr := run_eql_w w (dgs m 4) (dgs n 4) (dgs_length _ _) (dgs_length _ _)
  rw [show decide (dgs m 4 = dgs n 4) = B by rw [← hB, Bool.eq_iff_iff]; simp only [decide_eq_true_eq]; exact dgs_eq m n hm hn] at hr
  rw [Hc] at hx
  rw [Hd] at hy
  unfold Oper.wp execOp
  simp only [ho, hx, hy, Sem.run_bind, run_eqGuard_agg w .eql _ x y _ _ guard_wide, Result.andThen_ok, hr, Sem.run_pure, Oper.upon_value]
  exact h
end

theorem add_c {ca cb : List Value} {a b : Nat} (Ha : Wc ca a) (Hb : Wc cb b) (ha : a < 2 ^ 256) (hb : b < 2 ^ 256) {r : Nat} {E : Int} (hr : addR a b = r) (hE : addE a b = E) (w : World) : Calls Try.prog 57 #[.agg ca.toArray, .agg cb.toArray] w fun e w' => ∃ c, Wc c r ∧ e = .returned (.tuple #[.agg c.toArray, .int .i64 E]) ∧ Below w.heap.size w w' := by
  subst hr hE; rw [Ha, Hb]
  exact (add_any a b ha hb w).mono fun e w' h => ⟨_, rfl, h.1, h.2⟩
theorem sub_c {ca cb : List Value} {a b : Nat} (Ha : Wc ca a) (Hb : Wc cb b) (ha : a < 2 ^ 256) (hb : b < 2 ^ 256) {r : Nat} {E : Int} (hr : subR a b = r) (hE : subE a b = E) (w : World) : Calls Try.prog 59 #[.agg ca.toArray, .agg cb.toArray] w fun e w' => ∃ c, Wc c r ∧ e = .returned (.tuple #[.agg c.toArray, .int .i64 E]) ∧ Below w.heap.size w w' := by
  subst hr hE; rw [Ha, Hb]
  exact (sub_any a b ha hb w).mono fun e w' h => ⟨_, rfl, h.1, h.2⟩
theorem mul_c {ca cb : List Value} {a b : Nat} (Ha : Wc ca a) (Hb : Wc cb b) (ha : a < 2 ^ 256) (hb : b < 2 ^ 256) {r : Nat} {E : Int} (hr : mulR a b = r) (hE : mulE a b = E) (w : World) : Calls Try.prog 60 #[.agg ca.toArray, .agg cb.toArray] w fun e w' => ∃ c, Wc c r ∧ e = .returned (.tuple #[.agg c.toArray, .int .i64 E]) ∧ Below w.heap.size w w' := by
  subst hr hE; rw [Ha, Hb]
  exact (mul_any a b ha hb w).mono fun e w' h => ⟨_, rfl, h.1, h.2⟩
theorem cmp_c {ca cb : List Value} {a b : Nat} (Ha : Wc ca a) (Hb : Wc cb b) (ha : a < 2 ^ 256) (hb : b < 2 ^ 256) {E : Int} (hE : cmpR a b = E) (w : World) : Calls Try.prog 63 #[.agg ca.toArray, .agg cb.toArray] w fun e w' => e = .returned (.int .i64 E) ∧ Below w.heap.size w w' := by
  subst hE; rw [Ha, Hb]
  exact cmp_any a b ha hb w
theorem div_c {ca cb : List Value} {a b : Nat} (Ha : Wc ca a) (Hb : Wc cb b) (ha : a < 2 ^ 256) (hb : b < 2 ^ 256) {q r : Nat} {E : Int} (hq : divQ a b = q) (hr : divR a b = r) (hE : divE b = E) (w : World) : Calls Try.prog 61 #[.agg ca.toArray, .agg cb.toArray] w fun e w' => ∃ c d, Wc c q ∧ Wc d r ∧ e = .returned (.tuple #[.agg c.toArray, .agg d.toArray, .int .i64 E]) ∧ Below w.heap.size w w' := by
  subst hq hr hE; rw [Ha, Hb]
  exact (div_any a b ha hb w).mono fun e w' h => ⟨_, _, rfl, rfl, h.1, h.2⟩
/-! ### The greatest number -/
def topDigs : List UInt8 := [49, 49, 53, 55, 57, 50, 48, 56, 57, 50, 51, 55, 51, 49, 54, 49, 57, 53, 52, 50, 51, 53, 55, 48, 57, 56, 53, 48, 48, 56, 54, 56, 55, 57, 48, 55, 56, 53, 51, 50, 54, 57, 57, 56, 52, 54, 54, 53, 54, 52, 48, 53, 54, 52, 48, 51, 57, 52, 53, 55, 53, 56, 52, 48, 48, 55, 57, 49, 51, 49, 50, 57, 54, 51, 57, 57, 51, 53]
theorem dec_top : decDigits 115792089237316195423570985008687907853269984665640564039457584007913129639935 = topDigs := by
  rw [Lib.decDigits_eq, Lib.nDigits_unique 77 _ (by decide) (by decide)]
  decide
theorem parse_top : parse (topDigs.map UInt8.toNat) = some 115792089237316195423570985008687907853269984665640564039457584007913129639935 := by
  have h := parse_nums 115792089237316195423570985008687907853269984665640564039457584007913129639935 (by decide)
  unfold nums at h
  rw [dec_top] at h
  exact h
theorem str_of (s : ByteArray) (l : List UInt8) (h : s.data.toList = l) : StrN s (l.map UInt8.toNat) := by
  subst h
  refine ⟨by rw [List.length_map]; rfl, fun x hx => ?_, fun i hi => ?_⟩
  · obtain ⟨y, _, rfl⟩ := List.mem_map.1 hx
    exact y.toNat_lt
  · have : i < s.data.size := hi
    rw [List.getD_eq_getElem?_getD, List.getElem?_map, Array.getElem?_toList, Array.getElem?_eq_getElem this]
    rfl
end Go.Proofs.Ytdlmighfmkhpkaa

namespace Go.Proofs.Ytdlmighfmkhpkaa
open Go Go.RowKit
open Wd

def vU (l : List Nat) : List Value := l.map (fun (x : Nat) => Value.int .u8 (x : Int))
theorem vU_length (l : List Nat) : (vU l).length = l.length := by simp [vU]
theorem vU_get (l : List Nat) (i : Nat) (h : i < l.length) : (vU l)[i]? = some (.int .u8 ((l.getD i 0 : Nat) : Int)) := by simp [vU, h]
theorem vU_set (l : List Nat) (i : Nat) (x : Nat) : (vU l).set i (.int .u8 (x : Int)) = vU (l.set i x) := by simp [vU, List.map_set]
theorem info_all_u8 : (Try.prog.info? 5).map (fun i => (i.zero, i.size, i.bytes)) = some (some (.int .u8 0), 1, 1) := by kernel_rfl
theorem made_u8s (n : Nat) : madeCells (Value.int IntKind.u8 0).cells (n * 1) = (vU (List.replicate n 0)).toArray := by
  apply Array.ext'
  rw [show (Value.int IntKind.u8 0).cells = #[Value.int IntKind.u8 0] from rfl, toList_madeCells_one]
  simp [vU]
section
variable {P : Program} {ops : Array Oper} {rest : List Oper} {op : Oper} {a : Act} {w : World} {Q : Exit → Act → World → Prop}
theorem wpList_make_u (hgd : op.guard = none) (t : TypeId) (x y : Operand) (ho : op.op = .makeSlice t x y) (e : TypeId) (n : Nat) (l l' : Int) (hl : l = (n : Int)) (hl' : l' = (n : Int)) (hx : a.eval x = .int .i64 l) (hy : a.eval y = .int .i64 l') (hn : n ≤ 35184372088832)
    (hu : P.underlying t = some (.slice e)) (hi : (P.info? e).map (fun i => (i.zero, i.size, i.bytes)) = some (some (.int .u8 0), 1, 1))
    (h : wpList P ops Q rest (a.put op.dst (.slice (some ⟨w.heap.size, 0, none⟩) n n)) (w.alloc (.cells (vU (List.replicate n 0)).toArray e))) : wpList P ops Q (op :: rest) a w :=
  wpList_plain hgd fun _ hK => by
    subst hl; subst hl'
    obtain ⟨i, hi0, hz, hs, hb⟩ := info_parts hi
    have hr := run_make (P := P) w t e i (.int .u8 0) hu hi0 hz .i64 .i64 (n : Int) (n : Int) (by omega) (by omega) (by rw [hb]; omega) (by omega)
    rw [hs, Int.toNat_natCast, made_u8s] at hr
    unfold Oper.wp execOp
    simp only [ho, hx, hy, Sem.run_bind, hr, Result.andThen_ok]
    exact hK _ _ h
end

/-- A list that a call owns, opened. -/
theorem owns_open {W : World} {M n : Nat} {v : Value} {xs : List Value} (h : W.ownsRow M 3 1 v n xs) (hn : 0 < n) : ∃ g cap sp, v = .slice (some ⟨g, 0, none⟩) n cap ∧ M ≤ g ∧ n ≤ cap ∧ cap ≤ maxLen ∧ Row W g (xs ++ sp) 3 ∧ xs.length = n ∧ sp.length = cap - n := by
  rcases h.2 with ⟨_, h0⟩ | ⟨g, cap, cur, hv, hg, hh, hc, hx, hs, ht⟩
  · omega
  · have h1 : xs.length = n := by simpa using h.1
    refine ⟨g, cap, cur.toList.drop n, hv, hg, hc, hx, ?_, h1, by simp [hs]⟩
    rw [← ht, Nat.mul_one, List.take_append_drop]
    unfold Row
    rw [hh]
theorem owns_shut {W : World} {M n g cap : Nat} {xs sp : List Value} (hg : M ≤ g) (hc : n ≤ cap) (hx : cap ≤ maxLen) (r : Row W g (xs ++ sp) 3) (h1 : xs.length = n) (h2 : sp.length = cap - n) : W.ownsRow M 3 1 (.slice (some ⟨g, 0, none⟩) n cap) n xs := by
  refine ⟨by simpa using h1, .inr ⟨g, cap, (xs ++ sp).toArray, rfl, hg, r, hc, hx, by simp; omega, ?_⟩⟩
  rw [Nat.mul_one, List.take_left' h1]

end Go.Proofs.Ytdlmighfmkhpkaa
