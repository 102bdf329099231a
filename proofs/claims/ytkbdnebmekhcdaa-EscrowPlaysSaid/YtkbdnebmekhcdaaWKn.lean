/-
  Numbers in cells, by a letter each; the calls by such letters.
-/
import Derived.Test.YtkbdnebmekhcdaaWEq
import Derived.Test.YtkbdnebmekhcdaaWDivU
import Derived.Test.YtkbdnebmekhcdaaWDvM
import Derived.Test.YtkbdnebmekhcdaaWCut
import Derived.Test.YtkbdnebmekhcdaaWDvN
import Derived.Test.YtkbdnebmekhcdaaWHalf
import Derived.Test.YtkbdnebmekhcdaaWBits
import Derived.Test.YtkbdnebmekhcdaaWInv
import Derived.Deep.RegionLaw
import Derived.Deep.LoopGhost
import Derived.WalkMore
import Derived.BigQuiet
import Derived.Test.YtkbdnebmekhcdaaWMul
import Derived.Test.YtkbdnebmekhcdaaWText
import Derived.Test.YtkbdnebmekhcdaaWCmp
import Derived.BigFrame

namespace Go.Proofs.Ytkbdnebmekhcdaa
open Go Go.RowKit
open Wd

theorem run_index_vQ {P : Program} (t e : TypeId) (n : Nat) (ht : P.underlying t = some (.array n e)) (he : P.underlying e = some (.int .u64)) (hsz : ∀ w, (sizeOf e).run P w = .ok 1 w) (xs : List Nat) (hx : xs.length = n) (i : Nat) (hi : i < n) (w : World) :
    (Instr.index t (.agg (vQ xs).toArray) (.int .i64 (i : Int))).run P w = .ok (.int .u64 ((xs.getD i 0 : Nat) : Int)) w := by
  have h1 : (0 : Int) ≤ (i : Int) ∧ (i : Int) < (n : Int) := by omega
  have hp : (part e (vQ xs).toArray i).run P w = .ok (.int .u64 ((xs.getD i 0 : Nat) : Int)) w := by
    simp [part, isAgg, run_underlying he, vQ, List.getElem?_eq_getElem (show i < xs.length by omega)]
  simp [Instr.index, run_underlying ht, asIntOf, hsz, hp, hi]

/-! ### shiftDown -/
theorem dnpart (R s t : Nat) (hs : s ≤ 63) (ht : t < 4) : (dgs (R / 2 ^ s) t ++ List.replicate (4 - t) 0).set t (lim R t / 2 ^ s ||| (lim R (t + 1) * 2 ^ (64 - s) % 18446744073709551616)) = dgs (R / 2 ^ s) (t + 1) ++ List.replicate (4 - (t + 1)) 0 := by
  rw [down_part R s t hs, fill _ t 4 _ (dgs_length _ _) ht, ← dgs_succ]

end Go.Proofs.Ytkbdnebmekhcdaa

namespace Go.Proofs.Ytkbdnebmekhcdaa
open Go Go.RowKit
open Wd

end Go.Proofs.Ytkbdnebmekhcdaa

namespace Go.Proofs.Ytkbdnebmekhcdaa
open Go Go.RowKit
open Wd
namespace Wd
/-- What holds at round t. -/
structure Tk (R Y q k n t : Nat) (l : List Nat) (c b : Nat) : Prop where
  len : l.length = 9
  lt : ∀ x ∈ l, x < 18446744073709551616
  cl : c < 18446744073709551616
  bl : b ≤ 1
  top : ∀ j, k + n + 1 ≤ j → l.getD j 0 = 0
  sum : num l + q * (Y % 18446744073709551616 ^ t) * 18446744073709551616 ^ k = R + (c + b) * 18446744073709551616 ^ (k + t)
theorem get_lt (l : List Nat) (k : Nat) (h : ∀ x ∈ l, x < 18446744073709551616) : l.getD k 0 < 18446744073709551616 := by
  by_cases hk : k < l.length
  · rw [List.getD_eq_getElem?_getD, List.getElem?_eq_getElem hk]; exact h _ (List.getElem_mem _)
  · rw [List.getD_eq_getElem?_getD, List.getElem?_eq_none (by omega)]; decide
theorem pow_le (a b : Nat) (h : a ≤ b) : 18446744073709551616 ^ a ≤ 18446744073709551616 ^ b := Nat.pow_le_pow_right (by decide) h
theorem lim_above (R j m : Nat) (h : R < 18446744073709551616 ^ m) (hj : m ≤ j) : lim R j = 0 := by
  rw [lim_pow, Nat.div_eq_of_lt (Nat.lt_of_lt_of_le h (pow_le _ _ hj))]
theorem Tk.start (R Y q k n : Nat) (hk : k + n ≤ 8) (hR : R < 18446744073709551616 ^ (k + n + 1)) : Tk R Y q k n 0 (dgs R 9) 0 0 := by
  refine ⟨dgs_length _ _, all_dgs _ _, by decide, by decide, fun j hj => ?_, ?_⟩
  · by_cases h9 : j < 9
    · rw [dgs_getD _ _ _ h9, lim_above R j _ hR hj]
    · rw [List.getD_eq_getElem?_getD, List.getElem?_eq_none (by rw [dgs_length]; omega)]; rfl
  · rw [num_dgs' R 9 (Nat.lt_of_lt_of_le hR (pow_le _ _ (by omega)))]; simp [Nat.mod_one]
theorem sub_eq (x lo b : Nat) (hx : x < 18446744073709551616) (hl : lo < 18446744073709551616) (hb : b ≤ 1) : (x + 18446744073709551616 - lo - b) % 18446744073709551616 + lo + b = x + (if x < lo + b then 1 else 0) * 18446744073709551616 := by
  split <;> omega
theorem set_top (l : List Nat) (i v m : Nat) (hi : i < m) (h : ∀ j, m ≤ j → l.getD j 0 = 0) : ∀ j, m ≤ j → (l.set i v).getD j 0 = 0 := fun j hj => by
  rw [List.getD_eq_getElem?_getD, List.getElem?_set_ne (by omega), ← List.getD_eq_getElem?_getD]; exact h j hj
theorem Tk.step {R Y q k n t : Nat} {l : List Nat} {c b : Nat} (h : Tk R Y q k n t l c b) (hq : q < 18446744073709551616) (ht : t < n) (hk : k + n ≤ 8) :
    Tk R Y q k n (t + 1) (l.set (k + t) ((l.getD (k + t) 0 + 18446744073709551616 - (lim Y t * q + c) % 18446744073709551616 - b) % 18446744073709551616)) ((lim Y t * q + c) / 18446744073709551616) (if l.getD (k + t) 0 < (lim Y t * q + c) % 18446744073709551616 + b then 1 else 0) := by
  have hy := lim_lt Y t
  refine ⟨by rw [List.length_set]; exact h.len, set_all _ _ _ h.lt (Nat.mod_lt _ (by decide)), ?_, by split <;> omega, set_top _ _ _ _ (by omega) h.top, ?_⟩
  · have := h.cl
    have h1 : lim Y t * q ≤ 18446744073709551615 * 18446744073709551615 := Nat.mul_le_mul (by omega) (by omega)
    refine Nat.div_lt_of_lt_mul ?_
    omega
  · exact take_step l R Y q c b k t _ _ _ _ _ (by rw [h.len]; omega) rfl h.sum (by rw [Nat.mul_comm (_ / _)]; exact (Nat.div_add_mod _ _).symm) (sub_eq _ _ _ (get_lt _ _ h.lt) (Nat.mod_lt _ (by decide)) h.bl)
theorem Tk.last {R Y q k n : Nat} {l : List Nat} {c b : Nat} (h : Tk R Y q k n n l c b) (hY : Y < 18446744073709551616 ^ n) (hk : k + n ≤ 8) :
    ((if l.getD (k + n) 0 < c + b then 1 else 0 : Nat) = 0 ↔ q * Y * 18446744073709551616 ^ k ≤ R) ∧ (q * Y * 18446744073709551616 ^ k ≤ R → l.set (k + n) ((l.getD (k + n) 0 + 18446744073709551616 - c - b) % 18446744073709551616) = dgs (R - q * Y * 18446744073709551616 ^ k) 9) := by
  have hs := take_last l R Y q c b k n _ _ _ (by rw [h.len]; omega) rfl hY h.sum (sub_eq _ _ _ (get_lt _ _ h.lt) h.cl h.bl)
  have hall := set_all l (k + n) ((l.getD (k + n) 0 + 18446744073709551616 - c - b) % 18446744073709551616) h.lt (Nat.mod_lt _ (by decide))
  have hX := num_top _ (k + n + 1) hall (set_top l (k + n) _ (k + n + 1) (by omega) h.top)
  have he := take_enough _ R (q * Y * 18446744073709551616 ^ k) _ k n (by split <;> omega) hX hs
  refine ⟨he.1, fun hle => ?_⟩
  have hd := dgs_num _ hall
  rw [List.length_set, h.len, he.2 (he.1.2 hle)] at hd
  exact hd.symm
end Wd

end Go.Proofs.Ytkbdnebmekhcdaa

namespace Go.Proofs.Ytkbdnebmekhcdaa
open Go Go.RowKit
open Wd

theorem dbl_list (n : Nat) (hn : n < 2 ^ 256) : vQ (dgs n 4) ++ vQ (List.replicate 4 0) = vQ (dgs n 8) := by
  rw [← vQ_append]
  congr 1
  have h := dgs_num (dgs n 4 ++ List.replicate 4 0) (by
    intro x hx
    rcases List.mem_append.1 hx with h | h
    · exact all_dgs _ _ x h
    · rw [List.eq_of_mem_replicate h]; decide)
  have e : num (dgs n 4 ++ List.replicate 4 0) = n := by
    have h4 : n < 18446744073709551616 ^ 4 := by simpa using hn
    have := num_dgs' n 4 h4
    rw [show dgs n 4 = [lim n 0, lim n 1, lim n 2, lim n 3] from rfl] at this ⊢
    simp [num, List.replicate] at this ⊢
    exact this
  rw [e] at h
  exact h.symm

end Go.Proofs.Ytkbdnebmekhcdaa

namespace Go.Proofs.Ytkbdnebmekhcdaa
open Go Go.RowKit
open Wd

theorem drewN_add (w : World) (m k : Nat) : (w.drewN m).drewN k = w.drewN (m + k) := by simp [World.drewN, Nat.add_assoc]
theorem eight (n : Nat) : dgs n 8 = [lim n 0, lim n 1, lim n 2, lim n 3, lim n 4, lim n 5, lim n 6, lim n 7] := rfl

end Go.Proofs.Ytkbdnebmekhcdaa

namespace Go.Proofs.Ytkbdnebmekhcdaa
open Go Go.RowKit
open Wd
namespace Wd
def divQ (a b : Nat) : Nat := if b = 0 then 0 else a / b
def divR (a b : Nat) : Nat := if b = 0 then 0 else a % b
def divE (b : Nat) : Int := if b = 0 then 24 else 0
def mdR (a b c : Nat) : Nat := if c = 0 then 0 else if a * b / c < 2 ^ 256 then a * b / c else 0
def mdE (a b c : Nat) : Int := if c = 0 then 24 else if a * b / c < 2 ^ 256 then 0 else 22
end Wd
theorem wp_alloc4 {o : Oper} {a : Act} {w : World} {K : Act → World → Prop} {Q : Exit → Act → World → Prop} (ho : o.op = .alloc 33) (h : K (a.put o.dst (.pointer (some ⟨w.heap.size, 0, none⟩))) (w.alloc (.cells (vQ (List.replicate 4 0)).toArray 33))) : Oper.wp Try.prog o a w K Q := by
  obtain ⟨dst, op, ty, pos, after, guard⟩ := o
  simp only at ho
  subst ho
  unfold Oper.wp
  go_simp
  exact h
theorem results_rows_tmp {P : Program} {fn : Func} {p q r : Tmp} {ty tz : TypeId} {n m : Nat} {e e' : TypeId} (h : fn.results = #[.cell p ty, .cell q tz, .tmp r]) (tmps : Array Value) (w : World) (g g' : Nat) (t t' : TypeId) (cs ds : List Value) (v : Value)
    (hp : tmps.getD p undef = .pointer (some ⟨g, 0, none⟩)) (hq : tmps.getD q undef = .pointer (some ⟨g', 0, none⟩)) (hv : tmps.getD r undef = v) (hg : Row w g cs t) (hg' : Row w g' ds t') (hu : P.underlying ty = some (.array n e)) (hi : (P.info? ty).map (·.size) = some n) (hl : cs.length = n) (hu' : P.underlying tz = some (.array m e')) (hi' : (P.info? tz).map (·.size) = some m) (hl' : ds.length = m) :
    (results fn tmps).run P w = .ok (.tuple #[.agg cs.toArray, .agg ds.toArray, v]) w := by
  have hp' : tmps[p]?.getD undef = .pointer (some ⟨g, 0, none⟩) := by simpa using hp
  have hq' : tmps[q]?.getD undef = .pointer (some ⟨g', 0, none⟩) := by simpa using hq
  have hv' : tmps[r]?.getD undef = v := by simpa using hv
  have hr := run_loadVar_row (P := P) w g t ty cs.toArray (0, 0) (.array n e) hg hu rfl (by simp [hi, hl])
  have hr' := run_loadVar_row (P := P) w g' t' tz ds.toArray (0, 0) (.array m e') hg' hu' rfl (by simp [hi', hl'])
  simp [results, h, hp', hq', hv', asAddr, hr, hr']

end Go.Proofs.Ytkbdnebmekhcdaa

namespace Go.Proofs.Ytkbdnebmekhcdaa
open Go Go.RowKit
open Wd
open Go.Lib (decDigits nDigits)

/-- The cells c are the parts of m. -/
def Wc (c : List Value) (m : Nat) : Prop := c = vQ (dgs m 4)
theorem Wc.len {c : List Value} {m : Nat} (h : Wc c m) : c.length = 4 := by rw [h, vQ_length, dgs_length]
theorem Wc.info {c : List Value} {m : Nat} (h : Wc c m) : (Try.prog.info? 33).map (·.size) = some c.length := by rw [info_w4, h.len]
theorem Wc.info' {c : List Value} {m : Nat} (h : Wc c m) : (Try.prog.info? 33).map (·.size) = some c.toArray.size := by rw [info_w4]; simp [h.len]
theorem Wc.one {c : List Value} {m : Nat} (h : Wc c m) : c.toArray.all (·.oneCell') = true := all_oneCell_toArray (by rw [h]; exact vQ_one _)
theorem Wc.there {c : List Value} {m : Nat} (h : Wc c m) {W : World} {b : Nat} {ds : List Value} {t : TypeId} (r : Row W b ds t) (hl : ds.length = 4) : W.there b 0 c.toArray.size := r.there 0 _ (by simp [h.len, hl])
theorem Wc.zero : Wc [.int .u64 0, .int .u64 0, .int .u64 0, .int .u64 0] 0 := rfl

section
variable {P : Program} {ops : Array Oper} {rest : List Oper} {op : Oper} {a : Act} {w : World} {Q : Exit → Act → World → Prop}
/-- A load of a whole row, guarded or not. -/
theorem wpList_load_w (hw : Region.wanted op (yielded ops a.tmps) = true) (ty : TypeId) (x : Operand) (ho : op.op = .load ty x)
    (b o : Nat) (hx : a.eval x = .pointer (some ⟨b, o, none⟩)) (cs : List Value) (d : TypeDesc) (hc : w.rangeAt b o cs)
    (hu : P.underlying ty = some d) (hd : d.isRow = true) (hi : (P.info? ty).map (·.size) = some cs.length)
    (h : wpList P ops Q rest (a.put op.dst (.agg cs.toArray)) w) : wpList P ops Q (op :: rest) a w :=
  BigFrame.wpList_want hw fun _ hK => wp_load_mid ty x ho b o hx cs d hc hu hd hi (hK _ _ h)
theorem wpList_eql_c (hw : Region.wanted op (yielded ops a.tmps) = true) (x y : Operand) (yt : TypeId) (ho : op.op = .binOp .eql 33 x y yt) {c d : List Value} {m n : Nat} (Hc : Wc c m) (Hd : Wc d n) (hm : m < 2 ^ 256) (hn : n < 2 ^ 256) (hx : a.eval x = .agg c.toArray) (hy : a.eval y = .agg d.toArray)
    {B : Bool} (hB : decide (m = n) = B) (h : wpList Try.prog ops Q rest (a.put op.dst (.bool B)) w) : wpList Try.prog ops Q (op :: rest) a w :=
  wpList_eql_wide hw x y yt ho m n hm hn (by rw [hx, Hc]) (by rw [hy, Hd]) (by rw [hB]; exact h)
theorem wpList_neq_c (hw : Region.wanted op (yielded ops a.tmps) = true) (x y : Operand) (yt : TypeId) (ho : op.op = .binOp .neq 33 x y yt) {c d : List Value} {m n : Nat} (Hc : Wc c m) (Hd : Wc d n) (hm : m < 2 ^ 256) (hn : n < 2 ^ 256) (hx : a.eval x = .agg c.toArray) (hy : a.eval y = .agg d.toArray)
    {B : Bool} (hB : (!decide (m = n)) = B) (h : wpList Try.prog ops Q rest (a.put op.dst (.bool B)) w) : wpList Try.prog ops Q (op :: rest) a w :=
  wpList_neq_wide hw x y yt ho m n hm hn (by rw [hx, Hc]) (by rw [hy, Hd]) (by rw [hB]; exact h)
theorem wp_eql_c {o : Oper} {K : Act → World → Prop} (x y : Operand) (yt : TypeId) (ho : o.op = .binOp .eql 33 x y yt) {c d : List Value} {m n : Nat} (Hc : Wc c m) (Hd : Wc d n) (hm : m < 2 ^ 256) (hn : n < 2 ^ 256) (hx : a.eval x = .agg c.toArray) (hy : a.eval y = .agg d.toArray)
    {B : Bool} (hB : decide (m = n) = B) (h : K (a.put o.dst (.bool B)) w) : Oper.wp Try.prog o a w K Q := by
  have hr := run_eql_w w (dgs m 4) (dgs n 4) (dgs_length _ _) (dgs_length _ _)
  rw [show decide (dgs m 4 = dgs n 4) = B by rw [← hB, Bool.eq_iff_iff]; simp only [decide_eq_true_eq]; exact dgs_eq m n hm hn] at hr
  rw [Hc] at hx
  rw [Hd] at hy
  unfold Oper.wp execOp
  simp only [ho, hx, hy, Sem.run_bind, run_eqGuard_agg w .eql _ x y _ _ guard_wide, Result.andThen_ok, hr, Sem.run_pure, Oper.upon_value]
  exact h
end

theorem add_c {ca cb : List Value} {a b : Nat} (Ha : Wc ca a) (Hb : Wc cb b) (ha : a < 2 ^ 256) (hb : b < 2 ^ 256) {r : Nat} {E : Int} (hr : addR a b = r) (hE : addE a b = E) (w : World) : Calls Try.prog 51 #[.agg ca.toArray, .agg cb.toArray] w fun e w' => ∃ c, Wc c r ∧ e = .returned (.tuple #[.agg c.toArray, .int .i64 E]) ∧ Below w.heap.size w w' := by
  subst hr hE; rw [Ha, Hb]
  exact (add_any a b ha hb w).mono fun e w' h => ⟨_, rfl, h.1, h.2⟩
theorem sub_c {ca cb : List Value} {a b : Nat} (Ha : Wc ca a) (Hb : Wc cb b) (ha : a < 2 ^ 256) (hb : b < 2 ^ 256) {r : Nat} {E : Int} (hr : subR a b = r) (hE : subE a b = E) (w : World) : Calls Try.prog 52 #[.agg ca.toArray, .agg cb.toArray] w fun e w' => ∃ c, Wc c r ∧ e = .returned (.tuple #[.agg c.toArray, .int .i64 E]) ∧ Below w.heap.size w w' := by
  subst hr hE; rw [Ha, Hb]
  exact (sub_any a b ha hb w).mono fun e w' h => ⟨_, rfl, h.1, h.2⟩
/-! ### The greatest number -/
def topDigs : List UInt8 := [49, 49, 53, 55, 57, 50, 48, 56, 57, 50, 51, 55, 51, 49, 54, 49, 57, 53, 52, 50, 51, 53, 55, 48, 57, 56, 53, 48, 48, 56, 54, 56, 55, 57, 48, 55, 56, 53, 51, 50, 54, 57, 57, 56, 52, 54, 54, 53, 54, 52, 48, 53, 54, 52, 48, 51, 57, 52, 53, 55, 53, 56, 52, 48, 48, 55, 57, 49, 51, 49, 50, 57, 54, 51, 57, 57, 51, 53]
theorem dec_top : decDigits 115792089237316195423570985008687907853269984665640564039457584007913129639935 = topDigs := by
  rw [Lib.decDigits_eq, Lib.nDigits_unique 77 _ (by decide) (by decide)]
  decide
theorem parse_top : parse (topDigs.map UInt8.toNat) = some 115792089237316195423570985008687907853269984665640564039457584007913129639935 := by
  have h := parse_nums 115792089237316195423570985008687907853269984665640564039457584007913129639935 (by decide)
  unfold nums at h
  rw [dec_top] at h
  exact h
theorem str_of (s : ByteArray) (l : List UInt8) (h : s.data.toList = l) : StrN s (l.map UInt8.toNat) := by
  subst h
  refine ⟨by rw [List.length_map]; rfl, fun x hx => ?_, fun i hi => ?_⟩
  · obtain ⟨y, _, rfl⟩ := List.mem_map.1 hx
    exact y.toNat_lt
  · have : i < s.data.size := hi
    rw [List.getD_eq_getElem?_getD, List.getElem?_map, Array.getElem?_toList, Array.getElem?_eq_getElem this]
    rfl
end Go.Proofs.Ytkbdnebmekhcdaa
