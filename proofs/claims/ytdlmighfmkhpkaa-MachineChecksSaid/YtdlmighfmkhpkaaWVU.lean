/-
  Lists of bytes told as natural numbers; a list that a call owns, opened and shut.
-/
import Derived.Test.YtdlmighfmkhpkaaWParse
import Derived.Test.YtdlmighfmkhpkaaWCutM
import Derived.Shelf.Strconv.Itoa1
import Derived.Shelf.LaysM
import Derived.Shelf.Strconv.Itoa2
import Derived.Test.YtdlmighfmkhpkaaProg
import Derived.Test.YtdlmighfmkhpkaaMem
import Derived.Lib.ItoaMem
import Derived.Lib.AppendIntMem
import Derived.Lib.Hide
import Derived.BigCall
import Derived.BigGuard
import Derived.Test.YtdlmighfmkhpkaaWCut
import Derived.Test.YtdlmighfmkhpkaaWHalf
import Derived.Test.YtdlmighfmkhpkaaWInv
import Derived.Test.YtdlmighfmkhpkaaWDivv
import Derived.Test.YtdlmighfmkhpkaaWCmp
import Derived.BigFrame
import Derived.Laws.AppendOwn

namespace Go.Proofs.Ytdlmighfmkhpkaa
open Go Go.RowKit
open Wd
namespace Wd
open Go.Lib (decDigits nDigits dg)
theorem pars_append : ∀ (l r : List Nat) (a : Nat), pars (l ++ r) a = (pars l a).bind (pars r)
  | [], r, a => by simp [pars]
  | c :: l, r, a => by
    rw [List.cons_append]
    simp only [pars]
    split
    · rfl
    · split
      · exact pars_append l r _
      · rfl
/-- The bytes of a numeral as numbers. -/
def nums (u : Nat) : List Nat := (decDigits u).map UInt8.toNat
theorem dig_toNat (d : Nat) (h : d < 10) : (UInt8.ofNat (48 + d)).toNat = 48 + d := by
  rw [UInt8.toNat_ofNat']; omega
theorem nums_small (u : Nat) (h : u < 10) : nums u = [48 + u] := by
  unfold nums; rw [Lib.decDigits_one h, List.map_cons, List.map_nil, dig_toNat u h]
theorem nums_big (u : Nat) (h : ¬ u < 10) : nums u = nums (u / 10) ++ [48 + u % 10] := by
  unfold nums; rw [decDigits_big h, List.map_append, List.map_cons, List.map_nil, dig_toNat _ (by omega)]
theorem nums_head (u : Nat) : ∃ c r, nums u = c :: r ∧ (c = 48 → u = 0 ∧ r = []) := by
  induction u using Nat.strongRecOn with
  | ind u ih =>
    by_cases h : u < 10
    · exact ⟨48 + u, [], nums_small u h, fun e => ⟨by omega, rfl⟩⟩
    · obtain ⟨c, r, e, hz⟩ := ih (u / 10) (by omega)
      refine ⟨c, r ++ [48 + u % 10], by rw [nums_big u h, e]; rfl, fun ec => ?_⟩
      have := (hz ec).1
      omega
theorem pars_nums (u : Nat) (hu : u < 2 ^ 256) : pars (nums u) 0 = some u := by
  induction u using Nat.strongRecOn with
  | ind u ih =>
    by_cases h : u < 10
    · rw [nums_small u h]
      simp only [pars]
      rw [if_neg (by omega), if_pos (by omega)]
      congr 1; omega
    · rw [nums_big u h, pars_append, ih (u / 10) (by omega) (by omega)]
      simp only [Option.bind_some, pars]
      rw [if_neg (by omega), if_pos (by omega)]
      congr 1; omega
theorem parse_nums (u : Nat) (hu : u < 2 ^ 256) : parse (nums u) = some u := by
  unfold parse
  obtain ⟨c, r, e, hz⟩ := nums_head u
  rw [if_neg, pars_nums u hu]
  rw [e]
  rintro (h | ⟨h1, h2⟩)
  · simp at h
  · rw [List.getD_cons_zero] at h1
    rw [(hz h1).2] at h2
    simp at h2
/-- What Parse reads is the numeral of what it answers. -/
theorem pars_back : ∀ (l : List Nat) (a m : Nat), pars l a = some m → (0 < a ∨ l.getD 0 0 ≠ 48) → l ≠ [] → m < 2 ^ 256 ∧ nums m = (if a = 0 then [] else nums a) ++ l
  | [], _, _, _, _, h => absurd rfl h
  | c :: r, a, m, h, ha, _ => by
    simp only [pars] at h
    by_cases h1 : c < 48 ∨ 57 < c
    · rw [if_pos h1] at h; simp at h
    rw [if_neg h1] at h
    by_cases h2 : 10 * a + (c - 48) < 2 ^ 256
    · rw [if_pos h2] at h
      have hp : 0 < 10 * a + (c - 48) := by
        rcases ha with ha | ha
        · omega
        · simp at ha; omega
      have e0 : nums (10 * a + (c - 48)) = (if a = 0 then [] else nums a) ++ [c] := by
        by_cases hz : a = 0
        · subst hz
          rw [if_pos rfl, List.nil_append, nums_small _ (by omega)]
          congr 1; omega
        · rw [if_neg hz, nums_big _ (by omega), show (10 * a + (c - 48)) / 10 = a by omega, show 48 + (10 * a + (c - 48)) % 10 = c by omega]
      cases r with
      | nil =>
        simp only [pars, Option.some.injEq] at h
        subst h
        exact ⟨h2, e0⟩
      | cons d r =>
        obtain ⟨g1, g2⟩ := pars_back (d :: r) (10 * a + (c - 48)) m h (Or.inl hp) (by simp)
        refine ⟨g1, ?_⟩
        rw [g2, if_neg (by omega), e0, List.append_assoc]
        rfl
    · rw [if_neg h2] at h; simp at h
theorem parse_back (l : List Nat) (m : Nat) (h : parse l = some m) : m < 2 ^ 256 ∧ nums m = l := by
  unfold parse at h
  by_cases h0 : l = [] ∨ (l.getD 0 0 = 48 ∧ 1 < l.length)
  · rw [if_pos h0] at h; simp at h
  rw [if_neg h0] at h
  by_cases h1 : l.getD 0 0 = 48
  · have h2 : ¬ 1 < l.length := fun h3 => h0 (Or.inr ⟨h1, h3⟩)
    match l, h0, h1, h2, h with
    | [], h0, _, _, _ => exact absurd (Or.inl rfl) h0
    | [c], _, h1, _, h =>
      rw [List.getD_cons_zero] at h1
      subst h1
      simp [pars] at h
      subst h
      exact ⟨by decide, by rw [nums_small 0 (by decide)]⟩
    | _ :: _ :: _, _, _, h2, _ => simp at h2
  · obtain ⟨g1, g2⟩ := pars_back l 0 m h (Or.inr h1) (fun e => h0 (Or.inl e))
    exact ⟨g1, by rw [g2]; rfl⟩

end Wd
end Go.Proofs.Ytdlmighfmkhpkaa

namespace Go.Proofs.Ytdlmighfmkhpkaa
open Go Go.Shelf Go.RowKit Go.Sort Go.Lib
end Go.Proofs.Ytdlmighfmkhpkaa

namespace Go.Proofs.Ytdlmighfmkhpkaa
open Go Go.RowKit Go.Sort Go.Lib

end Go.Proofs.Ytdlmighfmkhpkaa

namespace Go.Proofs.Ytdlmighfmkhpkaa
open Go Go.RowKit
open Wd
open Go.Lib (decDigits nDigits)

/-- The table of powers. -/
def P10 (w : World) : Prop := Lib.TabIs Try.prog w "internal/strconv.uint64pow10" .u64 Lib.pow10Tab
theorem join3 (a b c : List UInt8) : (⟨a.toArray⟩ : ByteArray) ++ (⟨b.toArray⟩ : ByteArray) ++ (⟨c.toArray⟩ : ByteArray) = ⟨(a ++ (b ++ c)).toArray⟩ := by
  apply ByteArray.ext
  simp
theorem nought_cut (n : Nat) (h : n ≤ 19) : (⟨#[48, 48, 48, 48, 48, 48, 48, 48, 48, 48, 48, 48, 48, 48, 48, 48, 48, 48, 48]⟩ : ByteArray).extract n 19 = ⟨(List.replicate (19 - n) (48 : UInt8)).toArray⟩ := by
  have : ∀ k : Fin 20, (⟨#[48, 48, 48, 48, 48, 48, 48, 48, 48, 48, 48, 48, 48, 48, 48, 48, 48, 48, 48]⟩ : ByteArray).extract k.val 19 = ⟨(List.replicate (19 - k.val) (48 : UInt8)).toArray⟩ := by decide
  exact this ⟨n, by omega⟩

theorem slice_noughts (W : World) (n : Nat) (h : n ≤ 19) : (Instr.slice 9 (.string ⟨#[48, 48, 48, 48, 48, 48, 48, 48, 48, 48, 48, 48, 48, 48, 48, 48, 48, 48, 48]⟩) (some (.int .i64 (n : Int))) none none).run Try.prog W = .ok (.string ⟨(List.replicate (19 - n) (48 : UInt8)).toArray⟩) W := by
  rw [run_slice_string_l W 9 _ Try.underlying9 .i64 (n : Int) (by omega) (by show (n : Int) ≤ 19; omega), ← nought_cut n h]
  rfl

end Go.Proofs.Ytdlmighfmkhpkaa

namespace Go.Proofs.Ytdlmighfmkhpkaa
open Go Go.RowKit
open Wd
open Go.Lib (decDigits nDigits)

/-- The cells c are the parts of m. -/
def Wc (c : List Value) (m : Nat) : Prop := c = vQ (dgs m 4)
theorem Wc.len {c : List Value} {m : Nat} (h : Wc c m) : c.length = 4 := by rw [h, vQ_length, dgs_length]
theorem Wc.info {c : List Value} {m : Nat} (h : Wc c m) : (Try.prog.info? 29).map (·.size) = some c.length := by rw [info_w4, h.len]
theorem Wc.info' {c : List Value} {m : Nat} (h : Wc c m) : (Try.prog.info? 29).map (·.size) = some c.toArray.size := by rw [info_w4]; simp [h.len]
theorem Wc.one {c : List Value} {m : Nat} (h : Wc c m) : c.toArray.all (·.oneCell') = true := all_oneCell_toArray (by rw [h]; exact vQ_one _)
theorem Wc.there {c : List Value} {m : Nat} (h : Wc c m) {W : World} {b : Nat} {ds : List Value} {t : TypeId} (r : Row W b ds t) (hl : ds.length = 4) : W.there b 0 c.toArray.size := r.there 0 _ (by simp [h.len, hl])
theorem Wc.zero : Wc [.int .u64 0, .int .u64 0, .int .u64 0, .int .u64 0] 0 := rfl

section
variable {P : Program} {ops : Array Oper} {rest : List Oper} {op : Oper} {a : Act} {w : World} {Q : Exit → Act → World → Prop}
/-- A load of a whole row, guarded or not. -/
theorem wpList_load_w (hw : Region.wanted op (yielded ops a.tmps) = true) (ty : TypeId) (x : Operand) (ho : op.op = .load ty x)
    (b o : Nat) (hx : a.eval x = .pointer (some ⟨b, o, none⟩)) (cs : List Value) (d : TypeDesc) (hc : w.rangeAt b o cs)
    (hu : P.underlying ty = some d) (hd : d.isRow = true) (hi : (P.info? ty).map (·.size) = some cs.length)
    (h : wpList P ops Q rest (a.put op.dst (.agg cs.toArray)) w) : wpList P ops Q (op :: rest) a w :=
  BigFrame.wpList_want hw fun _ hK => wp_load_mid ty x ho b o hx cs d hc hu hd hi (hK _ _ h)
theorem wpList_eql_c (hw : Region.wanted op (yielded ops a.tmps) = true) (x y : Operand) (yt : TypeId) (ho : op.op = .binOp .eql 29 x y yt) {c d : List Value} {m n : Nat} (Hc : Wc c m) (Hd : Wc d n) (hm : m < 2 ^ 256) (hn : n < 2 ^ 256) (hx : a.eval x = .agg c.toArray) (hy : a.eval y = .agg d.toArray)
    {B : Bool} (hB : decide (m = n) = B) (h : wpList Try.prog ops Q rest (a.put op.dst (.bool B)) w) : wpList Try.prog ops Q (op :: rest) a w :=
  wpList_eql_wide hw x y yt ho m n hm hn (by rw [hx, Hc]) (by rw [hy, Hd]) (by rw [hB]; exact h)
theorem wpList_neq_c (hw : Region.wanted op (yielded ops a.tmps) = true) (x y : Operand) (yt : TypeId) (ho : op.op = .binOp .neq 29 x y yt) {c d : List Value} {m n : Nat} (Hc : Wc c m) (Hd : Wc d n) (hm : m < 2 ^ 256) (hn : n < 2 ^ 256) (hx : a.eval x = .agg c.toArray) (hy : a.eval y = .agg d.toArray)
    {B : Bool} (hB : (!decide (m = n)) = B) (h : wpList Try.prog ops Q rest (a.put op.dst (.bool B)) w) : wpList Try.prog ops Q (op :: rest) a w :=
  wpList_neq_wide hw x y yt ho m n hm hn (by rw [hx, Hc]) (by rw [hy, Hd]) (by rw [hB]; exact h)
theorem wp_eql_c {o : Oper} {K : Act → World → Prop} (x y : Operand) (yt : TypeId) (ho : o.op = .binOp .eql 29 x y yt) {c d : List Value} {m n : Nat} (Hc : Wc c m) (Hd : Wc d n) (hm : m < 2 ^ 256) (hn : n < 2 ^ 256) (hx : a.eval x = .agg c.toArray) (hy : a.eval y = .agg d.toArray)
    {B : Bool} (hB : decide (m = n) = B) (h : K (a.put o.dst (.bool B)) w) : Oper.wp Try.prog o a w K Q := by
  have hr := run_eql_w w (dgs m 4) (dgs n 4) (dgs_length _ _) (dgs_length _ _)
  rw [show decide (dgs m 4 = dgs n 4) = B by rw [← hB, Bool.eq_iff_iff]; simp only [decide_eq_true_eq]; exact dgs_eq m n hm hn] at hr
  rw [Hc] at hx
  rw [Hd] at hy
  unfold Oper.wp execOp
  simp only [ho, hx, hy, Sem.run_bind, run_eqGuard_agg w .eql _ x y _ _ guard_wide, Result.andThen_ok, hr, Sem.run_pure, Oper.upon_value]
  exact h
end

theorem add_c {ca cb : List Value} {a b : Nat} (Ha : Wc ca a) (Hb : Wc cb b) (ha : a < 2 ^ 256) (hb : b < 2 ^ 256) {r : Nat} {E : Int} (hr : addR a b = r) (hE : addE a b = E) (w : World) : Calls Try.prog 57 #[.agg ca.toArray, .agg cb.toArray] w fun e w' => ∃ c, Wc c r ∧ e = .returned (.tuple #[.agg c.toArray, .int .i64 E]) ∧ Below w.heap.size w w' := by
  subst hr hE; rw [Ha, Hb]
  exact (add_any a b ha hb w).mono fun e w' h => ⟨_, rfl, h.1, h.2⟩
theorem sub_c {ca cb : List Value} {a b : Nat} (Ha : Wc ca a) (Hb : Wc cb b) (ha : a < 2 ^ 256) (hb : b < 2 ^ 256) {r : Nat} {E : Int} (hr : subR a b = r) (hE : subE a b = E) (w : World) : Calls Try.prog 59 #[.agg ca.toArray, .agg cb.toArray] w fun e w' => ∃ c, Wc c r ∧ e = .returned (.tuple #[.agg c.toArray, .int .i64 E]) ∧ Below w.heap.size w w' := by
  subst hr hE; rw [Ha, Hb]
  exact (sub_any a b ha hb w).mono fun e w' h => ⟨_, rfl, h.1, h.2⟩
theorem mul_c {ca cb : List Value} {a b : Nat} (Ha : Wc ca a) (Hb : Wc cb b) (ha : a < 2 ^ 256) (hb : b < 2 ^ 256) {r : Nat} {E : Int} (hr : mulR a b = r) (hE : mulE a b = E) (w : World) : Calls Try.prog 60 #[.agg ca.toArray, .agg cb.toArray] w fun e w' => ∃ c, Wc c r ∧ e = .returned (.tuple #[.agg c.toArray, .int .i64 E]) ∧ Below w.heap.size w w' := by
  subst hr hE; rw [Ha, Hb]
  exact (mul_any a b ha hb w).mono fun e w' h => ⟨_, rfl, h.1, h.2⟩
theorem cmp_c {ca cb : List Value} {a b : Nat} (Ha : Wc ca a) (Hb : Wc cb b) (ha : a < 2 ^ 256) (hb : b < 2 ^ 256) {E : Int} (hE : cmpR a b = E) (w : World) : Calls Try.prog 63 #[.agg ca.toArray, .agg cb.toArray] w fun e w' => e = .returned (.int .i64 E) ∧ Below w.heap.size w w' := by
  subst hE; rw [Ha, Hb]
  exact cmp_any a b ha hb w
theorem div_c {ca cb : List Value} {a b : Nat} (Ha : Wc ca a) (Hb : Wc cb b) (ha : a < 2 ^ 256) (hb : b < 2 ^ 256) {q r : Nat} {E : Int} (hq : divQ a b = q) (hr : divR a b = r) (hE : divE b = E) (w : World) : Calls Try.prog 61 #[.agg ca.toArray, .agg cb.toArray] w fun e w' => ∃ c d, Wc c q ∧ Wc d r ∧ e = .returned (.tuple #[.agg c.toArray, .agg d.toArray, .int .i64 E]) ∧ Below w.heap.size w w' := by
  subst hq hr hE; rw [Ha, Hb]
  exact (div_any a b ha hb w).mono fun e w' h => ⟨_, _, rfl, rfl, h.1, h.2⟩
/-! ### The greatest number -/
def topDigs : List UInt8 := [49, 49, 53, 55, 57, 50, 48, 56, 57, 50, 51, 55, 51, 49, 54, 49, 57, 53, 52, 50, 51, 53, 55, 48, 57, 56, 53, 48, 48, 56, 54, 56, 55, 57, 48, 55, 56, 53, 51, 50, 54, 57, 57, 56, 52, 54, 54, 53, 54, 52, 48, 53, 54, 52, 48, 51, 57, 52, 53, 55, 53, 56, 52, 48, 48, 55, 57, 49, 51, 49, 50, 57, 54, 51, 57, 57, 51, 53]
theorem dec_top : decDigits 115792089237316195423570985008687907853269984665640564039457584007913129639935 = topDigs := by
  rw [Lib.decDigits_eq, Lib.nDigits_unique 77 _ (by decide) (by decide)]
  decide
theorem parse_top : parse (topDigs.map UInt8.toNat) = some 115792089237316195423570985008687907853269984665640564039457584007913129639935 := by
  have h := parse_nums 115792089237316195423570985008687907853269984665640564039457584007913129639935 (by decide)
  unfold nums at h
  rw [dec_top] at h
  exact h
theorem str_of (s : ByteArray) (l : List UInt8) (h : s.data.toList = l) : StrN s (l.map UInt8.toNat) := by
  subst h
  refine ⟨by rw [List.length_map]; rfl, fun x hx => ?_, fun i hi => ?_⟩
  · obtain ⟨y, _, rfl⟩ := List.mem_map.1 hx
    exact y.toNat_lt
  · have : i < s.data.size := hi
    rw [List.getD_eq_getElem?_getD, List.getElem?_map, Array.getElem?_toList, Array.getElem?_eq_getElem this]
    rfl
end Go.Proofs.Ytdlmighfmkhpkaa

namespace Go.Proofs.Ytdlmighfmkhpkaa
open Go Go.RowKit
open Wd

def vU (l : List Nat) : List Value := l.map (fun (x : Nat) => Value.int .u8 (x : Int))
theorem vU_length (l : List Nat) : (vU l).length = l.length := by simp [vU]
theorem vU_get (l : List Nat) (i : Nat) (h : i < l.length) : (vU l)[i]? = some (.int .u8 ((l.getD i 0 : Nat) : Int)) := by simp [vU, h]
theorem vU_set (l : List Nat) (i : Nat) (x : Nat) : (vU l).set i (.int .u8 (x : Int)) = vU (l.set i x) := by simp [vU, List.map_set]
theorem info_all_u8 : (Try.prog.info? 5).map (fun i => (i.zero, i.size, i.bytes)) = some (some (.int .u8 0), 1, 1) := by kernel_rfl
theorem made_u8s (n : Nat) : madeCells (Value.int IntKind.u8 0).cells (n * 1) = (vU (List.replicate n 0)).toArray := by
  apply Array.ext'
  rw [show (Value.int IntKind.u8 0).cells = #[Value.int IntKind.u8 0] from rfl, toList_madeCells_one]
  simp [vU]
section
variable {P : Program} {ops : Array Oper} {rest : List Oper} {op : Oper} {a : Act} {w : World} {Q : Exit → Act → World → Prop}
theorem wpList_make_u (hgd : op.guard = none) (t : TypeId) (x y : Operand) (ho : op.op = .makeSlice t x y) (e : TypeId) (n : Nat) (l l' : Int) (hl : l = (n : Int)) (hl' : l' = (n : Int)) (hx : a.eval x = .int .i64 l) (hy : a.eval y = .int .i64 l') (hn : n ≤ 35184372088832)
    (hu : P.underlying t = some (.slice e)) (hi : (P.info? e).map (fun i => (i.zero, i.size, i.bytes)) = some (some (.int .u8 0), 1, 1))
    (h : wpList P ops Q rest (a.put op.dst (.slice (some ⟨w.heap.size, 0, none⟩) n n)) (w.alloc (.cells (vU (List.replicate n 0)).toArray e))) : wpList P ops Q (op :: rest) a w :=
  wpList_plain hgd fun _ hK => by
    subst hl; subst hl'
    obtain ⟨i, hi0, hz, hs, hb⟩ := info_parts hi
    have hr := run_make (P := P) w t e i (.int .u8 0) hu hi0 hz .i64 .i64 (n : Int) (n : Int) (by omega) (by omega) (by rw [hb]; omega) (by omega)
    rw [hs, Int.toNat_natCast, made_u8s] at hr
    unfold Oper.wp execOp
    simp only [ho, hx, hy, Sem.run_bind, hr, Result.andThen_ok]
    exact hK _ _ h
end

/-- A list that a call owns, opened. -/
theorem owns_open {W : World} {M n : Nat} {v : Value} {xs : List Value} (h : W.ownsRow M 3 1 v n xs) (hn : 0 < n) : ∃ g cap sp, v = .slice (some ⟨g, 0, none⟩) n cap ∧ M ≤ g ∧ n ≤ cap ∧ cap ≤ maxLen ∧ Row W g (xs ++ sp) 3 ∧ xs.length = n ∧ sp.length = cap - n := by
  rcases h.2 with ⟨_, h0⟩ | ⟨g, cap, cur, hv, hg, hh, hc, hx, hs, ht⟩
  · omega
  · have h1 : xs.length = n := by simpa using h.1
    refine ⟨g, cap, cur.toList.drop n, hv, hg, hc, hx, ?_, h1, by simp [hs]⟩
    rw [← ht, Nat.mul_one, List.take_append_drop]
    unfold Row
    rw [hh]
theorem owns_shut {W : World} {M n g cap : Nat} {xs sp : List Value} (hg : M ≤ g) (hc : n ≤ cap) (hx : cap ≤ maxLen) (r : Row W g (xs ++ sp) 3) (h1 : xs.length = n) (h2 : sp.length = cap - n) : W.ownsRow M 3 1 (.slice (some ⟨g, 0, none⟩) n cap) n xs := by
  refine ⟨by simpa using h1, .inr ⟨g, cap, (xs ++ sp).toArray, rfl, hg, r, hc, hx, by simp; omega, ?_⟩⟩
  rw [Nat.mul_one, List.take_left' h1]

end Go.Proofs.Ytdlmighfmkhpkaa
