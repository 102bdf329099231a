/-
  The vault: its state; laws of the walk; where a number stands in the set.
-/
import Derived.Test.YtkbdnebmekhcdaaXMem
import Derived.Maps.OwnSet
import Derived.Test.YtkbdnebmekhcdaaWKn
import Derived.BigQuiet
import Derived.Deep.CutRange

namespace Go.Proofs.Ytkbdnebmekhcdaa
open Go Go.RowKit Go.Maps
open Go.MapKept

abbrev tI : TypeId := 3
theorem und_int : Try.prog.underlying tI = some (.int .i64) := by kernel_rfl
theorem kI : Keyed Try.prog tI := int_keyed und_int
/-- A number as Go holds it. -/
def I64 (x : Int) : Prop := (Lit.int .i64 x).wf = true
theorem key_int {x : Int} (h : I64 x) : keyOf Try.prog tI (.int .i64 x) = some (.int .i64 x) := keyOf_int_mk und_int h
/-- Any value, as it stands. -/
def Rh (v : Value) : Option (DataW Value × List MemPlace) := some (.held v, [])

/-- Block b is a map of at most n entries: at x stands f x. -/
def Mp (w : World) (b n : Nat) (f : Int → Option Value) : Prop :=
  ∃ D, w.ownsMap Try.prog tI Rh b n D ∧ ∀ x, I64 x → has D (.int .i64 x) = (f x).isSome ∧ ∀ z, D.atKey (.int .i64 x) (.held z) = .held ((f x).getD z)
/-- A function, with another value at x. -/
def upd {α : Type} (f : Int → α) (x : Int) (v : α) : Int → α := fun y => if y = x then v else f y
theorem upd_at {α : Type} (f : Int → α) (x : Int) (v : α) : upd f x v x = v := if_pos rfl
theorem upd_ne {α : Type} (f : Int → α) {x y : Int} (v : α) (h : y ≠ x) : upd f x v y = f y := if_neg h

theorem Mp.block {w w' : World} {b n : Nat} {f : Int → Option Value} (h : Mp w b n f) (hb : w'.heap[b]? = w.heap[b]?) : Mp w' b n f := by
  obtain ⟨D, ⟨es, clock, h1, h2⟩, h3⟩ := h
  exact ⟨D, ⟨es, clock, hb.trans h1, h2⟩, h3⟩
theorem Mp.lt {w : World} {b n : Nat} {f : Int → Option Value} (h : Mp w b n f) : b < w.heap.size := by
  obtain ⟨D, h1, _⟩ := h
  exact h1.lt
theorem Mp.mono {w : World} {b n m : Nat} {f : Int → Option Value} (h : Mp w b n f) (hn : n ≤ m) : Mp w b m f := by
  obtain ⟨D, h1, h2⟩ := h
  exact ⟨D, h1.mono hn, h2⟩
theorem Mp.no_row {w : World} {b n c : Nat} {f : Int → Option Value} {cs : List Value} {t : TypeId} (h : Mp w b n f) (r : Row w c cs t) : b ≠ c := by
  rintro rfl
  obtain ⟨D, ⟨es, clock, h1, h2⟩, h3⟩ := h
  have r' : w.heap[b]? = some (.cells cs.toArray t) := r
  rw [h1] at r'
  cases r'
theorem Mp.made (w : World) : Mp (w.alloc (.map #[] 0)) w.heap.size 0 (fun _ => none) :=
  ⟨.map [], w.ownsMap_made _ _ _, fun _ _ => ⟨rfl, fun _ => rfl⟩⟩

section
variable {w : World} {b n : Nat} {f : Int → Option Value} {t e : TypeId} {z : Value} {x : Int}
theorem Mp.look_ok (h : Mp w b n f) (ht : Try.prog.underlying t = some (.map tI e)) (hz : ∀ u : World, (zeroValue e).run Try.prog u = .ok z u) (hx : I64 x) :
    (Instr.lookup t (.map (some b)) (.int .i64 x) true).run Try.prog w = .ok (.tuple #[(f x).getD z, .bool (f x).isSome]) w := by
  obtain ⟨D, h1, h2⟩ := h
  obtain ⟨v, ps, hr, hv⟩ := h1.look_ok kI ht (hz w) (zd := .held z) (zp := []) rfl (key_int hx)
  obtain ⟨e1, e2⟩ := h2 x hx
  rw [e2 z] at hv
  simp only [Rh, Option.some.injEq, Prod.mk.injEq, DataW.held.injEq] at hv
  rw [hr, e1, hv.1]
theorem Mp.look (h : Mp w b n f) (ht : Try.prog.underlying t = some (.map tI e)) (hz : ∀ u : World, (zeroValue e).run Try.prog u = .ok z u) (hx : I64 x) :
    (Instr.lookup t (.map (some b)) (.int .i64 x) false).run Try.prog w = .ok ((f x).getD z) w := by
  obtain ⟨D, h1, h2⟩ := h
  obtain ⟨v, ps, hr, hv⟩ := h1.lookup kI ht (hz w) (zd := .held z) (zp := []) rfl (key_int hx)
  obtain ⟨e1, e2⟩ := h2 x hx
  rw [e2 z] at hv
  simp only [Rh, Option.some.injEq, Prod.mk.injEq, DataW.held.injEq] at hv
  rw [hr, hv.1]
theorem lit_ne {x y : Int} (h : x ≠ y) : Lit.int .i64 x ≠ Lit.int .i64 y := fun e => h (by injection e)
/-- What is laid stands there. -/
theorem Mp.store (h : Mp w b n f) (ht : Try.prog.underlying t = some (.map tI e)) (hn : n < maxLen) (hx : I64 x) (v : Value) :
    ∃ w', (Instr.mapUpdate t (.map (some b)) (.int .i64 x) v).run Try.prog w = .ok () w' ∧ Mp w' b (n + 1) (upd f x (some v)) ∧ w.mapTurned w' b := by
  obtain ⟨D, h1, h2⟩ := h
  obtain ⟨w', hr, hm, hg⟩ := h1.store kI ht hn (key_int hx) (d := .held v) (ps := []) rfl
  refine ⟨w', hr, ⟨_, hm, fun y hy => ?_⟩, hg⟩
  by_cases e : y = x
  · subst e
    rw [upd_at]
    exact ⟨has_put_same h1.isMap (kI.key (key_int hx)) _, fun z => atKey_put_same h1.isMap (kI.key (key_int hx)) _ _⟩
  · rw [upd_ne _ _ e, has_put_other (lit_ne e)]
    refine ⟨(h2 y hy).1, fun z => ?_⟩
    rw [atKey_put_other (lit_ne e)]
    exact (h2 y hy).2 z

end

/-- A map's value: nil with nothing in it, or a block. -/
def Mv (w : World) (m : Value) (n : Nat) (f : Int → Option Value) : Prop := (m = .map none ∧ ∀ x, f x = none) ∨ ∃ b, m = .map (some b) ∧ Mp w b n f
section
variable {w w' : World} {m : Value} {n : Nat} {f : Int → Option Value} {t e : TypeId} {z : Value} {x : Int}
theorem Mv.look_ok (h : Mv w m n f) (ht : Try.prog.underlying t = some (.map tI e)) (hz : ∀ u : World, (zeroValue e).run Try.prog u = .ok z u) (hx : I64 x) :
    (Instr.lookup t m (.int .i64 x) true).run Try.prog w = .ok (.tuple #[(f x).getD z, .bool (f x).isSome]) w := by
  rcases h with ⟨rfl, h⟩ | ⟨b, rfl, h⟩
  · rw [h x]
    exact look_nil true kI ht (hz w) (key_int hx)
  · exact h.look_ok ht hz hx
theorem Mv.look (h : Mv w m n f) (ht : Try.prog.underlying t = some (.map tI e)) (hz : ∀ u : World, (zeroValue e).run Try.prog u = .ok z u) (hx : I64 x) :
    (Instr.lookup t m (.int .i64 x) false).run Try.prog w = .ok ((f x).getD z) w := by
  rcases h with ⟨rfl, h⟩ | ⟨b, rfl, h⟩
  · rw [h x]
    exact look_nil false kI ht (hz w) (key_int hx)
  · exact h.look ht hz hx
theorem Mv.keep (h : Mv w m n f) (k : ∀ b, m = .map (some b) → b < w.heap.size → w'.heap[b]? = w.heap[b]?) : Mv w' m n f := by
  rcases h with h | ⟨b, rfl, h⟩
  · exact .inl h
  · exact .inr ⟨b, rfl, h.block (k b rfl h.lt)⟩
theorem Mv.lt (h : Mv w m n f) {b : Nat} (hb : m = .map (some b)) : b < w.heap.size := by
  rcases h with ⟨rfl, _⟩ | ⟨b', rfl, h⟩
  · cases hb
  · cases hb; exact h.lt
theorem Mv.mono (h : Mv w m n f) {k : Nat} (hk : n ≤ k) : Mv w m k f := by
  rcases h with h | ⟨b, rfl, h⟩
  · exact .inl h
  · exact .inr ⟨b, rfl, h.mono hk⟩
end
section
variable {ops : Array Oper} {rest : List Oper} {op : Oper} {a : Act} {w : World} {Q : Exit → Act → World → Prop}
theorem wpList_lookR (hgd : op.guard = none) (t : TypeId) (m x : Operand) (c : Bool) (ho : op.op = .lookup t m x c) (mv xv v : Value) (hm : a.eval m = mv) (hx : a.eval x = xv) (hr : (Instr.lookup t mv xv c).run Try.prog w = .ok v w)
    (h : wpList Try.prog ops Q rest (a.put op.dst v) w) : wpList Try.prog ops Q (op :: rest) a w :=
  wpList_plain hgd fun K' hK' => by
    unfold Oper.wp
    simp [execOp, ho, hm, hx, hr, Result.andThen]
    exact hK' _ _ h
theorem wpList_laid (hgd : op.guard = none) (t e : TypeId) (m x y : Operand) (ho : op.op = .mapUpdate t m x y) (ht : Try.prog.underlying t = some (.map tI e)) (b n : Nat) (f : Int → Option Value) (k : Int) (v : Value) (hm : a.eval m = .map (some b)) (hx : a.eval x = .int .i64 k) (hy : a.eval y = v) (hM : Mp w b n f) (hn : n < maxLen) (hk : I64 k)
    (h : ∀ X, Mp X b (n + 1) (upd f k (some v)) → Gro (· = b) w X → wpList Try.prog ops Q rest (a.put op.dst undef) X) : wpList Try.prog ops Q (op :: rest) a w :=
  wpList_plain hgd fun K' hK' => by
    obtain ⟨w', hr, h1, h2⟩ := hM.store ht hn hk v
    unfold Oper.wp
    simp [execOp, ho, hm, hx, hy, hr, Result.andThen]
    have g := h2.grown
    exact hK' _ _ (h w' h1 ⟨g.os, g.tape, g.output, g.size, fun i hi hne => g.block i hi (fun e => hne (Option.some.inj e))⟩)
end

end Go.Proofs.Ytkbdnebmekhcdaa

namespace Go.Proofs.Ytkbdnebmekhcdaa
open Go Go.RowKit Go.Maps
open Wd

abbrev tV : TypeId := 72
abbrev tH : TypeId := 78
abbrev tM1 : TypeId := 67
abbrev tM2 : TypeId := 68
abbrev tSt : TypeId := 70
theorem und_M1 : Try.prog.underlying tM1 = some (.map tI tH) := by kernel_rfl
theorem und_M2 : Try.prog.underlying tM2 = some (.map tI 31) := by kernel_rfl
theorem zero_H (w : World) : (zeroValue tH).run Try.prog w = .ok (.agg #[.bool false, .int .u64 0, .int .u64 0, .int .u64 0, .int .u64 0]) w := by kernel_rfl
theorem zero_U (w : World) : (zeroValue 31).run Try.prog w = .ok (.int .u64 0) w := by kernel_rfl
theorem info_H : (Try.prog.info? tH).map (·.size) = some 5 := by kernel_rfl
theorem info_V : (Try.prog.info? tV).map (·.size) = some 6 := by kernel_rfl
theorem info_St : (Try.prog.info? tSt).map (·.size) = some 1 := by kernel_rfl
theorem info_M1 : (Try.prog.info? tM1).map (·.size) = some 1 := by kernel_rfl
theorem info_M2 : (Try.prog.info? tM2).map (·.size) = some 1 := by kernel_rfl

/-- What is held of a token, in cells. -/
def hcs (s : Bool) (m : Nat) : List Value := .bool s :: vQ (dgs m 4)
theorem hcs_len (s : Bool) (m : Nat) : (hcs s m).length = 5 := by simp [hcs, vQ_length, dgs_length]
theorem hcs_one (s : Bool) (m : Nat) : ∀ v ∈ hcs s m, v.oneCell' = true := by
  intro v hv
  rcases List.mem_cons.1 hv with rfl | h
  · rfl
  · exact vQ_one _ v h
theorem hcs_zero : hcs false 0 = [.bool false, .int .u64 0, .int .u64 0, .int .u64 0, .int .u64 0] := rfl

/-! ### where a number stands -/
theorem i64_iff (x : Int) : I64 x ↔ -9223372036854775808 ≤ x ∧ x < 9223372036854775808 := by
  unfold I64
  simp [Lit.wf, IntKind.min, IntKind.max, IntKind.bits, IntKind.signed]
  omega
theorem and63 (n : Int) : bits .and .i64 n 63 = n % 64 := by
  have h1 : (BitVec.ofInt 64 63).toNat = 2 ^ 6 - 1 := by decide
  have key : (BitVec.ofInt 64 n &&& BitVec.ofInt 64 63).toNat = (n % ((2 ^ 64 : Nat) : Int)).toNat % 2 ^ 6 := by
    rw [BitVec.toNat_and, BitVec.toNat_ofInt, h1, Nat.and_two_pow_sub_one_eq_mod]
  show IntKind.i64.wrap ((BitVec.ofInt 64 n &&& BitVec.ofInt 64 63).toNat : Nat) = n % 64
  rw [key, IntKind.wrap_i64]
  omega
theorem shl1 (k : Nat) (hk : k < 64) : IntKind.u64.wrap (2 ^ k) = (2 : Int) ^ k := by
  have h : 2 ^ k < 2 ^ 64 := Nat.pow_lt_pow_right (by decide) hk
  have e2 : ((2 : Int) ^ k) = ((2 ^ k : Nat) : Int) := by simp
  rw [e2, IntKind.wrap_u64]
  revert h
  generalize 2 ^ k = m
  intro h
  omega
set_option maxHeartbeats 1000000 in
theorem place_any (x : Int) (w : World) : Calls Try.prog 62 #[.int .i64 x] w fun e w' => e = .returned (.tuple #[.int .i64 (x / 64), .int .u64 ((2 : Int) ^ (x % 64).toNat)]) ∧ Below w.heap.size w w' := by
  obtain ⟨k, hk⟩ : ∃ k : Nat, x % 64 = (k : Int) := ⟨(x % 64).toNat, by omega⟩
  have hk2 : k < 64 := by omega
  have e1 : bits .and .i64 x 63 = (k : Int) := (and63 x).trans hk
  have e2 := shl1 k hk2
  have hk3 : (x % 64).toNat = k := by omega
  rw [hk3]
  clear hk hk3
  go_enter Try.func62, Try.ntmps62
  go_upto_region 1 with fail
  go_quiet (fail)
  go_wp2_with fail
  go_ret2
  exact ⟨rfl, below_drewN (Below.refl _ _) _⟩

/-! ### the set's words -/
/-- Whether a number is there. -/
def paid (U : Int → BitVec 64) (x : Int) : Bool := (U (x / 64)).getLsbD (x % 64).toNat
def puts (U : Int → BitVec 64) (x : Int) : Int → BitVec 64 := upd U (x / 64) (U (x / 64) ||| BitVec.twoPow 64 (x % 64).toNat)
theorem paid_puts (U : Int → BitVec 64) (x y : Int) : paid (puts U x) y = (decide (y = x) || paid U y) := by
  unfold paid puts
  by_cases h : y / 64 = x / 64
  · rw [h, upd_at, BitVec.getLsbD_or, BitVec.getLsbD_twoPow]
    have hk : (x % 64).toNat < 64 := by omega
    have e : ((x % 64).toNat = (y % 64).toNat) ↔ (y = x) := by constructor <;> intro q <;> omega
    simp only [hk, decide_true, Bool.true_and, decide_eq_decide.2 e]
    rw [Bool.or_comm]
  · rw [upd_ne _ _ h]
    have : ¬ y = x := fun e => h (by rw [e])
    simp [this]
def vw (b : BitVec 64) : Value := .int .u64 (b.toNat : Int)
theorem or_word (a : BitVec 64) (k : Nat) (hk : k < 64) : bits .or .u64 (a.toNat : Int) ((2 : Int) ^ k) = ((a ||| BitVec.twoPow 64 k).toNat : Int) := by
  rw [show ((2 : Int) ^ k) = ((2 ^ k : Nat) : Int) by simp]
  have e1 : BitVec.ofInt 64 (a.toNat : Int) = a := by simp
  have e2 : BitVec.ofInt 64 ((2 ^ k : Nat) : Int) = BitVec.twoPow 64 k := by
    apply BitVec.eq_of_toNat_eq
    rw [BitVec.toNat_ofInt, BitVec.toNat_twoPow]
    have h : 2 ^ k < 2 ^ 64 := Nat.pow_lt_pow_right (by decide) hk
    revert h
    generalize 2 ^ k = m
    intro h
    omega
  show IntKind.u64.wrap ((BitVec.ofInt 64 (a.toNat : Int) ||| BitVec.ofInt 64 ((2 ^ k : Nat) : Int)).toNat : Nat) = _
  rw [e1, e2, IntKind.wrap_u64]
  have := (a ||| BitVec.twoPow 64 k).isLt
  omega
theorem and_word (a : BitVec 64) (k : Nat) (hk : k < 64) : (!decide (bits .and .u64 (a.toNat : Int) ((2 : Int) ^ k) = 0)) = a.getLsbD k := by
  rw [show ((2 : Int) ^ k) = ((2 ^ k : Nat) : Int) by simp]
  have e1 : BitVec.ofInt 64 (a.toNat : Int) = a := by simp
  have e2 : BitVec.ofInt 64 ((2 ^ k : Nat) : Int) = BitVec.twoPow 64 k := by
    apply BitVec.eq_of_toNat_eq
    rw [BitVec.toNat_ofInt, BitVec.toNat_twoPow]
    have h : 2 ^ k < 2 ^ 64 := Nat.pow_lt_pow_right (by decide) hk
    revert h
    generalize 2 ^ k = m
    intro h
    omega
  have e3 : bits .and .u64 (a.toNat : Int) ((2 ^ k : Nat) : Int) = ((a &&& BitVec.twoPow 64 k).toNat : Int) := by
    show IntKind.u64.wrap ((BitVec.ofInt 64 (a.toNat : Int) &&& BitVec.ofInt 64 ((2 ^ k : Nat) : Int)).toNat : Nat) = _
    rw [e1, e2, IntKind.wrap_u64]
    have := (a &&& BitVec.twoPow 64 k).isLt
    omega
  rw [e3, BitVec.and_twoPow]
  by_cases h : a.getLsbD k
  · simp only [h, if_true]
    have : (BitVec.twoPow 64 k).toNat ≠ 0 := by
      rw [BitVec.toNat_twoPow]
      have h : 2 ^ k < 2 ^ 64 := Nat.pow_lt_pow_right (by decide) hk
      have h2 : 0 < 2 ^ k := Nat.pow_pos (by decide)
      rw [Nat.mod_eq_of_lt h]
      omega
    have h9 : ¬ ((BitVec.twoPow 64 k).toNat : Int) = 0 := by omega
    rw [decide_eq_false h9]
    rfl
  · simp [h]

end Go.Proofs.Ytkbdnebmekhcdaa
