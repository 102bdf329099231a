/-
  The vault: its state; laws of the walk; where a number stands in the set.
-/
import Derived.Test.YtefjonidpmpjbaaEsA
import Derived.Test.YtefjonidpmpjbaaWKn
import Derived.BigQuiet
import Derived.Deep.CutRange
namespace Go.Proofs.Ytefjonidpmpjbaa
open Go Go.RowKit Go.Maps
open Wd

abbrev tV : TypeId := 72
abbrev tH : TypeId := 78
abbrev tM1 : TypeId := 67
abbrev tM2 : TypeId := 68
abbrev tSt : TypeId := 70
theorem und_M1 : Try.prog.underlying tM1 = some (.map tI tH) := by kernel_rfl
theorem und_M2 : Try.prog.underlying tM2 = some (.map tI 31) := by kernel_rfl
theorem zero_H (w : World) : (zeroValue tH).run Try.prog w = .ok (.agg #[.bool false, .int .u64 0, .int .u64 0, .int .u64 0, .int .u64 0]) w := by kernel_rfl
theorem zero_U (w : World) : (zeroValue 31).run Try.prog w = .ok (.int .u64 0) w := by kernel_rfl
theorem info_H : (Try.prog.info? tH).map (·.size) = some 5 := by kernel_rfl
theorem info_V : (Try.prog.info? tV).map (·.size) = some 6 := by kernel_rfl
theorem info_St : (Try.prog.info? tSt).map (·.size) = some 1 := by kernel_rfl
theorem info_M1 : (Try.prog.info? tM1).map (·.size) = some 1 := by kernel_rfl
theorem info_M2 : (Try.prog.info? tM2).map (·.size) = some 1 := by kernel_rfl

/-- What is held of a token, in cells. -/
def hcs (s : Bool) (m : Nat) : List Value := .bool s :: vQ (dgs m 4)
theorem hcs_len (s : Bool) (m : Nat) : (hcs s m).length = 5 := by simp [hcs, vQ_length, dgs_length]
theorem hcs_one (s : Bool) (m : Nat) : ∀ v ∈ hcs s m, v.oneCell' = true := by
  intro v hv
  rcases List.mem_cons.1 hv with rfl | h
  · rfl
  · exact vQ_one _ v h
theorem hcs_zero : hcs false 0 = [.bool false, .int .u64 0, .int .u64 0, .int .u64 0, .int .u64 0] := rfl

/-! ### where a number stands -/
theorem i64_iff (x : Int) : I64 x ↔ -9223372036854775808 ≤ x ∧ x < 9223372036854775808 := by
  unfold I64
  simp [Lit.wf, IntKind.min, IntKind.max, IntKind.bits, IntKind.signed]
  omega
theorem and63 (n : Int) : bits .and .i64 n 63 = n % 64 := by
  have h1 : (BitVec.ofInt 64 63).toNat = 2 ^ 6 - 1 := by decide
  have key : (BitVec.ofInt 64 n &&& BitVec.ofInt 64 63).toNat = (n % ((2 ^ 64 : Nat) : Int)).toNat % 2 ^ 6 := by
    rw [BitVec.toNat_and, BitVec.toNat_ofInt, h1, Nat.and_two_pow_sub_one_eq_mod]
  show IntKind.i64.wrap ((BitVec.ofInt 64 n &&& BitVec.ofInt 64 63).toNat : Nat) = n % 64
  rw [key, IntKind.wrap_i64]
  omega
theorem shl1 (k : Nat) (hk : k < 64) : IntKind.u64.wrap (2 ^ k) = (2 : Int) ^ k := by
  have h : 2 ^ k < 2 ^ 64 := Nat.pow_lt_pow_right (by decide) hk
  have e2 : ((2 : Int) ^ k) = ((2 ^ k : Nat) : Int) := by simp
  rw [e2, IntKind.wrap_u64]
  revert h
  generalize 2 ^ k = m
  intro h
  omega
set_option maxHeartbeats 1000000 in
theorem place_any (x : Int) (w : World) : Calls Try.prog 62 #[.int .i64 x] w fun e w' => e = .returned (.tuple #[.int .i64 (x / 64), .int .u64 ((2 : Int) ^ (x % 64).toNat)]) ∧ Below w.heap.size w w' := by
  obtain ⟨k, hk⟩ : ∃ k : Nat, x % 64 = (k : Int) := ⟨(x % 64).toNat, by omega⟩
  have hk2 : k < 64 := by omega
  have e1 : bits .and .i64 x 63 = (k : Int) := (and63 x).trans hk
  have e2 := shl1 k hk2
  have hk3 : (x % 64).toNat = k := by omega
  rw [hk3]
  clear hk hk3
  go_enter Try.func62, Try.ntmps62
  go_upto_region 1 with fail
  go_quiet (fail)
  go_wp2_with fail
  go_ret2
  exact ⟨rfl, below_drewN (Below.refl _ _) _⟩

/-! ### the set's words -/
/-- Whether a number is there. -/
def paid (U : Int → BitVec 64) (x : Int) : Bool := (U (x / 64)).getLsbD (x % 64).toNat
def puts (U : Int → BitVec 64) (x : Int) : Int → BitVec 64 := upd U (x / 64) (U (x / 64) ||| BitVec.twoPow 64 (x % 64).toNat)
theorem paid_puts (U : Int → BitVec 64) (x y : Int) : paid (puts U x) y = (decide (y = x) || paid U y) := by
  unfold paid puts
  by_cases h : y / 64 = x / 64
  · rw [h, upd_at, BitVec.getLsbD_or, BitVec.getLsbD_twoPow]
    have hk : (x % 64).toNat < 64 := by omega
    have e : ((x % 64).toNat = (y % 64).toNat) ↔ (y = x) := by constructor <;> intro q <;> omega
    simp only [hk, decide_true, Bool.true_and, decide_eq_decide.2 e]
    rw [Bool.or_comm]
  · rw [upd_ne _ _ h]
    have : ¬ y = x := fun e => h (by rw [e])
    simp [this]
def vw (b : BitVec 64) : Value := .int .u64 (b.toNat : Int)
theorem or_word (a : BitVec 64) (k : Nat) (hk : k < 64) : bits .or .u64 (a.toNat : Int) ((2 : Int) ^ k) = ((a ||| BitVec.twoPow 64 k).toNat : Int) := by
  rw [show ((2 : Int) ^ k) = ((2 ^ k : Nat) : Int) by simp]
  have e1 : BitVec.ofInt 64 (a.toNat : Int) = a := by simp
  have e2 : BitVec.ofInt 64 ((2 ^ k : Nat) : Int) = BitVec.twoPow 64 k := by
    apply BitVec.eq_of_toNat_eq
    rw [BitVec.toNat_ofInt, BitVec.toNat_twoPow]
    have h : 2 ^ k < 2 ^ 64 := Nat.pow_lt_pow_right (by decide) hk
    revert h
    generalize 2 ^ k = m
    intro h
    omega
  show IntKind.u64.wrap ((BitVec.ofInt 64 (a.toNat : Int) ||| BitVec.ofInt 64 ((2 ^ k : Nat) : Int)).toNat : Nat) = _
  rw [e1, e2, IntKind.wrap_u64]
  have := (a ||| BitVec.twoPow 64 k).isLt
  omega
theorem and_word (a : BitVec 64) (k : Nat) (hk : k < 64) : (!decide (bits .and .u64 (a.toNat : Int) ((2 : Int) ^ k) = 0)) = a.getLsbD k := by
  rw [show ((2 : Int) ^ k) = ((2 ^ k : Nat) : Int) by simp]
  have e1 : BitVec.ofInt 64 (a.toNat : Int) = a := by simp
  have e2 : BitVec.ofInt 64 ((2 ^ k : Nat) : Int) = BitVec.twoPow 64 k := by
    apply BitVec.eq_of_toNat_eq
    rw [BitVec.toNat_ofInt, BitVec.toNat_twoPow]
    have h : 2 ^ k < 2 ^ 64 := Nat.pow_lt_pow_right (by decide) hk
    revert h
    generalize 2 ^ k = m
    intro h
    omega
  have e3 : bits .and .u64 (a.toNat : Int) ((2 ^ k : Nat) : Int) = ((a &&& BitVec.twoPow 64 k).toNat : Int) := by
    show IntKind.u64.wrap ((BitVec.ofInt 64 (a.toNat : Int) &&& BitVec.ofInt 64 ((2 ^ k : Nat) : Int)).toNat : Nat) = _
    rw [e1, e2, IntKind.wrap_u64]
    have := (a &&& BitVec.twoPow 64 k).isLt
    omega
  rw [e3, BitVec.and_twoPow]
  by_cases h : a.getLsbD k
  · simp only [h, if_true]
    have : (BitVec.twoPow 64 k).toNat ≠ 0 := by
      rw [BitVec.toNat_twoPow]
      have h : 2 ^ k < 2 ^ 64 := Nat.pow_lt_pow_right (by decide) hk
      have h2 : 0 < 2 ^ k := Nat.pow_pos (by decide)
      rw [Nat.mod_eq_of_lt h]
      omega
    have h9 : ¬ ((BitVec.twoPow 64 k).toNat : Int) = 0 := by omega
    rw [decide_eq_false h9]
    rfl
  · simp [h]

end Go.Proofs.Ytefjonidpmpjbaa
