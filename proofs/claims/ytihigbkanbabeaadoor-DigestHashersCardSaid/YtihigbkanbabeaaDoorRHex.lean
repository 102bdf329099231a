/-
  Digits back: digitValue, ReadHex; the document's digit, read.
-/
import Derived.Test.YtihigbkanbabeaaDoorBits
namespace Go.Proofs.YtihigbkanbabeaaDoor
open Go Go.RowKit
open Sha

namespace Sha
/-- What a digit tells. -/
def dval (x : BitVec 8) : Option (BitVec 8) := if 48 ≤ x.toNat ∧ x.toNat ≤ 57 then some (x - 48#8) else if 97 ≤ x.toNat ∧ x.toNat ≤ 102 then some (x - 97#8 + 10#8) else none
theorem dval_lt {x h : BitVec 8} (hx : dval x = some h) : h.toNat < 16 := by
  unfold dval at hx
  split at hx
  · simp only [Option.some.injEq] at hx; subst hx; rw [BitVec.toNat_sub]; simp; omega
  · split at hx
    · simp only [Option.some.injEq] at hx; subst hx; rw [BitVec.toNat_add, BitVec.toNat_sub]; simp; omega
    · cases hx
theorem dval_hexd (n : Nat) (h : n < 16) : dval (hexd n) = some (BitVec.ofNat 8 n) := by
  have : n = 0 ∨ n = 1 ∨ n = 2 ∨ n = 3 ∨ n = 4 ∨ n = 5 ∨ n = 6 ∨ n = 7 ∨ n = 8 ∨ n = 9 ∨ n = 10 ∨ n = 11 ∨ n = 12 ∨ n = 13 ∨ n = 14 ∨ n = 15 := by omega
  rcases this with rfl | rfl | rfl | rfl | rfl | rfl | rfl | rfl | rfl | rfl | rfl | rfl | rfl | rfl | rfl | rfl <;> decide
theorem hexd_dval (x h : BitVec 8) (hx : dval x = some h) : hexd h.toNat = x := by
  revert x h; decide +kernel
def ok2 (l : List (BitVec 8)) (i : Nat) : Bool := (dval (l.getD (2 * i) 0)).isSome && (dval (l.getD (2 * i + 1) 0)).isSome
def byt (l : List (BitVec 8)) (i : Nat) : BitVec 8 := (dval (l.getD (2 * i) 0)).getD 0 * 16#8 + (dval (l.getD (2 * i + 1) 0)).getD 0
def rdb (l : List (BitVec 8)) (k : Nat) : List (BitVec 8) := (List.range k).map (byt l)
theorem rdb_length (l : List (BitVec 8)) (k : Nat) : (rdb l k).length = k := by simp [rdb]
/-- What ReadHex answers. -/
def rdx (l : List (BitVec 8)) : List (BitVec 8) × Int := if l.length = 64 ∧ (List.range 32).all (ok2 l) = true then (rdb l 32, 0) else (List.replicate 32 0#8, 10)
theorem rdx_length (l : List (BitVec 8)) : (rdx l).1.length = 32 := by unfold rdx; split <;> simp [rdb_length]
theorem rdb_step (l : List (BitVec 8)) (k : Nat) (h : k < 32) : (rdb l k ++ List.replicate (32 - k) 0#8).set k (byt l k) = rdb l (k + 1) ++ List.replicate (32 - (k + 1)) 0#8 := by
  have hl := rdb_length l k
  rw [show 32 - k = (32 - (k + 1)) + 1 by omega, List.replicate_succ, List.set_append_right _ _ (by omega), hl, Nat.sub_self, List.set_cons_zero]
  unfold rdb
  rw [List.range_succ, List.map_append]; simp
end Sha

/-- s is the string of the bytes l. -/
structure Str (s : ByteArray) (l : List (BitVec 8)) : Prop where
  size : s.size = l.length
  at' : ∀ i (h : i < s.size), (s[i].toNat : Int) = c (l.getD i 0)

section
variable {P : Program} {ops : Array Oper} {rest : List Oper} {op : Oper} {a : Act} {w : World} {Q : Exit → Act → World → Prop}
/-- A byte of a string. -/
theorem wpList_index_str (hgd : op.guard = none) (t : TypeId) (x y : Operand) (ho : op.op = .index t x y) (s : ByteArray) (l : List (BitVec 8)) (hs : Str s l) (i : Nat) (z : Int) (hz : z = (i : Int)) (hx : a.eval x = .string s) (hy : a.eval y = .int .i64 z) (hi : i < s.size) (ht : P.underlying t = some .string)
    (h : wpList P ops Q rest (a.put op.dst (.int .u8 (c (l.getD i 0)))) w) : wpList P ops Q (op :: rest) a w :=
  wpList_plain hgd fun _ hK => by
    subst hz
    have hr := run_index_string (P := P) w t s .i64 (i : Int) ht
    rw [dif_pos (by omega)] at hr
    have he := hs.at' i hi
    unfold Oper.wp execOp
    simp only [ho, hx, hy, Sem.run_bind, hr, Result.andThen_ok, Sem.run_pure, Oper.upon_value, Int.toNat_natCast, he]
    exact hK _ _ h
end

theorem c_sub (x y : BitVec 8) (h : y.toNat ≤ x.toNat) : c (x - y) = c x - c y := by
  unfold c; rw [BitVec.toNat_sub]; have := x.isLt; have := y.isLt; omega
theorem c_add (x y : BitVec 8) (h : x.toNat + y.toNat < 256) : c (x + y) = c x + c y := by
  unfold c; rw [BitVec.toNat_add]; omega

set_option maxHeartbeats 400000 in
theorem dv_some (x h : BitVec 8) (hx : dval x = some h) (w : World) :
    Calls Tryd.prog 37 #[.int .u8 (c x)] w fun e w' => e = .returned (.tuple #[.int .u8 (c h), .bool true]) ∧ w' = w := by
  have hlt := x.isLt
  unfold dval at hx
  split at hx
  · rename_i hc
    simp only [Option.some.injEq] at hx
    have e : c h = c x - 48 := by rw [← hx]; exact c_sub x 48#8 (by simpa using hc.1)
    rw [e]
    unfold c at *
    clear hx e
    generalize x.toNat = n at *
    obtain ⟨h1, h2⟩ := hc
    go_enter Tryd.func37, Tryd.ntmps37
    go_wp2
    go_ret2
    exact ⟨rfl, rfl⟩
  · split at hx
    · rename_i hc
      simp only [Option.some.injEq] at hx
      have e : c h = c x - 97 + 10 := by rw [← hx, c_add _ _ (by rw [BitVec.toNat_sub]; simp; omega), c_sub x 97#8 (by simpa using hc.1)]; rfl
      rw [e]
      unfold c at *
      clear hx e
      generalize x.toNat = n at *
      obtain ⟨h1, h2⟩ := hc
      rename_i hn
      clear hn
      go_enter Tryd.func37, Tryd.ntmps37
      go_wp2
      go_ret2
      exact ⟨rfl, rfl⟩
    · cases hx

set_option maxHeartbeats 400000 in
theorem dv_none (x : BitVec 8) (hx : dval x = none) (w : World) :
    Calls Tryd.prog 37 #[.int .u8 (c x)] w fun e w' => e = .returned (.tuple #[.int .u8 0, .bool false]) ∧ w' = w := by
  have hlt := x.isLt
  unfold dval at hx
  split at hx
  · cases hx
  · split at hx
    · cases hx
    · rename_i h1 h2
      unfold c
      clear hx
      generalize x.toNat = n at *
      have : n < 48 ∨ (57 < n ∧ n < 97) ∨ 102 < n := by omega
      clear h1 h2
      rcases this with h | ⟨h, h'⟩ | h <;>
      · go_enter Tryd.func37, Tryd.ntmps37
        go_wp2
        go_ret2
        exact ⟨rfl, rfl⟩

set_option maxHeartbeats 400000 in
theorem read_some (x h : BitVec 8) (hx : dval x = some h) (w : World) :
    Calls Tryd.prog 38 #[.int .u8 (c x)] w fun e w' => e = .returned (.int .u8 (c h)) ∧ w' = w := by
  have hlt := x.isLt
  unfold dval at hx
  split at hx
  · rename_i hc
    simp only [Option.some.injEq] at hx
    have e : c h = c x - 48 := by rw [← hx]; exact c_sub x 48#8 (by simpa using hc.1)
    rw [e]
    unfold c at *
    clear hx e
    generalize x.toNat = n at *
    obtain ⟨h1, h2⟩ := hc
    go_enter Tryd.func38, Tryd.ntmps38
    go_wp2
    go_ret
    exact ⟨rfl, rfl⟩
  · split at hx
    · rename_i hc
      simp only [Option.some.injEq] at hx
      have e : c h = c x - 97 + 10 := by rw [← hx, c_add _ _ (by rw [BitVec.toNat_sub]; simp; omega), c_sub x 97#8 (by simpa using hc.1)]; rfl
      rw [e]
      unfold c at *
      clear hx e
      generalize x.toNat = n at *
      obtain ⟨h1, h2⟩ := hc
      rename_i hn
      clear hn
      go_enter Tryd.func38, Tryd.ntmps38
      go_wp2
      go_ret
      exact ⟨rfl, rfl⟩
    · cases hx

set_option maxHeartbeats 400000 in
theorem read_none (x : BitVec 8) (hx : dval x = none) (w : World) :
    Calls Tryd.prog 38 #[.int .u8 (c x)] w fun e w' => e = .returned (.int .u8 16) ∧ w' = w := by
  have hlt := x.isLt
  unfold dval at hx
  split at hx
  · cases hx
  · split at hx
    · cases hx
    · rename_i h1 h2
      unfold c
      clear hx
      generalize x.toNat = n at *
      have : n < 48 ∨ (57 < n ∧ n < 97) ∨ 102 < n := by omega
      clear h1 h2
      rcases this with h | ⟨h, h'⟩ | h <;>
      · go_enter Tryd.func38, Tryd.ntmps38
        go_wp2
        go_ret
        exact ⟨rfl, rfl⟩

theorem hexd_low (n : Nat) (h : n < 10) : c (hexd n) = 48 + (n : Int) := by
  have : n = 0 ∨ n = 1 ∨ n = 2 ∨ n = 3 ∨ n = 4 ∨ n = 5 ∨ n = 6 ∨ n = 7 ∨ n = 8 ∨ n = 9 := by omega
  rcases this with rfl | rfl | rfl | rfl | rfl | rfl | rfl | rfl | rfl | rfl <;> decide
theorem hexd_high (n : Nat) (h : 10 ≤ n) (h' : n < 16) : c (hexd n) = 97 + (n : Int) - 10 := by
  have : n = 10 ∨ n = 11 ∨ n = 12 ∨ n = 13 ∨ n = 14 ∨ n = 15 := by omega
  rcases this with rfl | rfl | rfl | rfl | rfl | rfl <;> decide

set_option maxHeartbeats 400000 in
theorem digit_any (n : Nat) (h : n < 16) (w : World) :
    Calls Tryd.prog 39 #[.int .u8 (n : Int)] w fun e w' => e = .returned (.int .u8 (c (hexd n))) ∧ w' = w := by
  by_cases hn : n < 10
  · rw [hexd_low n hn]
    clear h
    go_enter Tryd.func39, Tryd.ntmps39
    go_wp2
    go_ret
    exact ⟨rfl, rfl⟩
  · rw [hexd_high n (by omega) h]
    go_enter Tryd.func39, Tryd.ntmps39
    go_wp2
    go_ret
    exact ⟨rfl, rfl⟩

end Go.Proofs.YtihigbkanbabeaaDoor
