/-
  wide.Text.
-/
import Derived.Test.YtkbdnebmekhcdaaWParse
import Derived.Test.YtkbdnebmekhcdaaWCutM
import Derived.Shelf.Strconv.Itoa1
import Derived.Shelf.LaysM
import Derived.Shelf.Strconv.Itoa2
import Derived.Test.YtkbdnebmekhcdaaProg
import Derived.Test.YtkbdnebmekhcdaaMem
import Derived.Lib.ItoaMem
import Derived.Lib.AppendIntMem
import Derived.Lib.Hide
import Derived.BigCall
import Derived.BigGuard
import Derived.Test.YtkbdnebmekhcdaaWCut
import Derived.Test.YtkbdnebmekhcdaaWHalf
import Derived.Test.YtkbdnebmekhcdaaWInv

namespace Go.Proofs.Ytkbdnebmekhcdaa
open Go Go.RowKit
open Wd
namespace Wd
open Go.Lib (decDigits nDigits dg)
theorem pars_append : ∀ (l r : List Nat) (a : Nat), pars (l ++ r) a = (pars l a).bind (pars r)
  | [], r, a => by simp [pars]
  | c :: l, r, a => by
    rw [List.cons_append]
    simp only [pars]
    split
    · rfl
    · split
      · exact pars_append l r _
      · rfl
/-- The bytes of a numeral as numbers. -/
def nums (u : Nat) : List Nat := (decDigits u).map UInt8.toNat
theorem dig_toNat (d : Nat) (h : d < 10) : (UInt8.ofNat (48 + d)).toNat = 48 + d := by
  rw [UInt8.toNat_ofNat']; omega
theorem nums_small (u : Nat) (h : u < 10) : nums u = [48 + u] := by
  unfold nums; rw [Lib.decDigits_one h, List.map_cons, List.map_nil, dig_toNat u h]
theorem nums_big (u : Nat) (h : ¬ u < 10) : nums u = nums (u / 10) ++ [48 + u % 10] := by
  unfold nums; rw [decDigits_big h, List.map_append, List.map_cons, List.map_nil, dig_toNat _ (by omega)]
theorem nums_head (u : Nat) : ∃ c r, nums u = c :: r ∧ (c = 48 → u = 0 ∧ r = []) := by
  induction u using Nat.strongRecOn with
  | ind u ih =>
    by_cases h : u < 10
    · exact ⟨48 + u, [], nums_small u h, fun e => ⟨by omega, rfl⟩⟩
    · obtain ⟨c, r, e, hz⟩ := ih (u / 10) (by omega)
      refine ⟨c, r ++ [48 + u % 10], by rw [nums_big u h, e]; rfl, fun ec => ?_⟩
      have := (hz ec).1
      omega
theorem pars_nums (u : Nat) (hu : u < 2 ^ 256) : pars (nums u) 0 = some u := by
  induction u using Nat.strongRecOn with
  | ind u ih =>
    by_cases h : u < 10
    · rw [nums_small u h]
      simp only [pars]
      rw [if_neg (by omega), if_pos (by omega)]
      congr 1; omega
    · rw [nums_big u h, pars_append, ih (u / 10) (by omega) (by omega)]
      simp only [Option.bind_some, pars]
      rw [if_neg (by omega), if_pos (by omega)]
      congr 1; omega
theorem parse_nums (u : Nat) (hu : u < 2 ^ 256) : parse (nums u) = some u := by
  unfold parse
  obtain ⟨c, r, e, hz⟩ := nums_head u
  rw [if_neg, pars_nums u hu]
  rw [e]
  rintro (h | ⟨h1, h2⟩)
  · simp at h
  · rw [List.getD_cons_zero] at h1
    rw [(hz h1).2] at h2
    simp at h2
/-- What Parse reads is the numeral of what it answers. -/
theorem pars_back : ∀ (l : List Nat) (a m : Nat), pars l a = some m → (0 < a ∨ l.getD 0 0 ≠ 48) → l ≠ [] → m < 2 ^ 256 ∧ nums m = (if a = 0 then [] else nums a) ++ l
  | [], _, _, _, _, h => absurd rfl h
  | c :: r, a, m, h, ha, _ => by
    simp only [pars] at h
    by_cases h1 : c < 48 ∨ 57 < c
    · rw [if_pos h1] at h; simp at h
    rw [if_neg h1] at h
    by_cases h2 : 10 * a + (c - 48) < 2 ^ 256
    · rw [if_pos h2] at h
      have hp : 0 < 10 * a + (c - 48) := by
        rcases ha with ha | ha
        · omega
        · simp at ha; omega
      have e0 : nums (10 * a + (c - 48)) = (if a = 0 then [] else nums a) ++ [c] := by
        by_cases hz : a = 0
        · subst hz
          rw [if_pos rfl, List.nil_append, nums_small _ (by omega)]
          congr 1; omega
        · rw [if_neg hz, nums_big _ (by omega), show (10 * a + (c - 48)) / 10 = a by omega, show 48 + (10 * a + (c - 48)) % 10 = c by omega]
      cases r with
      | nil =>
        simp only [pars, Option.some.injEq] at h
        subst h
        exact ⟨h2, e0⟩
      | cons d r =>
        obtain ⟨g1, g2⟩ := pars_back (d :: r) (10 * a + (c - 48)) m h (Or.inl hp) (by simp)
        refine ⟨g1, ?_⟩
        rw [g2, if_neg (by omega), e0, List.append_assoc]
        rfl
    · rw [if_neg h2] at h; simp at h
theorem parse_back (l : List Nat) (m : Nat) (h : parse l = some m) : m < 2 ^ 256 ∧ nums m = l := by
  unfold parse at h
  by_cases h0 : l = [] ∨ (l.getD 0 0 = 48 ∧ 1 < l.length)
  · rw [if_pos h0] at h; simp at h
  rw [if_neg h0] at h
  by_cases h1 : l.getD 0 0 = 48
  · have h2 : ¬ 1 < l.length := fun h3 => h0 (Or.inr ⟨h1, h3⟩)
    match l, h0, h1, h2, h with
    | [], h0, _, _, _ => exact absurd (Or.inl rfl) h0
    | [c], _, h1, _, h =>
      rw [List.getD_cons_zero] at h1
      subst h1
      simp [pars] at h
      subst h
      exact ⟨by decide, by rw [nums_small 0 (by decide)]⟩
    | _ :: _ :: _, _, _, h2, _ => simp at h2
  · obtain ⟨g1, g2⟩ := pars_back l 0 m h (Or.inr h1) (fun e => h0 (Or.inl e))
    exact ⟨g1, by rw [g2]; rfl⟩

end Wd
end Go.Proofs.Ytkbdnebmekhcdaa

namespace Go.Proofs.Ytkbdnebmekhcdaa
open Go Go.Shelf Go.RowKit Go.Sort Go.Lib
end Go.Proofs.Ytkbdnebmekhcdaa

namespace Go.Proofs.Ytkbdnebmekhcdaa
open Go Go.RowKit Go.Sort Go.Lib

end Go.Proofs.Ytkbdnebmekhcdaa

namespace Go.Proofs.Ytkbdnebmekhcdaa
open Go Go.RowKit
open Wd
open Go.Lib (decDigits nDigits)

/-- The table of powers. -/
def P10 (w : World) : Prop := Lib.TabIs Try.prog w "internal/strconv.uint64pow10" .u64 Lib.pow10Tab
theorem join3 (a b c : List UInt8) : (⟨a.toArray⟩ : ByteArray) ++ (⟨b.toArray⟩ : ByteArray) ++ (⟨c.toArray⟩ : ByteArray) = ⟨(a ++ (b ++ c)).toArray⟩ := by
  apply ByteArray.ext
  simp
theorem nought_cut (n : Nat) (h : n ≤ 19) : (⟨#[48, 48, 48, 48, 48, 48, 48, 48, 48, 48, 48, 48, 48, 48, 48, 48, 48, 48, 48]⟩ : ByteArray).extract n 19 = ⟨(List.replicate (19 - n) (48 : UInt8)).toArray⟩ := by
  have : ∀ k : Fin 20, (⟨#[48, 48, 48, 48, 48, 48, 48, 48, 48, 48, 48, 48, 48, 48, 48, 48, 48, 48, 48]⟩ : ByteArray).extract k.val 19 = ⟨(List.replicate (19 - k.val) (48 : UInt8)).toArray⟩ := by decide
  exact this ⟨n, by omega⟩

theorem slice_noughts (W : World) (n : Nat) (h : n ≤ 19) : (Instr.slice 9 (.string ⟨#[48, 48, 48, 48, 48, 48, 48, 48, 48, 48, 48, 48, 48, 48, 48, 48, 48, 48, 48]⟩) (some (.int .i64 (n : Int))) none none).run Try.prog W = .ok (.string ⟨(List.replicate (19 - n) (48 : UInt8)).toArray⟩) W := by
  rw [run_slice_string_l W 9 _ Try.underlying9 .i64 (n : Int) (by omega) (by show (n : Int) ≤ 19; omega), ← nought_cut n h]
  rfl

end Go.Proofs.Ytkbdnebmekhcdaa
