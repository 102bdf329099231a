/-
  A growth that is told is taken.
-/
import Derived.Test.YtlknanjbiicghaaDoorTGrew
import Derived.Test.YtlknanjbiicghaaDoorTGro
import Derived.Test.YtlknanjbiicghaaDoorTFrM
namespace Go.Proofs.YtlknanjbiicghaaDoor
open Go Go.RowKit
open Sha

theorem gr_len (n : Nat) : ∀ (m : Nat) (k : Bool) (ps : List (List (BitVec 8))), ps.length = n → 1 ≤ m → m ≤ n → n < 4611686018427387904 → (gr m ps k).length = gs m n k := by
  induction n using Nat.strongRecOn with
  | ind n ih =>
    intro m k ps hn h1 hm hl
    by_cases he : m = n
    · subst he
      rw [gr_same m ps k hn, gs_same]
      cases k <;> rfl
    · have hf := fpart_bounds n (by omega) hl
      have hp := fpart_pos n
      by_cases h : m ≤ fpart n
      · rw [gr_left m n k ps hn h1 (by omega) hl h, gs_left m n k (by omega) h1 hl h, List.length_append, ih (fpart n) (by omega) m k (ps.take (fpart n)) (by rw [List.length_take]; omega) h1 h (by omega)]
        rfl
      · rw [gr_right m n k ps hn h1 (by omega) hl h, gs_right m n k (by omega) h1 hl h, List.length_append, ih (n - fpart n) (by omega) (m - fpart n) false (ps.drop (fpart n)) (by rw [List.length_drop]; omega) (by omega) (by omega) (by omega)]
        rfl

theorem rsb_gr (n : Nat) : ∀ (m : Nat) (k : Bool) (ps : List (List (BitVec 8))) (was : List (BitVec 8)), ps.length = n → 1 ≤ m → m ≤ n → n < 4611686018427387904 → (k = true → was = rt (ps.take m)) → rsb m n k was (gr m ps k) = (rt (ps.take m), rt ps) := by
  induction n using Nat.strongRecOn with
  | ind n ih =>
    intro m k ps was hn h1 hm hl hw
    by_cases he : m = n
    · subst he
      rw [gr_same m ps k hn, rsb_same]
      have ht : ps.take m = ps := List.take_of_length_le (by omega)
      rw [ht] at hw ⊢
      cases k with
      | true => rw [hw rfl]; rfl
      | false => rfl
    · have hf := fpart_bounds n (by omega) hl
      have hp := fpart_pos n
      have hd : dig ([1#8] ++ (rt (ps.take (fpart n)) ++ rt (ps.drop (fpart n)))) = rt ps := by
        rw [rt_many ps (by omega) (by omega), hn]
      by_cases h : m ≤ fpart n
      · have e1 : (ps.take (fpart n)).take m = ps.take m := by rw [List.take_take, Nat.min_eq_left h]
        rw [gr_left m n k ps hn h1 (by omega) hl h, rsb_left m n k was _ _ (by omega) h1 hl h, ih (fpart n) (by omega) m k (ps.take (fpart n)) was (by rw [List.length_take]; omega) h1 h (by omega) (fun q => by rw [e1]; exact hw q), e1, hd]
      · have ef : fpart m = fpart n := by
          have e9 : fpart n = 2 ^ (Lib.bitLen (n - 1) - 1) := rfl
          rw [e9] at hf h ⊢
          exact fpart_two_pow m _ (by omega) (by omega) (by omega) (by omega)
        have hlm : (ps.take m).length = m := by rw [List.length_take]; omega
        have e2 : dig ([1#8] ++ (rt (ps.take (fpart n)) ++ rt ((ps.drop (fpart n)).take (m - fpart n)))) = rt (ps.take m) := by
          rw [rt_many (ps.take m) (by omega) (by omega), hlm, ef, List.take_take, Nat.min_eq_left (by omega), List.drop_take]
        rw [gr_right m n k ps hn h1 (by omega) hl h, rsb_right m n k was _ _ (by omega) h1 hl h, ih (n - fpart n) (by omega) (m - fpart n) false (ps.drop (fpart n)) was (by rw [List.length_drop]; omega) (by omega) (by omega) (by omega) (fun q => by cases q), e2, hd]

/-- What Growth tells from the first m of some leaves. -/
def gq0 (m : Nat) (ps : List (List (BitVec 8))) : List (List (BitVec 8)) := if m = 0 then [] else gr m ps true
theorem gw_gq (m : Nat) (ps : List (List (BitVec 8))) (hm : m ≤ ps.length) (hl : ps.length ≤ 1099511627776) : gw (rt (ps.take m)) (rt ps) (m : Int) (ps.length : Int) (gq0 m ps) = 0 := by
  unfold gw
  rw [if_neg (by omega), Int.toNat_natCast, Int.toNat_natCast, if_pos]
  by_cases h0 : m = 0
  · subst h0
    unfold gq0 gl ldB
    rw [if_pos rfl, if_pos rfl, if_pos rfl]
    refine ⟨rfl, ?_⟩
    rw [show rt (ps.take 0) = dig [] from rt_nil _ (by simp)]
    by_cases hn : 0 < ps.length
    · simp [hn]
    · rw [rt_nil ps (by omega)]; simp
  · unfold gq0 gl ldB
    rw [if_neg h0, if_neg h0, if_neg h0]
    refine ⟨gr_len ps.length m true ps rfl (by omega) hm (by omega), ?_⟩
    by_cases he : m = ps.length
    · rw [if_pos he, he, List.take_length]; simp
    · rw [if_neg he, rsb_gr ps.length m true ps (rt (ps.take m)) rfl (by omega) hm (by omega) (fun _ => rfl)]
      simp

end Go.Proofs.YtlknanjbiicghaaDoor
