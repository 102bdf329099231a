/-
  Plain mathematics: the texts that are digested for a path, and two that clash.
-/
import Derived.Test.YtnogjhbohljjnaaDoorTSd
namespace Go.Proofs.YtnogjhbohljjnaaDoor
open Go Go.RowKit
open Sha

/-- The k-th text that is digested for a path, from the leaf up. -/
def txk (ss : List Bool) (ds : List (List (BitVec 8))) (lf : List (BitVec 8)) : Nat → List (BitVec 8)
  | 0 => [0#8] ++ lf
  | k + 1 => if ss.getD k false then [1#8] ++ (dig (txk ss ds lf k) ++ ds.getD k []) else [1#8] ++ (ds.getD k [] ++ dig (txk ss ds lf k))
/-- All of them. -/
def txs (ss : List Bool) (ds : List (List (BitVec 8))) (lf : List (BitVec 8)) (m : Nat) : List (List (BitVec 8)) := (List.range m).map (txk ss ds lf)
theorem txs_length (ss : List Bool) (ds : List (List (BitVec 8))) (lf : List (BitVec 8)) (m : Nat) : (txs ss ds lf m).length = m := by simp [txs]
theorem txs_succ (ss : List Bool) (ds : List (List (BitVec 8))) (lf : List (BitVec 8)) (m : Nat) : txs ss ds lf (m + 1) = txs ss ds lf m ++ [txk ss ds lf m] := by simp [txs, List.range_succ]
theorem txs_get (ss : List Bool) (ds : List (List (BitVec 8))) (lf : List (BitVec 8)) (m k : Nat) (h : k < m) : (txs ss ds lf m).getD k [] = txk ss ds lf k := by
  simp [txs, List.getD_eq_getElem?_getD, h]
theorem txk_front (ss : List Bool) (b : Bool) (ds : List (List (BitVec 8))) (l : List (BitVec 8)) (lf : List (BitVec 8)) (hl : ss.length = ds.length) : ∀ k, k ≤ ss.length → txk (ss ++ [b]) (ds ++ [l]) lf k = txk ss ds lf k
  | 0, _ => rfl
  | k + 1, h => by
    have e1 : (ss ++ [b]).getD k false = ss.getD k false := by simp [List.getD_eq_getElem?_getD, List.getElem?_append_left (show k < ss.length by omega)]
    have e2 : (ds ++ [l]).getD k [] = ds.getD k [] := by simp [List.getD_eq_getElem?_getD, List.getElem?_append_left (show k < ds.length by omega)]
    unfold txk
    rw [e1, e2, txk_front ss b ds l lf hl k (by omega)]
/-- What a path comes to is the last text's digest. -/
theorem rb_txk (n : Nat) : ∀ (i : Nat) (lf : List (BitVec 8)) (ds : List (List (BitVec 8))), i < n → n < 4611686018427387904 → ds.length = pl n i → rb n i lf ds = dig (txk (sd n i) ds lf (pl n i)) := by
  induction n using Nat.strongRecOn with
  | ind n ih =>
    intro i lf ds hi hn hlen
    by_cases e : n = 1
    · subst e
      rw [rb_one, pl_one]; rfl
    · have h2 : 2 ≤ n := by omega
      have hb := fpart_bounds n h2 hn
      have hp := fpart_pos n
      rcases List.eq_nil_or_concat ds with e0 | ⟨rs, l, e0⟩
      · rw [e0, pl_many n i h2 hn] at hlen
        split at hlen <;> simp at hlen
      · rw [List.concat_eq_append] at e0
        subst e0
        rw [List.length_append, List.length_singleton] at hlen
        by_cases hk : i < fpart n
        · rw [pl_left n i h2 hn hk] at hlen ⊢
          rw [sd_left n i h2 hn hk, rb_left n i lf l rs h2 hn hk, ih (fpart n) hb.1 i lf rs hk (by omega) (by omega)]
          have q := sd_length (fpart n) i (by omega) (by omega)
          have e1 : (sd (fpart n) i ++ [true]).getD (pl (fpart n) i) false = true := by simp [List.getD_eq_getElem?_getD, ← q]
          have e2 : (rs ++ [l]).getD (pl (fpart n) i) [] = l := by simp [List.getD_eq_getElem?_getD, ← show rs.length = pl (fpart n) i by omega]
          rw [txk, e1, e2, txk_front _ _ _ _ _ (by omega) _ (by omega)]
          rfl
        · rw [pl_right n i h2 hn hk] at hlen ⊢
          rw [sd_right n i h2 hn hk, rb_right n i lf l rs h2 hn hk, ih (n - fpart n) (by omega) (i - fpart n) lf rs (by omega) (by omega) (by omega)]
          have q := sd_length (n - fpart n) (i - fpart n) (by omega) (by omega)
          have e1 : (sd (n - fpart n) (i - fpart n) ++ [false]).getD (pl (n - fpart n) (i - fpart n)) false = false := by simp [List.getD_eq_getElem?_getD, ← q]
          have e2 : (rs ++ [l]).getD (pl (n - fpart n) (i - fpart n)) [] = l := by simp [List.getD_eq_getElem?_getD, ← show rs.length = pl (n - fpart n) (i - fpart n) by omega]
          rw [txk, e1, e2, txk_front _ _ _ _ _ (by omega) _ (by omega)]
          rfl
/-- Two unlike leaves that come to one digest: two unlike texts of one digest. -/
theorem two_texts (ss : List Bool) (us vs : List (List (BitVec 8))) (x y : List (BitVec 8)) (hne : x ≠ y) : ∀ m, m ≤ ss.length → m ≤ us.length → m ≤ vs.length → (∀ d ∈ us, d.length = 32) → (∀ d ∈ vs, d.length = 32) → dig (txk ss us x m) = dig (txk ss vs y m) →
    ∃ k, k ≤ m ∧ txk ss us x k ≠ txk ss vs y k ∧ dig (txk ss us x k) = dig (txk ss vs y k)
  | 0, _, _, _, _, _, h => ⟨0, Nat.le_refl _, fun e => hne (by simpa [txk] using e), h⟩
  | m + 1, h1, h2, h3, ha, hb, h => by
    by_cases e : txk ss us x (m + 1) = txk ss vs y (m + 1)
    · have la : (us.getD m []).length = 32 := by
        rw [List.getD_eq_getElem?_getD, List.getElem?_eq_getElem (by omega)]; exact ha _ (List.getElem_mem _)
      have lb : (vs.getD m []).length = 32 := by
        rw [List.getD_eq_getElem?_getD, List.getElem?_eq_getElem (by omega)]; exact hb _ (List.getElem_mem _)
      have hd : dig (txk ss us x m) = dig (txk ss vs y m) := by
        unfold txk at e
        split at e
        · have e' := List.append_cancel_left e
          exact (List.append_inj e' (by rw [dig_length, dig_length])).1
        · have e' := List.append_cancel_left e
          exact (List.append_inj e' (by rw [la, lb])).2
      obtain ⟨k, k1, k2, k3⟩ := two_texts ss us vs x y hne m (by omega) (by omega) (by omega) ha hb hd
      exact ⟨k, by omega, k2, k3⟩
    · exact ⟨m + 1, Nat.le_refl _, e, h⟩

end Go.Proofs.YtnogjhbohljjnaaDoor
