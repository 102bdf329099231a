/-
  Plain mathematics for TreeOneLeaf.
-/
import Derived.Test.YtfkcmeafddhmkaaGreatDoorTStr
import Derived.Test.YtfkcmeafddhmkaaGreatDoorTAwk
import Derived.Test.YtfkcmeafddhmkaaGreatDoorTChkO

namespace Go.Proofs.YtfkcmeafddhmkaaGreatDoor
open Go Go.RowKit
open Sha

theorem run_load_slb (w : World) (b f : Nat) (v : Value) (h : w.cell? ⟨b, f, none⟩ = some v) : (loadVar 52 ⟨b, f, none⟩).run Tryz.prog w = .ok v w := by
  simp [loadVar, isAgg, run_underlying Tryz.underlying52, h]
theorem digs_flat (ds : List (List (BitVec 8))) (h : ∀ d ∈ ds, d.length = 32) {w : World} {M : Nat} {A : Option Addr} {cap : Nat} (ho : w.ownsRow M 39 32 (.slice A ds.length cap) ds.length (ds.flatMap vB)) (t : Nat) (ht : t < ds.length) : ∃ g, A = some ⟨g, 0, none⟩ ∧ w.rangeAt g (0 + t * 32) (vB (ds.getD t [])) := by
  obtain ⟨b, o, e, hr⟩ := pat_range (PAt.of_own ho h) t ht
  rcases ho.2 with ⟨_, h0⟩ | ⟨g, cap', cur, hv, _⟩
  · omega
  · simp only [Value.slice.injEq] at hv
    have := hv.1.symm.trans e
    simp only [Option.some.injEq, Addr.mk.injEq] at this
    obtain ⟨rfl, rfl, _⟩ := this
    exact ⟨g, hv.1, hr⟩
/-- Two unlike texts of one digest. -/
def Clsh (ts : List (List (BitVec 8))) (i k : Nat) : Prop := dig (ts.getD i []) = dig (ts.getD k []) ∧ ts.getD i [] ≠ ts.getD k []
theorem map_take (ts : List (List (BitVec 8))) (t : Nat) (h : t < ts.length) : (ts.take (t + 1)).map dig = (ts.take t).map dig ++ [dig (ts.getD t [])] := by
  rw [List.take_succ_eq_append_getElem h, List.map_append]
  simp [List.getD_eq_getElem?_getD, h]

end Go.Proofs.YtfkcmeafddhmkaaGreatDoor

namespace Go.Proofs.YtfkcmeafddhmkaaGreatDoor
open Go Go.RowKit
open Sha

theorem txk_len (ss : List Bool) (ds : List (List (BitVec 8))) (lf : List (BitVec 8)) (h : ∀ d ∈ ds, d.length = 32) (hl : lf.length ≤ 140737488351232) (k : Nat) : (txk ss ds lf k).length < 1152921504606846976 := by
  cases k with
  | zero => rw [show txk ss ds lf 0 = [0#8] ++ lf from rfl, List.length_append]; simp; omega
  | succ k =>
    have hk : (ds.getD k []).length ≤ 32 := by
      rw [List.getD_eq_getElem?_getD]
      by_cases hlt : k < ds.length
      · rw [List.getElem?_eq_getElem hlt]; exact Nat.le_of_eq (h _ (List.getElem_mem _))
      · rw [List.getElem?_eq_none (by omega)]; simp
    unfold txk
    split <;> simp only [List.length_append, dig_length, List.length_cons, List.length_nil] <;> omega
theorem two_lists_len (ss : List Bool) (us vs : List (List (BitVec 8))) (x y : List (BitVec 8)) (hu : ∀ d ∈ us, d.length = 32) (hv : ∀ d ∈ vs, d.length = 32) (hx : x.length ≤ 140737488351232) (hy : y.length ≤ 140737488351232) (a b n : Nat) (hn : a + b = n) : ∀ i, i < n → ((txs ss us x a ++ txs ss vs y b).getD i []).length < 1152921504606846976 := by
  intro i hi
  rw [List.getD_eq_getElem?_getD]
  by_cases hlt : i < a
  · rw [List.getElem?_append_left (by rw [txs_length]; exact hlt), ← List.getD_eq_getElem?_getD, txs_get _ _ _ _ _ hlt]
    exact txk_len ss us x hu hx i
  · rw [List.getElem?_append_right (by rw [txs_length]; omega), txs_length, ← List.getD_eq_getElem?_getD, txs_get _ _ _ _ _ (by omega)]
    exact txk_len ss vs y hv hy (i - a)
theorem clash_of (N I : Nat) (hi : I < N) (hN : N < 4611686018427387904) (us vs : List (List (BitVec 8))) (x y root : List (BitVec 8)) (hu : ∀ d ∈ us, d.length = 32) (hv : ∀ d ∈ vs, d.length = 32) (lu : us.length = pl N I) (lv : vs.length = pl N I) (ru : rb N I x us = root) (rv : rb N I y vs = root) (hne : x ≠ y) (n : Nat) (hn : (us.length + 1) + (vs.length + 1) = n) :
    ∃ i k, k < i ∧ i < n ∧ Clsh (txs (sd N I) us x (us.length + 1) ++ txs (sd N I) vs y (vs.length + 1)) i k := by
  have hs := sd_length N I (by omega) hN
  rw [rb_txk N I x us hi hN lu] at ru
  rw [rb_txk N I y vs hi hN lv] at rv
  obtain ⟨k, k1, k2, k3⟩ := two_texts (sd N I) us vs x y hne (pl N I) (by omega) (by omega) (by omega) hu hv (ru.trans rv.symm)
  have e1 : (txs (sd N I) us x (us.length + 1) ++ txs (sd N I) vs y (vs.length + 1)).getD ((us.length + 1) + k) [] = txk (sd N I) vs y k := by
    rw [List.getD_eq_getElem?_getD, List.getElem?_append_right (by rw [txs_length]; omega), txs_length, show us.length + 1 + k - (us.length + 1) = k by omega, ← List.getD_eq_getElem?_getD, txs_get _ _ _ _ _ (by omega)]
  have e2 : (txs (sd N I) us x (us.length + 1) ++ txs (sd N I) vs y (vs.length + 1)).getD k [] = txk (sd N I) us x k := by
    rw [List.getD_eq_getElem?_getD, List.getElem?_append_left (by rw [txs_length]; omega), ← List.getD_eq_getElem?_getD, txs_get _ _ _ _ _ (by omega)]
  exact ⟨(us.length + 1) + k, k, by omega, by omega, by rw [e1, e2]; exact k3.symm, by rw [e1, e2]; exact fun h => k2 h.symm⟩
/-- What stands behind a Check that answers OK. -/
theorem ck_ok {root : List (BitVec 8)} {n i : Int} {lf : List (BitVec 8)} {ds : List (List (BitVec 8))} (h : ck root n i lf ds = 0) : ∃ N I : Nat, n = (N : Int) ∧ i = (I : Int) ∧ I < N ∧ N ≤ 1099511627776 ∧ ds.length = pl N I ∧ rb N I lf ds = root := by
  unfold ck at h
  split at h
  · cases h
  · split at h
    · cases h
    · split at h
      · rename_i h1 h2 h3
        exact ⟨n.toNat, i.toNat, by omega, by omega, by omega, by omega, h3.1, h3.2⟩
      · cases h

end Go.Proofs.YtfkcmeafddhmkaaGreatDoor
