/-
  The law DigestHexes.
-/
import Derived.Test.YtihigbkanbabeaaDoorRHexR
import Derived.Test.YtihigbkanbabeaaDoorAwake
namespace Go.Proofs.YtihigbkanbabeaaDoor
open Go Go.RowKit
open Sha

theorem str_size (l : List (BitVec 8)) : (str l).size = l.length := by unfold str; rw [strOfNums_size]; simp
theorem str_Str (l : List (BitVec 8)) : Str (str l) l := by
  refine ⟨str_size l, fun i h => ?_⟩
  have hl : i < l.length := by rw [← str_size]; exact h
  have e : (str l)[i] = UInt8.ofNat (c (l.getD i 0)).toNat := by
    show (str l).data[i] = _
    simp [str, strOfNums, hl]
  rw [e]
  have := (l.getD i 0).isLt
  unfold c
  simp only [Int.toNat_natCast, UInt8.toNat_ofNat']
  omega
theorem Str.eq {s : ByteArray} {l : List (BitVec 8)} (h : Str s l) : str l = s := by
  have hl := h.size
  apply ByteArray.ext
  apply Array.ext
  · show (str l).size = s.size; rw [str_size, hl]
  · intro i h1 h2
    have k := (str_Str l).at' i h1
    have k' := h.at' i h2
    have : ((str l)[i].toNat : Int) = (s[i].toNat : Int) := by rw [k, k']
    exact UInt8.toNat_inj.1 (by exact_mod_cast this)

theorem hexs_getD (d : List (BitVec 8)) : ∀ i, i < d.length → (hexs d).getD (2 * i) 0 = hexd ((d.getD i 0).toNat / 16) ∧ (hexs d).getD (2 * i + 1) 0 = hexd ((d.getD i 0).toNat % 16) := by
  induction d with
  | nil => intro i hi; simp at hi
  | cons x d ih =>
    intro i hi
    have e : hexs (x :: d) = hexd (x.toNat / 16) :: hexd (x.toNat % 16) :: hexs d := rfl
    rw [e]
    cases i with
    | zero => simp
    | succ i =>
      have := ih i (by simpa using hi)
      rw [show 2 * (i + 1) = 2 * i + 1 + 1 by omega]
      simpa using this
theorem rdb_get (l : List (BitVec 8)) (k i : Nat) (h : i < (rdb l k).length) : (rdb l k)[i] = byt l i := by simp [rdb]
theorem rdx_hexs (d : List (BitVec 8)) (hd : d.length = 32) : rdx (hexs d) = (d, 0) := by
  have key : ∀ i, i < 32 → dval ((hexs d).getD (2 * i) 0) = some (BitVec.ofNat 8 ((d.getD i 0).toNat / 16)) ∧ dval ((hexs d).getD (2 * i + 1) 0) = some (BitVec.ofNat 8 ((d.getD i 0).toNat % 16)) := fun i hi => by
    obtain ⟨h1, h2⟩ := hexs_getD d i (by omega)
    have := (d.getD i 0).isLt
    exact ⟨by rw [h1]; exact dval_hexd _ (by omega), by rw [h2]; exact dval_hexd _ (by omega)⟩
  rw [rdx_good (by rw [hexs_length, hd]) (fun i hi => by unfold ok2; rw [(key i hi).1, (key i hi).2]; rfl)]
  congr 1
  apply List.ext_getElem
  · rw [rdb_length, hd]
  · intro i h1 h2
    have hi : i < 32 := by rw [hd] at h2; exact h2
    rw [rdb_get]
    unfold byt
    rw [(key i hi).1, (key i hi).2]
    apply BitVec.eq_of_toNat_eq
    have e : d.getD i 0 = d[i] := by simp [h2]
    have := d[i].isLt
    rw [e]
    simp only [Option.getD_some, BitVec.toNat_add, BitVec.toNat_mul, BitVec.toNat_ofNat]
    omega
theorem byt_eq (l : List (BitVec 8)) (i : Nat) (h : ok2 l i = true) : hex2 (byt l i) = [l.getD (2 * i) 0, l.getD (2 * i + 1) 0] := by
  unfold ok2 at h
  cases h1 : dval (l.getD (2 * i) 0) with
  | none => rw [h1] at h; cases h
  | some a =>
    cases h2 : dval (l.getD (2 * i + 1) 0) with
    | none => rw [h1, h2] at h; cases h
    | some b =>
      have l1 := dval_lt h1
      have l2 := dval_lt h2
      unfold byt hex2
      rw [h1, h2]
      have e : ((some a).getD 0 * 16#8 + (some b).getD 0 : BitVec 8).toNat = 16 * a.toNat + b.toNat := by
        have := byte_mul a b l1 l2
        unfold c at this
        simp only [Option.getD_some]
        omega
      rw [e, show (16 * a.toNat + b.toNat) / 16 = a.toNat by omega, show (16 * a.toNat + b.toNat) % 16 = b.toNat by omega, hexd_dval _ _ h1, hexd_dval _ _ h2]
theorem hexs_rdb (l : List (BitVec 8)) : ∀ k, 2 * k ≤ l.length → (∀ i < k, ok2 l i = true) → hexs (rdb l k) = l.take (2 * k) := by
  intro k
  induction k with
  | zero => intro _ _; rfl
  | succ k ih =>
    intro hl h
    have e : rdb l (k + 1) = rdb l k ++ [byt l k] := by unfold rdb; rw [List.range_succ, List.map_append]; rfl
    have e2 : hexs (rdb l k ++ [byt l k]) = hexs (rdb l k) ++ hex2 (byt l k) := by simp [hexs]
    rw [e, e2, ih (by omega) (fun i hi => h i (by omega)), byt_eq l k (h k (by omega)), show 2 * (k + 1) = 2 * k + 1 + 1 by omega]
    have t1 : l.take (2 * k + 1 + 1) = l.take (2 * k) ++ [l.getD (2 * k) 0, l.getD (2 * k + 1) 0] := by
      rw [List.take_succ_eq_append_getElem (by omega), List.take_succ_eq_append_getElem (by omega), List.append_assoc]
      congr 1
      simp [show 2 * k < l.length by omega, show 2 * k + 1 < l.length by omega]
    rw [t1]
theorem rdx_two (l : List (BitVec 8)) : (∃ dd, rdx l = (dd, 0) ∧ dd.length = 32 ∧ hexs dd = l) ∨ rdx l = (List.replicate 32 0#8, 10) := by
  by_cases h : l.length = 64 ∧ (List.range 32).all (ok2 l) = true
  · refine .inl ⟨rdb l 32, by unfold rdx; rw [if_pos h], rdb_length l 32, ?_⟩
    rw [hexs_rdb l 32 (by omega) (fun i hi => List.all_eq_true.1 h.2 i (List.mem_range.2 hi)), List.take_of_length_le (by omega)]
  · exact .inr (by unfold rdx; rw [if_neg h])

end Go.Proofs.YtihigbkanbabeaaDoor
