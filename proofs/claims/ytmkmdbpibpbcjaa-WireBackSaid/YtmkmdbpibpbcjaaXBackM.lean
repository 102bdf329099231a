/-
  What stands there is read: lists of pieces, of numbers.
-/
import Derived.Test.YtmkmdbpibpbcjaaXFmB
import Derived.Test.YtmkmdbpibpbcjaaXLp
import Derived.Test.YtmkmdbpibpbcjaaXLyN
import Derived.Test.YtmkmdbpibpbcjaaXLy
import Derived.Test.YtmkmdbpibpbcjaaXPcs
namespace Go.Proofs.Ytmkmdbpibpbcjaa
open Go Go.RowKit
open Sha

theorem sub_in (bs : List (BitVec 8)) (r L : Nat) (X Y Z : List (BitVec 8)) (h : sub bs r L = X ++ (Y ++ Z)) : sub bs (r + X.length) Y.length = Y := by
  unfold sub at h ⊢
  have hL : X.length + (Y.length + Z.length) ≤ L := by
    have := congrArg List.length h
    simp only [List.length_append, List.length_take] at this
    omega
  have h2 : ((bs.drop r).take L).drop X.length = Y ++ Z := by rw [h, List.drop_append_of_le_length (Nat.le_refl _), List.drop_length, List.nil_append]
  rw [List.drop_take, List.drop_drop] at h2
  have h3 : (((bs.drop (r + X.length)).take (L - X.length)).take Y.length) = Y := by rw [h2, List.take_append_of_le_length (Nat.le_refl _), List.take_length]
  rw [List.take_take] at h3
  rw [Nat.min_eq_left (by omega)] at h3
  exact h3
theorem fm_len1 (l : List Nat) (k : Nat) : (fm l k).length = 1 + k := by rw [fm_len]; omega
theorem pfs_at (ps : List (List (BitVec 8))) (t : Nat) (ht : t < ps.length) : ∃ Z, pfs ps ps.length = pfs ps t ++ (pf (ps.getD t []) ++ Z) := by
  refine ⟨((ps.drop (t + 1)).map pf).flatten, ?_⟩
  rw [← List.append_assoc, ← pfs_succ ps t ht]
  unfold pfs
  rw [← List.flatten_append, ← List.map_append, List.take_append_drop, List.take_length]
theorem fms_at (ns : List Nat) (t : Nat) (ht : t < ns.length) : ∃ Z, fms ns ns.length = fms ns t ++ (fm [ns.getD t 0, 0, 0, 0] (nb (ns.getD t 0) 0 0 0) ++ Z) := by
  refine ⟨((ns.drop (t + 1)).map fun n => fm [n, 0, 0, 0] (nb n 0 0 0)).flatten, ?_⟩
  rw [← List.append_assoc, ← fms_succ ns t ht]
  unfold fms
  rw [← List.flatten_append, ← List.map_append, List.take_append_drop, List.take_length]
/-- A count, and bytes. -/
theorem read_pf (p : List (BitVec 8)) (most : Int) (hm : (p.length : Int) ≤ most) (h9 : p.length ≤ 9223372036854775807) (bs : List (BitVec 8)) (r : Nat) (hl : r + (pf p).length ≤ bs.length) (hs : sub bs r (pf p).length = pf p) :
    cnE bs r most = 0 ∧ nuW bs r = p.length ∧ sub bs (r + 1 + at8 bs r) (nuW bs r) = p ∧ r + 1 + at8 bs r + nuW bs r = r + (pf p).length := by
  have hlen : (pf p).length = 1 + nb p.length 0 0 0 + p.length := by unfold pf; rw [List.length_append, fm_len1]
  have h1 := sub_in bs r (pf p).length [] (fm [p.length, 0, 0, 0] (nb p.length 0 0 0)) p (by rw [hs]; rfl)
  have h2 := sub_in bs r (pf p).length (fm [p.length, 0, 0, 0] (nb p.length 0 0 0)) p [] (by rw [hs, List.append_nil]; rfl)
  rw [List.length_nil, Nat.add_zero, fm_len1] at h1
  rw [fm_len1] at h2
  obtain ⟨e1, e2, e3⟩ := read_num p.length h9 bs r (nb p.length 0 0 0) rfl (by omega) h1
  refine ⟨?_, e3, ?_, ?_⟩
  · unfold cnE
    rw [if_pos e2, e3, e1, if_neg (by omega), if_neg (by omega)]
  · rw [e3, e1, Nat.add_assoc]; exact h2
  · rw [e3, e1, hlen]; omega
/-- A count, and something behind it. -/
theorem read_cn (c : Nat) (most : Int) (hm : (c : Int) ≤ most) (h9 : c ≤ 9223372036854775807) (F : List (BitVec 8)) (hF : c ≤ F.length) (bs : List (BitVec 8)) (r : Nat) (hl : r + (fm [c, 0, 0, 0] (nb c 0 0 0) ++ F).length ≤ bs.length) (hs : sub bs r (fm [c, 0, 0, 0] (nb c 0 0 0) ++ F).length = fm [c, 0, 0, 0] (nb c 0 0 0) ++ F) :
    cnE bs r most = 0 ∧ nuW bs r = c ∧ sub bs (r + 1 + at8 bs r) F.length = F ∧ r + 1 + at8 bs r + F.length = r + (fm [c, 0, 0, 0] (nb c 0 0 0) ++ F).length := by
  have hlen : (fm [c, 0, 0, 0] (nb c 0 0 0) ++ F).length = 1 + nb c 0 0 0 + F.length := by rw [List.length_append, fm_len1]
  have h1 := sub_in bs r _ [] (fm [c, 0, 0, 0] (nb c 0 0 0)) F (by rw [hs]; rfl)
  have h2 := sub_in bs r _ (fm [c, 0, 0, 0] (nb c 0 0 0)) F [] (by rw [hs, List.append_nil])
  rw [List.length_nil, Nat.add_zero, fm_len1] at h1
  rw [fm_len1] at h2
  obtain ⟨e1, e2, e3⟩ := read_num c h9 bs r (nb c 0 0 0) rfl (by omega) h1
  refine ⟨?_, e3, ?_, ?_⟩
  · unfold cnE
    rw [if_pos e2, e3, e1, if_neg (by omega), if_neg (by omega)]
  · rw [e1, Nat.add_assoc]; exact h2
  · rw [e1, hlen]; omega
theorem pf_pos (p : List (BitVec 8)) : 1 ≤ (pf p).length := by unfold pf; rw [List.length_append, fm_len1]; omega
theorem pfs_ge (ps : List (List (BitVec 8))) : ∀ t, t ≤ ps.length → t ≤ (pfs ps t).length
  | 0, _ => Nat.zero_le _
  | t + 1, h => by
    have := pfs_ge ps t (by omega)
    rw [pfs_succ ps t (by omega), List.length_append]
    have := pf_pos (ps.getD t [])
    omega
theorem fms_ge (ns : List Nat) : ∀ t, t ≤ ns.length → t ≤ (fms ns t).length
  | 0, _ => Nat.zero_le _
  | t + 1, h => by
    have := fms_ge ns t (by omega)
    rw [fms_succ ns t (by omega), List.length_append, fm_len1]
    omega
/-- Pieces that stand there are read. -/
theorem rn_of (ps : List (List (BitVec 8))) (h9 : ∀ i, i < ps.length → (ps.getD i []).length ≤ 9) (bs : List (BitVec 8)) (r : Nat) (hl : r + (pfs ps ps.length).length ≤ bs.length) (hs : sub bs r (pfs ps ps.length).length = pfs ps ps.length) : ∀ t, t ≤ ps.length → rn bs r 0 t = (r + (pfs ps t).length, 0)
  | 0, _ => by simp [rn, pfs]
  | t + 1, h => by
    have ih := rn_of ps h9 bs r hl hs t (by omega)
    obtain ⟨Z, hZ⟩ := pfs_at ps t (by omega)
    have hZl := congrArg List.length hZ
    rw [List.length_append, List.length_append] at hZl
    have h1 := sub_in bs r _ (pfs ps t) (pf (ps.getD t [])) Z (hs.trans hZ)
    have h2 := h9 t (by omega)
    obtain ⟨e1, _, _, e4⟩ := read_pf (ps.getD t []) 9 (by omega) (by omega) bs (r + (pfs ps t).length) (by omega) h1
    simp only [rn]
    rw [ih]
    simp only [if_true]
    rw [if_pos e1, e4, pfs_succ ps t (by omega), List.length_append]
    simp only [Prod.mk.injEq, and_true]
    omega
theorem pns_of (ps : List (List (BitVec 8))) (h9 : ∀ i, i < ps.length → (ps.getD i []).length ≤ 9) (bs : List (BitVec 8)) (r : Nat) (hl : r + (pfs ps ps.length).length ≤ bs.length) (hs : sub bs r (pfs ps ps.length).length = pfs ps ps.length) : pns bs r ps.length = ps := by
  refine List.ext_getElem (pns_len _ _ _) (fun t h1 h2 => ?_)
  rw [pns_len] at h1
  obtain ⟨Z, hZ⟩ := pfs_at ps t h2
  have hZl := congrArg List.length hZ
  rw [List.length_append, List.length_append] at hZl
  have h3 := sub_in bs r _ (pfs ps t) (pf (ps.getD t [])) Z (hs.trans hZ)
  have h4 := h9 t h2
  obtain ⟨_, _, e3, _⟩ := read_pf (ps.getD t []) 9 (by omega) (by omega) bs (r + (pfs ps t).length) (by omega) h3
  have e5 : pn bs r t = ps.getD t [] := by
    unfold pn
    rw [rn_of ps h9 bs r hl hs t (by omega)]
    exact e3
  have e6 : (pns bs r ps.length)[t]? = some (pn bs r t) := by unfold pns; rw [List.getElem?_map, List.getElem?_range h1]; rfl
  have e7 := (List.getElem?_eq_some_iff.1 e6).2
  rw [e7, e5, List.getD_eq_getElem?_getD, List.getElem?_eq_getElem h2]
  rfl
/-- Numbers that stand there are read. -/
theorem fms_read (ns : List Nat) (hn : ∀ i, ns.getD i 0 < 9223372036854775807) (bs : List (BitVec 8)) (r : Nat) (hl : r + (fms ns ns.length).length ≤ bs.length) (hs : sub bs r (fms ns ns.length).length = fms ns ns.length) (t : Nat) (ht : t < ns.length) :
    nuE bs (r + (fms ns t).length) = 0 ∧ nuW bs (r + (fms ns t).length) = ns.getD t 0 ∧ r + (fms ns (t + 1)).length = r + (fms ns t).length + 1 + at8 bs (r + (fms ns t).length) := by
  obtain ⟨Z, hZ⟩ := fms_at ns t ht
  have hZl := congrArg List.length hZ
  rw [List.length_append, List.length_append, fm_len1] at hZl
  have h1 := sub_in bs r _ (fms ns t) (fm [ns.getD t 0, 0, 0, 0] (nb (ns.getD t 0) 0 0 0)) Z (hs.trans hZ)
  rw [fm_len1] at h1
  obtain ⟨e1, e2, e3⟩ := read_num (ns.getD t 0) (Nat.le_of_lt (hn t)) bs (r + (fms ns t).length) _ rfl (by omega) h1
  refine ⟨e2, e3, ?_⟩
  rw [fms_succ ns t ht, List.length_append, fm_len1, e1]
  omega

end Go.Proofs.Ytmkmdbpibpbcjaa
