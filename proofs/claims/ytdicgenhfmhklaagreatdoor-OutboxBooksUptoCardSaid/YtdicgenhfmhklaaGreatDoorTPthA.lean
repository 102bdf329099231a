/-
  pathOf of any list of leaves; Path.
-/
import Derived.Test.YtdicgenhfmhklaaGreatDoorTPath
namespace Go.Proofs.YtdicgenhfmhklaaGreatDoor
open Go Go.RowKit
open Sha

/-- The path of leaf i, bottom first. -/
def pt (i : Nat) (ps : List (List (BitVec 8))) : List (List (BitVec 8)) :=
  if _h : 2 ≤ ps.length ∧ ps.length < 4611686018427387904 then
    if i < fpart ps.length then pt i (ps.take (fpart ps.length)) ++ [rt (ps.drop (fpart ps.length))]
    else pt (i - fpart ps.length) (ps.drop (fpart ps.length)) ++ [rt (ps.take (fpart ps.length))]
  else []
termination_by ps.length
decreasing_by
  · have := (fpart_bounds ps.length (by omega) (by omega)).1
    rw [List.length_take]; omega
  · have := fpart_pos ps.length
    rw [List.length_drop]; omega
theorem pt_one (i : Nat) (ps : List (List (BitVec 8))) (h : ps.length = 1) : pt i ps = [] := by
  rw [pt, dif_neg (by omega)]
theorem pt_left (i n : Nat) (ps : List (List (BitVec 8))) (hn : ps.length = n) (h2 : 2 ≤ n) (hl : n < 4611686018427387904) (h : i < fpart n) : pt i ps = pt i (ps.take (fpart n)) ++ [rt (ps.drop (fpart n))] := by
  subst hn
  rw [pt, dif_pos ⟨h2, hl⟩, if_pos h]
theorem pt_right (i n : Nat) (ps : List (List (BitVec 8))) (hn : ps.length = n) (h2 : 2 ≤ n) (hl : n < 4611686018427387904) (h : ¬ i < fpart n) : pt i ps = pt (i - fpart n) (ps.drop (fpart n)) ++ [rt (ps.take (fpart n))] := by
  subst hn
  rw [pt, dif_pos ⟨h2, hl⟩, if_neg h]
theorem pt_length (n : Nat) : ∀ (i : Nat) (ps : List (List (BitVec 8))), ps.length = n → 1 ≤ n → n < 4611686018427387904 → (pt i ps).length = pl n i := by
  induction n using Nat.strongRecOn with
  | ind n ih =>
    intro i ps hn h1 hl
    by_cases e : n = 1
    · subst e; rw [pt_one i ps hn, pl_one]; rfl
    · have hb := fpart_bounds n (by omega) hl
      have hp := fpart_pos n
      by_cases hk : i < fpart n
      · rw [pt_left i n ps hn (by omega) hl hk, pl_left n i (by omega) hl hk, List.length_append, ih (fpart n) hb.1 i (ps.take (fpart n)) (by rw [List.length_take]; omega) (by omega) (by omega)]
        rfl
      · rw [pt_right i n ps hn (by omega) hl hk, pl_right n i (by omega) hl hk, List.length_append, ih (n - fpart n) (by omega) (i - fpart n) (ps.drop (fpart n)) (by rw [List.length_drop]; omega) (by omega) (by omega)]
        rfl
theorem pt_each (n : Nat) : ∀ (i : Nat) (ps : List (List (BitVec 8))), ps.length = n → 1 ≤ n → n < 4611686018427387904 → ∀ d ∈ pt i ps, d.length = 32 := by
  induction n using Nat.strongRecOn with
  | ind n ih =>
    intro i ps hn h1 hl d hd
    by_cases e : n = 1
    · subst e; rw [pt_one i ps hn] at hd; cases hd
    · have hb := fpart_bounds n (by omega) hl
      have hp := fpart_pos n
      by_cases hk : i < fpart n
      · rw [pt_left i n ps hn (by omega) hl hk] at hd
        rcases List.mem_append.1 hd with hd | hd
        · exact ih (fpart n) hb.1 i _ (by rw [List.length_take]; omega) (by omega) (by omega) d hd
        · rw [List.mem_singleton.1 hd]; exact rt_length _
      · rw [pt_right i n ps hn (by omega) hl hk] at hd
        rcases List.mem_append.1 hd with hd | hd
        · exact ih (n - fpart n) (by omega) (i - fpart n) _ (by rw [List.length_drop]; omega) (by omega) (by omega) d hd
        · rw [List.mem_singleton.1 hd]; exact rt_length _

/-- pathOf of any list of leaves. -/
theorem pathOf_any (n : Nat) : ∀ (i : Nat) (ps : List (List (BitVec 8))), ps.length = n → i < n → n < 4398046511104 → (∀ j, j < ps.length → (ps.getD j []).length < 1152921504606846975) → ∀ (b o cap : Nat), n ≤ cap → ∀ w : World, Tab w 2 → LsAt w b o ps →
    Calls Tryz.prog 61 #[.slice (some ⟨b, o, none⟩) n cap, .int .i64 (i : Int)] w fun e w' => ∃ v, e = .returned v ∧ w'.ownsRow w.heap.size 44 32 v (pt i ps).length ((pt i ps).flatMap vB) ∧ Below w.heap.size w w' := by
  induction n using Nat.strongRecOn with
  | ind n ih =>
    intro i ps hn hi hlt hm b o cap hc w hK hv
    by_cases e : n = 1
    · subst e
      rw [pt_one i ps hn]
      exact pathOf_one _ cap _ w
    · have h2 : 2 ≤ n := by omega
      have hl : n < 4611686018427387904 := by omega
      have hb := fpart_bounds n h2 hl
      have hp := fpart_pos n
      have t1 : (ps.take (fpart n)).length = fpart n := by rw [List.length_take]; omega
      have t2 : (ps.drop (fpart n)).length = n - fpart n := by rw [List.length_drop]; omega
      have m1 : ∀ j, j < (ps.take (fpart n)).length → ((ps.take (fpart n)).getD j []).length < 1152921504606846975 := fun j hj => by
        have hj2 : j < fpart n := by omega
        have e2 : (ps.take (fpart n)).getD j [] = ps.getD j [] := by simp [List.getD_eq_getElem?_getD, hj2]
        rw [e2]
        exact hm j (by omega)
      have m2 : ∀ j, j < (ps.drop (fpart n)).length → ((ps.drop (fpart n)).getD j []).length < 1152921504606846975 := fun j hj => by
        have e2 : (ps.drop (fpart n)).getD j [] = ps.getD (fpart n + j) [] := by simp [List.getD_eq_getElem?_getD, List.getElem?_drop]
        rw [e2]
        exact hm (fpart n + j) (by omega)
      by_cases hk : i < fpart n
      · have q := pt_length (fpart n) i _ t1 (by omega) (by omega)
        have := pl_lt (fpart n) i (by omega) (by omega)
        rw [pt_left i n ps hn h2 hl hk, List.length_append, List.flatMap_append, List.length_singleton, List.flatMap_singleton]
        exact pathOf_left n i (fpart n) _ cap b o h2 hl hi rfl hk _ _ (rt_length _) (by omega) hc w
          (fun W hB => ih (fpart n) hb.1 i _ t1 hk (by omega) m1 b o cap (by omega) W (hK.below hB hK.lt) ((hv.below hB).take _))
          (fun W hB => root_any (n - fpart n) _ t2 (by omega) m2 _ rfl b (o + fpart n) (cap - fpart n) (by omega) W (hK.below hB hK.lt) ((hv.below hB).drop _))
      · have q := pt_length (n - fpart n) (i - fpart n) _ t2 (by omega) (by omega)
        have := pl_lt (n - fpart n) (i - fpart n) (by omega) (by omega)
        rw [pt_right i n ps hn h2 hl hk, List.length_append, List.flatMap_append, List.length_singleton, List.flatMap_singleton]
        exact pathOf_right n i (fpart n) _ cap b o h2 hl hi rfl hk _ _ (rt_length _) (by omega) hc w
          (fun W hB => ih (n - fpart n) (by omega) (i - fpart n) _ t2 (by omega) (by omega) m2 b (o + fpart n) (cap - fpart n) (by omega) W (hK.below hB hK.lt) ((hv.below hB).drop _))
          (fun W hB => root_any (fpart n) _ t1 (by omega) m1 _ rfl b o cap (by omega) W (hK.below hB hK.lt) ((hv.below hB).take _))

end Go.Proofs.YtdicgenhfmhklaaGreatDoor
