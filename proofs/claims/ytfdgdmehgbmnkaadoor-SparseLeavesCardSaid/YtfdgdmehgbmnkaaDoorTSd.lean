/-
  The document's below, Sides, LeafText, NodeText.
-/
import Derived.Test.YtfdgdmehgbmnkaaDoorTApp
import Derived.Test.YtfdgdmehgbmnkaaDoorTRSum

namespace Go.Proofs.YtfdgdmehgbmnkaaDoor
open Go Go.RowKit
open Sha

theorem own_below {B N e size n : Nat} {w w' : World} {v : Value} {xs : List Value} (h : w.ownsRow N e size v n xs) (k : Below B w w') (hB : w.heap.size ≤ B) : w'.ownsRow N e size v n xs := by
  obtain ⟨h1, h2⟩ := h
  refine ⟨h1, ?_⟩
  rcases h2 with h2 | ⟨g, cap, cur, hv, hg, hh, r⟩
  · exact .inl h2
  · exact .inr ⟨g, cap, cur, hv, hg, (k.block g (Nat.lt_of_lt_of_le (Array.getElem?_eq_some_iff.1 hh).1 hB)).trans hh, r⟩
theorem own_less {M N e size n : Nat} {w : World} {v : Value} {xs : List Value} (h : w.ownsRow N e size v n xs) (hM : M ≤ N) : w.ownsRow M e size v n xs := by
  obtain ⟨h1, h2⟩ := h
  refine ⟨h1, ?_⟩
  rcases h2 with h2 | ⟨g, cap, cur, hv, hg, hh, r⟩
  · exact .inl h2
  · exact .inr ⟨g, cap, cur, hv, Nat.le_trans hM hg, hh, r⟩
theorem own_block {N e size n : Nat} {w : World} {v : Value} {xs : List Value} (h : w.ownsRow N e size v n xs) : ∀ k, v.ownBlock = some k → N ≤ k := by
  intro k hk
  rcases h.2 with ⟨h2, _⟩ | ⟨g', cap, cur, hv, hg, _⟩
  · rw [h2] at hk; simp [Value.ownBlock] at hk
  · rw [hv] at hk; simp [Value.ownBlock] at hk; omega
/-- A list of digests that was made here. -/
def SP.own (M n : Nat) (l : List Value) : SP := ⟨fun W v => W.ownsRow M 29 32 v n l, fun _ _ _ hB h => own_below h hB (Nat.le_refl _)⟩

/-- A turn of the world, asked of what has been carried out alone. -/
theorem Fp.turned {D : List (Tmp × SP)} {a0 : Act} {listed : Array Bool} {a : Act} {W W2 : World} (h : Fp D a0 listed a W) (hW : ∀ i p, D[i]? = some p → listed.getD i false = true → ∀ v, p.2.P W v → p.2.P W2 v) : Fp D a0 listed a W2 :=
  ⟨h.size, h.defers, h.keep, fun i p hp hl => hW i p hp hl _ (h.done i p hp hl), h.fresh⟩

end Go.Proofs.YtfdgdmehgbmnkaaDoor

namespace Go.Proofs.YtfdgdmehgbmnkaaDoor
open Go Go.RowKit
open Sha

theorem pow_one_way (a b : Nat) (h1 : 2 ^ a < 2 * 2 ^ b) (h2 : 2 ^ b < 2 * 2 ^ a) : a = b := by
  have e1 : 2 * 2 ^ b = 2 ^ (b + 1) := by rw [Nat.pow_succ]; omega
  have e2 : 2 * 2 ^ a = 2 ^ (a + 1) := by rw [Nat.pow_succ]; omega
  rw [e1] at h1
  rw [e2] at h2
  have := (Nat.pow_lt_pow_iff_right (by decide : 1 < 2)).1 h1
  have := (Nat.pow_lt_pow_iff_right (by decide : 1 < 2)).1 h2
  omega
theorem fpart_is (n j : Nat) (h2 : 2 ≤ n) (hn : n < 4611686018427387904) (ha : 2 ^ j < n) (hb : n ≤ 2 * 2 ^ j) : fpart n = 2 ^ j := by
  obtain ⟨h, h', _, _⟩ := fpart_bounds n h2 hn
  have e : fpart n = 2 ^ (Lib.bitLen (n - 1) - 1) := rfl
  rw [e] at h h' ⊢
  rw [pow_one_way (Lib.bitLen (n - 1) - 1) j (by omega) (by omega)]

/-- Does the other one stand on the right, from the leaf up. -/
def sd (n i : Nat) : List Bool :=
  if _h : 2 ≤ n ∧ n < 4611686018427387904 then
    if i < fpart n then sd (fpart n) i ++ [true] else sd (n - fpart n) (i - fpart n) ++ [false]
  else []
termination_by n
decreasing_by
  · exact (fpart_bounds n (by omega) (by omega)).1
  · have := fpart_pos n; omega
theorem sd_one (i : Nat) : sd 1 i = [] := by rw [sd, dif_neg (by omega)]
theorem sd_left (n i : Nat) (h2 : 2 ≤ n) (hl : n < 4611686018427387904) (h : i < fpart n) : sd n i = sd (fpart n) i ++ [true] := by
  rw [sd, dif_pos ⟨h2, hl⟩, if_pos h]
theorem sd_right (n i : Nat) (h2 : 2 ≤ n) (hl : n < 4611686018427387904) (h : ¬ i < fpart n) : sd n i = sd (n - fpart n) (i - fpart n) ++ [false] := by
  rw [sd, dif_pos ⟨h2, hl⟩, if_neg h]
theorem sd_length (n : Nat) : ∀ i, 1 ≤ n → n < 4611686018427387904 → (sd n i).length = pl n i := by
  induction n using Nat.strongRecOn with
  | ind n ih =>
    intro i h1 hl
    by_cases e : n = 1
    · subst e; rw [sd_one, pl_one]; rfl
    · have hb := fpart_bounds n (by omega) hl
      have hp := fpart_pos n
      by_cases hk : i < fpart n
      · rw [sd_left n i (by omega) hl hk, pl_left n i (by omega) hl hk, List.length_append, ih (fpart n) hb.1 i (by omega) (by omega)]; rfl
      · rw [sd_right n i (by omega) hl hk, pl_right n i (by omega) hl hk, List.length_append, ih (n - fpart n) (by omega) (i - fpart n) (by omega) (by omega)]; rfl

def vT (l : List Bool) : List Value := l.map Value.bool
theorem info_all_bool : (Tryd.prog.info? 4).map (fun i => (i.zero, i.size, i.bytes)) = some (some (.bool false), 1, 1) := by kernel_rfl
theorem vT_one (l : List Bool) : ∀ v ∈ vT l, v.oneCell' = true := by
  intro v hv
  obtain ⟨b, _, rfl⟩ := List.mem_map.1 hv
  rfl
theorem own_of_below {B N e size n : Nat} {w w' : World} {v : Value} {xs : List Value} (h : w.ownsRow N e size v n xs) (k : Below B w w') (hB : w.heap.size ≤ B) : w'.ownsRow N e size v n xs := ownsRow_below h k hB

section
variable {ops : Array Oper} {rest : List Oper} {op : Oper} {a : Act} {Q : Exit → Act → World → Prop}
end

theorem slat_grown {w w' : World} {b o n cap : Nat} {d : List (BitVec 8)} {k : Option Nat} (h : SlAt w (.slice (some ⟨b, o, none⟩) n cap) d) (hg : w.grownBy w' k) (hne : k ≠ some b) : SlAt w' (.slice (some ⟨b, o, none⟩) n cap) d := by
  rcases h with ⟨h1, A, c, e⟩ | ⟨ab, ao, c, e, h2, h3⟩
  · exact .inl ⟨h1, A, c, e⟩
  · refine .inr ⟨ab, ao, c, e, h2, fun j v hv => ?_⟩
    simp only [Value.slice.injEq, Option.some.injEq, Addr.mk.injEq] at e
    obtain ⟨⟨rfl, rfl, _⟩, rfl, rfl⟩ := e
    have hc := h3 j v hv
    have hlt := World.block_lt_of_cell? w _ hc
    rw [← hc]
    unfold World.cell?
    rw [hg.block b hlt (fun x => hne x.symm)]

end Go.Proofs.YtfdgdmehgbmnkaaDoor
