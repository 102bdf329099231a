/-
  Path of the program and of the document, at any number.
-/
import Derived.Test.YtlknanjbiicghaaDoorTMark
import Derived.Test.YtlknanjbiicghaaDoorTSome
import Derived.Test.YtlknanjbiicghaaDoorTPthA

namespace Go.Proofs.YtlknanjbiicghaaDoor
open Go Go.RowKit
open Sha

theorem own_of {w : World} {N n : Nat} {v : Value} {xs : List Value} (h : Ow w v n xs) (hf : Fresh N v) : w.ownsRow N 28 32 v n xs := by
  refine ⟨h.1, ?_⟩
  rcases h.2 with q | ⟨g, cap, cur, hv, hg, r⟩
  · exact .inl q
  · exact .inr ⟨g, cap, cur, hv, hf g (by rw [hv]; rfl), r⟩

end Go.Proofs.YtlknanjbiicghaaDoor

namespace Go.Proofs.YtlknanjbiicghaaDoor
open Go Go.RowKit
open Sha

theorem Ow.patp {w : World} {v : Value} {p : Nat} {ds : List (List (BitVec 8))} (h : Ow w v p (vB ds.flatten)) (hp : ds.length = p) (h32 : ∀ d ∈ ds, d.length = 32) : PAt w v ds := by
  subst hp
  exact Ow.pat h h32
theorem Ow.rows {w w' : World} {v : Value} {n : Nat} {xs : List Value} (h : Ow w v n xs) (k : ∀ b cs t, Row w b cs t → t ≠ 5 → Row w' b cs t) : Ow w' v n xs := by
  refine h.block fun g e => ?_
  rcases h.2 with ⟨q, _⟩ | ⟨g', cap, cur, hv, _, hh, _⟩
  · rw [q] at e; simp [Value.ownBlock] at e
  · rw [hv] at e
    simp only [Value.ownBlock, Option.some.injEq] at e
    subst e
    have q : Row w g' cur.toList 28 := by unfold Row; rw [hh]
    have q2 := k _ _ _ q (by decide)
    unfold Row at q2
    rw [q2, hh]
/-- What Path tells of a number, and its error. -/
def pq (i : Int) (ps : List (List (BitVec 8))) : List (List (BitVec 8)) := if 0 ≤ i ∧ i < (ps.length : Int) then pt i.toNat ps else []
def pe (i : Int) (n : Nat) : Int := if 0 ≤ i ∧ i < (n : Int) then 0 else 41
theorem pq_fact (ps : List (List (BitVec 8))) (n : Nat) (hn : ps.length = n) (hs : n ≤ 1048576) (i : Int) : (∀ d ∈ pq i ps, d.length = 32) ∧ (pq i ps).length ≤ 1048576 := by
  unfold pq
  by_cases h : 0 ≤ i ∧ i < (ps.length : Int)
  · rw [if_pos h]
    refine ⟨pt_each n i.toNat ps hn (by omega) (by omega), ?_⟩
    rw [pt_length n i.toNat ps hn (by omega) (by omega)]
    have := pl_lt n i.toNat (by omega) (by omega)
    omega
  · rw [if_neg h]
    exact ⟨(fun d hd => nomatch hd), Nat.zero_le _⟩
end Go.Proofs.YtlknanjbiicghaaDoor
