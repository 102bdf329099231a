/-
  The law's pick, same, begins, digest, address.
-/
import Derived.Test.YtdicgenhfmhklaaGreatDoorXWb
namespace Go.Proofs.YtdicgenhfmhklaaGreatDoor
open Go Go.RowKit
open Sha

/-- Which one. -/
def pk (c n : Int) : Int := (if c < 0 then -(c + 1) else c) % n
theorem pk_range (c n : Int) (hn : 0 < n) : 0 ≤ pk c n ∧ pk c n < n := ⟨Int.emod_nonneg _ (by omega), Int.emod_lt_of_pos _ hn⟩
theorem sl_cell {w : World} {A : Option Addr} {n cap : Nat} {d : List (BitVec 8)} (h : SlAt w (.slice A n cap) d) (i : Nat) (hi : i < d.length) : ∃ b o, A = some ⟨b, o, none⟩ ∧ w.cell? ⟨b, o + i, none⟩ = some (.int .u8 (c (d.getD i 0))) := by
  rcases h with ⟨h0, _⟩ | ⟨ab, ao, c', hv, _, hr⟩
  · subst h0; simp at hi
  · simp only [Value.slice.injEq] at hv
    exact ⟨ab, ao, hv.1, hr i _ (vB_get d i hi)⟩
theorem c_inj {x y : BitVec 8} (h : c x = c y) : x = y := by
  unfold c at h
  apply BitVec.eq_of_toNat_eq
  omega

end Go.Proofs.YtdicgenhfmhklaaGreatDoor
