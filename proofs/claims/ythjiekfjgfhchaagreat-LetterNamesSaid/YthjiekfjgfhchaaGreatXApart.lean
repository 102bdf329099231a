/-
  The law's size, begins, apart.
-/
import Derived.Test.YthjiekfjgfhchaaGreatXLaw2
import Derived.Deep.QuietTactic

namespace Go.Proofs.YthjiekfjgfhchaaGreat
open Go Go.RowKit
open Sha

/-- A step's cells. -/
abbrev sc (k N : Int) (v : Value) (m0 m1 m2 m3 : Nat) (u : Value) : List Value := [.int .i64 k, .int .i64 N, v, .int .u64 (m0 : Int), .int .u64 (m1 : Int), .int .u64 (m2 : Int), .int .u64 (m3 : Int), u]
abbrev mx : Int := 9223372036854775807
/-- The form of a value of a kind. -/
def fo (k : Nat) (N : Int) (d : List (BitVec 8)) (m0 m1 m2 m3 : Nat) : List (BitVec 8) :=
  match k with
  | 0 => [BitVec.ofInt 8 N]
  | 1 => [if !(N.tmod 2 == 0) then 1#8 else 0#8]
  | 2 => fm [(pk N mx).toNat, 0, 0, 0] (nb (pk N mx).toNat 0 0 0)
  | 3 => fm [d.length, 0, 0, 0] (nb d.length 0 0 0) ++ d
  | 4 => fm [m0, m1, m2, m3] (nb m0 m1 m2 m3)
  | 5 => dgN 32 d
  | _ => dgN 20 d
theorem c_ofInt (N : Int) : c (BitVec.ofInt 8 N) = N % 256 := by
  show (((BitVec.ofInt 8 N).toNat : Nat) : Int) = _
  rw [BitVec.toNat_ofInt]
  omega
theorem pk_same (k n : Int) (h0 : 0 ≤ k) (h1 : k < n) : pk k n = k := by
  unfold pk; rw [if_neg (by omega)]; exact Int.emod_eq_of_lt h0 h1
theorem Rw_of {P : Nat} : ∀ g, Rw P none 0 [] g → g = P := fun g h => by
  rcases h with h | h
  · exact h
  · simp [Value.ownBlock] at h

end Go.Proofs.YthjiekfjgfhchaaGreat

namespace Go.Proofs.YthjiekfjgfhchaaGreat
open Go Go.RowKit
open Sha

theorem fo_len (k : Nat) (N : Int) (d : List (BitVec 8)) (m0 m1 m2 m3 : Nat) (hd : d.length ≤ 4194200) : 0 < (fo k N d m0 m1 m2 m3).length ∧ (fo k N d m0 m1 m2 m3).length ≤ 4194304 := by
  have q1 := nb_le (pk N mx).toNat 0 0 0
  have q2 := nb_le d.length 0 0 0
  have q3 := nb_le m0 m1 m2 m3
  unfold fo
  split <;> simp only [List.length_append, List.length_singleton, fm_len, dgN_len] <;> omega

end Go.Proofs.YthjiekfjgfhchaaGreat

namespace Go.Proofs.YthjiekfjgfhchaaGreat
open Go Go.RowKit
open Sha

/-- Are two steps of a kind unlike? -/
def ap (k : Nat) (N N' : Int) (d d' : List (BitVec 8)) (m m' : List Nat) : Bool :=
  match k with
  | 0 => !(N % 256 == N' % 256)
  | 1 => !((!(N.tmod 2 == 0)) == (!(N'.tmod 2 == 0)))
  | 2 => !(pk N mx == pk N' mx)
  | 3 => !decide (d = d')
  | 4 => !decide (m = m')
  | 5 => !decide (dgN 32 d = dgN 32 d')
  | _ => !decide (dgN 20 d = dgN 20 d')

theorem drew_b (w : World) (q : Nat) {N : Nat} : Below N w (w.drewN q) := ⟨rfl, rfl, rfl, Nat.le_refl _, fun _ _ => rfl⟩
theorem quiet_same {P : Program} {f : FuncId} {args : Array Value} {w : World} {v : Value} (h : Calls P f args w fun e w' => e = .returned v ∧ w' = w) : Calls P f args w fun e w' => e = .returned v ∧ ∃ m, w' = w.drewN m := h.mono fun _ _ ⟨h1, h2⟩ => ⟨h1, 0, h2⟩

end Go.Proofs.YthjiekfjgfhchaaGreat
