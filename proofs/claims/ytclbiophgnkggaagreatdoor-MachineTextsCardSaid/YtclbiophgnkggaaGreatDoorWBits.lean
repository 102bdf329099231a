/-
  wide.Bits.
-/
import Derived.Test.YtclbiophgnkggaaGreatDoorWLen
import Derived.Test.YtclbiophgnkggaaGreatDoorWDvN
namespace Go.Proofs.YtclbiophgnkggaaGreatDoor
open Go Go.RowKit
open Wd

set_option maxRecDepth 100000 in
set_option maxHeartbeats 1000000 in
theorem bits_any (a : Nat) (w : World) :
    Calls Tryz.prog 107 #[.agg (vQ (dgs a 4)).toArray] w fun e w' => e = .returned (.int .i64 ((bitsR a : Nat) : Int)) ∧ Below w.heap.size w w' := by
  have R := Row.new w (vQ (dgs a 4)) 37
  have hB : Below w.heap.size w (w.alloc (Obj.cells (vQ (dgs a 4)).toArray 37)) := (Below.refl _ _).alloc (Nat.le_refl _) _
  go_enter Tryz.func107, Tryz.ntmps107
  go_wp2
  go_loopw [3] (fun i wr => ∃ t : Nat, t ≤ 4 ∧ i = .int .i64 ((t : Int) - 1) ∧ wr = w.alloc (Obj.cells (vQ (dgs a 4)).toArray 37) ∧ Hid (∀ j, t ≤ j → j < 4 → lim a j = 0))
    (fun i _ => (intOf i + 1).toNat)
  case atStart => exact ⟨4, by omega, rfl, rfl, fun j h1 h2 => by omega⟩
  case round =>
    obtain ⟨t, ht, rfl, rfl, hZ⟩ := hrel
    generalize w.alloc (Obj.cells (vQ (dgs a 4)).toArray 37) = W at *
    by_cases hlt : 0 < t
    · obtain ⟨k, rfl⟩ : ∃ k, t = k + 1 := ⟨t - 1, by omega⟩
      have hk : k < 4 := by omega
      have ei : (((k + 1 : Nat) : Int) - 1) = (k : Int) := by omega
      rw [ei]
      have g0 := R.cell k _ (vQ_get _ k (by rw [dgs_length]; exact hk))
      rw [dgs_getD _ _ _ hk] at g0
      clear ei ht hlt
      by_cases hx : lim a k = 0
      · rw [hx] at g0
        have HX : Hid (lim a k = 0) := hx
        clear hx
        go_wp2
        refine ⟨⟨k, by omega, by go_num, trivial, fun j h1 h2 => ?_⟩, by simp [intOf]⟩
        rcases Nat.eq_or_lt_of_le h1 with h | h
        · rw [← h]; exact HX.out
        · exact hZ.out j h h2
      · have hxi : ¬ ((lim a k : Nat) : Int) = 0 := by omega
        have HLN : Hid (∀ w, _) := len64_any (lim a k) (lim_lt a k)
        have hbl : Lib.bitLen (lim a k) ≤ 64 := Lib.bitLen_le _ 64 (by decide) (lim_lt a k)
        have HR : Hid (bitsR a = 64 * k + Lib.bitLen (lim a k)) := by
          show bitsR a = _
          have ht : topi a = k := by
            have z := hZ.out
            unfold topi
            match k, hk, hx, z with
            | 0, _, hx, z => rw [if_neg (by simp [z 3 (by omega) (by omega)]), if_neg (by simp [z 2 (by omega) (by omega)]), if_neg (by simp [z 1 (by omega) (by omega)])]
            | 1, _, hx, z => rw [if_neg (by simp [z 3 (by omega) (by omega)]), if_neg (by simp [z 2 (by omega) (by omega)]), if_pos hx]
            | 2, _, hx, z => rw [if_neg (by simp [z 3 (by omega) (by omega)]), if_pos hx]
            | 3, _, hx, z => rw [if_pos hx]
          unfold bitsR; rw [ht]
        obtain ⟨L, hL⟩ : ∃ L, L = Lib.bitLen (lim a k) := ⟨_, rfl⟩
        rw [← hL] at HLN HR hbl
        clear hL hx hZ
        generalize lim a k = x at *
        go_wp2_with (go_at_call 119; refine (HLN.out W).mono ?_; rintro e w2 ⟨rfl, rfl⟩)
        go_ret
        exact ⟨by rw [HR.out]; simp, hB⟩
    · have et : t = 0 := by omega
      subst et
      clear ht hlt
      have HR : Hid (bitsR a = 0) := by
        show bitsR a = 0
        have z := hZ.out
        have ht : topi a = 0 := by
          unfold topi
          rw [if_neg (by simp [z 3 (by omega) (by omega)]), if_neg (by simp [z 2 (by omega) (by omega)]), if_neg (by simp [z 1 (by omega) (by omega)])]
        unfold bitsR; rw [ht, z 0 (by omega) (by omega)]; rfl
      go_wp2
      go_ret
      exact ⟨by rw [HR.out]; rfl, hB⟩

end Go.Proofs.YtclbiophgnkggaaGreatDoor
