/-
  wide.doubled.
-/
import Derived.Test.YtlfhncfngnnpeaaWHalf
import Derived.Test.YtlfhncfngnnpeaaWDvM
namespace Go.Proofs.Ytlfhncfngnnpeaa
open Go Go.RowKit
open Wd

theorem dbl_list (n : Nat) (hn : n < 2 ^ 256) : vQ (dgs n 4) ++ vQ (List.replicate 4 0) = vQ (dgs n 8) := by
  rw [← vQ_append]
  congr 1
  have h := dgs_num (dgs n 4 ++ List.replicate 4 0) (by
    intro x hx
    rcases List.mem_append.1 hx with h | h
    · exact all_dgs _ _ x h
    · rw [List.eq_of_mem_replicate h]; decide)
  have e : num (dgs n 4 ++ List.replicate 4 0) = n := by
    have h4 : n < 18446744073709551616 ^ 4 := by simpa using hn
    have := num_dgs' n 4 h4
    rw [show dgs n 4 = [lim n 0, lim n 1, lim n 2, lim n 3] from rfl] at this ⊢
    simp [num, List.replicate] at this ⊢
    exact this
  rw [e] at h
  exact h.symm

end Go.Proofs.Ytlfhncfngnnpeaa
