/-
  wide.guess, wide.doubled.
-/
import Derived.Test.YtbklegljibigjaaDoorWCut
import Derived.Test.YtbklegljibigjaaDoorWShf
namespace Go.Proofs.YtbklegljibigjaaDoor
open Go Go.RowKit
open Wd

set_option maxHeartbeats 1000000 in
theorem guess_any (hi lo y : Nat) (hh : hi ≤ y) (hl : lo < 18446744073709551616) (hy : y < 18446744073709551616) (w : World) :
    Calls Tryd.prog 66 #[.int .u64 (hi : Int), .int .u64 (lo : Int), .int .u64 (y : Int)] w fun e w' => e = .returned (.int .u64 ((gss hi lo y : Nat) : Int)) ∧ ∃ n, w' = w.drewN n := by
  by_cases he : hi = y
  · subst he
    have hg : gss hi lo hi = 18446744073709551615 := if_pos rfl
    rw [hg]
    clear hg hh hl hy
    go_enter Tryd.func66, Tryd.ntmps66
    go_wp2
    go_ret
    exact ⟨rfl, 0, by rw [World.drewN_zero]⟩
  · have hg : gss hi lo y = (hi * 18446744073709551616 + lo) / y := if_neg he
    rw [hg]
    have HD : Hid (∀ w, _) := div64_N hi lo y (by omega) hl hy
    have hne : ((hi : Int) == (y : Int)) = false := by simpa using (by omega : ¬ (hi : Int) = (y : Int))
    have hne' : ¬ (hi : Int) = (y : Int) := by omega
    generalize (hi * 18446744073709551616 + lo) / y = q at *
    generalize (hi * 18446744073709551616 + lo) % y = r at *
    clear hg hh hl hy he
    go_enter Tryd.func66, Tryd.ntmps66
    go_wp2_with (go_at_call 69; refine (HD.out w).mono ?_; rintro e w2 ⟨rfl, n, rfl⟩)
    go_ret
    exact ⟨rfl, n, rfl⟩

end Go.Proofs.YtbklegljibigjaaDoor
