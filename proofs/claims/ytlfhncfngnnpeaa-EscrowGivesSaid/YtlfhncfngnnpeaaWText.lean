/-
  wide.Text.
-/
import Derived.Test.YtlfhncfngnnpeaaWCut
import Derived.Test.YtlfhncfngnnpeaaWFmt
import Derived.Test.YtlfhncfngnnpeaaWTextM
import Derived.Test.YtlfhncfngnnpeaaWHalf
import Derived.Test.YtlfhncfngnnpeaaWInv
namespace Go.Proofs.Ytlfhncfngnnpeaa
open Go Go.RowKit
open Wd
open Go.Lib (decDigits nDigits)

/-- The table of powers. -/
def P10 (w : World) : Prop := Lib.TabIs Try.prog w "internal/strconv.uint64pow10" .u64 Lib.pow10Tab
theorem join3 (a b c : List UInt8) : (⟨a.toArray⟩ : ByteArray) ++ (⟨b.toArray⟩ : ByteArray) ++ (⟨c.toArray⟩ : ByteArray) = ⟨(a ++ (b ++ c)).toArray⟩ := by
  apply ByteArray.ext
  simp
theorem nought_cut (n : Nat) (h : n ≤ 19) : (⟨#[48, 48, 48, 48, 48, 48, 48, 48, 48, 48, 48, 48, 48, 48, 48, 48, 48, 48, 48]⟩ : ByteArray).extract n 19 = ⟨(List.replicate (19 - n) (48 : UInt8)).toArray⟩ := by
  have : ∀ k : Fin 20, (⟨#[48, 48, 48, 48, 48, 48, 48, 48, 48, 48, 48, 48, 48, 48, 48, 48, 48, 48, 48]⟩ : ByteArray).extract k.val 19 = ⟨(List.replicate (19 - k.val) (48 : UInt8)).toArray⟩ := by decide
  exact this ⟨n, by omega⟩

theorem slice_noughts (W : World) (n : Nat) (h : n ≤ 19) : (Instr.slice 9 (.string ⟨#[48, 48, 48, 48, 48, 48, 48, 48, 48, 48, 48, 48, 48, 48, 48, 48, 48, 48, 48]⟩) (some (.int .i64 (n : Int))) none none).run Try.prog W = .ok (.string ⟨(List.replicate (19 - n) (48 : UInt8)).toArray⟩) W := by
  rw [run_slice_string_l W 9 _ Try.underlying9 .i64 (n : Int) (by omega) (by show (n : Int) ≤ 19; omega), ← nought_cut n h]
  rfl

end Go.Proofs.Ytlfhncfngnnpeaa
