/-
  End, of the program's reader and of the document's.
-/
import Derived.Test.YtfommclhnfcioaaXRr
import Derived.Test.YtfommclhnfcioaaXShut
namespace Go.Proofs.Ytfommclhnfcioaa
open Go Go.RowKit
open Sha

set_option maxRecDepth 100000 in
theorem end_rest (P : Nat) (A : Option Addr) (cap : Nat) (bs : List (BitVec 8)) (a : Nat) (w : World) (h : Rg w P A cap bs a) :
    Calls Try.prog 49 #[.pointer (some ⟨P, 0, none⟩)] w fun e w' => e = .returned (.int .i64 (if a < bs.length then 33 else 0)) ∧ ∃ m, w' = w.drewN m := by
  have HE : Hid _ := err_ok P _ _ 0 w h.row
  have HL : Hid _ := left_ok P A bs.length cap a h.le h.len 0 w h.row
  have hle := h.le
  have hln := h.len
  clear h
  generalize bs.length = n at *
  by_cases hlt : a < n
  · have c1 : (0 : Int) < (n : Int) - (a : Int) := by omega
    generalize (n : Int) - (a : Int) = q at *
    go_enter Try.func49, Try.ntmps49
    go_wp2_with fail
    refine Calls.mono HE.out ?_
    rintro e w2 ⟨rfl, hq⟩
    obtain rfl := hq.symm
    go_wp2_with fail
    refine Calls.mono HL.out ?_
    rintro e w3 ⟨rfl, m, hm⟩
    have HM : Hid _ := hm
    clear hm
    go_wp2_with fail
    go_ret
    exact ⟨rfl, m, HM.out⟩
  · have c1 : (n : Int) - (a : Int) = 0 := by omega
    rw [c1] at HL
    go_enter Try.func49, Try.ntmps49
    go_wp2_with fail
    refine Calls.mono HE.out ?_
    rintro e w2 ⟨rfl, hq⟩
    obtain rfl := hq.symm
    go_wp2_with fail
    refine Calls.mono HL.out ?_
    rintro e w3 ⟨rfl, m, hm⟩
    have HM : Hid _ := hm
    clear hm
    go_wp2_with fail
    go_ret
    exact ⟨rfl, m, HM.out⟩

set_option maxRecDepth 100000 in
theorem rend_ok (D g : Nat) (bs : List (BitVec 8)) (a : Nat) (w : World) (h : Rr w D g bs a 0) :
    Calls Try.prog 54 #[.pointer (some ⟨D, 0, none⟩)] w fun e w' => e = .returned (.int .i64 (if a < bs.length then 33 else 0)) ∧ ∃ m, w' = w.drewN m := by
  have HL : Hid _ := rleft D g bs a 0 w h
  have g2 := h.row.cell 2 _ rfl
  have hle := h.le
  have hln := h.len
  have HH : Hid _ := h
  clear h
  by_cases hlt : a < bs.length
  · have c1 : (0 : Int) < (bs.length : Int) - (a : Int) := by omega
    generalize (bs.length : Int) - (a : Int) = q at *
    go_enter Try.func54, Try.ntmps54
    go_wp2_with fail
    refine Calls.mono HL.out ?_
    rintro e w3 ⟨rfl, m, hm⟩
    have HM : Hid _ := hm
    clear hm
    go_wp2_with fail
    go_ret
    exact ⟨rfl, m, HM.out⟩
  · have c1 : (bs.length : Int) - (a : Int) = 0 := by omega
    rw [c1] at HL
    go_enter Try.func54, Try.ntmps54
    go_wp2_with fail
    refine Calls.mono HL.out ?_
    rintro e w3 ⟨rfl, m, hm⟩
    have k2 : w3.cell? ⟨D, 2, none⟩ = some (.int .i64 0) := by rw [hm]; exact g2
    have HM : Hid _ := hm
    clear hm
    go_wp2_with fail
    go_ret
    exact ⟨rfl, m, HM.out⟩
set_option maxRecDepth 100000 in
theorem rend_no (D g : Nat) (bs : List (BitVec 8)) (a : Nat) (f : Int) (hf : ¬ f = 0) (w : World) (h : Rr w D g bs a f) :
    Calls Try.prog 54 #[.pointer (some ⟨D, 0, none⟩)] w fun e w' => e = .returned (.int .i64 f) ∧ w' = w := by
  have g2 := h.row.cell 2 _ rfl
  have hb : (f == 0) = false := by simp [hf]
  clear h
  go_enter Try.func54, Try.ntmps54
  go_wp2_with fail
  go_ret
  exact ⟨rfl, rfl⟩

end Go.Proofs.Ytfommclhnfcioaa
