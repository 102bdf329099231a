/-
  End, of the program's reader and of the document's.
-/
import Derived.Test.YtdicgenhfmhklaaGreatDoorXRr
import Derived.Test.YtdicgenhfmhklaaGreatDoorXShut
namespace Go.Proofs.YtdicgenhfmhklaaGreatDoor
open Go Go.RowKit
open Sha

set_option maxRecDepth 100000 in
theorem end_rest (P : Nat) (A : Option Addr) (cap : Nat) (bs : List (BitVec 8)) (a : Nat) (w : World) (h : Rg w P A cap bs a) :
    Calls Tryz.prog 60 #[.pointer (some ⟨P, 0, none⟩)] w fun e w' => e = .returned (.int .i64 (if a < bs.length then 33 else 0)) ∧ ∃ m, w' = w.drewN m := by
  have HE : Hid _ := err_ok P _ _ 0 w h.row
  have HL : Hid _ := left_ok P A bs.length cap a h.le h.len 0 w h.row
  have hle := h.le
  have hln := h.len
  clear h
  generalize bs.length = n at *
  by_cases hlt : a < n
  · have c1 : (0 : Int) < (n : Int) - (a : Int) := by omega
    generalize (n : Int) - (a : Int) = q at *
    go_enter Tryz.func60, Tryz.ntmps60
    go_wp2_with fail
    refine Calls.mono HE.out ?_
    rintro e w2 ⟨rfl, hq⟩
    obtain rfl := hq.symm
    go_wp2_with fail
    refine Calls.mono HL.out ?_
    rintro e w3 ⟨rfl, m, hm⟩
    have HM : Hid _ := hm
    clear hm
    go_wp2_with fail
    go_ret
    exact ⟨rfl, m, HM.out⟩
  · have c1 : (n : Int) - (a : Int) = 0 := by omega
    rw [c1] at HL
    go_enter Tryz.func60, Tryz.ntmps60
    go_wp2_with fail
    refine Calls.mono HE.out ?_
    rintro e w2 ⟨rfl, hq⟩
    obtain rfl := hq.symm
    go_wp2_with fail
    refine Calls.mono HL.out ?_
    rintro e w3 ⟨rfl, m, hm⟩
    have HM : Hid _ := hm
    clear hm
    go_wp2_with fail
    go_ret
    exact ⟨rfl, m, HM.out⟩

end Go.Proofs.YtdicgenhfmhklaaGreatDoor
