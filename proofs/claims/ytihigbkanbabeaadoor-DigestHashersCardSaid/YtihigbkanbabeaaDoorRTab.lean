/-
  The three tables, as the rows list them.
-/
import Derived.Test.YtihigbkanbabeaaDoorRSum
import Derived.Test.YtihigbkanbabeaaDoorRow
import Derived.Stop.LaidErr
namespace Go.Proofs.YtihigbkanbabeaaDoor
open Go Go.RowKit
open Sha

theorem gCon : Tryd.prog.globalNamed "causeway/causewayref01.constants" = some 2 := by kernel_rfl
theorem gConType : (Tryd.prog.globals[2]?).map (·.type) = some 74 := by kernel_rfl
theorem gBeg : Tryd.prog.globalNamed "causeway/causewayref01.beginning" = some 0 := by kernel_rfl
theorem gBegType : (Tryd.prog.globals[0]?).map (·.type) = some 58 := by kernel_rfl
theorem cellsArr8 : Tryd.prog.cellsOf 58 = 8 := by kernel_rfl

theorem tab_con {W : World} (h : Lib.TabIs Tryd.prog W "causeway/causewayref01.constants" .u32 (K.map u)) : Tab W 2 := fun i hi => by
  have := h.cell gCon i (by simpa [K_length] using hi)
  rw [this]
  rw [List.getD_eq_getElem?_getD, List.getElem?_map, List.getElem?_eq_getElem (by rw [K_length]; exact hi)]
  simp [show i < K.length by rw [K_length]; exact hi]

theorem given_of {W : World} (h : laidMet Tryd.prog [("causeway/causewayref01.constants", Lib.tabData .u32 (K.map u)), ("causeway/causewayref01.beginning", Lib.tabData .u32 (st0.list.map u)), ("causeway/digest.cubeRoots", Lib.tabData .u32 (K.map u))] W) : Given W := by
  have h1 := h.tail
  have h2 := h1.tail
  refine ⟨tab_con (Lib.tabIs_of_head gCon gConType Tryd.underlying74 Tryd.underlying57 cellsU32 cellsTab h), ?_, tab_of (Lib.tabIs_of_head gTab gTabType Tryd.underlying74 Tryd.underlying57 cellsU32 cellsTab h2)⟩
  have t := Lib.tabIs_of_head gBeg gBegType Tryd.underlying58 Tryd.underlying57 cellsU32 cellsArr8 h1
  intro j v hv
  have hj : j < st0.list.length := by have := (List.getElem?_eq_some_iff.1 hv).1; rwa [vW_length] at this
  have := t.cell gBeg j (by simpa using hj)
  rw [Nat.zero_add, this, ← hv, vW_get _ _ hj]
  rw [List.getD_eq_getElem?_getD, List.getElem?_map, List.getElem?_eq_getElem hj]
  simp [hj]

end Go.Proofs.YtihigbkanbabeaaDoor
