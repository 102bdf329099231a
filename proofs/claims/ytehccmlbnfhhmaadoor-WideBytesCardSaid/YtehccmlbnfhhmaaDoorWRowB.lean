/-
  Numbers, bytes and texts that came in, by their cells.
-/
import Derived.Test.YtehccmlbnfhhmaaDoorWRow
import Derived.Test.YtehccmlbnfhhmaaDoorWRd
import Derived.ChangeMaps5
import Derived.ChangeSlices
namespace Go.Proofs.YtehccmlbnfhhmaaDoor
open Go Go.RowKit Go.ChangeShapes Go.WideShapes Go.ChangeAt
open Wd

theorem strn_in (s : ByteArray) : ∃ l, StrN s l := by
  refine ⟨s.data.toList.map UInt8.toNat, ?_, ?_, fun i h => ?_⟩
  · rw [List.length_map, Array.length_toList]; rfl
  · intro x hx
    obtain ⟨b, _, rfl⟩ := List.mem_map.1 hx
    exact b.toNat_lt
  · have h' : i < s.data.toList.length := by rw [Array.length_toList]; exact h
    rw [List.getD_eq_getElem?_getD, List.getElem?_map, List.getElem?_eq_getElem h']
    rfl

section
variable {H : Type} {enc : TypeId × Value → H} {W : World} {base : Nat} {held : Bool} {fuel : Nat} {cs : List Value} {x : DataW H × List MemPlace}
set_option maxRecDepth 100000 in
theorem wide_at {sp : Nat → Bool} (hl : cs.length = 4) (h : DataW.trod enc Tryd.prog W base sp held fuel 24 cs = some x) : ∃ n, n < 2 ^ 256 ∧ cs = vQ (dgs n 4) := by
  cases fuel with
  | zero => simp [DataW.trod] at h
  | succ m =>
    rw [DataW.trod_step] at h
    unfold DataW.trodStep at h
    simp only [Tryd.underlying24] at h
    rw [if_pos (by rw [cellsWide]; exact hl)] at h
    simp only [Option.map_eq_some_iff] at h
    obtain ⟨ys, hy, _⟩ := h
    have each := mapM_each _ _ hy
    refine parts_in cs hl (fun i h => ?_)
    obtain ⟨y, hy⟩ := each i (List.mem_range.2 (by omega))
    rw [cellsU64, Nat.mul_one] at hy
    obtain ⟨z, hz, _, wz⟩ := DataW.trod_int Tryd.underlying22 hy
    have hb := bounds_u64 wz
    refine ⟨z, ?_, hb.1, hb.2⟩
    rw [List.drop_eq_getElem_cons h, List.take_succ_cons, List.take_zero] at hz
    exact (List.cons.inj hz).1

theorem cellsU8' : Tryd.prog.cellsOf 5 = 1 := by kernel_rfl
/-- Bytes that came in. -/
theorem by_in (h : DataW.trod enc Tryd.prog W base (fun _ => true) held fuel 44 cs = some x) : ∃ (A : Option Addr) (l : List Nat) (cap : Nat), cs = [.slice A l.length cap] ∧ (∀ y ∈ l, y < 256) ∧ By W A l ∧ l.length ≤ cap ∧ cap ≤ maxLen ∧ (A = none → cap = 0) := by
  rcases open_ints Tryd.underlying44 Tryd.underlying5 cellsU8' h with ⟨hcs, _⟩ | ⟨a, L, C, Z, hcs, _, hl, hm, hz, _, hcell, hwz⟩
  · refine ⟨none, [], 0, hcs, ?_, ?_, Nat.le_refl _, Nat.zero_le _, fun _ => rfl⟩
    · intro y hy; cases hy
    · intro i hi; simp at hi
  · simp only [if_true] at hz
    have hlen : ((Z.take L).map Int.toNat).length = L := by simp; omega
    have hwf : ∀ i, i < Z.length → 0 ≤ Z.getD i 0 ∧ Z.getD i 0 ≤ 255 := fun i hi => by
      refine bounds_u8 (hwz _ ?_)
      rw [List.getD_eq_getElem?_getD, List.getElem?_eq_getElem hi]
      exact List.getElem_mem hi
    refine ⟨some a, (Z.take L).map Int.toNat, C, by rw [hlen]; exact hcs, fun y hy => ?_, fun i hi => ?_, by rw [hlen]; exact hl, hm, fun h => by cases h⟩
    · obtain ⟨z, hz1, rfl⟩ := List.mem_map.1 hy
      obtain ⟨i, hi, rfl⟩ := List.mem_iff_getElem.1 (List.mem_of_mem_take hz1)
      have := hwf i hi
      rw [List.getD_eq_getElem?_getD, List.getElem?_eq_getElem hi] at this
      simp at this
      omega
    · rw [hlen] at hi
      have hc := hcell i (by omega)
      have h0 := hcell 0 (by omega)
      obtain ⟨b, off, spot⟩ := a
      have hspot : spot = none := by simpa [Addr.add] using World.cell?_spot h0
      subst hspot
      rw [Addr.add_mid] at hc
      refine ⟨b, off, rfl, ?_, ?_⟩
      · rw [hc]
        have hw := hwf i (by omega)
        have e : (((Z.take L).map Int.toNat).getD i 0 : Nat) = (Z.getD i 0).toNat := by
          rw [List.getD_eq_getElem?_getD, List.getElem?_map, List.getElem?_take_of_lt hi, List.getElem?_eq_getElem (by omega), List.getD_eq_getElem?_getD, List.getElem?_eq_getElem (by omega)]
          rfl
        rw [e]
        congr 2
        omega
      · cases hq : W.heap[b]? with
        | none => simp [World.cell?, hq] at hc
        | some o => exact (Array.getElem?_eq_some_iff.1 hq).1
end

end Go.Proofs.YtehccmlbnfhhmaaDoor
