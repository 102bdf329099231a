/-
  numbers that came in.
-/
import Derived.Test.YtlfhncfngnnpeaaWText
import Derived.Test.YtlfhncfngnnpeaaRows
import Derived.ProofKit
import Derived.OpenShut
import Derived.ShutString
import Derived.ChangeOld
import Derived.SizedLaws
import Derived.Deep.DeepHandedRow
import Derived.Lib.LaidTab
import Derived.ChangeMaps5
namespace Go.Proofs.Ytlfhncfngnnpeaa
open Go Go.RowKit Go.ChangeShapes Go.WideShapes Go.ChangeAt
open Wd

theorem own : ownKnob Try.prog.godebug = none := by kernel_rfl
theorem laidOut : laidOutB Try.prog = true := by kernel_rfl
theorem cellsU64 : Try.prog.cellsOf 31 = 1 := by kernel_rfl
theorem cellsWide : Try.prog.cellsOf 33 = 4 := by kernel_rfl
theorem mapM_each {α β : Type} {f : α → Option β} : ∀ (L : List α) (ys : List β), L.mapM f = some ys → ∀ i ∈ L, ∃ y, f i = some y
  | [], _, _, i, hi => by cases hi
  | a :: L, ys, h, i, hi => by
    rw [List.mapM_cons] at h
    simp only [bind, Option.bind_eq_some_iff, pure, Option.some.injEq] at h
    obtain ⟨y, hy, zs, hz, _⟩ := h
    rcases List.mem_cons.1 hi with rfl | hi
    · exact ⟨y, hy⟩
    · exact mapM_each L zs hz i hi

theorem parts_in (xs : List Value) (hl : xs.length = 4) (key : ∀ i (h : i < xs.length), ∃ z : Int, xs[i] = .int .u64 z ∧ 0 ≤ z ∧ z ≤ 18446744073709551615) : ∃ n, n < 2 ^ 256 ∧ xs = vQ (dgs n 4) := by
  obtain ⟨l, hll, hlt, hx⟩ : ∃ l : List Nat, l.length = 4 ∧ (∀ y ∈ l, y < 18446744073709551616) ∧ xs = vQ l := by
    refine ⟨xs.map (fun v => (intOf v).toNat), by simp [hl], fun y hy => ?_, ?_⟩
    · obtain ⟨v, hv, rfl⟩ := List.mem_map.1 hy
      obtain ⟨i, hi, rfl⟩ := List.mem_iff_getElem.1 hv
      obtain ⟨z, hz, z0, z1⟩ := key i hi
      rw [hz]
      simp only [intOf]
      omega
    · unfold vQ
      rw [List.map_map]
      refine List.ext_getElem (by simp) fun i h1 h2 => ?_
      obtain ⟨z, hz, z0, z1⟩ := key i h1
      rw [List.getElem_map, hz]
      simp only [Function.comp_apply, intOf]
      congr 1
      omega
  refine ⟨num l, ?_, ?_⟩
  · have := num_lt l hlt
    rw [hll] at this
    simpa using this
  · have := dgs_num l hlt
    rw [hll] at this
    rw [this]
    exact hx
set_option maxRecDepth 100000 in
/-- A number that came in. -/
theorem wide_in {H : Type} {enc : TypeId × Value → H} {W : World} {base : Nat} {sp : Nat → Bool} {held : Bool} {v : Value} {d : DataW H} {ps : List MemPlace} {r : Reach} {b0 : Nat} (hval : Value.okWide Try.prog W r b0 33 v) (hd : DataW.Trod enc Try.prog W base sp held 33 v d ps) :
    ∃ n, n < 2 ^ 256 ∧ v = .agg (vQ (dgs n 4)).toArray := by
  simp only [Value.okWide, Try.underlying33] at hval
  obtain ⟨xs, rfl, h2, _⟩ := hval
  rw [cellsWide] at h2
  obtain ⟨fuel, hf⟩ := hd
  cases fuel with
  | zero => simp [DataW.trod] at hf
  | succ m =>
    rw [DataW.trod_step] at hf
    unfold DataW.trodStep at hf
    simp only [Try.underlying33, Value.cells] at hf
    rw [if_pos (by rw [cellsWide]; simpa using h2)] at hf
    simp only [Option.map_eq_some_iff] at hf
    obtain ⟨ys, hy, _⟩ := hf
    have each := mapM_each _ _ hy
    have key : ∀ i (h : i < xs.toList.length), ∃ z : Int, xs.toList[i] = .int .u64 z ∧ 0 ≤ z ∧ z ≤ 18446744073709551615 := fun i h => by
      obtain ⟨y, hy⟩ := each i (List.mem_range.2 (by simp at h; omega))
      rw [cellsU64, Nat.mul_one] at hy
      obtain ⟨z, hz, _, wz⟩ := DataW.trod_int Try.underlying31 hy
      have hb := bounds_u64 wz
      refine ⟨z, ?_, hb.1, hb.2⟩
      rw [List.drop_eq_getElem_cons h] at hz
      simp at hz
      simpa using hz
    obtain ⟨n, hn, hx⟩ := parts_in xs.toList (by simpa using h2) key
    exact ⟨n, hn, by congr 1; apply Array.ext'; exact hx⟩


end Go.Proofs.Ytlfhncfngnnpeaa
