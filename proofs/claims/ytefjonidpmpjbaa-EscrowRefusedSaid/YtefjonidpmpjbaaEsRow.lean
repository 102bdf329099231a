/-
  Escrow: what came in: gifts.
-/
import Derived.Test.YtefjonidpmpjbaaWText
import Derived.Test.YtefjonidpmpjbaaRows
import Derived.ProofKit
import Derived.OpenShut
import Derived.ShutString
import Derived.ChangeOld
import Derived.SizedLaws
import Derived.Deep.DeepHandedRow
import Derived.Lib.LaidTab
import Derived.ChangeMaps5
import Derived.Test.YtefjonidpmpjbaaEsN
import Derived.Deep.Matrix
import Derived.Deep.SlicePairs

namespace Go.Proofs.Ytefjonidpmpjbaa
open Go Go.RowKit Go.ChangeShapes Go.WideShapes Go.ChangeAt
open Wd

theorem own : ownKnob Try.prog.godebug = none := by kernel_rfl
theorem laidOut : laidOutB Try.prog = true := by kernel_rfl
theorem cellsU64 : Try.prog.cellsOf 31 = 1 := by kernel_rfl
theorem cellsWide : Try.prog.cellsOf 33 = 4 := by kernel_rfl
theorem mapM_each {α β : Type} {f : α → Option β} : ∀ (L : List α) (ys : List β), L.mapM f = some ys → ∀ i ∈ L, ∃ y, f i = some y
  | [], _, _, i, hi => by cases hi
  | a :: L, ys, h, i, hi => by
    rw [List.mapM_cons] at h
    simp only [bind, Option.bind_eq_some_iff, pure, Option.some.injEq] at h
    obtain ⟨y, hy, zs, hz, _⟩ := h
    rcases List.mem_cons.1 hi with rfl | hi
    · exact ⟨y, hy⟩
    · exact mapM_each L zs hz i hi

theorem parts_in (xs : List Value) (hl : xs.length = 4) (key : ∀ i (h : i < xs.length), ∃ z : Int, xs[i] = .int .u64 z ∧ 0 ≤ z ∧ z ≤ 18446744073709551615) : ∃ n, n < 2 ^ 256 ∧ xs = vQ (dgs n 4) := by
  obtain ⟨l, hll, hlt, hx⟩ : ∃ l : List Nat, l.length = 4 ∧ (∀ y ∈ l, y < 18446744073709551616) ∧ xs = vQ l := by
    refine ⟨xs.map (fun v => (intOf v).toNat), by simp [hl], fun y hy => ?_, ?_⟩
    · obtain ⟨v, hv, rfl⟩ := List.mem_map.1 hy
      obtain ⟨i, hi, rfl⟩ := List.mem_iff_getElem.1 hv
      obtain ⟨z, hz, z0, z1⟩ := key i hi
      rw [hz]
      simp only [intOf]
      omega
    · unfold vQ
      rw [List.map_map]
      refine List.ext_getElem (by simp) fun i h1 h2 => ?_
      obtain ⟨z, hz, z0, z1⟩ := key i h1
      rw [List.getElem_map, hz]
      simp only [Function.comp_apply, intOf]
      congr 1
      omega
  refine ⟨num l, ?_, ?_⟩
  · have := num_lt l hlt
    rw [hll] at this
    simpa using this
  · have := dgs_num l hlt
    rw [hll] at this
    rw [this]
    exact hx
set_option maxRecDepth 100000 in
/-- A number that came in. -/
theorem wide_in {H : Type} {enc : TypeId × Value → H} {W : World} {base : Nat} {sp : Nat → Bool} {held : Bool} {v : Value} {d : DataW H} {ps : List MemPlace} {r : Reach} {b0 : Nat} (hval : Value.okWide Try.prog W r b0 33 v) (hd : DataW.Trod enc Try.prog W base sp held 33 v d ps) :
    ∃ n, n < 2 ^ 256 ∧ v = .agg (vQ (dgs n 4)).toArray := by
  simp only [Value.okWide, Try.underlying33] at hval
  obtain ⟨xs, rfl, h2, _⟩ := hval
  rw [cellsWide] at h2
  obtain ⟨fuel, hf⟩ := hd
  cases fuel with
  | zero => simp [DataW.trod] at hf
  | succ m =>
    rw [DataW.trod_step] at hf
    unfold DataW.trodStep at hf
    simp only [Try.underlying33, Value.cells] at hf
    rw [if_pos (by rw [cellsWide]; simpa using h2)] at hf
    simp only [Option.map_eq_some_iff] at hf
    obtain ⟨ys, hy, _⟩ := hf
    have each := mapM_each _ _ hy
    have key : ∀ i (h : i < xs.toList.length), ∃ z : Int, xs.toList[i] = .int .u64 z ∧ 0 ≤ z ∧ z ≤ 18446744073709551615 := fun i h => by
      obtain ⟨y, hy⟩ := each i (List.mem_range.2 (by simp at h; omega))
      rw [cellsU64, Nat.mul_one] at hy
      obtain ⟨z, hz, _, wz⟩ := DataW.trod_int Try.underlying31 hy
      have hb := bounds_u64 wz
      refine ⟨z, ?_, hb.1, hb.2⟩
      rw [List.drop_eq_getElem_cons h] at hz
      simp at hz
      simpa using hz
    obtain ⟨n, hn, hx⟩ := parts_in xs.toList (by simpa using h2) key
    exact ⟨n, hn, by congr 1; apply Array.ext'; exact hx⟩


end Go.Proofs.Ytefjonidpmpjbaa

namespace Go.Proofs.Ytefjonidpmpjbaa
open Go Go.RowKit Go.ChangeShapes Go.WideShapes Go.ChangeAt
open Wd

theorem cellsI : Try.prog.cellsOf 3 = 1 := by kernel_rfl
theorem cellsGift : Try.prog.cellsOf 57 = 10 := by kernel_rfl
theorem one_take (cs : List Value) (k : Nat) (h : k < cs.length) : (cs.drop k).take 1 = [cs.getD k undef] := by
  rw [List.drop_eq_getElem_cons h]
  simp only [List.take_succ_cons, List.take_zero, List.getD_eq_getElem?_getD, List.getElem?_eq_getElem h, Option.getD_some]
set_option maxRecDepth 100000 in
section
variable {H : Type} {enc : TypeId × Value → H} {W : World} {base : Nat} {held : Bool} {fuel n : Nat} {cs : List Value} {x : DataW H × List MemPlace}
theorem wide_at {sp : Nat → Bool} (hl : cs.length = 4) (h : DataW.trod enc Try.prog W base sp held fuel 33 cs = some x) : ∃ n, n < 2 ^ 256 ∧ cs = vQ (dgs n 4) := by
  cases fuel with
  | zero => simp [DataW.trod] at h
  | succ m =>
    rw [DataW.trod_step] at h
    unfold DataW.trodStep at h
    simp only [Try.underlying33] at h
    rw [if_pos (by rw [cellsWide]; exact hl)] at h
    simp only [Option.map_eq_some_iff] at h
    obtain ⟨ys, hy, _⟩ := h
    have each := mapM_each _ _ hy
    refine parts_in cs hl (fun i h => ?_)
    obtain ⟨y, hy⟩ := each i (List.mem_range.2 (by omega))
    rw [cellsU64, Nat.mul_one] at hy
    obtain ⟨z, hz, _, wz⟩ := DataW.trod_int Try.underlying31 hy
    have hb := bounds_u64 wz
    refine ⟨z, ?_, hb.1, hb.2⟩
    rw [List.drop_eq_getElem_cons h, List.take_succ_cons, List.take_zero] at hz
    exact (List.cons.inj hz).1
theorem int_f {v : Value} {y : DataW H × List MemPlace} (g : DataW.trod enc Try.prog W base (fun _ => true) held n 3 [v] = some y) : ∃ z, v = .int .i64 z ∧ I64 z := by
  obtain ⟨z, e, _, wz⟩ := DataW.trod_int Try.underlying3 g
  simp only [List.cons.injEq, and_true] at e
  exact ⟨z, e, wz⟩
theorem gift_f {cs : List Value} (hl : cs.length = 10) {y : DataW H × List MemPlace} (g : DataW.trod enc Try.prog W base (fun _ => true) held n 57 cs = some y) : ∃ (t i : Int) (a b : Nat), I64 t ∧ I64 i ∧ a < 2 ^ 256 ∧ b < 2 ^ 256 ∧ cs = gcs t i a b := by
  obtain ⟨xs, k, hk, hxy, _, hxl, hff⟩ := DataW.trod_struct Try.underlying57 g
  change ∀ (i : Nat) (f : Field), _ → DataW.trod enc Try.prog W base (fun _ => true) held k f.type ((cs.drop f.offset).take (Try.prog.cellsOf f.type)) = xs[i]? at hff
  obtain ⟨y0, y1, y2, y3, rfl⟩ : ∃ y0 y1 y2 y3, xs = [y0, y1, y2, y3] := by
    match xs, hxl with
    | [y0, y1, y2, y3], _ => exact ⟨y0, y1, y2, y3, rfl⟩
  have g0 := hff 0 _ rfl
  change DataW.trod enc Try.prog W base (fun _ => true) held k 3 ((cs.drop 0).take (Try.prog.cellsOf 3)) = some y0 at g0
  rw [cellsI, one_take cs 0 (by omega)] at g0
  obtain ⟨z0, e0, w0⟩ := int_f g0
  have g1 := hff 1 _ rfl
  change DataW.trod enc Try.prog W base (fun _ => true) held k 3 ((cs.drop 1).take (Try.prog.cellsOf 3)) = some y1 at g1
  rw [cellsI, one_take cs 1 (by omega)] at g1
  obtain ⟨z1, e1, w1⟩ := int_f g1
  have g2 := hff 2 _ rfl
  change DataW.trod enc Try.prog W base (fun _ => true) held k 33 ((cs.drop 2).take (Try.prog.cellsOf 33)) = some y2 at g2
  rw [cellsWide] at g2
  obtain ⟨a, ha, e2⟩ := wide_at (by rw [List.length_take, List.length_drop, hl]; rfl) g2
  have g3 := hff 3 _ rfl
  change DataW.trod enc Try.prog W base (fun _ => true) held k 33 ((cs.drop 6).take (Try.prog.cellsOf 33)) = some y3 at g3
  rw [cellsWide] at g3
  obtain ⟨b, hb, e3⟩ := wide_at (by rw [List.length_take, List.length_drop, hl]; rfl) g3
  refine ⟨z0, z1, a, b, w0, w1, ha, hb, ?_⟩
  unfold gcs
  rw [← e0, ← e1, ← e2, ← e3]
  match cs, hl with
  | [c0, c1, c2, c3, c4, c5, c6, c7, c8, c9], _ => rfl
end

end Go.Proofs.Ytefjonidpmpjbaa
