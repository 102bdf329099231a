/-
  Lists of numbers that came in.
-/
import Derived.Test.YtehccmlbnfhhmaaDoorWRow
import Derived.Test.YtehccmlbnfhhmaaDoorWRd
import Derived.ChangeMaps5
import Derived.ChangeSlices
import Derived.Test.YtehccmlbnfhhmaaDoorWSum
import Derived.Deep.Matrix
import Derived.Deep.SlicePairs

namespace Go.Proofs.YtehccmlbnfhhmaaDoor
open Go Go.RowKit Go.ChangeShapes Go.WideShapes Go.ChangeAt
open Wd

theorem strn_in (s : ByteArray) : ∃ l, StrN s l := by
  refine ⟨s.data.toList.map UInt8.toNat, ?_, ?_, fun i h => ?_⟩
  · rw [List.length_map, Array.length_toList]; rfl
  · intro x hx
    obtain ⟨b, _, rfl⟩ := List.mem_map.1 hx
    exact b.toNat_lt
  · have h' : i < s.data.toList.length := by rw [Array.length_toList]; exact h
    rw [List.getD_eq_getElem?_getD, List.getElem?_map, List.getElem?_eq_getElem h']
    rfl

section
variable {H : Type} {enc : TypeId × Value → H} {W : World} {base : Nat} {held : Bool} {fuel : Nat} {cs : List Value} {x : DataW H × List MemPlace}
set_option maxRecDepth 100000 in
theorem wide_at {sp : Nat → Bool} (hl : cs.length = 4) (h : DataW.trod enc Tryd.prog W base sp held fuel 24 cs = some x) : ∃ n, n < 2 ^ 256 ∧ cs = vQ (dgs n 4) := by
  cases fuel with
  | zero => simp [DataW.trod] at h
  | succ m =>
    rw [DataW.trod_step] at h
    unfold DataW.trodStep at h
    simp only [Tryd.underlying24] at h
    rw [if_pos (by rw [cellsWide]; exact hl)] at h
    simp only [Option.map_eq_some_iff] at h
    obtain ⟨ys, hy, _⟩ := h
    have each := mapM_each _ _ hy
    refine parts_in cs hl (fun i h => ?_)
    obtain ⟨y, hy⟩ := each i (List.mem_range.2 (by omega))
    rw [cellsU64, Nat.mul_one] at hy
    obtain ⟨z, hz, _, wz⟩ := DataW.trod_int Tryd.underlying22 hy
    have hb := bounds_u64 wz
    refine ⟨z, ?_, hb.1, hb.2⟩
    rw [List.drop_eq_getElem_cons h, List.take_succ_cons, List.take_zero] at hz
    exact (List.cons.inj hz).1

theorem cellsU8' : Tryd.prog.cellsOf 5 = 1 := by kernel_rfl
/-- Bytes that came in. -/
theorem by_in (h : DataW.trod enc Tryd.prog W base (fun _ => true) held fuel 44 cs = some x) : ∃ (A : Option Addr) (l : List Nat) (cap : Nat), cs = [.slice A l.length cap] ∧ (∀ y ∈ l, y < 256) ∧ By W A l ∧ l.length ≤ cap ∧ cap ≤ maxLen ∧ (A = none → cap = 0) := by
  rcases open_ints Tryd.underlying44 Tryd.underlying5 cellsU8' h with ⟨hcs, _⟩ | ⟨a, L, C, Z, hcs, _, hl, hm, hz, _, hcell, hwz⟩
  · refine ⟨none, [], 0, hcs, ?_, ?_, Nat.le_refl _, Nat.zero_le _, fun _ => rfl⟩
    · intro y hy; cases hy
    · intro i hi; simp at hi
  · simp only [if_true] at hz
    have hlen : ((Z.take L).map Int.toNat).length = L := by simp; omega
    have hwf : ∀ i, i < Z.length → 0 ≤ Z.getD i 0 ∧ Z.getD i 0 ≤ 255 := fun i hi => by
      refine bounds_u8 (hwz _ ?_)
      rw [List.getD_eq_getElem?_getD, List.getElem?_eq_getElem hi]
      exact List.getElem_mem hi
    refine ⟨some a, (Z.take L).map Int.toNat, C, by rw [hlen]; exact hcs, fun y hy => ?_, fun i hi => ?_, by rw [hlen]; exact hl, hm, fun h => by cases h⟩
    · obtain ⟨z, hz1, rfl⟩ := List.mem_map.1 hy
      obtain ⟨i, hi, rfl⟩ := List.mem_iff_getElem.1 (List.mem_of_mem_take hz1)
      have := hwf i hi
      rw [List.getD_eq_getElem?_getD, List.getElem?_eq_getElem hi] at this
      simp at this
      omega
    · rw [hlen] at hi
      have hc := hcell i (by omega)
      have h0 := hcell 0 (by omega)
      obtain ⟨b, off, spot⟩ := a
      have hspot : spot = none := by simpa [Addr.add] using World.cell?_spot h0
      subst hspot
      rw [Addr.add_mid] at hc
      refine ⟨b, off, rfl, ?_, ?_⟩
      · rw [hc]
        have hw := hwf i (by omega)
        have e : (((Z.take L).map Int.toNat).getD i 0 : Nat) = (Z.getD i 0).toNat := by
          rw [List.getD_eq_getElem?_getD, List.getElem?_map, List.getElem?_take_of_lt hi, List.getElem?_eq_getElem (by omega), List.getD_eq_getElem?_getD, List.getElem?_eq_getElem (by omega)]
          rfl
        rw [e]
        congr 2
        omega
      · cases hq : W.heap[b]? with
        | none => simp [World.cell?, hq] at hc
        | some o => exact (Array.getElem?_eq_some_iff.1 hq).1
end

end Go.Proofs.YtehccmlbnfhhmaaDoor

namespace Go.Proofs.YtehccmlbnfhhmaaDoor
open Go Go.RowKit Go.ChangeShapes Go.WideShapes Go.ChangeAt
open Wd

theorem bytesWide : Tryd.prog.bytesOf 24 = 32 := by kernel_rfl
theorem rangeD {α : Type} (n : Nat) (f : Nat → α) (d : α) (i : Nat) (h : i < n) : ((List.range n).map f).getD i d = f i := by simp [h]
theorem wlist_in {H : Type} {enc : TypeId × Value → H} {W : World} {base : Nat} {held : Bool} {fuel : Nat} {a : Option Addr} {len cap : Nat} {x : DataW H × List MemPlace} {ts : List TypeId} {ds : List (DataW H)} {j : Nat}
    (h : DataW.trod enc Tryd.prog W base (fun _ => true) held fuel 26 (Value.slice a len cap).cells.toList = some x)
    (hsz : (DataW.weightsEach Tryd.prog ts ds).all (· ≤ reachBytes) = true) (ht : ts[j]? = some 26) (hd : ds[j]? = some x.1) :
    ∃ xs : List Nat, xs.length = len ∧ (∀ y ∈ xs, y < 2 ^ 256) ∧ Ws W a xs ∧ len * 32 ≤ 140737488351232 ∧ len ≤ cap ∧ cap * 32 ≤ 140737488351232 := by
  have hrb : reachBytes = 140737488351232 := rfl
  rcases Deep.open_slice Tryd.underlying26 h with ⟨hcs, _⟩ | ⟨y, l, c', m, n, D, Pl, hcs, _, hl, hm, hmm, hx, hr⟩
  · simp [Value.cells] at hcs
    obtain ⟨rfl, rfl, rfl⟩ := hcs
    exact ⟨[], rfl, (fun y hy => by cases hy), (fun i hi => by simp at hi), by omega, by omega, by omega⟩
  · simp [Value.cells] at hcs
    obtain ⟨rfl, rfl, rfl⟩ := hcs
    simp only [if_true] at hmm
    subst hmm
    have hds : ds[j]? = some (.slice ((List.range len).map D) ((List.range (m - len)).map fun j => D (len + j))) := by rw [hd, hx]
    have hreach := sized_slice hsz (j := j) (t := 26) (e := 24) ht hds Tryd.underlying26
    rw [bytesWide] at hreach
    simp only [List.length_map, List.length_range] at hreach
    have each : ∀ i, i < len → ∃ x : Nat, x < 2 ^ 256 ∧ (∀ q v, (vQ (dgs x 4))[q]? = some v → W.cell? (y.add (i * 4 + q)) = some v) := by
      intro i hi
      obtain ⟨cs', h1, h2⟩ := hr i (by omega)
      rw [cellsWide] at h1
      obtain ⟨_, hlen, hcell⟩ := World.cells?_some h1
      obtain ⟨n, hn, e⟩ := wide_at hlen h2
      refine ⟨n, hn, fun q v hq => ?_⟩
      have hq4 : q < 4 := by have := (List.getElem?_eq_some_iff.1 hq).1; rw [vQ_length, dgs_length] at this; exact this
      have e2 := hcell q (by omega)
      rw [Deep.add_add] at e2
      rw [e2, e]
      exact hq
    obtain ⟨f, hf⟩ := Deep.choose_lt each
    refine ⟨(List.range len).map f, by simp, fun z hz => ?_, fun i hi => ?_, by omega, hl, by omega⟩
    · obtain ⟨i, hi, rfl⟩ := List.mem_map.1 hz
      exact (hf i (List.mem_range.1 hi)).1
    · rw [List.length_map, List.length_range] at hi
      rw [rangeD _ _ _ _ hi]
      obtain ⟨b, off, spot⟩ := y
      have h1 := (hf 0 (by omega)).2 0 _ rfl
      have hspot : spot = none := by simpa [Addr.add] using World.cell?_spot h1
      subst hspot
      refine ⟨b, off, rfl, fun q v hq => ?_, ?_⟩
      · have := (hf i hi).2 q v hq
        rw [Addr.add_mid, ← Nat.add_assoc] at this
        exact this
      · rw [Addr.add_mid] at h1
        cases hq : W.heap[b]? with
        | none => simp [World.cell?, hq] at h1
        | some o => exact (Array.getElem?_eq_some_iff.1 hq).1

end Go.Proofs.YtehccmlbnfhhmaaDoor
