/-
  Lists of numbers that came in.
-/
import Derived.Test.YtehccmlbnfhhmabDoorWRowB
import Derived.Test.YtehccmlbnfhhmabDoorWSum
import Derived.Deep.Matrix
import Derived.Deep.SlicePairs
namespace Go.Proofs.YtehccmlbnfhhmabDoor
open Go Go.RowKit Go.ChangeShapes Go.WideShapes Go.ChangeAt
open Wd

theorem bytesWide : Tryd.prog.bytesOf 24 = 32 := by kernel_rfl
theorem rangeD {α : Type} (n : Nat) (f : Nat → α) (d : α) (i : Nat) (h : i < n) : ((List.range n).map f).getD i d = f i := by simp [h]
theorem wlist_in {H : Type} {enc : TypeId × Value → H} {W : World} {base : Nat} {held : Bool} {fuel : Nat} {a : Option Addr} {len cap : Nat} {x : DataW H × List MemPlace} {ts : List TypeId} {ds : List (DataW H)} {j : Nat}
    (h : DataW.trod enc Tryd.prog W base (fun _ => true) held fuel 44 (Value.slice a len cap).cells.toList = some x)
    (hsz : (DataW.weightsEach Tryd.prog ts ds).all (· ≤ reachBytes) = true) (ht : ts[j]? = some 44) (hd : ds[j]? = some x.1) :
    ∃ xs : List Nat, xs.length = len ∧ (∀ y ∈ xs, y < 2 ^ 256) ∧ Ws W a xs ∧ len * 32 ≤ 140737488351232 ∧ len ≤ cap ∧ cap * 32 ≤ 140737488351232 := by
  have hrb : reachBytes = 140737488351232 := rfl
  rcases Deep.open_slice Tryd.underlying44 h with ⟨hcs, _⟩ | ⟨y, l, c', m, n, D, Pl, hcs, _, hl, hm, hmm, hx, hr⟩
  · simp [Value.cells] at hcs
    obtain ⟨rfl, rfl, rfl⟩ := hcs
    exact ⟨[], rfl, (fun y hy => by cases hy), (fun i hi => by simp at hi), by omega, by omega, by omega⟩
  · simp [Value.cells] at hcs
    obtain ⟨rfl, rfl, rfl⟩ := hcs
    simp only [if_true] at hmm
    subst hmm
    have hds : ds[j]? = some (.slice ((List.range len).map D) ((List.range (m - len)).map fun j => D (len + j))) := by rw [hd, hx]
    have hreach := sized_slice hsz (j := j) (t := 44) (e := 24) ht hds Tryd.underlying44
    rw [bytesWide] at hreach
    simp only [List.length_map, List.length_range] at hreach
    have each : ∀ i, i < len → ∃ x : Nat, x < 2 ^ 256 ∧ (∀ q v, (vQ (dgs x 4))[q]? = some v → W.cell? (y.add (i * 4 + q)) = some v) := by
      intro i hi
      obtain ⟨cs', h1, h2⟩ := hr i (by omega)
      rw [cellsWide] at h1
      obtain ⟨_, hlen, hcell⟩ := World.cells?_some h1
      obtain ⟨n, hn, e⟩ := wide_at hlen h2
      refine ⟨n, hn, fun q v hq => ?_⟩
      have hq4 : q < 4 := by have := (List.getElem?_eq_some_iff.1 hq).1; rw [vQ_length, dgs_length] at this; exact this
      have e2 := hcell q (by omega)
      rw [Deep.add_add] at e2
      rw [e2, e]
      exact hq
    obtain ⟨f, hf⟩ := Deep.choose_lt each
    refine ⟨(List.range len).map f, by simp, fun z hz => ?_, fun i hi => ?_, by omega, hl, by omega⟩
    · obtain ⟨i, hi, rfl⟩ := List.mem_map.1 hz
      exact (hf i (List.mem_range.1 hi)).1
    · rw [List.length_map, List.length_range] at hi
      rw [rangeD _ _ _ _ hi]
      obtain ⟨b, off, spot⟩ := y
      have h1 := (hf 0 (by omega)).2 0 _ rfl
      have hspot : spot = none := by simpa [Addr.add] using World.cell?_spot h1
      subst hspot
      refine ⟨b, off, rfl, fun q v hq => ?_, ?_⟩
      · have := (hf i hi).2 q v hq
        rw [Addr.add_mid, ← Nat.add_assoc] at this
        exact this
      · rw [Addr.add_mid] at h1
        cases hq : W.heap[b]? with
        | none => simp [World.cell?, hq] at h1
        | some o => exact (Array.getElem?_eq_some_iff.1 hq).1

end Go.Proofs.YtehccmlbnfhhmabDoor
