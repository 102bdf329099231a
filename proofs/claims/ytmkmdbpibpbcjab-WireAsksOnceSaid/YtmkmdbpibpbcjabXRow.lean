/-
  Lists of numbers that came in.
-/
import Derived.Test.YtmkmdbpibpbcjabXInt
import Derived.Test.YtmkmdbpibpbcjabRows
import Derived.ProofKit
import Derived.OpenShut
import Derived.ShutString
import Derived.ChangeOld
import Derived.SizedLaws
import Derived.Deep.DeepHandedRow
import Derived.Lib.LaidTab
namespace Go.Proofs.Ytmkmdbpibpbcjab
open Go Go.RowKit Go.ChangeShapes Go.WideShapes Go.ChangeAt
open Sha

theorem own : ownKnob Try.prog.godebug = none := by kernel_rfl
theorem laidOut : laidOutB Try.prog = true := by kernel_rfl
theorem cellsInt : Try.prog.cellsOf 3 = 1 := by kernel_rfl
theorem bytesInt : Try.prog.bytesOf 3 = 8 := by kernel_rfl
theorem ints_in {H : Type} {enc : TypeId × Value → H} {W : World} {base : Nat} {held : Bool} {fuel : Nat} {a : Option Addr} {len cap : Nat} {x : DataW H × List MemPlace} {ts : List TypeId} {ds : List (DataW H)} {j : Nat}
    (h : DataW.trod enc Try.prog W base (fun _ => true) held fuel 26 (Value.slice a len cap).cells.toList = some x)
    (hsz : (DataW.weightsEach Try.prog ts ds).all (· ≤ reachBytes) = true) (ht : ts[j]? = some 26) (hd : ds[j]? = some x.1) :
    ∃ zs : List Int, zs.length = len ∧ len * 8 ≤ reachBytes ∧ (∀ i, i < len → zs.getD i 0 < 9223372036854775808) ∧ InAt W a zs := by
  rcases open_ints Try.underlying26 Try.underlying3 cellsInt h with ⟨hcs, _⟩ | ⟨y, l, c', zs, hcs, _, hl, hm, hz, hx, hcell, hwz⟩
  · simp [Value.cells] at hcs
    obtain ⟨rfl, rfl, rfl⟩ := hcs
    exact ⟨[], rfl, Nat.zero_le _, fun i hi => by omega, .inl rfl⟩
  · simp [Value.cells] at hcs
    obtain ⟨rfl, rfl, rfl⟩ := hcs
    simp only [if_true] at hz
    have hreach := sized_slice hsz (j := j) (t := 26) (e := 3) ht (by rw [hd, hx]) Try.underlying26
    rw [bytesInt] at hreach
    simp only [lits, List.length_map, List.length_take, List.length_drop] at hreach
    refine ⟨zs.take len, by simp; omega, by omega, fun i hi => ?_, ?_⟩
    · have e : (zs.take len).getD i 0 = zs.getD i 0 := by simp [List.getElem?_take_of_lt hi]
      rw [e]
      have := (bounds_i64 (hwz (zs.getD i 0) (by rw [List.getD_eq_getElem?_getD, List.getElem?_eq_getElem (by omega)]; exact List.getElem_mem _))).2
      omega
    by_cases h0 : len = 0
    · subst h0; exact .inl (by simp)
    · obtain ⟨b, off, spot⟩ := y
      have hc := hcell 0 (by omega)
      have hspot : spot = none := by simpa [Addr.add] using World.cell?_spot hc
      subst hspot
      refine .inr ⟨b, off, rfl, fun i v hv => ?_⟩
      have hi : i < len := by have := (List.getElem?_eq_some_iff.1 hv).1; simp [vI] at this; omega
      have h1 := hcell i (by omega)
      rw [Addr.add_mid] at h1
      rw [h1]
      rw [← hv]
      simp [vI, List.getElem?_take_of_lt hi, List.getElem?_eq_getElem (show i < zs.length by omega)]

end Go.Proofs.Ytmkmdbpibpbcjab
