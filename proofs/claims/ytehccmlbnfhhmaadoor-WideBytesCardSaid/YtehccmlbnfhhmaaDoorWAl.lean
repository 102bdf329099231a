/-
  causewaylaw02.bytesAlike.
-/
import Derived.Test.YtehccmlbnfhhmaaDoorWRd
import Derived.Test.YtehccmlbnfhhmaaDoorWByt
import Derived.Test.YtehccmlbnfhhmaaDoorWText
namespace Go.Proofs.YtehccmlbnfhhmaaDoor
open Go Go.RowKit
open Wd

theorem run_convert_by (w : World) (A : Option Addr) (l : List Nat) (cap : Nat) (hl : ∀ x ∈ l, x < 256) (h : By w A l) : (convert 44 9 (.slice A l.length cap)).run Tryd.prog w = .ok (.string ⟨(l.map UInt8.ofNat).toArray⟩) w := by
  have some_case : ∀ p : Addr, (∀ j, j < l.length → w.cell? (p.add j) = some (.int .u8 ((l.getD j 0 : Nat) : Int))) → (convert 44 9 (.slice (some p) l.length cap)).run Tryd.prog w = .ok (.string ⟨(l.map UInt8.ofNat).toArray⟩) w := fun p hp => by
    have hc := run_convert_bytes_back (P := Tryd.prog) w 44 9 5 p cap (l.map UInt8.ofNat) Tryd.underlying44 Tryd.underlying5 Tryd.underlying9 (fun j hj => by
      rw [List.length_map] at hj
      rw [hp j hj, List.getElem_map, UInt8.toNat_ofNat', Nat.mod_eq_of_lt (hl _ (List.getElem_mem hj))]
      simp [hj])
    rw [List.length_map] at hc
    exact hc
  cases A with
  | none =>
    have h0 : l = [] := by
      cases l with
      | nil => rfl
      | cons x r => obtain ⟨b, o, e, _⟩ := h 0 (by simp); cases e
    subst h0
    rw [show ([] : List Nat).length = 0 from rfl, run_convert_bytes_string w 44 9 5 none 0 cap Tryd.underlying44 Tryd.underlying5 Tryd.underlying9]
    simp [Conv.bytesToString]
    rfl
  | some p =>
    refine some_case p (fun j hj => ?_)
    obtain ⟨b, o, e, h2, _⟩ := h j hj
    obtain rfl := Option.some.inj e
    rw [Addr.add_mid]
    exact h2

theorem alike_any (l : List Nat) (hl : ∀ x ∈ l, x < 256) (A A' : Option Addr) (cap cap' : Nat) (w : World) (h1 : By w A l) (h2 : By w A' l) :
    Calls Tryd.prog 34 #[.slice A l.length cap, .slice A' l.length cap'] w fun e w' => e = .returned (.bool true) ∧ w' = w := by
  have c1 := run_convert_by w A l cap hl h1
  have c2 := run_convert_by w A' l cap' hl h2
  generalize (l.map UInt8.ofNat).toArray = s at c1 c2
  clear h1 h2 hl
  go_enter Tryd.func34, Tryd.ntmps34
  go_wp2
  go_ret
  exact ⟨by simp, rfl⟩

theorem read_c {l : List Nat} (hl : ∀ x ∈ l, x < 256) {A : Option Addr} {n : Nat} (hn : l.length = n) (cap : Nat) {r : Nat} {E : Int} (hr : rdR l = r) (hE : rdE l = E) (w : World) (h : By w A l) : Calls Tryd.prog 37 #[.slice A n cap] w fun e w' => ∃ c, Wc c r ∧ e = .returned (.tuple #[.agg c.toArray, .int .i64 E]) ∧ Below w.heap.size w w' := by
  subst hr hE hn
  exact (read_by l hl A cap w h).mono fun e w' h => ⟨_, rfl, h.1, h.2⟩
theorem bytes_c {ca : List Value} {a : Nat} (Ha : Wc ca a) (w : World) : Calls Tryd.prog 32 #[.agg ca.toArray] w fun e w' => ∃ N, w.heap.size ≤ N ∧ Row w' N (vU (bl a)) 5 ∧ e = .returned (.slice (some ⟨N, 0, none⟩) 32 32) ∧ Below w.heap.size w w' := by
  rw [Ha]
  exact bytes_any a w

/-- A string, by its bytes. -/
theorem strn_nums (a : Nat) : StrN ⟨(Go.Lib.decDigits a).toArray⟩ (nums a) := by
  refine ⟨?_, ?_, fun i h => ?_⟩
  · show (Go.Lib.decDigits a).toArray.size = _
    unfold nums
    simp
  · intro x hx
    unfold nums at hx
    obtain ⟨b, _, rfl⟩ := List.mem_map.1 hx
    exact b.toNat_lt
  · unfold nums
    have h' : i < (Go.Lib.decDigits a).length := by have : (⟨(Go.Lib.decDigits a).toArray⟩ : ByteArray).size = (Go.Lib.decDigits a).length := rfl; omega
    rw [List.getD_eq_getElem?_getD, List.getElem?_map, List.getElem?_eq_getElem h']
    rfl
theorem strn_eq {s : ByteArray} {m : Nat} (h : StrN s (nums m)) : s = ⟨(Go.Lib.decDigits m).toArray⟩ := by
  have h2 := strn_nums m
  have hs : s.data.size = (Go.Lib.decDigits m).toArray.size := h.size.trans h2.size.symm
  obtain ⟨d⟩ := s
  congr 1
  apply Array.ext hs
  intro i h3 h4
  have e1 := h.at' i h3
  have e2 := h2.at' i h4
  have : d[i].toNat = (Go.Lib.decDigits m).toArray[i].toNat := e1.trans e2.symm
  exact UInt8.toNat_inj.1 this

end Go.Proofs.YtehccmlbnfhhmaaDoor
