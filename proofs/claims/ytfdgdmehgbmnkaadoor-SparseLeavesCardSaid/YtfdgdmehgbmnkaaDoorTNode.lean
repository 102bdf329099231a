/-
  Node.
-/
import Derived.Test.YtfdgdmehgbmnkaaDoorParts
import Derived.Test.YtfdgdmehgbmnkaaDoorTFp

namespace Go.Proofs.YtfdgdmehgbmnkaaDoor
open Go Go.RowKit
open Sha

/-- Parts of one list that lies in a new row. -/
theorem parts_one (d dd : List (BitVec 8)) (hd : dd = dig d) (v : Value) (hlen : d.length < 1152921504606846976) (g cap : Nat) (w0 w : World) (hK : Tab w0 3) (hv : SlAt w0 v d) (hB : Below w0.heap.size w0 w) (hr : Row w g [v] 46) :
    Calls Tryd.prog 70 #[.slice (some ⟨g, 0, none⟩) 1 cap] w fun e w' => e = .returned (.agg (vB dd).toArray) ∧ Below w.heap.size w w' := by
  have h := parts_any [d] [v] rfl g 0 cap (by simpa using hlen) (by show 1 < _; decide) w (hK.below hB hK.lt) (fun i hi => by
    obtain rfl : i = 0 := by simp at hi; omega
    exact hv.below hB (Nat.le_refl _)) hr.all
  rw [show [d].flatten = d by simp, ← hd] at h
  exact h

end Go.Proofs.YtfdgdmehgbmnkaaDoor

namespace Go.Proofs.YtfdgdmehgbmnkaaDoor
open Go Go.RowKit
open Sha

/-- Parts of two lists whose list lies in a row. -/
theorem parts_two (d0 d dd : List (BitVec 8)) (hd : dd = dig (d0 ++ d)) (v0 v : Value) (hlen : d0.length + d.length < 1152921504606846976) (g cap : Nat) (w : World) (hK : Tab w 3) (h0 : SlAt w v0 d0) (hv : SlAt w v d) (hr : Row w g [v0, v] 46) :
    Calls Tryd.prog 70 #[.slice (some ⟨g, 0, none⟩) 2 cap] w fun e w' => e = .returned (.agg (vB dd).toArray) ∧ Below w.heap.size w w' := by
  have h := parts_any [d0, d] [v0, v] rfl g 0 cap (by simpa using hlen) (by show 2 < _; decide) w hK (fun i hi => by
    rcases (show i = 0 ∨ i = 1 by simp at hi; omega) with rfl | rfl
    · exact h0
    · exact hv) hr.all
  rw [show [d0, d].flatten = d0 ++ d by simp, ← hd] at h
  exact h
/-- Parts of three lists whose list lies in a row. -/
theorem parts_three (d0 d e0 dd : List (BitVec 8)) (hd : dd = dig (d0 ++ (d ++ e0))) (v0 v u : Value) (hlen : d0.length + (d.length + e0.length) < 1152921504606846976) (g cap : Nat) (w : World) (hK : Tab w 3) (h0 : SlAt w v0 d0) (hv : SlAt w v d) (hu : SlAt w u e0) (hr : Row w g [v0, v, u] 46) :
    Calls Tryd.prog 70 #[.slice (some ⟨g, 0, none⟩) 3 cap] w fun e w' => e = .returned (.agg (vB dd).toArray) ∧ Below w.heap.size w w' := by
  have h := parts_any [d0, d, e0] [v0, v, u] rfl g 0 cap (by simpa using hlen) (by show 3 < _; decide) w hK (fun i hi => by
    rcases (show i = 0 ∨ i = 1 ∨ i = 2 by simp at hi; omega) with rfl | rfl | rfl
    · exact h0
    · exact hv
    · exact hu) hr.all
  rw [show [d0, d, e0].flatten = d0 ++ (d ++ e0) by simp, ← hd] at h
  exact h

end Go.Proofs.YtfdgdmehgbmnkaaDoor

namespace Go.Proofs.YtfdgdmehgbmnkaaDoor
open Go Go.RowKit
open Sha

/-- A new slice of the bytes d, away from block B. -/
def SP.bt (B : Nat) (d : List (BitVec 8)) : SP := ⟨fun W v => ∃ N, N ≠ B ∧ v = .slice (some ⟨N, 0, none⟩) d.length d.length ∧ Row W N (vB d) 5, fun _ _ _ hB ⟨N, hN, e, r⟩ => ⟨N, hN, e, Row.below r hB (Row.lt r)⟩⟩
/-- A new list of three: new bytes, and two others. -/
def SP.l3 (B : Nat) (d : List (BitVec 8)) (v u : Value) : SP := ⟨fun W x => ∃ N v0, N ≠ B ∧ x = .slice (some ⟨N, 0, none⟩) 3 3 ∧ Row W N [v0, v, u] 46 ∧ (SP.bt B d).P W v0, fun _ _ _ hB ⟨N, v0, hN, e, r, h⟩ => ⟨N, v0, hN, e, Row.below r hB (Row.lt r), (SP.bt B d).st _ _ _ hB h⟩⟩
theorem SP.bt_turn {B : Nat} {d : List (BitVec 8)} {W : World} {v : Value} (h : (SP.bt B d).P W v) (o : Nat) (cs : List Value) : (SP.bt B d).P (W.setCells B o cs) v := by
  obtain ⟨N, hN, e, r⟩ := h
  exact ⟨N, hN, e, Row.setCells_other r _ _ _ hN⟩
theorem SP.l3_turn {B : Nat} {d : List (BitVec 8)} {v u : Value} {W : World} {x : Value} (h : (SP.l3 B d v u).P W x) (o : Nat) (cs : List Value) : (SP.l3 B d v u).P (W.setCells B o cs) x := by
  obtain ⟨N, v0, hN, e, r, h⟩ := h
  exact ⟨N, v0, hN, e, Row.setCells_other r _ _ _ hN, SP.bt_turn h _ _⟩
theorem SP.bt_at {B : Nat} {d : List (BitVec 8)} {W : World} {v : Value} (h : (SP.bt B d).P W v) : SlAt W v d := by
  obtain ⟨N, hN, e, r⟩ := h
  exact .inr ⟨N, 0, d.length, e, Nat.le_refl _, r.all⟩
theorem SP.bt_one {B : Nat} {d : List (BitVec 8)} {W : World} {v : Value} (h : (SP.bt B d).P W v) : v.cells = #[v] := by
  obtain ⟨N, hN, e, r⟩ := h
  rw [e]; rfl
theorem slat_row {W : World} {N n : Nat} {d : List (BitVec 8)} {t : TypeId} (h : Row W N (vB d) t) (hn : d.length = n) : SlAt W (.slice (some ⟨N, 0, none⟩) n n) d := by
  subst hn
  exact .inr ⟨N, 0, d.length, rfl, Nat.le_refl _, h.all⟩
theorem zero_slb : ((Tryd.prog.info? 46).bind (·.zero)).isSome = true := by kernel_rfl
theorem zero_u8 : ((Tryd.prog.info? 5).bind (·.zero)).isSome = true := by kernel_rfl

end Go.Proofs.YtfdgdmehgbmnkaaDoor
