/-
  TreeBelow's calls, in the worlds in which the law makes them.
-/
import Derived.Test.YtnogjhbohljjnabDoorTAwk
import Derived.Test.YtnogjhbohljjnabDoorTDg
namespace Go.Proofs.YtnogjhbohljjnabDoor
open Go Go.RowKit
open Sha

theorem parts2_w (d dd : List (BitVec 8)) (hd : dd = dig ([0#8] ++ d)) (hlen : d.length < 1152921504606846975) (A : Option Addr) (n cap : Nat) (w : World) (hK : Tab w 3) (hv : SlAt w (.slice A n cap) d) :
    Calls Tryd.prog 26 #[.slice (some ⟨w.heap.size + 1, 0, none⟩) 2 2] ((w.alloc (.cells #[.int .u8 0] 5)).alloc (.cells #[.slice (some ⟨w.heap.size, 0, none⟩) 1 1, .slice A n cap] 38)) fun e w' => e = .returned (.agg (vB dd).toArray) ∧ Below w.heap.size w w' := by
  have hB : Below w.heap.size w ((w.alloc (.cells #[.int .u8 0] 5)).alloc (.cells #[.slice (some ⟨w.heap.size, 0, none⟩) 1 1, .slice A n cap] 38)) := ((Below.refl _ _).alloc (Nat.le_refl _) _).alloc (by simp) _
  refine (parts_two [0#8] d dd hd (.slice (some ⟨w.heap.size, 0, none⟩) 1 1) (.slice A n cap) (by simp; omega) (w.heap.size + 1) 2 _ (hK.be hB) (.inr ⟨w.heap.size, 0, 1, rfl, Nat.le_refl _, Row.all (Row.alloc (Row.new' (cs := vB [0#8]) rfl rfl) _)⟩) (hv.be hB) (Row.new' (by simp) rfl)).mono ?_
  rintro e w2 ⟨rfl, h⟩
  exact ⟨rfl, hB.trans (h.mono hB.size)⟩
theorem root1_w (d dd : List (BitVec 8)) (hd : dd = rt [d]) (hlen : d.length < 1152921504606846975) (v : Value) (w : World) (hK : Tab w 3) (hv : SlAt w v d) :
    Calls Tryd.prog 16 #[.slice (some ⟨w.heap.size, 0, none⟩) 1 1] (w.alloc (.cells #[v] 38)) fun e w' => e = .returned (.agg (vB dd).toArray) ∧ Below w.heap.size w w' := by
  have hB : Below w.heap.size w (w.alloc (.cells #[v] 38)) := (Below.refl _ _).alloc (Nat.le_refl _) _
  refine (root_any 1 [d] rfl (by decide) (fun j hj => by
    rcases (show j = 0 by simp at hj; omega) with rfl
    exact hlen) dd hd w.heap.size 0 1 (by decide) _ (hK.be hB) ⟨[v], rfl, Row.all (Row.new' rfl rfl), fun j hj => by
    obtain rfl : j = 0 := by simp at hj; omega
    exact hv.be hB⟩).mono ?_
  rintro e w2 ⟨rfl, h⟩
  exact ⟨rfl, hB.trans (h.mono hB.size)⟩
theorem root2_w (d d1 dd : List (BitVec 8)) (hd : dd = rt [d, d1]) (hlen : d.length < 1152921504606846975) (hlen1 : d1.length < 1152921504606846975) (v v1 : Value) (w : World) (hK : Tab w 3) (hv : SlAt w v d) (hv1 : SlAt w v1 d1) :
    Calls Tryd.prog 16 #[.slice (some ⟨w.heap.size, 0, none⟩) 2 2] (w.alloc (.cells #[v, v1] 38)) fun e w' => e = .returned (.agg (vB dd).toArray) ∧ Below w.heap.size w w' := by
  have hB : Below w.heap.size w (w.alloc (.cells #[v, v1] 38)) := (Below.refl _ _).alloc (Nat.le_refl _) _
  refine (root_any 2 [d, d1] rfl (by decide) (fun j hj => by
    rcases (show j = 0 ∨ j = 1 by simp at hj; omega) with rfl | rfl
    · exact hlen
    · exact hlen1) dd hd w.heap.size 0 2 (by decide) _ (hK.be hB) ⟨[v, v1], rfl, Row.all (Row.new' rfl rfl), fun j hj => by
    rcases (show j = 0 ∨ j = 1 by simp at hj; omega) with rfl | rfl
    · exact hv.be hB
    · exact hv1.be hB⟩).mono ?_
  rintro e w2 ⟨rfl, h⟩
  exact ⟨rfl, hB.trans (h.mono hB.size)⟩
theorem root3_w (d d1 d2 dd : List (BitVec 8)) (hd : dd = rt [d, d1, d2]) (hlen : d.length < 1152921504606846975) (hlen1 : d1.length < 1152921504606846975) (hlen2 : d2.length < 1152921504606846975) (v v1 v2 : Value) (w : World) (hK : Tab w 3) (hv : SlAt w v d) (hv1 : SlAt w v1 d1) (hv2 : SlAt w v2 d2) :
    Calls Tryd.prog 16 #[.slice (some ⟨w.heap.size, 0, none⟩) 3 3] (w.alloc (.cells #[v, v1, v2] 38)) fun e w' => e = .returned (.agg (vB dd).toArray) ∧ Below w.heap.size w w' := by
  have hB : Below w.heap.size w (w.alloc (.cells #[v, v1, v2] 38)) := (Below.refl _ _).alloc (Nat.le_refl _) _
  refine (root_any 3 [d, d1, d2] rfl (by decide) (fun j hj => by
    rcases (show j = 0 ∨ j = 1 ∨ j = 2 by simp at hj; omega) with rfl | rfl | rfl
    · exact hlen
    · exact hlen1
    · exact hlen2) dd hd w.heap.size 0 3 (by decide) _ (hK.be hB) (LsAt.mk3 (Row.new' rfl rfl) (hv.be hB) (hv1.be hB) (hv2.be hB))).mono ?_
  rintro e w2 ⟨rfl, h⟩
  exact ⟨rfl, hB.trans (h.mono hB.size)⟩

/-- A new list of three: new bytes, and two others. -/
def SP.n3 (d : List (BitVec 8)) (v u : Value) : SP := ⟨fun W x => ∃ N v0, x = .slice (some ⟨N, 0, none⟩) 3 3 ∧ Row W N [v0, v, u] 38 ∧ SlAt W v0 d, fun _ _ _ hB ⟨N, v0, e, r, h⟩ => ⟨N, v0, e, Row.below r hB (Row.lt r), h.be hB⟩⟩
theorem below_tab {w W : World} {g : Nat} (h : Tab w g) (k : Below w.heap.size w W) : Tab W g := h.be k

end Go.Proofs.YtnogjhbohljjnabDoor
