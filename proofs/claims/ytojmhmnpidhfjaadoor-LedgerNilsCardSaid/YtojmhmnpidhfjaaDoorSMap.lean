/-
  Maps from texts: what stands at a key, as it is.
-/
import Derived.Test.YtojmhmnpidhfjaaDoorXMem
import Derived.Maps.OwnSet
import Derived.StringKeys
namespace Go.Proofs.YtojmhmnpidhfjaaDoor
open Go Go.RowKit Go.Maps
open Sha

/-- An element of a map, as it is. -/
def heldE : Value → Option (DataW Value × List MemPlace) := fun v => some (.held v, [])
/-- Block b is a map from texts that tells what D tells. -/
abbrev Mp (w : World) (b n : Nat) (D : DataW Value) : Prop := w.ownsMap Tryd.prog 9 heldE b n D
theorem keyedS : Keyed Tryd.prog 9 := string_keyed Tryd.underlying9
/-- A text as a key. -/
def kl (s : ByteArray) : Lit := .string s.data.toList
theorem kl_inj {a b : ByteArray} (h : kl a = kl b) : a = b := by
  unfold kl at h
  simp only [Lit.string.injEq] at h
  apply ByteArray.ext
  exact Array.toList_inj.1 h
theorem kl_key (s : ByteArray) : WideAt.IsKeyLit (kl s) := by
  unfold kl
  simp [WideAt.IsKeyLit]
theorem key_of (s : ByteArray) (h : s.size ≤ 128) : keyOf Tryd.prog 9 (.string s) = some (kl s) := WideMaps.keyOf_string_mk Tryd.underlying9 (by unfold maxLen; omega)
section
variable {w w' : World} {b n : Nat} {D : DataW Value}
theorem Mp.look (h : Mp w b n D) (t e : TypeId) (ht : Tryd.prog.underlying t = some (.map 9 e)) (z : Value) (hz : (zeroValue e).run Tryd.prog w = .ok z w) (s : ByteArray) (hs : s.size ≤ 128) (v : Value) (hv : D.atKey (kl s) (.held z) = .held v) :
    (Instr.lookup t (.map (some b)) (.string s) false).run Tryd.prog w = .ok v w := by
  obtain ⟨u, ps, h1, h2⟩ := World.ownsMap.lookup (zd := .held z) (zp := []) h keyedS ht hz rfl (key_of s hs)
  rw [hv] at h2
  unfold heldE at h2
  simp only [Option.some.injEq, Prod.mk.injEq, DataW.held.injEq] at h2
  rw [← h2.1]
  exact h1
theorem look_none (t e : TypeId) (ht : Tryd.prog.underlying t = some (.map 9 e)) (z : Value) (hz : (zeroValue e).run Tryd.prog w = .ok z w) (s : ByteArray) (hs : s.size ≤ 128) :
    (Instr.lookup t (.map none) (.string s) false).run Tryd.prog w = .ok z w := by
  have h := Maps.look_nil (P := Tryd.prog) (w := w) false keyedS ht hz (key_of s hs)
  simpa using h
theorem Mp.be (h : Mp w b n D) (k : Below w.heap.size w w') : Mp w' b n D := by
  have hlt := World.ownsMap.lt h
  obtain ⟨es, clock, hb, F, hs, hD⟩ := h
  exact ⟨es, clock, (k.block b hlt).trans hb, F, hs, hD⟩
theorem Mp.block (h : Mp w b n D) (k : w'.heap[b]? = w.heap[b]?) : Mp w' b n D := by
  obtain ⟨es, clock, hb, F, hs, hD⟩ := h
  exact ⟨es, clock, k.trans hb, F, hs, hD⟩
theorem Mp.gro {R : Nat → Prop} (h : Mp w b n D) (k : Gro R w w') (hR : ¬ R b) : Mp w' b n D := Mp.block h (k.block b (World.ownsMap.lt h) hR)
theorem Mp.lt (h : Mp w b n D) : b < w.heap.size := World.ownsMap.lt h
theorem Mp.ne {g : Nat} {cs : List Value} {t : TypeId} (h : Mp w b n D) (r : Row w g cs t) : b ≠ g := fun e => by
  subst e
  obtain ⟨es, clock, hb, _⟩ := h
  have := hb.symm.trans r
  simp at this
theorem Mp.bw {v : Value} {d : List (BitVec 8)} (h : Mp w b n D) (k : Bw w v d) : ∀ g, v.ownBlock = some g → g ≠ b := fun g e q => by
  subst q
  obtain ⟨es, clock, hb, _⟩ := h
  rcases k.2 with ⟨h1, _⟩ | ⟨g', cap, cur, hv, _, hh, _⟩
  · rw [h1] at e; simp [Value.ownBlock] at e
  · rw [hv] at e
    simp only [Value.ownBlock, Option.some.injEq] at e
    subst e
    have := hb.symm.trans hh
    simp at this
theorem Mp.new (w : World) : Mp (w.alloc (.map #[] 0)) w.heap.size 0 (.map []) := World.ownsMap_made w _ _ _
/-- What is laid in a map. -/
theorem Mp.put (h : Mp w b n D) (hn : n < 140737488355328) (t e : TypeId) (ht : Tryd.prog.underlying t = some (.map 9 e)) (s : ByteArray) (hs : s.size ≤ 128) (v : Value) :
    ∃ W, (Instr.mapUpdate t (.map (some b)) (.string s) v).run Tryd.prog w = .ok () W ∧ Mp W b (n + 1) (D.put (kl s) (.held v)) ∧ w.grownBy W (some b) :=
  World.ownsMap.update (d := .held v) (ps := []) h keyedS ht (by unfold maxLen; omega) (key_of s hs) rfl
end

end Go.Proofs.YtojmhmnpidhfjaaDoor
