/-
  Digests compared (Eq, with other imports), in regions that draw their order too; len; pick.
-/
import Derived.Test.YtknabkoddickaaaGreatDoorParts
import Derived.Test.YtknabkoddickaaaGreatDoorTFp
import Derived.BigRegion
import Derived.Stop.BytesEq

namespace Go.Proofs.YtknabkoddickaaaGreatDoor
open Go Go.RowKit
open Sha

/-- Parts of two lists whose list lies in a row. -/
theorem parts_two (d0 d dd : List (BitVec 8)) (hd : dd = dig (d0 ++ d)) (v0 v : Value) (hlen : d0.length + d.length < 1152921504606846976) (g cap : Nat) (w : World) (hK : Tab w 1) (h0 : SlAtT w v0 d0) (hv : SlAtT w v d) (hr : Row w g [v0, v] 44) :
    Calls Tryz.prog 37 #[.slice (some ⟨g, 0, none⟩) 2 cap] w fun e w' => e = .returned (.agg (vB dd).toArray) ∧ Below w.heap.size w w' := by
  have h := parts_any [d0, d] [v0, v] rfl g 0 cap (by simpa using hlen) (by show 2 < _; decide) w hK (fun i hi => by
    rcases (show i = 0 ∨ i = 1 by simp at hi; omega) with rfl | rfl
    · exact h0
    · exact hv) hr.all
  rw [show [d0, d].flatten = d0 ++ d by simp, ← hd] at h
  exact h
end Go.Proofs.YtknabkoddickaaaGreatDoor

namespace Go.Proofs.YtknabkoddickaaaGreatDoor
open Go Go.RowKit
open Sha

/-- A new slice of the bytes d, away from block B. -/
def SP.bt (B : Nat) (d : List (BitVec 8)) : SP := ⟨fun W v => ∃ N, N ≠ B ∧ v = .slice (some ⟨N, 0, none⟩) d.length d.length ∧ Row W N (vB d) 5, fun _ _ _ hB ⟨N, hN, e, r⟩ => ⟨N, hN, e, Row.below r hB (Row.lt r)⟩⟩
/-- A new list of three: new bytes, and two others. -/
def SP.l3 (B : Nat) (d : List (BitVec 8)) (v u : Value) : SP := ⟨fun W x => ∃ N v0, N ≠ B ∧ x = .slice (some ⟨N, 0, none⟩) 3 3 ∧ Row W N [v0, v, u] 44 ∧ (SP.bt B d).P W v0, fun _ _ _ hB ⟨N, v0, hN, e, r, h⟩ => ⟨N, v0, hN, e, Row.below r hB (Row.lt r), (SP.bt B d).st _ _ _ hB h⟩⟩
end Go.Proofs.YtknabkoddickaaaGreatDoor

namespace Go.Proofs.YtknabkoddickaaaGreatDoor
open Go Go.RowKit
open Sha

def toUT (l : List (BitVec 8)) : List UInt8 := l.map UInt8.ofBitVec
theorem vB_cellT (l : List (BitVec 8)) : vB l = (toUT l).map Extern.Stop.cell := by
  unfold vB toUT; rw [List.map_map]; rfl
theorem toU_lengthT (l : List (BitVec 8)) : (toUT l).length = l.length := by simp [toUT]
theorem toU_injT {l r : List (BitVec 8)} (h : toUT l = toUT r) : l = r := by
  unfold toUT at h
  exact (List.map_inj_right (fun x y h => congrArg UInt8.toBitVec h)).1 h
theorem toU_beqT (l r : List (BitVec 8)) : (toUT l == toUT r) = decide (l = r) := by
  rw [Bool.eq_iff_iff]; simp only [beq_iff_eq, decide_eq_true_eq]
  exact ⟨toU_injT, fun h => by rw [h]⟩

section
variable {P : Program} {ops : Array Oper} {rest : List Oper} {op : Oper} {a : Act} {w : World} {Q : Exit → Act → World → Prop}

end

section
variable {P : Program} {Q : Exit → Act → World → Prop} {o : Oper} {a : Act} {w : World} {K : Act → World → Prop}
theorem run_neq_vBT (w : World) (t e : TypeId) (n : Nat) (ht : P.underlying t = some (.array n e)) (he : P.underlying e = some (.int .u8)) (hs : (P.info? e).map (·.size) = some 1) (l r : List (BitVec 8)) (hl : l.length = n) (hr : r.length = n) :
    (binOp .neq t (.agg (vB l).toArray) (.agg (vB r).toArray)).run P w = .ok (.bool (!decide (l = r))) w := by
  have hsz : ∀ w, (sizeOf e).run P w = .ok 1 w := by
    intro w
    cases hq : P.info? e with
    | none => simp [hq] at hs
    | some i => have h1 : i.size = 1 := by simpa [hq] using hs
                simp [sizeOf, typeInfo, hq, h1]
  rw [vB_cellT, vB_cellT, run_neq_struct, run_equalIn_bytes w 9998 t e n ht he hsz (toUT l) (toUT r) (by rw [toU_lengthT, hl]) (by rw [toU_lengthT, hr])]
  simp [← toU_beqT]
theorem wp_neq_d (t : TypeId) (x y : Operand) (yt : TypeId) (ho : o.op = .binOp .neq t x y yt) (e n : Nat) (l r : List (BitVec 8)) (hx : a.eval x = .agg (vB l).toArray) (hy : a.eval y = .agg (vB r).toArray)
    (ht : P.underlying t = some (.array n e)) (he : P.underlying e = some (.int .u8)) (hs : (P.info? e).map (·.size) = some 1) (hl : l.length = n) (hr : r.length = n) (hm : P.eqGuardType P.depth t = false)
    (B : Bool) (hB : (!decide (l = r)) = B) (h : K (a.put o.dst (.bool B)) w) : Oper.wp P o a w K Q := by
  subst hB
  unfold Oper.wp execOp
  simp only [ho, hx, hy, Sem.run_bind, run_eqGuard_agg w .neq t x y _ _ hm, Result.andThen_ok, run_neq_vBT w t e n ht he hs l r hl hr, Sem.run_pure, Oper.upon_value]
  exact h
theorem wp_neqint_v {x y : Operand} {t yt : TypeId} {k : IntKind} {m n : Int} {B : Bool} (ho : o.op = .binOp .neq t x y yt) (hx : a.eval x = .int k m) (hy : a.eval y = .int k n) (hB : (!(m == n)) = B) (h : K (a.put o.dst (.bool B)) w) : Oper.wp P o a w K Q := by
  subst hB
  unfold Oper.wp execOp
  simp only [ho, hx, hy]
  simp [go_sem]
  exact h
end

end Go.Proofs.YtknabkoddickaaaGreatDoor
