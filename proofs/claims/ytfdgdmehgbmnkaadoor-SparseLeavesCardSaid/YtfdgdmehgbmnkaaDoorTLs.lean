/-
  Lists of lists of bytes in memory; the root over a list of leaves; slices of lists as a drawn region meets them.
-/
import Derived.WalkKit
import Derived.Lib.Slices
import Derived.Lib.Small
import Derived.Lib.Walk
import Derived.Lib.BitFns
import Derived.Lib.ItoaNum
import Derived.Test.YtfdgdmehgbmnkaaDoorTNode

namespace Go.Proofs.YtfdgdmehgbmnkaaDoor
open Go Go.RowKit

section
variable {ops : Array Oper} {rest : List Oper} {op : Oper} {a : Act} {w : World} {Q : Exit → Act → World → Prop}
/-- The table of lengths, at a byte. -/
theorem wpList_index_tab (hgd : op.guard = none) (x y : Operand) (ho : op.op = .index 9 x y) (hx : a.eval x = .string Lib.len8tab) (z : Int) (hy : a.eval y = .int .u8 z) (h0 : 0 ≤ z) (h1 : z ≤ 255)
    (h : ∀ k : Nat, k = Lib.bitLen z.toNat → k ≤ 8 → wpList Tryd.prog ops Q rest (a.put op.dst (.int .u8 (k : Int))) w) : wpList Tryd.prog ops Q (op :: rest) a w :=
  wpList_plain hgd fun _ hK => by
    have hr := run_index_string (P := Tryd.prog) w 9 Lib.len8tab .u8 z Tryd.underlying9
    have hs : Lib.len8tab.size = 256 := by decide +kernel
    rw [dif_pos (by omega)] at hr
    have h8 := Lib.len8_of z h0 h1
    have hb := Lib.bitLen_le8' z h0 h1
    have hz : z.toNat < Lib.len8tab.size := by omega
    have e : ((Lib.len8tab[z.toNat]'hz).toNat : Int) = ((Lib.bitLen z.toNat : Nat) : Int) := by
      rw [← h8]; unfold Lib.len8; rw [getElem?_pos Lib.len8tab z.toNat hz]; rfl
    unfold Oper.wp execOp
    simp only [ho, hx, hy, Sem.run_bind, hr, Result.andThen_ok, Sem.run_pure, Oper.upon_value, e]
    exact hK _ _ (h _ rfl hb)
end

/-- The greatest power of two below n. -/
def fpart (n : Nat) : Nat := 2 ^ (Lib.bitLen (n - 1) - 1)
theorem fpart_pos (n : Nat) : 1 ≤ fpart n := Nat.pow_pos (by decide)
theorem fpart_bounds (n : Nat) (h2 : 2 ≤ n) (hn : n < 4611686018427387904) : fpart n < n ∧ n ≤ 2 * fpart n ∧ 1 ≤ Lib.bitLen (n - 1) ∧ Lib.bitLen (n - 1) ≤ 62 := by
  have h := Lib.bitLenAux_bounds 64 (n - 1) (by omega) (by omega)
  have hl : Lib.bitLen (n - 1) ≤ 62 := Lib.bitLen_le (n - 1) 62 (by decide) (by omega)
  unfold fpart
  unfold Lib.bitLen at hl ⊢
  generalize Lib.bitLenAux 64 (n - 1) = k at *
  obtain ⟨j, rfl⟩ : ∃ j, k = j + 1 := ⟨k - 1, by omega⟩
  have e : 2 ^ (j + 1) = 2 * 2 ^ j := by rw [Nat.pow_succ]; omega
  have := h.2.1
  have := h.2.2
  simp only [Nat.add_sub_cancel] at *
  omega

end Go.Proofs.YtfdgdmehgbmnkaaDoor

namespace Go.Proofs.YtfdgdmehgbmnkaaDoor
open Go Go.RowKit
open Sha

/-- At b, o lie the lists ps, one behind the other. -/
def LsAt (w : World) (b o : Nat) (ps : List (List (BitVec 8))) : Prop := ∃ vs : List Value, vs.length = ps.length ∧ w.rangeAt b o vs ∧ ∀ i, i < ps.length → SlAt w (vs.getD i undef) (ps.getD i [])
theorem LsAt.below {w w' : World} {b o : Nat} {ps : List (List (BitVec 8))} (h : LsAt w b o ps) (k : Below w.heap.size w w') : LsAt w' b o ps := by
  obtain ⟨vs, h1, h2, h3⟩ := h
  exact ⟨vs, h1, range_below h2 k (Nat.le_refl _), fun i hi => (h3 i hi).below k (Nat.le_refl _)⟩
theorem LsAt.take {w : World} {b o : Nat} {ps : List (List (BitVec 8))} (h : LsAt w b o ps) (k : Nat) : LsAt w b o (ps.take k) := by
  obtain ⟨vs, h1, h2, h3⟩ := h
  refine ⟨vs.take k, by rw [List.length_take, List.length_take, h1], fun j v hv => ?_, fun i hi => ?_⟩
  · rw [List.getElem?_take] at hv
    split at hv
    · exact h2 j v hv
    · cases hv
  · rw [List.length_take] at hi
    have hk : i < k := by omega
    have e1 : (vs.take k).getD i undef = vs.getD i undef := by simp [List.getD_eq_getElem?_getD, hk]
    have e2 : (ps.take k).getD i [] = ps.getD i [] := by simp [List.getD_eq_getElem?_getD, hk]
    rw [e1, e2]
    exact h3 i (by omega)
theorem LsAt.drop {w : World} {b o : Nat} {ps : List (List (BitVec 8))} (h : LsAt w b o ps) (k : Nat) : LsAt w b (o + k) (ps.drop k) := by
  obtain ⟨vs, h1, h2, h3⟩ := h
  refine ⟨vs.drop k, by rw [List.length_drop, List.length_drop, h1], fun j v hv => ?_, fun i hi => ?_⟩
  · rw [List.getElem?_drop] at hv
    have := h2 (k + j) v hv
    rw [← Nat.add_assoc] at this
    exact this
  · rw [List.length_drop] at hi
    have e1 : (vs.drop k).getD i undef = vs.getD (k + i) undef := by simp [List.getD_eq_getElem?_getD, List.getElem?_drop]
    have e2 : (ps.drop k).getD i [] = ps.getD (k + i) [] := by simp [List.getD_eq_getElem?_getD, List.getElem?_drop]
    rw [e1, e2]
    exact h3 (k + i) (by omega)

/-- The root over a list of leaves, by fuel. -/
def rtF : Nat → List (List (BitVec 8)) → List (BitVec 8)
  | 0, _ => dig []
  | f + 1, ps => if ps.length = 0 then dig [] else if ps.length = 1 then dig ([0#8] ++ ps.getD 0 []) else dig ([1#8] ++ (rtF f (ps.take (fpart ps.length)) ++ rtF f (ps.drop (fpart ps.length))))
/-- The root over a list of leaves. -/
def rt (ps : List (List (BitVec 8))) : List (BitVec 8) := rtF ps.length ps
theorem rtF_length (f : Nat) (ps : List (List (BitVec 8))) : (rtF f ps).length = 32 := by
  cases f with
  | zero => exact dig_length _
  | succ f =>
    unfold rtF
    split
    · exact dig_length _
    · split <;> exact dig_length _
theorem rt_length (ps : List (List (BitVec 8))) : (rt ps).length = 32 := rtF_length _ _
theorem rtF_fuel : ∀ (f g : Nat) (ps : List (List (BitVec 8))), ps.length ≤ f → ps.length ≤ g → ps.length < 4611686018427387904 → rtF f ps = rtF g ps
  | 0, 0, _, _, _, _ => rfl
  | 0, g + 1, ps, h, _, _ => by
    have : ps.length = 0 := by omega
    simp [rtF, this]
  | f + 1, 0, ps, _, h, _ => by
    have : ps.length = 0 := by omega
    simp [rtF, this]
  | f + 1, g + 1, ps, hf, hg, hl => by
    unfold rtF
    split
    · rfl
    · split
      · rfl
      · have hb := fpart_bounds ps.length (by omega) hl
        have hp := fpart_pos ps.length
        rw [rtF_fuel f g (ps.take _) (by rw [List.length_take]; omega) (by rw [List.length_take]; omega) (by rw [List.length_take]; omega), rtF_fuel f g (ps.drop _) (by rw [List.length_drop]; omega) (by rw [List.length_drop]; omega) (by rw [List.length_drop]; omega)]
theorem rt_nil (ps : List (List (BitVec 8))) (h : ps.length = 0) : rt ps = dig [] := by
  unfold rt; rw [h]; rfl
theorem rt_one (ps : List (List (BitVec 8))) (h : ps.length = 1) : rt ps = dig ([0#8] ++ ps.getD 0 []) := by
  unfold rt rtF; simp [h]
theorem rt_many (ps : List (List (BitVec 8))) (h2 : 2 ≤ ps.length) (hl : ps.length < 4611686018427387904) : rt ps = dig ([1#8] ++ (rt (ps.take (fpart ps.length)) ++ rt (ps.drop (fpart ps.length)))) := by
  have hb := fpart_bounds ps.length h2 hl
  have hp := fpart_pos ps.length
  have e : rt ps = rtF (ps.length + 1) ps := rtF_fuel _ _ ps (Nat.le_refl _) (by omega) hl
  rw [e]
  unfold rtF
  rw [if_neg (by omega), if_neg (by omega), rtF_fuel ps.length (ps.take (fpart ps.length)).length (ps.take _) (by rw [List.length_take]; omega) (Nat.le_refl _) (by rw [List.length_take]; omega), rtF_fuel ps.length (ps.drop (fpart ps.length)).length (ps.drop _) (by rw [List.length_drop]; omega) (Nat.le_refl _) (by rw [List.length_drop]; omega)]
  rfl

section
variable {P : Program} {Q : Exit → Act → World → Prop} {o : Oper} {a : Act} {w : World} {K : Act → World → Prop}
theorem wp_slice_to (t e : TypeId) (x z : Operand) (b f n cap k : Nat) (ho : o.op = .slice t x none (some z) none) (hx : a.eval x = .slice (some ⟨b, f, none⟩) n cap) (hz : a.eval z = .int .i64 (k : Int)) (hk : k ≤ cap)
    (hu : P.underlying t = some (.slice e)) (hs : (P.info? e).map (·.size) = some 1) (h : K (a.put o.dst (.slice (some ⟨b, f, none⟩) k cap)) w) : Oper.wp P o a w K Q := by
  cases hq : P.info? e with
  | none => simp [hq] at hs
  | some i =>
    have hr : (Instr.sliceAt t (.slice (some ⟨b, f, none⟩) n cap) none (some (.int .i64 (k : Int))) none).run P w = .ok (.slice (some ⟨b, f, none⟩) k cap) w := by
      simp [Instr.sliceAt, Instr.slice, run_underlying hu, Instr.sliceBounds, Instr.sliceBound, asIntOf, sizeOf, typeInfo, hq, hk, Addr.add_mid]
    unfold Oper.wp execOp
    simp only [ho, hx, hz, Option.map_some, Option.map_none, Sem.run_bind, hr, Result.andThen_ok, Sem.run_pure, Oper.upon_value]
    exact h
theorem wp_slice_on (t e : TypeId) (x z : Operand) (b f n cap k : Nat) (ho : o.op = .slice t x (some z) none none) (hx : a.eval x = .slice (some ⟨b, f, none⟩) n cap) (hz : a.eval z = .int .i64 (k : Int)) (hk : k ≤ n) (hc : k < cap)
    (hu : P.underlying t = some (.slice e)) (hs : (P.info? e).map (·.size) = some 1) (h : K (a.put o.dst (.slice (some ⟨b, f + k, none⟩) (n - k) (cap - k))) w) : Oper.wp P o a w K Q := by
  have hr := run_slice_from (P := P) w t e b f n cap k (k : Int) rfl hk hu hs
  rw [if_neg (by omega)] at hr
  unfold Oper.wp execOp
  simp only [ho, hx, hz, Option.map_some, Option.map_none, Sem.run_bind, hr, Result.andThen_ok, Sem.run_pure, Oper.upon_value]
  exact h
end

end Go.Proofs.YtfdgdmehgbmnkaaDoor
