/-
  Fields of a struct that came in: numbers, bytes, wide numbers, lists of numbers.
-/
import Derived.Test.YtmkmdbpibpbcjaaXRow
import Derived.Test.YtmkmdbpibpbcjaaXLaysK
import Derived.Test.YtmkmdbpibpbcjaaXRd2
import Derived.ChangeMaps5
import Derived.Deep.Matrix
namespace Go.Proofs.Ytmkmdbpibpbcjaa
open Go Go.RowKit Go.ChangeShapes Go.WideShapes Go.ChangeAt
open Sha

theorem cellsU8 : Try.prog.cellsOf 5 = 1 := by kernel_rfl
theorem bytesU8 : Try.prog.bytesOf 5 = 1 := by kernel_rfl
theorem cellsU64 : Try.prog.cellsOf 28 = 1 := by kernel_rfl
theorem cellsWide : Try.prog.cellsOf 30 = 4 := by kernel_rfl
theorem cellsS : Try.prog.cellsOf 27 = 1 := by kernel_rfl
theorem cellsIs : Try.prog.cellsOf 31 = 1 := by kernel_rfl
theorem cellsStep : Try.prog.cellsOf 33 = 8 := by kernel_rfl
theorem mapM_each {α β : Type} {f : α → Option β} : ∀ (L : List α) (ys : List β), L.mapM f = some ys → ∀ i ∈ L, ∃ y, f i = some y
  | [], _, _, i, hi => by cases hi
  | a :: L, ys, h, i, hi => by
    rw [List.mapM_cons] at h
    simp only [bind, Option.bind_eq_some_iff, pure, Option.some.injEq] at h
    obtain ⟨y, hy, zs, hz, _⟩ := h
    rcases List.mem_cons.1 hi with rfl | hi
    · exact ⟨y, hy⟩
    · exact mapM_each L zs hz i hi

/-- A slice of bytes by its cells. -/
theorem bytes_of {W : World} {A : Option Addr} {L C : Nat} {Z : List Int} (hL : L ≤ C) (hZ : Z.length = C) (hw : ∀ n ∈ Z, (Lit.int .u8 n).wf = true) (h0 : A = none → C = 0) (hc : ∀ a', A = some a' → ∀ c, c < C → W.cell? (a'.add c) = some (.int .u8 (Z.getD c 0))) :
    ((Z.take L).map (BitVec.ofInt 8)).length = L ∧ SlAt W (.slice A L C) ((Z.take L).map (BitVec.ofInt 8)) := by
  have hl : ((Z.take L).map (BitVec.ofInt 8)).length = L := by simp; omega
  refine ⟨hl, ?_⟩
  by_cases hz : L = 0
  · subst hz; exact .inl ⟨by simp, _, _, rfl⟩
  · cases A with
    | none => have := h0 rfl; omega
    | some y =>
      obtain ⟨b, off, spot⟩ := y
      have hcell := hc _ rfl
      have h1 := hcell 0 (by omega)
      have hspot : spot = none := by simpa [Addr.add] using World.cell?_spot h1
      subst hspot
      refine .inr ⟨b, off, C, by rw [hl], by rw [hl]; exact hL, fun i v hv => ?_⟩
      have hi : i < L := by have := (List.getElem?_eq_some_iff.1 hv).1; rw [vB_length, hl] at this; exact this
      have h2 := hcell i (by omega)
      rw [Addr.add_mid] at h2
      rw [h2]
      have hw := hw (Z.getD i 0) (by rw [List.getD_eq_getElem?_getD, List.getElem?_eq_getElem (by omega)]; exact List.getElem_mem _)
      have hb := bounds_u8 hw
      rw [vB_get _ i (by rw [hl]; exact hi)] at hv
      rw [← hv]
      have e : ((Z.take L).map (BitVec.ofInt 8)).getD i 0 = BitVec.ofInt 8 (Z.getD i 0) := by
        simp [List.getElem?_take_of_lt hi, List.getElem?_eq_getElem (show i < Z.length by omega)]
      rw [e]
      unfold c
      rw [show ((BitVec.ofInt 8 (Z.getD i 0)).toNat : Int) = Z.getD i 0 from by rw [BitVec.toNat_ofInt]; omega]

section
variable {H : Type} {enc : TypeId × Value → H} {W : World} {base : Nat} {held : Bool} {n : Nat}
/-- A number. -/
theorem int_f {v : Value} {y : DataW H × List MemPlace} (g : DataW.trod enc Try.prog W base (fun _ => true) held n 3 [v] = some y) : ∃ z, v = .int .i64 z ∧ -9223372036854775808 ≤ z ∧ z ≤ 9223372036854775807 := by
  obtain ⟨z, e, _, wz⟩ := DataW.trod_int Try.underlying3 g
  simp only [List.cons.injEq, and_true] at e
  exact ⟨z, e, bounds_i64 wz⟩
theorem bytes_f {v : Value} {y : DataW H × List MemPlace} (g : DataW.trod enc Try.prog W base (fun _ => true) held n 27 [v] = some y) : ∃ (d : List (BitVec 8)) (A : Option Addr) (cap : Nat), v = .slice A d.length cap ∧ SlAt W (.slice A d.length cap) d ∧ (A = none → cap = 0) ∧ ((∀ m ∈ y.1.weights Try.prog 27, m ≤ reachBytes) → d.length ≤ 140737488351232) := by
  have hrb : reachBytes = 140737488351232 := rfl
  rcases open_ints Try.underlying27 Try.underlying5 cellsU8 g with ⟨hcs, hy⟩ | ⟨a', L, C, Z, hcs, _, hl, hm, hz, hy, hcell, hwz⟩
  · simp only [List.cons.injEq, and_true] at hcs
    exact ⟨[], none, 0, hcs, .inl ⟨rfl, _, _, rfl⟩, fun _ => rfl, fun _ => Nat.zero_le _⟩
  · simp only [List.cons.injEq, and_true] at hcs
    simp only [if_true] at hz
    obtain ⟨hlen, hsl⟩ := bytes_of (W := W) (A := some a') hl hz hwz (fun h => by cases h) (fun a'' ha c hc => by cases ha; exact hcell c (by rw [hz]; exact hc))
    refine ⟨(Z.take L).map (BitVec.ofInt 8), some a', C, by rw [hlen]; exact hcs, by rw [hlen]; exact hsl, (fun h => by cases h), fun hw => ?_⟩
    have := hw (((Z.take L).length + (Z.drop L).length) * 1) (by
        rw [hy]
        simp only [DataW.weights, Try.underlying27, lits, List.length_map, bytesU8]
        exact List.mem_cons_self)
    simp only [List.length_take, List.length_drop, Nat.mul_one] at this
    rw [hlen]; omega
theorem ints_f {v : Value} {y : DataW H × List MemPlace} (g : DataW.trod enc Try.prog W base (fun _ => true) held n 31 [v] = some y) : ∃ (A : Option Addr) (l cap : Nat), v = .slice A l cap ∧ ((∀ m ∈ y.1.weights Try.prog 31, m ≤ reachBytes) → l ≤ 140737488351232) := by
  have hrb : reachBytes = 140737488351232 := rfl
  rcases open_ints Try.underlying31 Try.underlying3 cellsInt g with ⟨hcs, hy⟩ | ⟨a', L, C, Z, hcs, _, hl, hm, hz, hy, hcell, hwz⟩
  · simp only [List.cons.injEq, and_true] at hcs
    exact ⟨none, 0, 0, hcs, fun _ => Nat.zero_le _⟩
  · simp only [List.cons.injEq, and_true] at hcs
    simp only [if_true] at hz
    refine ⟨some a', L, C, hcs, fun hw => ?_⟩
    have := hw (((Z.take L).length + (Z.drop L).length) * 8) (by
        rw [hy]
        simp only [DataW.weights, Try.underlying31, lits, List.length_map, bytesInt]
        exact List.mem_cons_self)
    simp only [List.length_take, List.length_drop] at this
    omega
set_option maxRecDepth 100000 in
theorem wide_f {cs : List Value} {y : DataW H × List MemPlace} (hl : cs.length = 4) (h : DataW.trod enc Try.prog W base (fun _ => true) held n 30 cs = some y) : ∃ a b c d : Nat, cs = q4 a b c d ∧ a < 18446744073709551616 ∧ b < 18446744073709551616 ∧ c < 18446744073709551616 ∧ d < 18446744073709551616 := by
  cases n with
  | zero => simp [DataW.trod] at h
  | succ m =>
    rw [DataW.trod_step] at h
    unfold DataW.trodStep at h
    simp only [Try.underlying30] at h
    rw [if_pos (by rw [cellsWide]; exact hl)] at h
    simp only [Option.map_eq_some_iff] at h
    obtain ⟨ys, hy, _⟩ := h
    have each := mapM_each _ _ hy
    have one : ∀ i, i < 4 → ∃ z : Nat, cs[i]? = some (.int .u64 (z : Int)) ∧ z < 18446744073709551616 := fun i h => by
      obtain ⟨y, hy⟩ := each i (List.mem_range.2 (by omega))
      rw [cellsU64, Nat.mul_one] at hy
      obtain ⟨z, hz, _, wz⟩ := DataW.trod_int Try.underlying28 hy
      have hb := bounds_u64 wz
      have hi : i < cs.length := by omega
      rw [List.drop_eq_getElem_cons hi, List.take_succ_cons, List.take_zero] at hz
      exact ⟨z.toNat, by rw [List.getElem?_eq_getElem hi, (List.cons.inj hz).1]; congr 2; omega, by omega⟩
    obtain ⟨a, ha, ba⟩ := one 0 (by decide)
    obtain ⟨b, hb, bb⟩ := one 1 (by decide)
    obtain ⟨c, hc, bc⟩ := one 2 (by decide)
    obtain ⟨d, hd, bd⟩ := one 3 (by decide)
    refine ⟨a, b, c, d, ?_, ba, bb, bc, bd⟩
    obtain ⟨x0, x1, x2, x3, rfl⟩ : ∃ x0 x1 x2 x3, cs = [x0, x1, x2, x3] := by
      match cs, hl with
      | [x0, x1, x2, x3], _ => exact ⟨x0, x1, x2, x3, rfl⟩
    simp only [List.getElem?_cons_zero, List.getElem?_cons_succ, Option.some.injEq] at ha hb hc hd
    rw [ha, hb, hc, hd]
end
theorem one_take (cs : List Value) (k : Nat) (h : k < cs.length) : (cs.drop k).take 1 = [cs.getD k undef] := by
  rw [List.drop_eq_getElem_cons h]
  simp only [List.take_succ_cons, List.take_zero, List.getD_eq_getElem?_getD, List.getElem?_eq_getElem h, Option.getD_some]

end Go.Proofs.Ytmkmdbpibpbcjaa
