/-
  Hex: a digest as sixty-four digits.
-/
import Derived.Test.YtihigbkanbabeaaDoorSum
import Derived.RegionTactic
import Derived.BigRegion
import Derived.Laws.BytesArg
namespace Go.Proofs.YtihigbkanbabeaaDoor
open Go Go.RowKit
open Sha

namespace Sha
/-- The digit of four bits. -/
def hexd (n : Nat) : BitVec 8 := [48#8, 49#8, 50#8, 51#8, 52#8, 53#8, 54#8, 55#8, 56#8, 57#8, 97#8, 98#8, 99#8, 100#8, 101#8, 102#8].getD n 0
def hex2 (x : BitVec 8) : List (BitVec 8) := [hexd (x.toNat / 16), hexd (x.toNat % 16)]
def hexs (d : List (BitVec 8)) : List (BitVec 8) := d.flatMap hex2
theorem hexs_length (d : List (BitVec 8)) : (hexs d).length = 2 * d.length := by
  induction d with
  | nil => rfl
  | cons x d ih => simp only [hexs, List.flatMap_cons, List.length_append, List.length_cons] at ih ⊢; rw [ih]; simp [hex2]; omega
theorem hexs_take (d : List (BitVec 8)) (k : Nat) (h : k < d.length) : hexs (d.take (k + 1)) = hexs (d.take k) ++ hex2 (d.getD k 0) := by
  rw [List.take_succ_eq_append_getElem h]; simp only [hexs, List.flatMap_append, List.flatMap_cons, List.flatMap_nil, List.append_nil]; simp [h]
end Sha

/-- Bytes as a string. -/
def str (l : List (BitVec 8)) : ByteArray := strOfNums (l.map c)
theorem run_convert_str {P : Program} (w : World) (src e dst : TypeId) (hs : P.underlying src = some (.slice e)) (he : P.underlying e = some (.int .u8)) (hd : P.underlying dst = some .string) (b off cap n : Nat) (l : List (BitVec 8)) (hl : l.length = n)
    (hr : w.rangeAt b off (vB l)) : (convert src dst (.slice (some ⟨b, off, none⟩) n cap)).run P w = .ok (.string (str l)) w :=
  run_convert_bytes_arg w src e hs he b off n cap (l.map c) (by simpa using hl) (fun i hi => hr i _ (by rw [vB_get l i (by omega)]; simp [show i < l.length by omega])) dst hd

theorem hex_fill (d : List (BitVec 8)) (k : Nat) (h : k < d.length) (hk : k < 32) : ((hexs (d.take k) ++ List.replicate (64 - 2 * k) 0#8).set (2 * k) (hexd ((d.getD k 0).toNat / 16))).set (2 * k + 1) (hexd ((d.getD k 0).toNat % 16)) = hexs (d.take (k + 1)) ++ List.replicate (64 - 2 * (k + 1)) 0#8 := by
  have hl : (hexs (d.take k)).length = 2 * k := by rw [hexs_length, List.length_take]; omega
  rw [hexs_take d k h, show 64 - 2 * k = (64 - 2 * (k + 1)) + 1 + 1 by omega, List.replicate_succ, List.replicate_succ, List.set_append_right _ _ (by omega), List.set_append_right _ _ (by omega), hl]
  simp [hex2]
theorem index_hi (x : BitVec 8) (w : World) : (Instr.index 9 (.string ⟨#[48, 49, 50, 51, 52, 53, 54, 55, 56, 57, 97, 98, 99, 100, 101, 102]⟩) (.int .u8 (c x / 16))).run Tryd.prog w = .ok (.int .u8 (c (hexd (x.toNat / 16)))) w := by
  have h : x.toNat / 16 < 16 := by have := x.isLt; omega
  have e : c x / 16 = ((x.toNat / 16 : Nat) : Int) := by unfold c; omega
  rw [e]
  generalize x.toNat / 16 = n at h
  have : n = 0 ∨ n = 1 ∨ n = 2 ∨ n = 3 ∨ n = 4 ∨ n = 5 ∨ n = 6 ∨ n = 7 ∨ n = 8 ∨ n = 9 ∨ n = 10 ∨ n = 11 ∨ n = 12 ∨ n = 13 ∨ n = 14 ∨ n = 15 := by omega
  rcases this with rfl | rfl | rfl | rfl | rfl | rfl | rfl | rfl | rfl | rfl | rfl | rfl | rfl | rfl | rfl | rfl <;> (show Sem.run _ _ _ = _; kernel_rfl)
theorem index_lo (x : BitVec 8) (w : World) : (Instr.index 9 (.string ⟨#[48, 49, 50, 51, 52, 53, 54, 55, 56, 57, 97, 98, 99, 100, 101, 102]⟩) (.int .u8 (bits BinOp.and IntKind.u8 (c x) 15))).run Tryd.prog w = .ok (.int .u8 (c (hexd (x.toNat % 16)))) w := by
  have h : x.toNat % 16 < 16 := by omega
  have e : bits BinOp.and IntKind.u8 (c x) 15 = ((x.toNat % 16 : Nat) : Int) := by
    unfold c
    have h1 := u8_and_nat x.toNat 15 x.isLt (by decide)
    rw [show ((15 : Nat) : Int) = 15 from rfl] at h1
    rw [h1, show (15 : Nat) = 2 ^ 4 - 1 from rfl, Nat.and_two_pow_sub_one_eq_mod]
  rw [e]
  generalize x.toNat % 16 = n at h
  have : n = 0 ∨ n = 1 ∨ n = 2 ∨ n = 3 ∨ n = 4 ∨ n = 5 ∨ n = 6 ∨ n = 7 ∨ n = 8 ∨ n = 9 ∨ n = 10 ∨ n = 11 ∨ n = 12 ∨ n = 13 ∨ n = 14 ∨ n = 15 := by omega
  rcases this with rfl | rfl | rfl | rfl | rfl | rfl | rfl | rfl | rfl | rfl | rfl | rfl | rfl | rfl | rfl | rfl <;> (show Sem.run _ _ _ = _; kernel_rfl)

set_option maxRecDepth 100000 in
set_option maxHeartbeats 1000000 in
theorem hex_any (d : List (BitVec 8)) (hd : d.length = 32) (w : World) :
    Calls Tryd.prog 24 #[.agg (vB d).toArray] w fun e w' => e = .returned (.string (str (hexs d))) ∧ Below w.heap.size w w' := by
  have hi : (Tryd.prog.info? 26).map (·.size) = some (vB d).length := by rw [info_dig, vB_length, hd]
  go_enter Tryd.func24, Tryd.ntmps24
  go_wp2_with (refine wpList_load_mid rfl 26 (.tmp 1) rfl w.heap.size 0 rfl (vB d) _ (Row.all (Row.alloc (Row.new w _ _) _)) Tryd.underlying26 rfl hi ?_; simp only [Act.put, List.setIfInBounds_toArray, List.set_cons_zero, List.set_cons_succ])
  go_loopw [7] (fun i wr => ∃ k : Nat, k ≤ 32 ∧ i = .int .i64 k ∧ Below w.heap.size w wr ∧ Row wr (w.heap.size + 1) (vB (hexs (d.take k) ++ List.replicate (64 - 2 * k) 0#8)) 59)
    (fun i _ => 32 - (intOf i).toNat)
  case atStart => exact ⟨0, by omega, rfl, ((Below.refl _ _).alloc (Nat.le_refl _) _).alloc (by simp) _, Row.new' (by simp) rfl⟩
  case round =>
    obtain ⟨k, hk, rfl, hb, h1⟩ := hrel
    by_cases hlt : k < 32
    · have hl : (hexs (d.take k) ++ List.replicate (64 - 2 * k) 0#8).length = 64 := by rw [List.length_append, hexs_length, List.length_take, List.length_replicate]; omega
      have g0 := h1.cell (2 * k) _ (vB_get _ (2 * k) (by rw [hl]; omega))
      have f0 := h1.thaw (2 * k)
      have g1 := h1.cell (2 * k + 1) _ (vB_get _ (2 * k + 1) (by rw [hl]; omega))
      have f1 := h1.thaw (2 * k + 1)
      have hv := vB_get d k (by omega)
      have hfill := hex_fill d k (by omega) (by omega)
      generalize d.getD k 0 = x at hv hfill
      have HF : Hid _ := hfill
      have HV : Hid _ := hv
      clear hl hfill hv
      generalize (hexs (d.take k) ++ List.replicate (64 - 2 * k) 0#8).getD (2 * k) 0 = y0 at g0
      generalize (hexs (d.take k) ++ List.replicate (64 - 2 * k) 0#8).getD (2 * k + 1) 0 = y1 at g1
      go_wp2_with (refine wpList_index rfl 26 (.tmp 6) (.tmp 7) rfl (vB d) k _ rfl rfl Tryd.underlying26 Tryd.underlying5 info_u8 hlt HV.out ?_; simp only [Act.put, List.setIfInBounds_toArray, List.set_cons_zero, List.set_cons_succ])
      have e1 := index_hi x
      have e2 := index_lo x
      go_region
      go_wp2
      refine ⟨⟨k + 1, by omega, by go_num, ?_, ?_⟩, by simp [intOf]; omega⟩
      · exact Below.drew ((hb.setCell (p := ⟨w.heap.size + 1, 2 * k, none⟩) (by simp) _).setCell (p := ⟨w.heap.size + 1, 2 * k + 1, none⟩) (by simp) _)
      · have := (h1.set (2 * k) (.int .u8 (c (hexd (x.toNat / 16))))).set (2 * k + 1) (.int .u8 (c (hexd (x.toNat % 16))))
        rw [vB_set, vB_set, HF.out] at this
        exact this.drew
    · obtain rfl : k = 32 := by omega
      have e2 : Row wr (w.heap.size + 1) (vB (hexs d)) 59 := by
        rw [show d.take 32 = d from List.take_of_length_le (by omega)] at h1; simpa using h1
      clear h1
      have hcv := run_convert_str wr 22 5 9 Tryd.underlying22 Tryd.underlying5 Tryd.underlying9 (w.heap.size + 1) 0 64 64 (hexs d) (by rw [hexs_length, hd]) e2.all
      go_wp2
      go_ret
      exact ⟨rfl, hb⟩

end Go.Proofs.YtihigbkanbabeaaDoor
