/-
  wide.Text.
-/
import Derived.Shelf.Strconv.Itoa1
import Derived.Shelf.LaysM
import Derived.Shelf.Strconv.Itoa2
import Derived.Test.YtclbiophgnkggaaGreatDoorProg
import Derived.Test.YtclbiophgnkggaaGreatDoorMem
import Derived.Lib.ItoaMem
import Derived.Lib.AppendIntMem
import Derived.Lib.Hide
import Derived.BigCall
import Derived.BigGuard
import Derived.Test.YtclbiophgnkggaaGreatDoorWParse
import Derived.Test.YtclbiophgnkggaaGreatDoorWCutM
import Derived.Test.YtclbiophgnkggaaGreatDoorWCut
import Derived.Test.YtclbiophgnkggaaGreatDoorWHalf
import Derived.Test.YtclbiophgnkggaaGreatDoorWInv

namespace Go.Proofs.YtclbiophgnkggaaGreatDoor
open Go Go.Shelf Go.RowKit Go.Sort Go.Lib
def lays317_ren : Go.Shelf.Ren := ⟨fun | 317 => 120 | n => n, fun | 3 => 3 | 46 => 147 | n => n, fun | n => n⟩
theorem lays317 : Go.Proofs.Lays.n317 Tryz.prog lays317_ren := {
  mixed := by kernel_rfl
  f317 := Tryz.func120.trans (congrArg some (by kernel_rfl))
  t3 := Tryz.underlying3
  a3 := Tryz.isAgg3
  z3 := Tryz.sizeOf3
  v3 := Tryz.zeroValue3
  t46 := Tryz.underlying147
  a46 := Tryz.isAgg147
  z46 := Tryz.sizeOf147
  v46 := Tryz.zeroValue147 }
def lays318_ren : Go.Shelf.Ren := ⟨fun | 318 => 121 | n => n, fun | 3 => 3 | 4 => 4 | n => n, fun | n => n⟩
theorem lays318 : Go.Proofs.Lays.n318 Tryz.prog lays318_ren := {
  mixed := by kernel_rfl
  f318 := Tryz.func121.trans (congrArg some (by kernel_rfl))
  t3 := Tryz.underlying3
  a3 := Tryz.isAgg3
  z3 := Tryz.sizeOf3
  v3 := Tryz.zeroValue3
  t4 := Tryz.underlying4
  a4 := Tryz.isAgg4
  z4 := Tryz.sizeOf4
  v4 := Tryz.zeroValue4 }
def lays283_ren : Go.Shelf.Ren := ⟨fun | 283 => 113 | n => n, fun | 3 => 3 | 9 => 9 | 4 => 4 | n => n, fun | n => n⟩
theorem lays283 : Go.Proofs.Lays.n283 Tryz.prog lays283_ren := {
  mixed := by kernel_rfl
  f283 := Tryz.func113.trans (congrArg some (by kernel_rfl))
  t3 := Tryz.underlying3
  a3 := Tryz.isAgg3
  z3 := Tryz.sizeOf3
  v3 := Tryz.zeroValue3
  t4 := Tryz.underlying4
  a4 := Tryz.isAgg4
  z4 := Tryz.sizeOf4
  v4 := Tryz.zeroValue4
  t9 := Tryz.underlying9
  a9 := Tryz.isAgg9
  z9 := Tryz.sizeOf9
  v9 := Tryz.zeroValue9 }
def laysM284_ren : Go.Shelf.Ren := ⟨fun | 284 => 114 | 129 => 119 | 317 => 120 | 318 => 121 | n => n, fun | 53 => 35 | 3 => 3 | 212 => 167 | 0 => 0 | 4 => 4 | 46 => 147 | 5 => 5 | 9 => 9 | n => n, fun | 17 => 2 | n => n⟩
theorem laysM284 : Go.Proofs.LaysM.n284 Tryz.prog laysM284_ren := {
  mixed := by kernel_rfl
  f129 := Tryz.func119.trans (congrArg some (by kernel_rfl))
  f284 := Tryz.func114.trans (congrArg some (by kernel_rfl))
  f317 := Tryz.func120.trans (congrArg some (by kernel_rfl))
  f318 := Tryz.func121.trans (congrArg some (by kernel_rfl))
  t0 := Tryz.underlying0
  a0 := Tryz.isAgg0
  z0 := Tryz.sizeOf0
  v0 := Tryz.zeroValue0
  t3 := Tryz.underlying3
  a3 := Tryz.isAgg3
  z3 := Tryz.sizeOf3
  v3 := Tryz.zeroValue3
  t4 := Tryz.underlying4
  a4 := Tryz.isAgg4
  z4 := Tryz.sizeOf4
  v4 := Tryz.zeroValue4
  t5 := Tryz.underlying5
  a5 := Tryz.isAgg5
  z5 := Tryz.sizeOf5
  v5 := Tryz.zeroValue5
  t9 := Tryz.underlying9
  a9 := Tryz.isAgg9
  z9 := Tryz.sizeOf9
  v9 := Tryz.zeroValue9
  t46 := Tryz.underlying147
  a46 := Tryz.isAgg147
  z46 := Tryz.sizeOf147
  v46 := Tryz.zeroValue147
  t53 := Tryz.underlying35
  a53 := Tryz.isAgg35
  z53 := Tryz.sizeOf35
  v53 := Tryz.zeroValue35
  t212 := Tryz.underlying167
  a212 := Tryz.isAgg167
  z212 := Tryz.sizeOf167
  v212 := Tryz.zeroValue167
  g17 := by kernel_rfl
  i0 := by kernel_rfl
  i3 := by kernel_rfl
  i4 := by kernel_rfl
  i5 := by kernel_rfl
  i9 := by kernel_rfl
  i46 := by kernel_rfl
  i53 := by kernel_rfl
  i212 := by kernel_rfl
  m17 := by kernel_rfl }
def lays285_ren : Go.Shelf.Ren := ⟨fun | 285 => 115 | n => n, fun | 37 => 22 | 53 => 35 | 3 => 3 | 4 => 4 | 51 => 168 | 9 => 9 | 5 => 5 | 0 => 0 | n => n, fun | n => n⟩
theorem lays285 : Go.Proofs.Lays.n285 Tryz.prog lays285_ren := {
  mixed := by kernel_rfl
  f285 := Tryz.func115.trans (congrArg some (by kernel_rfl))
  t0 := Tryz.underlying0
  a0 := Tryz.isAgg0
  z0 := Tryz.sizeOf0
  v0 := Tryz.zeroValue0
  t3 := Tryz.underlying3
  a3 := Tryz.isAgg3
  z3 := Tryz.sizeOf3
  v3 := Tryz.zeroValue3
  t4 := Tryz.underlying4
  a4 := Tryz.isAgg4
  z4 := Tryz.sizeOf4
  v4 := Tryz.zeroValue4
  t5 := Tryz.underlying5
  a5 := Tryz.isAgg5
  z5 := Tryz.sizeOf5
  v5 := Tryz.zeroValue5
  t9 := Tryz.underlying9
  a9 := Tryz.isAgg9
  z9 := Tryz.sizeOf9
  v9 := Tryz.zeroValue9
  t37 := Tryz.underlying22
  a37 := Tryz.isAgg22
  z37 := Tryz.sizeOf22
  v37 := Tryz.zeroValue22
  t51 := Tryz.underlying168
  a51 := Tryz.isAgg168
  z51 := Tryz.sizeOf168
  v51 := Tryz.zeroValue168
  t53 := Tryz.underlying35
  a53 := Tryz.isAgg35
  z53 := Tryz.sizeOf35
  v53 := Tryz.zeroValue35 }

theorem small_any (i : Nat) (h : i < 100) (w : World) :
    Calls Tryz.prog 113 #[.int .i64 i] w fun e w' => e = .returned (.string ⟨(Lib.decDigits i).toArray⟩) ∧ w' = w := Any.internal_strconv_small lays283 i h w
theorem numDigits_any (u : Nat) (h1 : 1 ≤ u) (h2 : u < 18446744073709551616) (w : World) (htab : Lib.TabIs Tryz.prog w "internal/strconv.uint64pow10" .u64 Lib.pow10Tab) :
    Calls Tryz.prog 114 #[.int .u64 u] w fun e w' => e = .returned (.int .i64 (Lib.nDigits u)) ∧ w' = w := Any.internal_strconv_numDigits laysM284 u h1 h2 w htab
theorem formatBase10_any (blk off cap : Nat) (u : Nat) (d : Array UInt8) (w : World) (hH : Holds (fun (b : UInt8) => Value.int .u8 (b.toNat : Int)) w blk off d) (hu : u < 10 ^ d.size) (hu64 : u < 18446744073709551616) (hsz : d.size < 4611686018427387904) :
    Calls Tryz.prog 115 #[.slice (some ⟨blk, off, none⟩) d.size cap, .int .u64 u] w fun e w' =>
      e = .returned (.tuple #[]) ∧ ∃ (n v' : Nat) (dk : Array UInt8), w' = (putRow (fun (b : UInt8) => Value.int .u8 (b.toNat : Int)) w blk off dk).drewN n ∧ FmtInv d.size u 0 v' dk := Any.internal_strconv_formatBase10 lays285 blk off cap u d w hH hu hu64 hsz

end Go.Proofs.YtclbiophgnkggaaGreatDoor

namespace Go.Proofs.YtclbiophgnkggaaGreatDoor
open Go Go.RowKit Go.Sort Go.Lib

set_option maxHeartbeats 2000000 in
set_option maxRecDepth 100000 in
theorem fmtI_any (u : Nat) (hu64 : u < 18446744073709551616) (w : World) (htab : Lib.TabIs Tryz.prog w "internal/strconv.uint64pow10" .u64 Lib.pow10Tab) :
    Calls Tryz.prog 104 #[.int .u64 (u : Int), .int .i64 10] w fun e w' => e = .returned (.string ⟨(Lib.decDigits u).toArray⟩) ∧ Below w.heap.size w w' := by
  by_cases hs : u < 100
  · go_enter Tryz.func104, Tryz.ntmps104
    go_wp2_with (go_at_call 113; refine (small_any u hs _).mono ?_; rintro e w' ⟨rfl, rfl⟩)
    go_ret
    exact ⟨rfl, Below.refl _ _⟩
  · have hu1 : 1 ≤ u := by omega
    have hnd20 : Lib.nDigits u ≤ 20 := by have := Lib.numDigits_eq u hu1 hu64; split at this <;> omega
    have hal : Tryz.prog.arrayLen 159 = 24 := by simp [Program.arrayLen, Tryz.underlying159]
    have hsl : ∀ W, (Instr.sliceAt 159 (.pointer (some ⟨w.heap.size, 0, none⟩)) none (some (.int .i64 (Lib.nDigits u : Int))) none).run Tryz.prog W = .ok (.slice (some ⟨w.heap.size, 0, none⟩) (Lib.nDigits u) 24) W := fun W => by
      rw [run_sliceAt_array_h W 159 ⟨w.heap.size, 0, none⟩ (by simp [Program.arrayLen, Program.elem, Tryz.underlying159]) .i64 (Lib.nDigits u : Int) (by omega) (by rw [hal]; omega)]
      go_simp
    have hH0 := Lib.holds_zero0 w 159 (Lib.nDigits u) (by omega)
    have hfmt := formatBase10_any w.heap.size 0 24 u (Array.replicate (Lib.nDigits u) 0) (w.alloc (.cells Lib.zeros24 159)) hH0 (by rw [Array.size_replicate]; exact Lib.lt_pow_nDigits u) hu64 (by rw [Array.size_replicate]; omega)
    rw [Array.size_replicate] at hfmt
    have HH0 := Lib.hid hH0
    have iu : (100 : Int) ≤ (u : Int) := by omega
    clear hH0 hal
    go_enter Tryz.func104, Tryz.ntmps104
    go_wp2_with (go_at_call 114; refine (numDigits_any u hu1 hu64 _ (Lib.tabIs_alloc htab _)).mono ?_; rintro e w' ⟨rfl, rfl⟩)
    go_at_call 115
    refine hfmt.mono ?_
    rintro e w' ⟨rfl, k, v', dk, rfl, hF⟩
    have hcv : (convert 22 9 (.slice (some ⟨w.heap.size, 0, none⟩) (Lib.nDigits u) 24)).run Tryz.prog ((putRow (fun (b : UInt8) => Value.int .u8 (b.toNat : Int)) (w.alloc (.cells Lib.zeros24 159)) w.heap.size 0 dk).drewN k) = .ok (.string ⟨(Lib.decDigits u).toArray⟩) ((putRow (fun (b : UInt8) => Value.int .u8 (b.toNat : Int)) (w.alloc (.cells Lib.zeros24 159)) w.heap.size 0 dk).drewN k) := by
      have h := run_convert_bytes_back (P := Tryz.prog) ((putRow (fun (b : UInt8) => Value.int .u8 (b.toNat : Int)) (w.alloc (.cells Lib.zeros24 159)) w.heap.size 0 dk).drewN k) 22 9 5 ⟨w.heap.size, 0, none⟩ 24 (Lib.decDigits u) Tryz.underlying22 Tryz.underlying5 Tryz.underlying9 (fun j hj => by
        rw [Lib.row_is_numeral hF j hj, Lib.add_plain, World.cell?_drewN]
        exact cell?_putRow (fun (b : UInt8) => Value.int .u8 (b.toNat : Int)) _ w.heap.size 0 _ dk HH0.out (by rw [hF.size, Array.size_replicate]) j (by rw [hF.size]; rw [Lib.decDigits_length] at hj; exact hj))
      rw [Lib.decDigits_length] at h
      exact h
    obtain ⟨os, eo⟩ := Lib.fin_at w (.cells Lib.zeros24 159) dk k 0
    have hnx2 : Below w.heap.size w ((putRow (fun (b : UInt8) => Value.int .u8 (b.toNat : Int)) (w.alloc (.cells Lib.zeros24 159)) w.heap.size 0 dk).drewN k) := by rw [eo]; exact Lib.below_grow w.heap.size w (Nat.le_refl _) k os
    clear eo HH0 hfmt
    generalize (putRow (fun (b : UInt8) => Value.int .u8 (b.toNat : Int)) (w.alloc (.cells Lib.zeros24 159)) w.heap.size 0 dk).drewN k = W2 at hcv hnx2 ⊢
    go_wp2
    go_ret
    exact ⟨rfl, hnx2⟩

set_option maxHeartbeats 1000000 in
theorem fmt_any (u : Nat) (hu64 : u < 18446744073709551616) (w : World) (htab : Lib.TabIs Tryz.prog w "internal/strconv.uint64pow10" .u64 Lib.pow10Tab) :
    Calls Tryz.prog 88 #[.int .u64 (u : Int), .int .i64 10] w fun e w' => e = .returned (.string ⟨(Lib.decDigits u).toArray⟩) ∧ Below w.heap.size w w' := by
  go_enter Tryz.func88, Tryz.ntmps88
  go_wp2_with (go_at_call 104; refine (fmtI_any u hu64 _ htab).mono ?_; rintro e w' ⟨rfl, hB⟩)
  go_ret
  exact ⟨rfl, hB⟩

end Go.Proofs.YtclbiophgnkggaaGreatDoor

namespace Go.Proofs.YtclbiophgnkggaaGreatDoor
open Go Go.RowKit
open Wd
namespace Wd
open Go.Lib (decDigits nDigits dg)
theorem pars_append : ∀ (l r : List Nat) (a : Nat), pars (l ++ r) a = (pars l a).bind (pars r)
  | [], r, a => by simp [pars]
  | c :: l, r, a => by
    rw [List.cons_append]
    simp only [pars]
    split
    · rfl
    · split
      · exact pars_append l r _
      · rfl
/-- The bytes of a numeral as numbers. -/
def nums (u : Nat) : List Nat := (decDigits u).map UInt8.toNat
theorem dig_toNat (d : Nat) (h : d < 10) : (UInt8.ofNat (48 + d)).toNat = 48 + d := by
  rw [UInt8.toNat_ofNat']; omega
theorem nums_small (u : Nat) (h : u < 10) : nums u = [48 + u] := by
  unfold nums; rw [Lib.decDigits_one h, List.map_cons, List.map_nil, dig_toNat u h]
theorem nums_big (u : Nat) (h : ¬ u < 10) : nums u = nums (u / 10) ++ [48 + u % 10] := by
  unfold nums; rw [decDigits_big h, List.map_append, List.map_cons, List.map_nil, dig_toNat _ (by omega)]
theorem nums_head (u : Nat) : ∃ c r, nums u = c :: r ∧ (c = 48 → u = 0 ∧ r = []) := by
  induction u using Nat.strongRecOn with
  | ind u ih =>
    by_cases h : u < 10
    · exact ⟨48 + u, [], nums_small u h, fun e => ⟨by omega, rfl⟩⟩
    · obtain ⟨c, r, e, hz⟩ := ih (u / 10) (by omega)
      refine ⟨c, r ++ [48 + u % 10], by rw [nums_big u h, e]; rfl, fun ec => ?_⟩
      have := (hz ec).1
      omega
theorem pars_nums (u : Nat) (hu : u < 2 ^ 256) : pars (nums u) 0 = some u := by
  induction u using Nat.strongRecOn with
  | ind u ih =>
    by_cases h : u < 10
    · rw [nums_small u h]
      simp only [pars]
      rw [if_neg (by omega), if_pos (by omega)]
      congr 1; omega
    · rw [nums_big u h, pars_append, ih (u / 10) (by omega) (by omega)]
      simp only [Option.bind_some, pars]
      rw [if_neg (by omega), if_pos (by omega)]
      congr 1; omega
theorem parse_nums (u : Nat) (hu : u < 2 ^ 256) : parse (nums u) = some u := by
  unfold parse
  obtain ⟨c, r, e, hz⟩ := nums_head u
  rw [if_neg, pars_nums u hu]
  rw [e]
  rintro (h | ⟨h1, h2⟩)
  · simp at h
  · rw [List.getD_cons_zero] at h1
    rw [(hz h1).2] at h2
    simp at h2
/-- What Parse reads is the numeral of what it answers. -/
theorem pars_back : ∀ (l : List Nat) (a m : Nat), pars l a = some m → (0 < a ∨ l.getD 0 0 ≠ 48) → l ≠ [] → m < 2 ^ 256 ∧ nums m = (if a = 0 then [] else nums a) ++ l
  | [], _, _, _, _, h => absurd rfl h
  | c :: r, a, m, h, ha, _ => by
    simp only [pars] at h
    by_cases h1 : c < 48 ∨ 57 < c
    · rw [if_pos h1] at h; simp at h
    rw [if_neg h1] at h
    by_cases h2 : 10 * a + (c - 48) < 2 ^ 256
    · rw [if_pos h2] at h
      have hp : 0 < 10 * a + (c - 48) := by
        rcases ha with ha | ha
        · omega
        · simp at ha; omega
      have e0 : nums (10 * a + (c - 48)) = (if a = 0 then [] else nums a) ++ [c] := by
        by_cases hz : a = 0
        · subst hz
          rw [if_pos rfl, List.nil_append, nums_small _ (by omega)]
          congr 1; omega
        · rw [if_neg hz, nums_big _ (by omega), show (10 * a + (c - 48)) / 10 = a by omega, show 48 + (10 * a + (c - 48)) % 10 = c by omega]
      cases r with
      | nil =>
        simp only [pars, Option.some.injEq] at h
        subst h
        exact ⟨h2, e0⟩
      | cons d r =>
        obtain ⟨g1, g2⟩ := pars_back (d :: r) (10 * a + (c - 48)) m h (Or.inl hp) (by simp)
        refine ⟨g1, ?_⟩
        rw [g2, if_neg (by omega), e0, List.append_assoc]
        rfl
    · rw [if_neg h2] at h; simp at h
theorem parse_back (l : List Nat) (m : Nat) (h : parse l = some m) : m < 2 ^ 256 ∧ nums m = l := by
  unfold parse at h
  by_cases h0 : l = [] ∨ (l.getD 0 0 = 48 ∧ 1 < l.length)
  · rw [if_pos h0] at h; simp at h
  rw [if_neg h0] at h
  by_cases h1 : l.getD 0 0 = 48
  · have h2 : ¬ 1 < l.length := fun h3 => h0 (Or.inr ⟨h1, h3⟩)
    match l, h0, h1, h2, h with
    | [], h0, _, _, _ => exact absurd (Or.inl rfl) h0
    | [c], _, h1, _, h =>
      rw [List.getD_cons_zero] at h1
      subst h1
      simp [pars] at h
      subst h
      exact ⟨by decide, by rw [nums_small 0 (by decide)]⟩
    | _ :: _ :: _, _, _, h2, _ => simp at h2
  · obtain ⟨g1, g2⟩ := pars_back l 0 m h (Or.inr h1) (fun e => h0 (Or.inl e))
    exact ⟨g1, by rw [g2]; rfl⟩

end Wd
end Go.Proofs.YtclbiophgnkggaaGreatDoor

namespace Go.Proofs.YtclbiophgnkggaaGreatDoor
open Go Go.RowKit
open Wd
open Go.Lib (decDigits nDigits)

theorem gPow : Tryz.prog.globalNamed "internal/strconv.uint64pow10" = some 2 := by kernel_rfl
/-- The table of powers. -/
def P10 (w : World) : Prop := Lib.TabIs Tryz.prog w "internal/strconv.uint64pow10" .u64 Lib.pow10Tab
theorem P10.below {w w' : World} (h : P10 w) (hb : Below w.heap.size w w') : P10 w' := by
  unfold P10 Lib.TabIs World.var? at *
  rw [gPow] at *
  simp only [Option.bind_some] at h ⊢
  have hlt : 2 < w.heap.size := by
    rcases Nat.lt_or_ge 2 w.heap.size with h' | h'
    · exact h'
    · rw [Array.getElem?_eq_none h'] at h; simp at h
  rw [hb.block _ hlt]
  exact h

theorem join3 (a b c : List UInt8) : (⟨a.toArray⟩ : ByteArray) ++ (⟨b.toArray⟩ : ByteArray) ++ (⟨c.toArray⟩ : ByteArray) = ⟨(a ++ (b ++ c)).toArray⟩ := by
  apply ByteArray.ext
  simp
theorem nought_cut (n : Nat) (h : n ≤ 19) : (⟨#[48, 48, 48, 48, 48, 48, 48, 48, 48, 48, 48, 48, 48, 48, 48, 48, 48, 48, 48]⟩ : ByteArray).extract n 19 = ⟨(List.replicate (19 - n) (48 : UInt8)).toArray⟩ := by
  have : ∀ k : Fin 20, (⟨#[48, 48, 48, 48, 48, 48, 48, 48, 48, 48, 48, 48, 48, 48, 48, 48, 48, 48, 48]⟩ : ByteArray).extract k.val 19 = ⟨(List.replicate (19 - k.val) (48 : UInt8)).toArray⟩ := by decide
  exact this ⟨n, by omega⟩

theorem slice_noughts (W : World) (n : Nat) (h : n ≤ 19) : (Instr.slice 9 (.string ⟨#[48, 48, 48, 48, 48, 48, 48, 48, 48, 48, 48, 48, 48, 48, 48, 48, 48, 48, 48]⟩) (some (.int .i64 (n : Int))) none none).run Tryz.prog W = .ok (.string ⟨(List.replicate (19 - n) (48 : UInt8)).toArray⟩) W := by
  rw [run_slice_string_l W 9 _ Tryz.underlying9 .i64 (n : Int) (by omega) (by show (n : Int) ≤ 19; omega), ← nought_cut n h]
  rfl

set_option maxRecDepth 100000 in
set_option maxHeartbeats 2000000 in
theorem text_step (a : Nat) (ha : a < 2 ^ 256) (ih : ¬ a / 10000000000000000000 = 0 → ∀ w, P10 w → Calls Tryz.prog 61 #[.agg (vQ (dgs (a / 10000000000000000000) 4)).toArray] w fun e w' => e = .returned (.string ⟨(decDigits (a / 10000000000000000000)).toArray⟩) ∧ Below w.heap.size w w') (w : World) (hp : P10 w) :
    Calls Tryz.prog 61 #[.agg (vQ (dgs a 4)).toArray] w fun e w' => e = .returned (.string ⟨(decDigits a).toArray⟩) ∧ Below w.heap.size w w' := by
  have HC : Hid (∀ w, _) := cutDigits_any a ha
  have hlo : a % 10000000000000000000 < 18446744073709551616 := Nat.lt_of_lt_of_le (Nat.mod_lt _ (by decide)) (by decide)
  have HF : Hid (∀ w, P10 w → Calls Tryz.prog 88 #[.int .u64 ((a % 10000000000000000000 : Nat) : Int), .int .i64 10] w fun e w' => e = .returned (.string ⟨(Lib.decDigits (a % 10000000000000000000)).toArray⟩) ∧ Below w.heap.size w w') := fun w h => fmt_any _ hlo w h
  have hq256 : a / 10000000000000000000 < 2 ^ 256 := Nat.lt_of_le_of_lt (Nat.div_le_self _ _) ha
  have HZ : Hid (∀ w, _) := isZero_any (a / 10000000000000000000) hq256
  have HI : Hid (¬ a / 10000000000000000000 = 0 → ∀ w, P10 w → Calls Tryz.prog 61 #[.agg (vQ (dgs (a / 10000000000000000000) 4)).toArray] w fun e w' => e = .returned (.string ⟨(decDigits (a / 10000000000000000000)).toArray⟩) ∧ Below w.heap.size w w') := ih
  have HP : Hid (P10 w) := hp
  have HSM : Hid (a / 10000000000000000000 = 0 → decDigits (a % 10000000000000000000) = decDigits a) := fun h => by rw [show a % 10000000000000000000 = a by omega]
  have HBG : Hid (¬ a / 10000000000000000000 = 0 → decDigits a = decDigits (a / 10000000000000000000) ++ (List.replicate (19 - (decDigits (a % 10000000000000000000)).length) 48 ++ decDigits (a % 10000000000000000000))) := fun h => text_cut a (by omega)
  have hql : (decDigits (a / 10000000000000000000)).length ≤ 78 := by
    rw [Lib.decDigits_length]
    exact nDigits_le 78 _ (by decide) (Nat.lt_of_lt_of_le hq256 (by decide))
  have hdl : (decDigits (a % 10000000000000000000)).length ≤ 19 := by
    rw [Lib.decDigits_length]
    exact nDigits_le 19 _ (by decide) (Nat.lt_of_lt_of_le (Nat.mod_lt _ (by decide)) (by decide))
  obtain ⟨dt, hdt⟩ : ∃ dt, dt = decDigits (a % 10000000000000000000) := ⟨_, rfl⟩
  obtain ⟨dq, hdq⟩ : ∃ dq, dq = decDigits (a / 10000000000000000000) := ⟨_, rfl⟩
  obtain ⟨da, hda⟩ : ∃ da, da = decDigits a := ⟨_, rfl⟩
  rw [← hdt] at HF HSM HBG hdl
  rw [← hdq] at HI HBG hql
  rw [← hda] at HSM HBG ⊢
  obtain ⟨lo, hlo'⟩ : ∃ lo, lo = a % 10000000000000000000 := ⟨_, rfl⟩
  obtain ⟨q, hq⟩ : ∃ q, q = a / 10000000000000000000 := ⟨_, rfl⟩
  rw [← hlo', ← hq] at HC
  rw [← hlo'] at HF
  rw [← hq] at HZ HI HSM HBG
  obtain ⟨ca, hca⟩ : ∃ ca, ca = vQ (dgs a 4) := ⟨_, rfl⟩
  obtain ⟨cq, hcq⟩ : ∃ cq, cq = vQ (dgs q 4) := ⟨_, rfl⟩
  rw [← hca, ← hcq] at HC
  rw [← hcq] at HZ HI
  rw [← hca]
  have la : ca.length = 4 := by rw [hca, vQ_length, dgs_length]
  have lq : cq.length = 4 := by rw [hcq, vQ_length, dgs_length]
  have ia : (Tryz.prog.info? 37).map (·.size) = some ca.length := by rw [info_w4, la]
  have iq : (Tryz.prog.info? 37).map (·.size) = some cq.length := by rw [info_w4, lq]
  have iq' : (Tryz.prog.info? 37).map (·.size) = some cq.toArray.size := by rw [info_w4]; simp [lq]
  have oq := all_oneCell_toArray (show ∀ v ∈ cq, v.oneCell' = true by rw [hcq]; exact vQ_one _)
  have HLQ : Hid (cq.length = 4) := lq
  clear hca hcq hq hlo' hda hdq hdt hq256 hlo ha hp la lq ih
  have r0 : Row (w.alloc (Obj.cells ca.toArray 37)) w.heap.size ca 37 := Row.new w ca _
  have hb0 : Below w.heap.size w (w.alloc (Obj.cells ca.toArray 37)) := (Below.refl _ _).alloc (Nat.le_refl _) _
  go_enter Tryz.func61, Tryz.ntmps61
  go_wp2_with (refine wpList_load_mid rfl 37 (.tmp 1) rfl w.heap.size 0 rfl ca _ r0.all Tryz.underlying37 rfl ia ?_; simp only [Act.put, List.setIfInBounds_toArray, List.set_cons_zero, List.set_cons_succ])
  refine (HC.out _).mono ?_
  rintro e W1 ⟨rfl, hB1⟩
  have hb1 := hb0.trans (hB1.mono hb0.size)
  clear hB1 hb0 r0
  have n3 : Row (W1.alloc (Obj.cells #[Value.int IntKind.u64 0, Value.int IntKind.u64 0, Value.int IntKind.u64 0, Value.int IntKind.u64 0] 37)) W1.heap.size (vQ (List.replicate 4 0)) 37 := Row.new' rfl rfl
  have T3 := n3.there 0 cq.toArray.size (by simp [HLQ.out, vQ_length])
  have r3 := n3.over (vs := cq) (by rw [HLQ.out]; rfl)
  have hb2 : Below w.heap.size w ((W1.alloc (Obj.cells #[Value.int IntKind.u64 0, Value.int IntKind.u64 0, Value.int IntKind.u64 0, Value.int IntKind.u64 0] 37)).setCells W1.heap.size 0 cq) := below_setCells (hb1.alloc hb1.size _) hb1.size _
  clear n3 hb1
  go_wp2_with (refine wpList_store_mid rfl 37 (.tmp 3) (.tmp 9) rfl W1.heap.size 0 cq.toArray rfl rfl T3 iq' oq ?_; simp only [Act.put]; clear T3; (change wpList _ _ _ _ _ ((W1.alloc (Obj.cells #[Value.int IntKind.u64 0, Value.int IntKind.u64 0, Value.int IntKind.u64 0, Value.int IntKind.u64 0] 37)).setCells W1.heap.size 0 cq)); (generalize ((W1.alloc (Obj.cells #[Value.int IntKind.u64 0, Value.int IntKind.u64 0, Value.int IntKind.u64 0, Value.int IntKind.u64 0] 37)).setCells W1.heap.size 0 cq) = W2 at *))
  generalize W1.heap.size = N3 at *
  refine (HF.out W2 (HP.out.below hb2)).mono ?_
  rintro e W3 ⟨rfl, hB3⟩
  have hb3 := hb2.trans (hB3.mono hb2.size)
  replace r3 := Row.below r3 hB3 (Row.lt r3)
  clear hB3 hb2
  go_wp2_with (refine wpList_load_mid rfl 37 (.tmp 3) rfl N3 0 rfl cq _ r3.all Tryz.underlying37 rfl iq ?_; simp only [Act.put, List.setIfInBounds_toArray, List.set_cons_zero, List.set_cons_succ])
  refine (HZ.out W3).mono ?_
  rintro e W4 ⟨rfl, hB4⟩
  have hb4 := hb3.trans (hB4.mono hb3.size)
  replace r3 := Row.below r3 hB4 (Row.lt r3)
  clear hB4 hb3
  by_cases hz : q = 0
  · have hd : decide (q = 0) = true := decide_eq_true hz
    rw [hd]
    have HE : Hid (dt = da) := HSM.out hz
    clear hz hd
    go_wp2
    go_ret
    exact ⟨by rw [← HE.out]; rfl, hb4⟩
  · have hd : decide (q = 0) = false := decide_eq_false hz
    rw [hd]
    have HE : Hid (da = dq ++ (List.replicate (19 - dt.length) 48 ++ dt)) := HBG.out hz
    have HI2 : Hid _ := HI.out hz
    have HI2 : Hid _ := HI.out hz
    clear hz hd
    go_wp2
    refine wp_region_inv (by kernel_rfl) (fun listed a W => ∃ (b0 b1 b2 b3 b4 b5 b6 b7 b8 : Bool) (x2 x16 x17 x18 x19 x20 x21 x22 x23 : Value), listed = #[b0, b1, b2, b3, b4, b5, b6, b7, b8] ∧ a = { tmps := #[.agg ca.toArray, .pointer (some ⟨w.heap.size, 0, none⟩), x2, .pointer (some ⟨N3, 0, none⟩), .int .u64 (lo : Int), .string ⟨dt.toArray⟩, .tuple #[.agg cq.toArray, .int .u64 (lo : Int)], .agg ca.toArray, .tuple #[.agg cq.toArray, .int .u64 (lo : Int)], .agg cq.toArray, .int .u64 (lo : Int), .int .u64 (lo : Int), .string ⟨dt.toArray⟩, .agg cq.toArray, .bool false, undef, x16, x17, x18, x19, x20, x21, x22, x23], defers := [] } ∧ Below w.heap.size w W ∧ Row W N3 cq 37 ∧ (b0 = true → x16 = .agg cq.toArray) ∧ (b1 = true → x17 = .string ⟨dq.toArray⟩) ∧ (b2 = true → x18 = .string ⟨dt.toArray⟩) ∧ (b3 = true → x19 = .int .i64 (dt.length : Int)) ∧ (b4 = true → x20 = .string ⟨(List.replicate (19 - dt.length) (48 : UInt8)).toArray⟩) ∧ (b5 = true → x21 = .string ⟨(dq ++ List.replicate (19 - dt.length) (48 : UInt8)).toArray⟩) ∧ (b6 = true → x22 = .string ⟨dt.toArray⟩) ∧ (b7 = true → x23 = .string ⟨(dq ++ List.replicate (19 - dt.length) (48 : UInt8) ++ dt).toArray⟩) ∧ (b8 = true → x2 = .string ⟨(dq ++ List.replicate (19 - dt.length) (48 : UInt8) ++ dt).toArray⟩)) ?_ ?_ ?_
    · exact ⟨false, false, false, false, false, false, false, false, false, .string ⟨#[]⟩, undef, undef, undef, undef, undef, undef, undef, undef, rfl, rfl, Below.drew hb4, Row.drew r3, (fun h => by cases h), (fun h => by cases h), (fun h => by cases h), (fun h => by cases h), (fun h => by cases h), (fun h => by cases h), (fun h => by cases h), (fun h => by cases h), (fun h => by cases h)⟩
    · clear hb4 r3 
      intro listed a W k hI hk
      obtain ⟨b0, b1, b2, b3, b4, b5, b6, b7, b8, x2, x16, x17, x18, x19, x20, x21, x22, x23, rfl, rfl, hb4, r3, f0, f1, f2, f3, f4, f5, f6, f7, f8⟩ := hI
      have hk2 := (List.mem_filter.1 hk).2
      have hk1 : k < 9 := List.mem_range.1 (List.mem_filter.1 hk).1
      clear hk
      rcases (show k = 0 ∨ k = 1 ∨ k = 2 ∨ k = 3 ∨ k = 4 ∨ k = 5 ∨ k = 6 ∨ k = 7 ∨ k = 8 by omega) with rfl | rfl | rfl | rfl | rfl | rfl | rfl | rfl | rfl
      · exact wpOp_plain rfl rfl (wp_load_mid 37 (.tmp 3) rfl N3 0 rfl cq _ r3.all Tryz.underlying37 rfl iq ⟨true, b1, b2, b3, b4, b5, b6, b7, b8, x2, .agg cq.toArray, x17, x18, x19, x20, x21, x22, x23, rfl, rfl, hb4, r3, fun _ => rfl, f1, f2, f3, f4, f5, f6, f7, f8⟩)
      · simp [Region.binds] at hk2
        obtain rfl := f0 (by simp [hk2])
        refine wpOp_plain rfl rfl (wp_fcall 61 #[.agg cq.toArray] (by go_simp) ((HI2.out W (HP.out.below hb4)).mono ?_))
        rintro e W2 ⟨rfl, hB2⟩
        exact ⟨_, rfl, b0, true, b2, b3, b4, b5, b6, b7, b8, x2, .agg cq.toArray, .string ⟨dq.toArray⟩, x18, x19, x20, x21, x22, x23, rfl, rfl, hb4.trans (hB2.mono hb4.size), Row.below r3 hB2 (Row.lt r3), fun _ => rfl, fun _ => rfl, f2, f3, f4, f5, f6, f7, f8⟩
      · skip
        exact wpOp_plain rfl rfl (wp_move (.tmp 5) rfl ⟨b0, b1, true, b3, b4, b5, b6, b7, b8, x2, x16, x17, .string ⟨dt.toArray⟩, x19, x20, x21, x22, x23, rfl, rfl, hb4, r3, f0, f1, fun _ => rfl, f3, f4, f5, f6, f7, f8⟩)
      · simp [Region.binds] at hk2
        obtain rfl := f2 (by simp [hk2])
        exact wpOp_plain rfl rfl (wp_pure (v := .int .i64 (dt.length : Int)) (by go_simp) ⟨b0, b1, b2, true, b4, b5, b6, b7, b8, x2, x16, x17, .string ⟨dt.toArray⟩, .int .i64 (dt.length : Int), x20, x21, x22, x23, rfl, rfl, hb4, r3, f0, f1, fun _ => rfl, fun _ => rfl, f4, f5, f6, f7, f8⟩)
      · simp [Region.binds] at hk2
        obtain rfl := f3 (by simp [hk2])
        exact wpOp_plain rfl rfl (wp_pure (v := .string ⟨(List.replicate (19 - dt.length) (48 : UInt8)).toArray⟩) (by have h := slice_noughts W dt.length hdl; go_simp) ⟨b0, b1, b2, b3, true, b5, b6, b7, b8, x2, x16, x17, x18, .int .i64 (dt.length : Int), .string ⟨(List.replicate (19 - dt.length) (48 : UInt8)).toArray⟩, x21, x22, x23, rfl, rfl, hb4, r3, f0, f1, f2, fun _ => rfl, fun _ => rfl, f5, f6, f7, f8⟩)
      · simp [Region.binds] at hk2
        obtain rfl := f1 (by simp [hk2])
        obtain rfl := f4 (by simp [hk2])
        exact wpOp_plain rfl rfl (wp_pure (v := .string ⟨(dq ++ List.replicate (19 - dt.length) (48 : UInt8)).toArray⟩) (by go_simp; rw [if_neg (by omega)]; exact congrArg (fun x => Result.ok (Next.value (Value.string x)) W) (by apply ByteArray.ext; simp [ByteArray.data_append])) ⟨b0, b1, b2, b3, b4, true, b6, b7, b8, x2, x16, .string ⟨dq.toArray⟩, x18, x19, .string ⟨(List.replicate (19 - dt.length) (48 : UInt8)).toArray⟩, .string ⟨(dq ++ List.replicate (19 - dt.length) (48 : UInt8)).toArray⟩, x22, x23, rfl, rfl, hb4, r3, f0, fun _ => rfl, f2, f3, fun _ => rfl, fun _ => rfl, f6, f7, f8⟩)
      · skip
        exact wpOp_plain rfl rfl (wp_move (.tmp 5) rfl ⟨b0, b1, b2, b3, b4, b5, true, b7, b8, x2, x16, x17, x18, x19, x20, x21, .string ⟨dt.toArray⟩, x23, rfl, rfl, hb4, r3, f0, f1, f2, f3, f4, f5, fun _ => rfl, f7, f8⟩)
      · simp [Region.binds] at hk2
        obtain rfl := f5 (by simp [hk2])
        obtain rfl := f6 (by simp [hk2])
        exact wpOp_plain rfl rfl (wp_pure (v := .string ⟨(dq ++ List.replicate (19 - dt.length) (48 : UInt8) ++ dt).toArray⟩) (by have h := run_string_add_lists (P := Tryz.prog) W (dq ++ List.replicate (19 - dt.length) (48 : UInt8)) dt (by rw [List.length_append, List.length_replicate]; omega) (by omega); go_simp) ⟨b0, b1, b2, b3, b4, b5, b6, true, b8, x2, x16, x17, x18, x19, x20, .string ⟨(dq ++ List.replicate (19 - dt.length) (48 : UInt8)).toArray⟩, .string ⟨dt.toArray⟩, .string ⟨(dq ++ List.replicate (19 - dt.length) (48 : UInt8) ++ dt).toArray⟩, rfl, rfl, hb4, r3, f0, f1, f2, f3, f4, fun _ => rfl, fun _ => rfl, fun _ => rfl, f8⟩)
      · simp [Region.binds] at hk2
        obtain rfl := f7 (by simp [hk2])
        exact wpOp_plain rfl rfl (wp_assign (.tmp 23) rfl ⟨b0, b1, b2, b3, b4, b5, b6, b7, true, .string ⟨(dq ++ List.replicate (19 - dt.length) (48 : UInt8) ++ dt).toArray⟩, x16, x17, x18, x19, x20, x21, x22, .string ⟨(dq ++ List.replicate (19 - dt.length) (48 : UInt8) ++ dt).toArray⟩, rfl, rfl, hb4, r3, f0, f1, f2, f3, f4, f5, f6, fun _ => rfl, fun _ => rfl⟩)
    · clear hb4 r3 
      intro listed a W hI hr
      obtain ⟨b0, b1, b2, b3, b4, b5, b6, b7, b8, x2, x16, x17, x18, x19, x20, x21, x22, x23, rfl, rfl, hb4, r3, f0, f1, f2, f3, f4, f5, f6, f7, f8⟩ := hI
      have hr2 := List.filter_eq_nil_iff.1 hr
      obtain rfl : b0 = true := by have := hr2 0 (List.mem_range.2 (by decide)); simpa [Region.binds] using this
      obtain rfl : b1 = true := by have := hr2 1 (List.mem_range.2 (by decide)); simpa [Region.binds] using this
      obtain rfl : b2 = true := by have := hr2 2 (List.mem_range.2 (by decide)); simpa [Region.binds] using this
      obtain rfl : b3 = true := by have := hr2 3 (List.mem_range.2 (by decide)); simpa [Region.binds] using this
      obtain rfl : b4 = true := by have := hr2 4 (List.mem_range.2 (by decide)); simpa [Region.binds] using this
      obtain rfl : b5 = true := by have := hr2 5 (List.mem_range.2 (by decide)); simpa [Region.binds] using this
      obtain rfl : b6 = true := by have := hr2 6 (List.mem_range.2 (by decide)); simpa [Region.binds] using this
      obtain rfl : b7 = true := by have := hr2 7 (List.mem_range.2 (by decide)); simpa [Region.binds] using this
      obtain rfl : b8 = true := by have := hr2 8 (List.mem_range.2 (by decide)); simpa [Region.binds] using this
      obtain rfl := f8 rfl
      clear hr hr2 f0 f1 f2 f3 f4 f5 f6 f7 f8
      go_wp2
      go_ret
      exact ⟨by rw [HE.out, List.append_assoc]; rfl, hb4⟩

theorem text_any (a : Nat) : a < 2 ^ 256 → ∀ w, P10 w → Calls Tryz.prog 61 #[.agg (vQ (dgs a 4)).toArray] w fun e w' => e = .returned (.string ⟨(decDigits a).toArray⟩) ∧ Below w.heap.size w w' := by
  induction a using Nat.strongRecOn with
  | ind a ih =>
    intro ha w hp
    exact text_step a ha (fun hq w hp => ih _ (by omega) (by omega) w hp) w hp

end Go.Proofs.YtclbiophgnkggaaGreatDoor
