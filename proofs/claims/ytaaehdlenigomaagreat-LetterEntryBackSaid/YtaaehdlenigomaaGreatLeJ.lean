/-
  entries of any values: the closures that take, where the reader has a fault afterwards.
-/
import Derived.Test.YtaaehdlenigomaaGreatLeI
import Derived.Test.YtaaehdlenigomaaGreatXShut
namespace Go.Proofs.YtaaehdlenigomaaGreat
open Go Go.RowKit
open Sha

/-- A reader with a fault, whatever it is. -/
def Sf (w : World) (P : Nat) : Prop := ∃ v a f, ¬ f = 0 ∧ Row w P [v, .int .i64 a, .int .i64 f] 93
theorem Sf.block {w w' : World} {P : Nat} (h : Sf w P) (k : w'.heap[P]? = w.heap[P]?) : Sf w' P := by
  obtain ⟨v, a, f, hf, r⟩ := h
  exact ⟨v, a, f, hf, k.trans r⟩

set_option maxRecDepth 100000 in
theorem x_entryFields_7 (k tm tk gs : Int) (sd rc : List (BitVec 8)) (am : List Nat) (v : Value) (P b : Nat) (w : World) (hne : P ≠ b) (hN : Calls Tryz.prog 39 #[.pointer (some ⟨P, 0, none⟩)] w fun e w' => e = .returned (.int .i64 0) ∧ Sf w' P ∧ Gro (fun g => g = P) w w') (hb : En w b k sd tm tk rc am gs v) : Calls Tryz.prog 38 #[.pointer (some ⟨P, 0, none⟩), .pointer (some ⟨b, 0, none⟩)] w fun e w' => e = .returned (.tuple #[]) ∧ Sf w' P ∧ En w' b k sd 0 tk rc am gs v ∧ Gq P b w w' := by
  have HN : Hid _ := hN
  have HL : Hid (En w b k sd tm tk rc am gs v) := hb
  have HE : Hid (P ≠ b) := hne
  clear hN hb hne
  go_enter Tryz.func38, Tryz.ntmps38
  go_wp2_with fail
  refine Calls.mono HN.out ?_
  rintro e W ⟨rfl, hs, hG⟩
  have hL : En W b k sd tm tk rc am gs v := ⟨hG.row HL.out.row (fun e => HE.out e.symm), HL.out.ls, HL.out.lt, HL.out.la⟩
  have g1 := hL.c_time
  have k1 := hL.row.thaw 21
  have HSF : Hid (Sf W P) := hs
  have HL2 : Hid (En W b k sd tm tk rc am gs v) := hL
  have HG : Hid (Gro (fun g => g = P) w W) := hG
  clear hG hs hL HN HL
  go_wp2_with fail
  go_end0
  refine ⟨rfl, HSF.out.block (Below.heap_setCell _ _ _ _ HE.out), HL2.out.time _, ?_⟩
  exact Gro.set (Gro.mono HG.out (fun g e => .inl e)) b 21 _ (.inr rfl)

set_option maxRecDepth 100000 in
theorem x_entryFields_11 (k tm tk gs : Int) (sd rc : List (BitVec 8)) (am : List Nat) (v : Value) (P b : Nat) (w : World) (hne : P ≠ b) (hN : Calls Tryz.prog 39 #[.pointer (some ⟨P, 0, none⟩)] w fun e w' => e = .returned (.int .i64 0) ∧ Sf w' P ∧ Gro (fun g => g = P) w w') (hb : En w b k sd tm tk rc am gs v) : Calls Tryz.prog 44 #[.pointer (some ⟨P, 0, none⟩), .pointer (some ⟨b, 0, none⟩)] w fun e w' => e = .returned (.tuple #[]) ∧ Sf w' P ∧ En w' b k sd tm 0 rc am gs v ∧ Gq P b w w' := by
  have HN : Hid _ := hN
  have HL : Hid (En w b k sd tm tk rc am gs v) := hb
  have HE : Hid (P ≠ b) := hne
  clear hN hb hne
  go_enter Tryz.func44, Tryz.ntmps44
  go_wp2_with fail
  refine Calls.mono HN.out ?_
  rintro e W ⟨rfl, hs, hG⟩
  have hL : En W b k sd tm tk rc am gs v := ⟨hG.row HL.out.row (fun e => HE.out e.symm), HL.out.ls, HL.out.lt, HL.out.la⟩
  have g1 := hL.c_token
  have k1 := hL.row.thaw 22
  have HSF : Hid (Sf W P) := hs
  have HL2 : Hid (En W b k sd tm tk rc am gs v) := hL
  have HG : Hid (Gro (fun g => g = P) w W) := hG
  clear hG hs hL HN HL
  go_wp2_with fail
  go_end0
  refine ⟨rfl, HSF.out.block (Below.heap_setCell _ _ _ _ HE.out), HL2.out.token _, ?_⟩
  exact Gro.set (Gro.mono HG.out (fun g e => .inl e)) b 22 _ (.inr rfl)

set_option maxRecDepth 100000 in
theorem x_entryFields_22 (k tm tk gs : Int) (sd rc : List (BitVec 8)) (am : List Nat) (v : Value) (P b : Nat) (w : World) (hne : P ≠ b) (hN : Calls Tryz.prog 39 #[.pointer (some ⟨P, 0, none⟩)] w fun e w' => e = .returned (.int .i64 0) ∧ Sf w' P ∧ Gro (fun g => g = P) w w') (hb : En w b k sd tm tk rc am gs v) : Calls Tryz.prog 57 #[.pointer (some ⟨P, 0, none⟩), .pointer (some ⟨b, 0, none⟩)] w fun e w' => e = .returned (.tuple #[]) ∧ Sf w' P ∧ En w' b k sd tm tk rc am 0 v ∧ Gq P b w w' := by
  have HN : Hid _ := hN
  have HL : Hid (En w b k sd tm tk rc am gs v) := hb
  have HE : Hid (P ≠ b) := hne
  clear hN hb hne
  go_enter Tryz.func57, Tryz.ntmps57
  go_wp2_with fail
  refine Calls.mono HN.out ?_
  rintro e W ⟨rfl, hs, hG⟩
  have hL : En W b k sd tm tk rc am gs v := ⟨hG.row HL.out.row (fun e => HE.out e.symm), HL.out.ls, HL.out.lt, HL.out.la⟩
  have g1 := hL.c_gas
  have k1 := hL.row.thaw 47
  have HSF : Hid (Sf W P) := hs
  have HL2 : Hid (En W b k sd tm tk rc am gs v) := hL
  have HG : Hid (Gro (fun g => g = P) w W) := hG
  clear hG hs hL HN HL
  go_wp2_with fail
  go_end0
  refine ⟨rfl, HSF.out.block (Below.heap_setCell _ _ _ _ HE.out), HL2.out.gas _, ?_⟩
  exact Gro.set (Gro.mono HG.out (fun g e => .inl e)) b 47 _ (.inr rfl)

set_option maxRecDepth 100000 in
theorem x_entryFields_26 (k tm tk gs : Int) (sd rc : List (BitVec 8)) (am : List Nat) (v : Value) (P b : Nat) (w : World) (hne : P ≠ b) (hN : Calls Tryz.prog 63 #[.pointer (some ⟨P, 0, none⟩), .int .i64 4096] w fun e w' => e = .returned (.slice none 0 0) ∧ Sf w' P ∧ Gro (fun g => g = P) w w') (hb : En w b k sd tm tk rc am gs v) : Calls Tryz.prog 62 #[.pointer (some ⟨P, 0, none⟩), .pointer (some ⟨b, 0, none⟩)] w fun e w' => e = .returned (.tuple #[]) ∧ Sf w' P ∧ En w' b k sd tm tk rc am gs (.slice none 0 0) ∧ Gq P b w w' := by
  have HN : Hid _ := hN
  have HL : Hid (En w b k sd tm tk rc am gs v) := hb
  have HE : Hid (P ≠ b) := hne
  clear hN hb hne
  go_enter Tryz.func62, Tryz.ntmps62
  go_wp2_with fail
  refine Calls.mono HN.out ?_
  rintro e W ⟨rfl, hs, hG⟩
  have hL : En W b k sd tm tk rc am gs v := ⟨hG.row HL.out.row (fun e => HE.out e.symm), HL.out.ls, HL.out.lt, HL.out.la⟩
  have g1 := hL.c_body
  have k1 := hL.row.thaw 48
  have HSF : Hid (Sf W P) := hs
  have HL2 : Hid (En W b k sd tm tk rc am gs v) := hL
  have HG : Hid (Gro (fun g => g = P) w W) := hG
  clear hG hs hL HN HL
  go_wp2_with fail
  go_end0
  refine ⟨rfl, HSF.out.block (Below.heap_setCell _ _ _ _ HE.out), HL2.out.body _, ?_⟩
  exact Gro.set (Gro.mono HG.out (fun g e => .inl e)) b 48 _ (.inr rfl)

set_option maxRecDepth 100000 in
theorem x_entryFields_3 (k tm tk gs : Int) (sd rc : List (BitVec 8)) (am : List Nat) (v : Value) (P b : Nat) (w : World) (hne : P ≠ b) (hN : Calls Tryz.prog 32 #[.pointer (some ⟨P, 0, none⟩)] w fun e w' => e = .returned (.agg (vB (List.replicate 20 0#8)).toArray) ∧ Sf w' P ∧ Gro (fun g => g = P) w w') (hb : En w b k sd tm tk rc am gs v) : Calls Tryz.prog 31 #[.pointer (some ⟨P, 0, none⟩), .pointer (some ⟨b, 0, none⟩)] w fun e w' => e = .returned (.tuple #[]) ∧ Sf w' P ∧ En w' b k (List.replicate 20 0#8) tm tk rc am gs v ∧ Gq P b w w' := by
  have HN : Hid _ := hN
  have HL : Hid (En w b k sd tm tk rc am gs v) := hb
  have HE : Hid (P ≠ b) := hne
  clear hN hb hne
  go_enter Tryz.func31, Tryz.ntmps31
  go_wp2_with fail
  refine Calls.mono HN.out ?_
  rintro e W ⟨rfl, hs, hG⟩
  have hL : En W b k sd tm tk rc am gs v := ⟨hG.row HL.out.row (fun e => HE.out e.symm), HL.out.ls, HL.out.lt, HL.out.la⟩
  have HTH : Hid (W.there b 1 (vB (List.replicate 20 0#8)).toArray.size) := Row.there hL.row 1 _ (by rw [ent_lenH hL.ls hL.lt hL.la]; decide)
  have HSF : Hid (Sf W P) := hs
  have HL2 : Hid (En W b k sd tm tk rc am gs v) := hL
  have HG : Hid (Gro (fun g => g = P) w W) := hG
  clear hG hs hL HN HL
  go_wp2_with (refine wpList_store_mid rfl 23 (.tmp 8) (.tmp 6) rfl b 1 (vB (List.replicate 20 0#8)).toArray rfl rfl HTH.out (by kernel_rfl) (by kernel_rfl) ?_; simp only [Act.put]; change wpList _ _ _ _ _ (World.setCells W b 1 (vB (List.replicate 20 0#8))))
  go_end0
  exact ⟨rfl, HSF.out.block (heap_sets _ _ _ _ _ HE.out), HL2.out.sender (List.replicate 20 0#8) rfl, Gq.sets HG.out⟩

set_option maxRecDepth 100000 in
theorem x_entryFields_14 (k tm tk gs : Int) (sd rc : List (BitVec 8)) (am : List Nat) (v : Value) (P b : Nat) (w : World) (hne : P ≠ b) (hN : Calls Tryz.prog 32 #[.pointer (some ⟨P, 0, none⟩)] w fun e w' => e = .returned (.agg (vB (List.replicate 20 0#8)).toArray) ∧ Sf w' P ∧ Gro (fun g => g = P) w w') (hb : En w b k sd tm tk rc am gs v) : Calls Tryz.prog 47 #[.pointer (some ⟨P, 0, none⟩), .pointer (some ⟨b, 0, none⟩)] w fun e w' => e = .returned (.tuple #[]) ∧ Sf w' P ∧ En w' b k sd tm tk (List.replicate 20 0#8) am gs v ∧ Gq P b w w' := by
  have HN : Hid _ := hN
  have HL : Hid (En w b k sd tm tk rc am gs v) := hb
  have HE : Hid (P ≠ b) := hne
  clear hN hb hne
  go_enter Tryz.func47, Tryz.ntmps47
  go_wp2_with fail
  refine Calls.mono HN.out ?_
  rintro e W ⟨rfl, hs, hG⟩
  have hL : En W b k sd tm tk rc am gs v := ⟨hG.row HL.out.row (fun e => HE.out e.symm), HL.out.ls, HL.out.lt, HL.out.la⟩
  have HTH : Hid (W.there b 23 (vB (List.replicate 20 0#8)).toArray.size) := Row.there hL.row 23 _ (by rw [ent_lenH hL.ls hL.lt hL.la]; decide)
  have HSF : Hid (Sf W P) := hs
  have HL2 : Hid (En W b k sd tm tk rc am gs v) := hL
  have HG : Hid (Gro (fun g => g = P) w W) := hG
  clear hG hs hL HN HL
  go_wp2_with (refine wpList_store_mid rfl 23 (.tmp 8) (.tmp 6) rfl b 23 (vB (List.replicate 20 0#8)).toArray rfl rfl HTH.out (by kernel_rfl) (by kernel_rfl) ?_; simp only [Act.put]; change wpList _ _ _ _ _ (World.setCells W b 23 (vB (List.replicate 20 0#8))))
  go_end0
  exact ⟨rfl, HSF.out.block (heap_sets _ _ _ _ _ HE.out), HL2.out.toward (List.replicate 20 0#8) rfl, Gq.sets HG.out⟩

set_option maxRecDepth 100000 in
theorem x_entryFields_18 (k tm tk gs : Int) (sd rc : List (BitVec 8)) (am : List Nat) (v : Value) (P b : Nat) (w : World) (hne : P ≠ b) (hN : Calls Tryz.prog 53 #[.pointer (some ⟨P, 0, none⟩)] w fun e w' => e = .returned (.agg (vQ (List.replicate 4 0)).toArray) ∧ Sf w' P ∧ Gro (fun g => g = P) w w') (hb : En w b k sd tm tk rc am gs v) : Calls Tryz.prog 52 #[.pointer (some ⟨P, 0, none⟩), .pointer (some ⟨b, 0, none⟩)] w fun e w' => e = .returned (.tuple #[]) ∧ Sf w' P ∧ En w' b k sd tm tk rc (List.replicate 4 0) gs v ∧ Gq P b w w' := by
  have HN : Hid _ := hN
  have HL : Hid (En w b k sd tm tk rc am gs v) := hb
  have HE : Hid (P ≠ b) := hne
  clear hN hb hne
  go_enter Tryz.func52, Tryz.ntmps52
  go_wp2_with fail
  refine Calls.mono HN.out ?_
  rintro e W ⟨rfl, hs, hG⟩
  have hL : En W b k sd tm tk rc am gs v := ⟨hG.row HL.out.row (fun e => HE.out e.symm), HL.out.ls, HL.out.lt, HL.out.la⟩
  have HTH : Hid (W.there b 43 (vQ (List.replicate 4 0)).toArray.size) := Row.there hL.row 43 _ (by rw [ent_lenH hL.ls hL.lt hL.la]; decide)
  have HSF : Hid (Sf W P) := hs
  have HL2 : Hid (En W b k sd tm tk rc am gs v) := hL
  have HG : Hid (Gro (fun g => g = P) w W) := hG
  clear hG hs hL HN HL
  go_wp2_with (refine wpList_store_mid rfl 26 (.tmp 8) (.tmp 6) rfl b 43 (vQ (List.replicate 4 0)).toArray rfl rfl HTH.out (by kernel_rfl) (by kernel_rfl) ?_; simp only [Act.put]; change wpList _ _ _ _ _ (World.setCells W b 43 (vQ (List.replicate 4 0))))
  go_end0
  exact ⟨rfl, HSF.out.block (heap_sets _ _ _ _ _ HE.out), HL2.out.amount (List.replicate 4 0) rfl, Gq.sets HG.out⟩

end Go.Proofs.YtaaehdlenigomaaGreat
