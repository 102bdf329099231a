/-
  LadderPlays: look at other kinds.
-/
import Derived.Test.YtfdbjcdcfmnicaaLpM
namespace Go.Proofs.Ytfdbjcdcfmnicaa
open Go Go.RowKit
open Sha

set_option maxRecDepth 100000 in
set_option maxHeartbeats 16000000 in
theorem look_else {w0 w : World} {q : Nat} {B : Int} {Ls : List (Nat × Value × La)} {Es : List (Value × La)} {T : Value} {ts : List (Value × Nat)} (h : Pl w0 w q B Ls Es T ts) {k : Nat} (s : Sp16) (hkd : s.kd ≠ 6 ∧ s.kd ≠ 7 ∧ s.kd ≠ 8 ∧ s.kd ≠ 9 ∧ s.kd ≠ 10 ∧ s.kd ≠ 11 ∧ s.kd ≠ 12) (S : List Value) (hS : S = s.cells) :
    Calls Try.prog 18 #[.pointer (some ⟨q, 0, none⟩), .int .i64 (k : Int), .agg S.toArray] w fun r w' => r = .returned (.bool true) ∧ Pl w0 w' q B Ls Es T ts := by
  have HPL : Hid (Pl w0 w q B Ls Es T ts) := h
  obtain ⟨n6, n7, n8, n9, n10, n11, n12⟩ := hkd
  have HKD : Hid (S[0]? = some (.int .i64 s.kd)) := by rw [hS]; exact Sp16.at_kd s
  clear h hS
  go_enter Try.func18, Try.ntmps18
  go_wp2_with (refine wpList_bxG tSt rfl (.tmp 2) rfl S rfl ?_; intro X1 q1 q2 q3; clear q3; have ck : X1.cell? ⟨w.heap.size, 0, none⟩ = some (.int .i64 s.kd) := q1.cell 0 _ HKD.out; have HP1 : Hid (Pl w0 X1 q B Ls Es T ts) := HPL.out.below q2; clear q1 q2; simp only [Act.put, List.setIfInBounds_toArray, List.set_cons_zero, List.set_cons_succ])
  go_ret
  exact ⟨by simp, HP1.out⟩
set_option maxRecDepth 100000 in
set_option maxHeartbeats 16000000 in
theorem turn_else {w0 w : World} {q : Nat} {B : Int} {Ls : List (Nat × Value × La)} {Es : List (Value × La)} {T : Value} {ts : List (Value × Nat)} (h : Pl w0 w q B Ls Es T ts) {k : Nat} (s : Sp16) (hkd : s.kd ≠ 1 ∧ s.kd ≠ 2 ∧ s.kd ≠ 3 ∧ s.kd ≠ 4 ∧ s.kd ≠ 5) (S : List Value) (hS : S = s.cells) :
    Calls Try.prog 17 #[.pointer (some ⟨q, 0, none⟩), .int .i64 (k : Int), .agg S.toArray] w fun r w' => r = .returned (.bool true) ∧ Pl w0 w' q B Ls Es T ts := by
  have HPL : Hid (Pl w0 w q B Ls Es T ts) := h
  obtain ⟨n6, n7, n8, n9, n10⟩ := hkd
  have HKD : Hid (S[0]? = some (.int .i64 s.kd)) := by rw [hS]; exact Sp16.at_kd s
  clear h hS
  go_enter Try.func17, Try.ntmps17
  go_wp2_with (refine wpList_bxG tSt rfl (.tmp 2) rfl S rfl ?_; intro X1 q1 q2 q3; clear q3; have ck : X1.cell? ⟨w.heap.size, 0, none⟩ = some (.int .i64 s.kd) := q1.cell 0 _ HKD.out; have HP1 : Hid (Pl w0 X1 q B Ls Es T ts) := HPL.out.below q2; clear q1 q2; simp only [Act.put, List.setIfInBounds_toArray, List.set_cons_zero, List.set_cons_succ])
  go_ret
  exact ⟨by simp, HP1.out⟩

end Go.Proofs.Ytfdbjcdcfmnicaa
