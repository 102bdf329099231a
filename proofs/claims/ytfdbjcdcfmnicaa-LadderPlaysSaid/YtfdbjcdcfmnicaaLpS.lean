/-
  LadderPlays: whole; turn and look at any step.
-/
import Derived.Test.YtfdbjcdcfmnicaaLpK
import Derived.Test.YtfdbjcdcfmnicaaLpL
import Derived.Test.YtfdbjcdcfmnicaaLpN
import Derived.Test.YtfdbjcdcfmnicaaLpO
import Derived.Test.YtfdbjcdcfmnicaaLpP
import Derived.Test.YtfdbjcdcfmnicaaLpT
import Derived.Test.YtfdbjcdcfmnicaaLpU
import Derived.Test.YtfdbjcdcfmnicaaLpV
import Derived.Test.YtfdbjcdcfmnicaaLpW
import Derived.Test.YtfdbjcdcfmnicaaLpY
namespace Go.Proofs.Ytfdbjcdcfmnicaa
open Go Go.RowKit
open Sha

theorem turn_all {w0 w : World} {q : Nat} {B : Int} {Ls : List (Nat × Value × La)} {Es : List (Value × La)} {T : Value} {ts : List (Value × Nat)} (h : Pl w0 w q B Ls Es T ts) (hm : Ms Ls Es) (hB0 : 0 ≤ B) (hB2 : B < 4611686018427387900) (hts : ts.length ≤ 5000000000000) {k : Nat} (hk3 : k < 3) (s : Sp16) (hs : s.Ok) (S : List Value) (hS : S = s.cells) :
    Calls Try.prog 17 #[.pointer (some ⟨q, 0, none⟩), .int .i64 (k : Int), .agg S.toArray] w fun r w' => r = .returned (.bool true) ∧ ∃ Ls' Es' T' ts', Pl w0 w' q (B + 1) Ls' Es' T' ts' ∧ Ms Ls' Es' ∧ ts'.length ≤ ts.length + 1 := by
  obtain ⟨p, v, st, e, hk, he⟩ := hm k hk3
  have hBB : B ≤ B + 1 := by omega
  by_cases h1 : s.kd = 1
  · exact (turn_post h hB0 hB2 hk he s hs h1 S hS).mono (fun r w' ⟨e1, v', e', st', hP⟩ => ⟨e1, _, _, _, _, hP, hm.set h.l3 h.e3 k p v' e' st', by omega⟩)
  by_cases h2 : s.kd = 2
  · exact (turn_conf h hk he s hs h2 S hS).mono (fun r w' ⟨e1, v', e', st', hP⟩ => ⟨e1, _, _, _, _, hP.mono hBB, hm.set h.l3 h.e3 k p v' e' st', by omega⟩)
  by_cases h3 : s.kd = 3
  · exact (turn_drop h hts hk he s hs h3 S hS).mono (fun r w' ⟨e1, v', e', st', T', y, hP⟩ => ⟨e1, _, _, _, _, hP.mono hBB, hm.set h.l3 h.e3 k p v' e' st', by rw [List.length_append]; exact Nat.le_refl _⟩)
  by_cases h4 : s.kd = 4
  · exact (turn_hold h hB2 hk he s hs h4 S hS).mono (fun r w' ⟨e1, v', e', st', hP⟩ => ⟨e1, _, _, _, _, hP, hm.set h.l3 h.e3 k p v' e' st', by omega⟩)
  by_cases h5 : s.kd = 5
  · exact (turn_rel h hB2 hk he s hs h5 S hS).mono (fun r w' ⟨e1, v', e', st', hP⟩ => ⟨e1, _, _, _, _, hP.mono hBB, hm.set h.l3 h.e3 k p v' e' st', by omega⟩)
  exact (turn_else h s ⟨h1, h2, h3, h4, h5⟩ S hS).mono (fun r w' ⟨e1, hP⟩ => ⟨e1, _, _, _, _, hP.mono hBB, hm, by omega⟩)
theorem look_all {w0 w : World} {q : Nat} {B : Int} {Ls : List (Nat × Value × La)} {Es : List (Value × La)} {T : Value} {ts : List (Value × Nat)} (h : Pl w0 w q B Ls Es T ts) (hm : Ms Ls Es) (hB0 : 0 ≤ B) (hts : ts.length + 1 ≤ 5000000000000) {k : Nat} (hk3 : k < 3) (s : Sp16) (hs : s.Ok) (hto : B64 s.«to») (S : List Value) (hS : S = s.cells) :
    Calls Try.prog 18 #[.pointer (some ⟨q, 0, none⟩), .int .i64 (k : Int), .agg S.toArray] w fun r w' => r = .returned (.bool true) ∧ ∃ Ls' Es' T' ts', Pl w0 w' q B Ls' Es' T' ts' ∧ Ms Ls' Es' ∧ ts'.length ≤ ts.length + 2 := by
  obtain ⟨p, v, st, e, hk, he⟩ := hm k hk3
  have z0 : ts.length ≤ ts.length + 2 := by omega
  by_cases h6 : s.kd = 6
  · exact (look_find h hk he s hs h6 S hS).mono (fun r w' ⟨e1, hP⟩ => ⟨e1, _, _, _, _, hP, hm, z0⟩)
  by_cases h7 : s.kd = 7
  · exact (look_before h hk he s hs h7 S hS).mono (fun r w' ⟨e1, hP⟩ => ⟨e1, _, _, _, _, hP, hm, z0⟩)
  by_cases h8 : s.kd = 8
  · exact (look_pend h hts hk he s hs h8 S hS).mono (fun r w' ⟨e1, T', y, z, hP⟩ => ⟨e1, _, _, _, _, hP, hm, by rw [List.length_append, List.length_append]; exact Nat.le_refl _⟩)
  by_cases h9 : s.kd = 9
  · exact (look_conf h hk he s hs h9 S hS).mono (fun r w' ⟨e1, hP⟩ => ⟨e1, _, _, _, _, hP, hm, z0⟩)
  by_cases h10 : s.kd = 10
  · exact (look_top h hk he s hs h10 S hS).mono (fun r w' ⟨e1, hP⟩ => ⟨e1, _, _, _, _, hP, hm, z0⟩)
  by_cases h11 : s.kd = 11
  · exact (look_copy h hk he s hs hto h11 S hS).mono (fun r w' ⟨e1, p', v', hP⟩ => ⟨e1, _, _, _, _, hP, hm.set h.l3 h.e3 _ p' v' e st, z0⟩)
  by_cases h12 : s.kd = 12
  · by_cases hn : newE s.c s.wd = 0
    · exact (look_new_ok h hk he s hs hB0 hn h12 S hS).mono (fun r w' ⟨e1, p', v', st', hP⟩ => ⟨e1, _, _, _, _, hP, hm.set h.l3 h.e3 k p' v' _ st', z0⟩)
    · exact (look_new_no h hk he s hs hB0 hn h12 S hS).mono (fun r w' ⟨e1, hP⟩ => ⟨e1, _, _, _, _, hP, hm, z0⟩)
  exact (look_else h s ⟨h6, h7, h8, h9, h10, h11, h12⟩ S hS).mono (fun r w' ⟨e1, hP⟩ => ⟨e1, _, _, _, _, hP, hm, z0⟩)

end Go.Proofs.Ytfdbjcdcfmnicaa
