/-
  steps.
-/
import Derived.Test.YtdlmighfmkhpkaaMkR
namespace Go.Proofs.Ytdlmighfmkhpkaa
open Go Go.RowKit
open Sha
open Wd
theorem cf_arg (args : Array Value) (W : World) : (callFunc 35 args).run Try.prog W = .ok (.enter 35 args) W := by
  go_simp
theorem cf_add (args : Array Value) (W : World) : (callFunc 25 args).run Try.prog W = .ok (.enter 25 args) W := by
  go_simp
theorem cf_done (args : Array Value) (W : World) : (callFunc 20 args).run Try.prog W = .ok (.enter 20 args) W := by
  go_simp
theorem cf_sub (args : Array Value) (W : World) : (callFunc 26 args).run Try.prog W = .ok (.enter 26 args) W := by
  go_simp
theorem cf_mul (args : Array Value) (W : World) : (callFunc 27 args).run Try.prog W = .ok (.enter 27 args) W := by
  go_simp
theorem cf_div (args : Array Value) (W : World) : (callFunc 28 args).run Try.prog W = .ok (.enter 28 args) W := by
  go_simp
theorem cf_mod (args : Array Value) (W : World) : (callFunc 29 args).run Try.prog W = .ok (.enter 29 args) W := by
  go_simp
theorem cf_less (args : Array Value) (W : World) : (callFunc 30 args).run Try.prog W = .ok (.enter 30 args) W := by
  go_simp
theorem stp_arg (r T gs n : Nat) (pl : Value) (C : List Value) (h av stk : Value) (ss : List Nat) (l nx : Nat) (an : List Value) (ls : List Ins) (ags : List Nat) (pi ni x : Nat) (hx : ags[ni]? = some x) (h8 : ags.length ≤ 8) (hs : ss.length ≤ 60) (hg : 2 ≤ l) (hl : l ≤ 10000) (hnx : nx ≤ 1024) (k0 w0 w : World) (H : Rn k0 w0 w r T gs n pl C h av stk (ss) l nx an ls ags) : Calls Try.prog 71 #[.pointer (some ⟨r, 0, none⟩), .agg (ic 16 pi 0 ni).toArray] w fun e w' => ∃ v, e = .returned (.int .i64 v) ∧ (v = 0 ∧ ∃ stk', Rn k0 w0 w' r T gs n pl C h av stk' (ss ++ [x]) (l - 2) (nx + 1) (an) ls ags) := by
  refine step_any r T gs n pl C h av stk (ss) l nx an ls ags 16 pi 0 ni _ 4 2 0 1 35 (by decide) rfl rfl rfl hg hl (by simp) (by simp; omega) (by decide) hnx k0 w0 w H _ cf_arg ?_
  intro W hW
  refine Calls.mono (arg_in r T gs n pl C h av stk ss _ _ an ls ags 16 pi 0 ni x hx h8 k0 w0 W hW (by omega)) ?_
  rintro e w' ⟨rfl, q⟩
  exact ⟨0, rfl, rfl, q⟩
theorem stp_add (r T gs n : Nat) (pl : Value) (C : List Value) (h av stk : Value) (ss : List Nat) (l nx : Nat) (an : List Value) (ls : List Ins) (ags : List Nat) (pi ni x y : Nat) (hx : x < 2 ^ 256) (hy : y < 2 ^ 256) (h3 : x + y < 2 ^ 256) (hs : ss.length ≤ 60) (hg : 2 ≤ l) (hl : l ≤ 10000) (hnx : nx ≤ 1024) (k0 w0 w : World) (H : Rn k0 w0 w r T gs n pl C h av stk (ss ++ [x] ++ [y]) l nx an ls ags) : Calls Try.prog 71 #[.pointer (some ⟨r, 0, none⟩), .agg (ic 6 pi 0 ni).toArray] w fun e w' => ∃ v, e = .returned (.int .i64 v) ∧ (v = 0 ∧ ∃ stk', Rn k0 w0 w' r T gs n pl C h av stk' (ss ++ [x + y]) (l - 2) (nx + 1) (an) ls ags) := by
  refine step_any r T gs n pl C h av stk (ss ++ [x] ++ [y]) l nx an ls ags 6 pi 0 ni _ 0 2 2 1 25 (by decide) rfl rfl rfl hg hl (by simp) (by simp; omega) (by decide) hnx k0 w0 w H _ cf_add ?_
  intro W hW
  refine Calls.mono (add_ok r T gs n pl C h av stk ss _ _ an ls ags _ x y hx hy h3 k0 w0 W hW (by omega)) ?_
  rintro e w' ⟨rfl, q⟩
  exact ⟨0, rfl, rfl, q⟩
theorem stp_done (r T gs n : Nat) (pl : Value) (C : List Value) (h av stk : Value) (ss : List Nat) (l nx : Nat) (an : List Value) (ls : List Ins) (ags : List Nat) (pi ni x : Nat)  (hs : ss.length ≤ 60) (hg : 1 ≤ l) (hl : l ≤ 10000) (hnx : nx ≤ 1024) (k0 w0 w : World) (H : Rn k0 w0 w r T gs n pl C h av stk (ss ++ [x]) l nx an ls ags) : Calls Try.prog 71 #[.pointer (some ⟨r, 0, none⟩), .agg (ic 1 pi 0 ni).toArray] w fun e w' => ∃ v, e = .returned (.int .i64 v) ∧ (v = 0 ∧ ∃ stk', Rn k0 w0 w' r T gs n pl C h av stk' (ss) (l - 1) (nx + 1) (wq x) ls ags) := by
  refine step_any r T gs n pl C h av stk (ss ++ [x]) l nx an ls ags 1 pi 0 ni _ 0 1 1 0 20 (by decide) rfl rfl rfl hg hl (by simp) (by simp; omega) (by decide) hnx k0 w0 w H _ cf_done ?_
  intro W hW
  refine Calls.mono (done_any r T gs n pl C h av stk ss _ _ an ls ags _ x k0 w0 W hW (by omega)) ?_
  rintro e w' ⟨rfl, q⟩
  exact ⟨0, rfl, rfl, q⟩

end Go.Proofs.Ytdlmighfmkhpkaa
