/-
  the law MachineHosts.
-/
import Derived.Test.YtabcglakdlkdcaaMkFk

namespace Go.Proofs.Ytabcglakdlkdcaa
open Go Go.RowKit
open Sha
open Wd

theorem ev2_len (cl : Cl) (ags : List Nat) (ls : List Ins) (rs : List (Nat × Int)) (hls : ∀ y ∈ ls, y.c < 28) : ∀ (f : Nat) (st : List Nat) (l nx nq : Nat), (ev2 cl ags ls rs f st l nx nq).2.length * 200 ≤ l := by
  intro f
  induction f with
  | zero => exact fun st l nx nq => by rw [show (ev2 cl ags ls rs 0 st l nx nq).2 = [] from rfl]; simp
  | succ f ih =>
    intro st l nx nq
    unfold ev2
    cases hx : ls[nx]? with
    | none => simp
    | some x =>
      simp only
      have hc := hls x (List.mem_of_getElem? hx)
      have h1 := stU_one (cl := cl) (ags := ags) (ls := ls) (rs := rs) (x := x) (st := st) (l := l) (nx := nx) (nq := nq)
      have h2 : (stU cl ags ls rs x st l nx nq).2 ≠ [] → 200 ≤ gT x.c ∧ gT x.c ≤ l := fun h => stU_200 hc h
      have h3 : ∀ y, (stU cl ags ls rs x st l nx nq).1 = .ok y → gT x.c ≤ l := fun y h => stU_gas h
      rcases hst : stU cl ags ls rs x st l nx nq with ⟨r1, q⟩
      rw [hst] at h1 h2 h3
      simp only at h1 h2 h3
      have hq : q.length * 200 ≤ l ∧ (q ≠ [] → q.length = 1) := by
        rcases h1 with h1 | ⟨a, h1, _⟩
        · rw [h1]; exact ⟨by simp, fun h => absurd rfl h⟩
        · have := h2 (by rw [h1]; simp)
          rw [h1]
          exact ⟨by rw [List.length_singleton]; omega, fun _ => rfl⟩
      cases r1 with
      | error E => exact hq.1
      | ok y =>
        obtain ⟨st', nx'⟩ := y
        simp only
        split
        · exact hq.1
        · have hi := ih st' (l - gT x.c) nx' (nq + q.length)
          have hg := h3 _ rfl
          simp only [List.length_append]
          by_cases hqe : q = []
          · rw [hqe] at hi ⊢
            simp only [List.length_nil] at hi ⊢
            omega
          · have := h2 hqe
            have := hq.2 hqe
            omega
theorem mrun_len (pd : List (BitVec 8)) (c : Ca) (ags : List Nat) (rs : List (Nat × Int)) : (mrun pd c ags rs).2.length ≤ 50 := by
  unfold mrun
  cases hck : chk pd with
  | none => simp
  | some ls =>
    simp only
    split
    · have := ev2_len c.cl ags ls rs (fun y hy => ((chk_ok hck).2.2.1 y hy).1) 10001 [] c.gas.toNat 0 0
      simp only
      omega
    · simp
/-- The law's replies: those that came in, noughts behind them, an error at the k-th. -/
def rs2 (rs : List (Nat × Int)) (t k V : Nat) (E : Int) : List (Nat × Int) := (rs ++ List.replicate t (0, 0)).set k (V, E)
def v1234 : Nat := 1 + 2 * 2 ^ 64 + 3 * 2 ^ 128 + 4 * 2 ^ 192
end Go.Proofs.Ytabcglakdlkdcaa

namespace Go.Proofs.Ytabcglakdlkdcaa
open Go Go.RowKit
open Sha
open Wd

section
variable {ops : Array Oper} {rest : List Oper} {op : Oper} {a : Act} {w : World} {Q : Exit → Act → World → Prop}
end
def slN (v : Value) : Nat := match v with | .slice _ n _ => n | _ => 0
theorem lw_qin {w : World} {A : Option Addr} {c : Nat} {Q : List (List Value)} (h : Lw w tAk 30 (.slice A Q.length c) Q.length Q.flatten) : Qin w A Q := by
  by_cases hq : Q = []
  · exact .inl hq
  · have hpos : 0 < Q.length := by cases Q with | nil => exact absurd rfl hq | cons _ _ => simp
    obtain ⟨g, cap, e, _⟩ := Lw.open h hpos
    simp only [Value.slice.injEq] at e
    obtain ⟨rfl, _, rfl⟩ := e
    exact .inr ⟨g, rfl, Lw.range h⟩
theorem lw_qinN {w : World} {A : Option Addr} {n c : Nat} {Q : List (List Value)} (hn : n = Q.length) (h : Lw w tAk 30 (.slice A n c) n Q.flatten) : Qin w A Q := by
  subst hn
  exact lw_qin h
end Go.Proofs.Ytabcglakdlkdcaa
