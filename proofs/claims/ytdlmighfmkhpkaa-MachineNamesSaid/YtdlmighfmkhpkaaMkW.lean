/-
  laws for the law's run.
-/
import Derived.Test.YtdlmighfmkhpkaaMkV
import Derived.ArgAppend
namespace Go.Proofs.Ytdlmighfmkhpkaa
open Go Go.RowKit
open Sha
open Wd

theorem vB_app (a b : List (BitVec 8)) : vB (a ++ b) = vB a ++ vB b := by simp [vB]
theorem sl_nil {w : World} {A : Option Addr} {n cap : Nat} {d : List (BitVec 8)} (h : Bw w (.slice A n cap) d) : A = none → n = 0 ∧ cap = 0 := fun e => by
  subst e
  rcases h.2 with ⟨h2, h0⟩ | ⟨g, c2, cur, hvv, _⟩
  · simp only [Value.slice.injEq] at h2
    exact ⟨h2.2.1, h2.2.2⟩
  · cases hvv
def SP.byd (n : Nat) (d : List (BitVec 8)) : SP := ⟨fun W v => ∃ N c, v = .slice (some ⟨N, 0, none⟩) n c ∧ n ≤ c ∧ W.rangeAt N 0 (vB d), fun _ _ _ hB ⟨N, c, e, h, r⟩ => ⟨N, c, e, h, range_be r hB⟩⟩
section
variable {o : Oper} {a : Act} {w : World} {K : Act → World → Prop} {Q : Exit → Act → World → Prop}
theorem wp_appb (s x : Operand) (ho : o.op = .call { callee := .builtin .append, args := #[s, x], argTypes := #[23, 23] }) (g g2 k m t : Nat) (d news : List (BitVec 8)) (hd : d.length = k) (hm : news.length = m) (ht : k + m = t) (h0 : 0 < m) (hk : t ≤ 1000) (hs : a.eval s = .slice (some ⟨g, 0, none⟩) k k) (hr : Row w g (vB d) 5) (hx : a.eval x = .slice (some ⟨g2, 0, none⟩) m m) (hr2 : Row w g2 (vB news) 5)
    (h : ∀ A c w', Bw w' (.slice A t c) (d ++ news) → (A = none → False) → Below w.heap.size w w' → K (a.put o.dst (.slice A t c)) w') : Oper.wp Try.prog o a w K Q := by
  obtain ⟨ie, z, h1, h2, h3, h5, h4⟩ := info_u8open
  obtain ⟨v', w', hrun, r1, r2⟩ := run_append_arg_grows (P := Try.prog) w 23 o.type 5 ie z 1 1 Try.underlying23 h1 h2 h3 h5 h4 (by decide) ⟨g, 0, none⟩ k k (vB d) (by rw [vB_length, hd, Nat.mul_one]) (fun j u hj => by rw [Addr.add_mid]; exact hr.all j u hj) ⟨g2, 0, none⟩ m m (vB news) (by rw [vB_length, hm, Nat.mul_one]) (fun j u hj => by rw [Addr.add_mid]; exact hr2.all j u hj) (by omega) (by unfold maxLen; omega) (by omega)
  have hbw : Bw w' v' (d ++ news) := by
    obtain ⟨q1, q2⟩ := r1
    refine ⟨by rw [List.length_append, hd, hm]; simp [vB_length, hd, hm], ?_⟩
    rcases q2 with ⟨_, q3⟩ | ⟨g', cap', cur, q3, _, q4, q5, q6, q7, q8⟩
    · omega
    · refine .inr ⟨g', cap', cur, by rw [List.length_append, hd, hm]; exact q3, Nat.zero_le _, q4, by rw [List.length_append, hd, hm]; exact q5, q6, q7, ?_⟩
      rw [List.length_append, hd, hm, vB_app]
      exact q8
  obtain ⟨A, c, hv, _, _⟩ := Bw.form hbw
  rw [List.length_append, hd, hm, ht] at hv
  subst hv
  have hB : Below w.heap.size w w' := (Below.refl _ _).grown r2 (Nat.le_refl _) (fun k e => by cases e)
  unfold Oper.wp
  simp [execOp, ho, resolve, invoke, builtin, hs, hx, hrun, Result.andThen]
  exact h A c w' hbw (fun e => by have := sl_nil hbw e; omega) hB
theorem wp_build0 (ho : o.op = .buildSlice 23 0 #[]) (h : ∀ W2, Row W2 w.heap.size [] 5 → Below w.heap.size w W2 → K (a.put o.dst (.slice (some ⟨w.heap.size, 0, none⟩) 0 0)) W2) : Oper.wp Try.prog o a w K Q := by
  unfold Oper.wp execOp
  simp only [ho]
  go_simp
  exact h _ (Row.new' rfl rfl) ((Below.refl _ _).alloc (Nat.le_refl _) _)
theorem wp_fP0 {x : Operand} (b : Nat) (ho : o.op = .fieldAddr 42 x 0) (hx : a.eval x = .pointer (some ⟨b, 0, none⟩)) (h : K (a.put o.dst (.pointer (some ⟨b, 0, none⟩))) w) : Oper.wp Try.prog o a w K Q := by
  unfold Oper.wp execOp
  simp only [ho, hx]
  go_simp
  exact h
theorem wp_loadb {x : Operand} (ho : o.op = .load 23 x) (b f : Nat) (hx : a.eval x = .pointer (some ⟨b, f, none⟩)) (A : Option Addr) (n c : Nat) (hc : w.cell? ⟨b, f, none⟩ = some (.slice A n c)) (h : K (a.put o.dst (.slice A n c)) w) : Oper.wp Try.prog o a w K Q := by
  unfold Oper.wp execOp
  simp only [ho, hx]
  go_simp
  exact h
theorem wp_mkif {x : Operand} (ho : o.op = .makeInterface 58 x) (v : Value) (hx : a.eval x = v) (h : K (a.put o.dst (.iface 58 v)) w) : Oper.wp Try.prog o a w K Q := by
  unfold Oper.wp execOp
  simp only [ho, hx]
  go_simp
  exact h
theorem wp_allocRn (ho : o.op = .alloc 31) (h : K (a.put o.dst (.pointer (some ⟨w.heap.size, 0, none⟩))) (w.alloc (Obj.cells zR.toArray 31))) : Oper.wp Try.prog o a w K Q := by
  unfold Oper.wp execOp
  simp only [ho]
  go_simp
  exact h
end
abbrev R12 : List Value := [.int .u64 12, .int .u64 0, .int .u64 0, .int .u64 0, .int .i64 7]

end Go.Proofs.Ytdlmighfmkhpkaa
