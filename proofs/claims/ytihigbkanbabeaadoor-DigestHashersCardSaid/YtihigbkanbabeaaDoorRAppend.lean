/-
  append of a slice of bytes onto a list of the call's own; pick, twin for letters.
-/
import Derived.Test.YtihigbkanbabeaaDoorRHelp
import Derived.Laws.AppendOwnNone
namespace Go.Proofs.YtihigbkanbabeaaDoor
open Go Go.RowKit
open Sha

theorem owns_slAt {w : World} {N n : Nat} {v : Value} {l : List (BitVec 8)} (h : w.ownsRow N 5 1 v n (vB l)) : SlAt w v l ∧ ∃ A cap, v = .slice A n cap := by
  have h1 := h.1
  rw [vB_length] at h1
  rcases h.2 with ⟨h2, h0⟩ | ⟨g, cap, cur, hv, hg, hh, hc, hm, hs, ht⟩
  · exact ⟨.inl ⟨List.length_eq_zero_iff.1 (by omega), none, 0, h2⟩, none, 0, by rw [h2, h0]⟩
  · refine ⟨.inr ⟨g, 0, cap, by rw [hv, h1, Nat.mul_one], by omega, ?_⟩, _, _, hv⟩
    have hr : Row w g cur.toList 5 := by unfold Row; rw [hh]
    intro j u hj
    refine hr.all j u ?_
    rw [← ht] at hj
    have hjl : j < n * 1 := by have := (List.getElem?_eq_some_iff.1 hj).1; rw [List.length_take] at this; omega
    rwa [List.getElem?_take_of_lt hjl] at hj

theorem row_owns {w : World} {N g n : Nat} {l : List (BitVec 8)} (hN : N ≤ g) (hl : l.length = n) (hn : n ≤ 140737488355328) (h : Row w g (vB l) 5) : w.ownsRow N 5 1 (.slice (some ⟨g, 0, none⟩) n n) n (vB l) := by
  refine ⟨by rw [vB_length, hl, Nat.mul_one], .inr ⟨g, n, (vB l).toArray, rfl, hN, h, Nat.le_refl _, by unfold maxLen; omega, by simp [vB_length, hl], ?_⟩⟩
  simp only [Nat.mul_one]
  exact List.take_of_length_le (by rw [vB_length, hl]; exact Nat.le_refl _)

section
variable {ops : Array Oper} {rest : List Oper} {op : Oper} {a : Act} {Q : Exit → Act → World → Prop}
theorem wpList_append_bytes (hgd : op.guard = none) (s x : Operand) (ho : op.op = .call { callee := .builtin .append, args := #[s, x], argTypes := #[22, 22] }) (W Wa : World) (M N : Nat) (v : Value) (n m : Nat) (l news : List (BitVec 8))
    (hown : W.ownsRow N 5 1 v n (vB l)) (hs : a.eval s = v) (A : Option Addr) (cap : Nat) (hm : news.length = m) (hx : a.eval x = .slice A m cap) (hX : SlAt W (.slice A m cap) news) (hnil : A = none → cap = 0) (hk : n + m ≤ 140737488355328) (hN : N ≤ W.heap.size) (hMN : M ≤ N) (hb : Below M Wa W)
    (h : ∀ v' w', w'.ownsRow N 5 1 v' (n + m) (vB (l ++ news)) → Below M Wa w' → W.grownBy w' v.ownBlock → wpList Tryd.prog ops Q rest (a.put op.dst v') w') :
    wpList Tryd.prog ops Q (op :: rest) a W := by
  obtain ⟨i, hi0, hz, hsz, hby⟩ := info_parts info_all_u8
  have hblk : ∀ k, v.ownBlock = some k → N ≤ k := by
    intro k hk
    rcases hown.2 with ⟨h2, _⟩ | ⟨g', cap, cur, hv, hg, _⟩
    · rw [h2] at hk; simp [Value.ownBlock] at hk
    · rw [hv] at hk; simp [Value.ownBlock] at hk; omega
  have go : ∀ (ad : Addr), A = some ad → (∀ j u, (vB news)[j]? = some u → W.cell? (ad.add j) = some u) → wpList Tryd.prog ops Q (op :: rest) a W := by
    intro ad hA hc
    subst hA
    refine wpList_append_own _ hgd s x 22 ho N 5 i (.int .u8 0) 1 1 Tryd.underlying22 hi0 hz hsz hby rfl (by decide) v n (vB l) hs hown ad m cap (vB news) hx (by rw [vB_length, hm, Nat.mul_one]) hc (vB_one news) (by unfold maxLen; omega) (by omega) hN ?_
    intro v' w' h2 h3 _
    have e : vB l ++ vB news = vB (l ++ news) := by simp [vB]
    rw [e] at h2
    exact h v' w' h2 (hb.grown h3 (Nat.le_trans hMN hN) (fun k hk => Nat.le_trans hMN (hblk k hk))) h3
  rcases hX with ⟨h0, A', c', hv⟩ | ⟨ab, ao, c', hv, hc, hr⟩
  · subst h0
    cases A with
    | none =>
      simp only [Value.slice.injEq] at hv
      obtain ⟨_, rfl, _⟩ := hv
      obtain rfl := hnil rfl
      refine wpList_append_own_none hgd s x 22 ho N 5 i 1 Tryd.underlying22 hi0 v n (vB l) hs hown hx ?_
      refine h v W (by simpa using hown) hb ⟨rfl, rfl, rfl, Nat.le_refl _, fun _ _ _ => rfl⟩
    | some ad => exact go ad rfl (fun j u hj => by simp [vB] at hj)
  · simp only [Value.slice.injEq] at hv
    obtain ⟨hA, _, _⟩ := hv
    exact go ⟨ab, ao, none⟩ hA (fun j u hj => by rw [Addr.add_mid]; exact hr j u hj)
end

theorem pick_z (k : Int) (n : Nat) (z : Int) (hz : z = (n : Int)) (h1 : -9223372036854775808 ≤ k) (h2 : k ≤ 9223372036854775807) (hn : 0 < n) (hn2 : n < 1152921504606846976) (w : World) :
    Calls Tryd.prog 22 #[.int .i64 k, .int .i64 z] w fun e w' => ∃ r : Nat, r < n ∧ e = .returned (.int .i64 (r : Int)) ∧ w' = w := by
  subst hz; exact pick_any k n h1 h2 hn hn2 w

theorem twin_k (q : List (BitVec 8)) (k : Nat) (hq : q.length = k) (hk : k ≤ 140737488355328) (A : Option Addr) (cap : Nat) (w : World) (hv : SlAt w (.slice A k cap) q) :
    Calls Tryd.prog 23 #[.slice A k cap] w fun e w' => ∃ g, e = .returned (.slice (some ⟨g, 0, none⟩) k k) ∧ w.heap.size ≤ g ∧ Row w' g (vB q) 5 ∧ Below w.heap.size w w' := by
  subst hq
  refine (twin_any q hk A cap w hv).mono ?_
  rintro e w' ⟨⟨v, rfl, g, rfl, hg, hr⟩, hB⟩
  exact ⟨g, rfl, hg, hr, hB⟩

end Go.Proofs.YtihigbkanbabeaaDoor
