/-
  Lists of numbers in memory.
-/
import Derived.Test.YtmkmdbpibpbcjaaXWa
namespace Go.Proofs.Ytmkmdbpibpbcjaa
open Go Go.RowKit
open Sha

def vI (l : List Int) : List Value := l.map (fun x => Value.int .i64 x)
theorem vI_length (l : List Int) : (vI l).length = l.length := by simp [vI]
theorem vI_one (l : List Int) : ∀ v ∈ vI l, v.oneCell' = true := fun v hv => by
  simp only [vI, List.mem_map] at hv
  obtain ⟨x, _, rfl⟩ := hv
  rfl
theorem info_iall : (Try.prog.info? 3).map (fun i => (i.size, i.bytes)) = some (1, 8) := by kernel_rfl
theorem info_izero : ((Try.prog.info? 3).bind (·.zero)).map (·.cells.size) = some 1 := by kernel_rfl
theorem info_iopen : ∃ ie z, Try.prog.info? 3 = some ie ∧ ie.zero = some z ∧ ie.size = 1 ∧ ie.bytes = 8 ∧ z.cells.size = 1 := by
  have i1 := info_iall
  have i2 := info_izero
  cases hi : Try.prog.info? 3 with
  | none => rw [hi] at i1; cases i1
  | some ie =>
    rw [hi] at i1 i2
    cases hz : ie.zero with
    | none => simp [hz] at i2
    | some z =>
      have i3 : ie.size = 1 ∧ ie.bytes = 8 := by simpa using i1
      exact ⟨ie, z, rfl, hz, i3.1, i3.2, by simpa [hz] using i2⟩
abbrev Iw (w : World) (v : Value) (d : List Int) : Prop := w.ownsRow 0 3 1 v d.length (vI d)
section
variable {w w' : World} {v : Value} {d : List Int}
theorem Iw.lt (h : Iw w v d) : ∀ g, v.ownBlock = some g → g < w.heap.size := fun g e => (World.ownsRow.lt h g e).2
theorem Iw.block (h : Iw w v d) (k : ∀ g, v.ownBlock = some g → w'.heap[g]? = w.heap[g]?) : Iw w' v d := by
  obtain ⟨h1, h2⟩ := h
  refine ⟨h1, ?_⟩
  rcases h2 with h2 | ⟨g, cap, cur, hv, hg, hh, r⟩
  · exact .inl h2
  · exact .inr ⟨g, cap, cur, hv, hg, (k g (by rw [hv]; rfl)).trans hh, r⟩
theorem Iw.be (h : Iw w v d) (k : Below w.heap.size w w') : Iw w' v d := Iw.block h fun g e => k.block g (Iw.lt h g e)
theorem Iw.gro {R : Nat → Prop} (h : Iw w v d) (k : Gro R w w') (hR : ∀ g, v.ownBlock = some g → ¬ R g) : Iw w' v d := Iw.block h fun g e => k.block g (Iw.lt h g e) (hR g e)
theorem Iw.set_other (h : Iw w v d) {g o : Nat} {u : Value} (hR : ∀ k, v.ownBlock = some k → k ≠ g) : Iw (w.setCell ⟨g, o, none⟩ u) v d := Iw.block h fun k e => Below.heap_setCell w ⟨g, o, none⟩ u k (hR k e)
theorem Iw.form (h : Iw w v d) : ∃ A cap, v = .slice A d.length cap ∧ d.length ≤ cap ∧ (A = none → cap = 0) := by
  rcases h.2 with ⟨h1, h2⟩ | ⟨g, cap, cur, hv, _, _, hc, _⟩
  · exact ⟨none, 0, by rw [h1, h2], by omega, fun _ => rfl⟩
  · exact ⟨_, cap, hv, hc, fun e => by cases e⟩
theorem Iw.nil (w : World) : Iw w (.slice none 0 0) [] := ⟨rfl, .inl ⟨rfl, rfl⟩⟩
theorem Iw.row (h : Iw w v d) : ∀ g, v.ownBlock = some g → ∃ cs, Row w g cs 3 := fun g e => by
  rcases h.2 with ⟨h1, _⟩ | ⟨g', cap, cur, hv, _, hh, _⟩
  · rw [h1] at e; simp [Value.ownBlock] at e
  · rw [hv] at e
    simp only [Value.ownBlock, Option.some.injEq] at e
    subst e
    exact ⟨cur.toList, by unfold Row; rw [hh]⟩
theorem Iw.ne {b : Nat} {cs : List Value} {t : TypeId} (h : Iw w v d) (r : Row w b cs t) (ht : t ≠ 3) : ∀ g, v.ownBlock = some g → g ≠ b := fun g e q => by
  obtain ⟨cs', r'⟩ := Iw.row h g e
  exact row_ne r' r (Ne.symm ht) q
/-- Numbers of a caller. -/
def InAt (w : World) (A : Option Addr) (ns : List Int) : Prop := ns = [] ∨ ∃ b o, A = some ⟨b, o, none⟩ ∧ w.rangeAt b o (vI ns)
theorem InAt.be {A : Option Addr} (h : InAt w A d) (k : Below w.heap.size w w') : InAt w' A d := by
  rcases h with h | ⟨b, o, h1, h2⟩
  · exact .inl h
  · exact .inr ⟨b, o, h1, range_be h2 k⟩
theorem InAt.at {A : Option Addr} (h : InAt w A d) (i : Nat) (hi : i < d.length) : ∃ b o, A = some ⟨b, o, none⟩ ∧ w.cell? ⟨b, o + i, none⟩ = some (.int .i64 (d.getD i 0)) := by
  rcases h with h | ⟨b, o, h1, h2⟩
  · subst h; simp at hi
  · exact ⟨b, o, h1, h2 i _ (by simp [vI, List.getD_eq_getElem?_getD, hi])⟩
theorem Iw.in (h : Iw w v d) : ∃ A cap, v = .slice A d.length cap ∧ InAt w A d := by
  rcases h.2 with ⟨h1, h0⟩ | ⟨g, cap, cur, hv, hg, hh, hc, hm, hs, ht⟩
  · exact ⟨none, 0, by rw [h1, h0], .inl (List.length_eq_zero_iff.1 h0)⟩
  · refine ⟨_, cap, hv, .inr ⟨g, 0, rfl, ?_⟩⟩
    have hr : Row w g cur.toList 3 := by unfold Row; rw [hh]
    intro j u hj
    refine hr.all j u ?_
    rw [← ht] at hj
    have hjl : j < d.length * 1 := by have := (List.getElem?_eq_some_iff.1 hj).1; rw [List.length_take] at this; omega
    rwa [List.getElem?_take_of_lt hjl] at hj
end
section
variable {ops : Array Oper} {rest : List Oper} {o : Oper} {a : Act} {w : World} {Q : Exit → Act → World → Prop}
/-- append of a number onto numbers that are owned. -/
theorem wpList_appi (hgd : o.guard = none) (s x : Operand) (ho : o.op = .call { callee := .builtin .append, args := #[s, x], argTypes := #[31, 31] }) (v : Value) (l : List Int) (hs : a.eval s = v) (hown : Iw w v l)
    (N : Nat) (n : Int) (hx : a.eval x = .slice (some ⟨N, 0, none⟩) 1 1) (hN : Row w N [.int .i64 n] 3) (hk : (l.length + 1) * 8 ≤ 140737488355328)
    (h : ∀ v' w', Iw w' v' (l ++ [n]) → w.grownBy w' v.ownBlock → (v'.ownBlock = v.ownBlock ∨ v'.ownBlock = some w.heap.size) → wpList Try.prog ops Q rest (a.put o.dst v') w') : wpList Try.prog ops Q (o :: rest) a w := by
  obtain ⟨ie, z, h1, h2, h3, h5, h4⟩ := info_iopen
  have hcell := hN.all
  obtain ⟨v', w', hr, q2, q3, _, q5⟩ := run_append_own_at (P := Try.prog) w 0 31 o.type 3 ie z 1 8 Try.underlying31 h1 h2 h3 h5 h4 (by decide) v l.length (vI l) hown ⟨N, 0, none⟩ 1 1 [.int .i64 n] rfl
    (fun j u hj => by rw [Addr.add_mid]; exact hcell j u hj) (vI_one [n]) (by unfold maxLen; omega) hk (Nat.zero_le _)
  refine wpList_plain hgd fun K hK => ?_
  unfold Oper.wp execOp
  simp only [ho, resolve, invoke, builtin, Sem.run_bind, Sem.run_pure, Result.andThen_ok, List.map_toArray, List.map_cons, List.map_nil, hs, hx, hr]
  refine hK _ _ (h v' w' ?_ q3 q5)
  unfold Iw
  rw [List.length_append, show vI (l ++ [n]) = vI l ++ [.int .i64 n] by simp [vI]]; exact q2
end

/-- Is one below nought among them? -/
def fg (ns : List Int) : Bool := ns.any (fun x => decide (x < 0))
theorem fg_snoc (ns : List Int) (n : Int) : fg (ns ++ [n]) = (fg ns || decide (n < 0)) := by simp [fg]
theorem fg_append (a b : List Int) : fg (a ++ b) = (fg a || fg b) := by simp [fg]
/-- What a writer is behind numbers: bytes, and its fault. -/
def run (s : List (BitVec 8) × Int) (ns : List Int) : List (BitVec 8) × Int := ns.foldl (fun s n => (nuB s.1 s.2 n, nuF s.1 s.2 n)) s
theorem run_snoc (s : List (BitVec 8) × Int) (ns : List Int) (n : Int) : run s (ns ++ [n]) = (nuB (run s ns).1 (run s ns).2 n, nuF (run s ns).1 (run s ns).2 n) := by simp [run]
theorem run_append (s : List (BitVec 8) × Int) (a b : List Int) : run s (a ++ b) = run (run s a) b := by simp [run]
theorem run_len (ns : List Int) : ∀ s : List (BitVec 8) × Int, s.1.length ≤ 4194304 → (run s ns).1.length ≤ 4194304 := by
  induction ns with
  | nil => intro s h; exact h
  | cons n r ih => intro s h; exact ih _ (nu_len _ _ _ h)
theorem nb_one (n : Nat) : nb n 0 0 0 ≤ 8 := by
  have := bl_le n
  unfold nb
  simp only [ne_eq, not_true_eq_false, if_false]
  split <;> omega
theorem nu_small (bs : List (BitVec 8)) (f n : Int) (hf : f = 0 ∨ f = 32) (h : bs.length + 9 ≤ 4194304) : nuF bs f n = (if f = 32 ∨ n < 0 then 32 else 0) ∧ (nuB bs f n).length ≤ bs.length + 9 := by
  have h1 := nb_one n.toNat
  have h2 : (fm [n.toNat, 0, 0, 0] (nb n.toNat 0 0 0)).length ≤ 9 := by rw [fm_len]; omega
  rcases hf with rfl | rfl
  · by_cases hn : n < 0
    · have e1 : nuF bs 0 n = 32 := by unfold nuF; rw [if_pos rfl, if_pos hn]
      have e2 : nuB bs 0 n = [] := by unfold nuB; rw [if_pos rfl, if_pos hn]
      rw [e1, e2, if_pos (Or.inr hn)]
      exact ⟨rfl, Nat.zero_le _⟩
    · have e1 : nuF bs 0 n = 0 := by unfold nuF wrF; rw [if_pos rfl, if_neg hn, if_pos rfl, if_pos (by omega)]
      have e2 : nuB bs 0 n = bs ++ fm [n.toNat, 0, 0, 0] (nb n.toNat 0 0 0) := by unfold nuB wrB; rw [if_pos rfl, if_neg hn, if_pos rfl, if_pos (by omega)]
      rw [e1, e2, if_neg (by omega), List.length_append]
      exact ⟨rfl, by omega⟩
  · have e1 : nuF bs 32 n = 32 := by unfold nuF; rw [if_neg (by decide)]
    have e2 : nuB bs 32 n = bs := by unfold nuB; rw [if_neg (by decide)]
    rw [e1, e2, if_pos (Or.inl rfl)]
    exact ⟨rfl, by omega⟩
theorem run_small (ns : List Int) : ∀ (bs : List (BitVec 8)) (f : Int), (f = 0 ∨ f = 32) → bs.length + 9 * ns.length ≤ 4194304 → (run (bs, f) ns).2 = (if f = 32 ∨ fg ns = true then 32 else 0) := by
  induction ns with
  | nil => intro bs f hf _; rcases hf with rfl | rfl <;> simp [run, fg]
  | cons n r ih =>
    intro bs f hf h
    rw [List.length_cons] at h
    obtain ⟨q1, q2⟩ := nu_small bs f n hf (by omega)
    have q3 : nuF bs f n = 0 ∨ nuF bs f n = 32 := by rw [q1]; split <;> simp
    have := ih (nuB bs f n) (nuF bs f n) q3 (by omega)
    show (run (nuB bs f n, nuF bs f n) r).2 = _
    rw [this, q1]
    by_cases h1 : f = 32
    · simp [h1]
    · by_cases h2 : n < 0
      · simp [h2, fg]
      · simp [h1, h2, fg]

end Go.Proofs.Ytmkmdbpibpbcjaa
