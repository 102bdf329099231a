/-
  The law TreeOnePast.
-/
import Derived.Test.YtnogjhbohljjnabDoorTPastM
namespace Go.Proofs.YtnogjhbohljjnabDoor
open Go Go.RowKit
open Sha

/-- The cells of what a growth is looked at with. -/
def past (was root : List (BitVec 8)) (m n : Int) (p : Value) : List Value := vB was ++ ([Value.int .i64 m] ++ (vB root ++ [Value.int .i64 n, p]))
def z67 : List Value := past (List.replicate 32 0#8) (List.replicate 32 0#8) 0 0 (.slice none 0 0)
theorem past_len {was root : List (BitVec 8)} (Hw : Dl was) (Hr : Dl root) (m n : Int) (p : Value) : (past was root m n p).length = 67 := by
  unfold past; simp only [List.length_append, Hw.len, Hr.len]; rfl
theorem info_past : (Tryd.prog.info? 53).map (·.size) = some 67 := by kernel_rfl
theorem past_one {was root : List (BitVec 8)} {m n : Int} {A : Option Addr} {k c : Nat} : (past was root m n (.slice A k c)).toArray.all (·.oneCell') = true := all_oneCell_toArray (fun v hv => by
  unfold past at hv
  simp only [List.mem_append, List.mem_cons, List.not_mem_nil, or_false] at hv
  rcases hv with hv | rfl | hv | rfl | rfl
  · exact vB_one was v hv
  · rfl
  · exact vB_one root v hv
  · rfl
  · rfl)
/-- The cells of a leaf of an old list and another one at its place. -/
def rewr (pc : List Value) (i : Int) (o p t q : Value) : List Value := pc ++ [Value.int .i64 i, o, p, t, q]
theorem PAt.be {w w' : World} {v : Value} {ds : List (List (BitVec 8))} (h : PAt w v ds) (k : Below w.heap.size w w') : PAt w' v ds := h.below k
theorem Given.be {w w' : World} (h : Given w) (k : Below w.heap.size w w') : Given w' := h.low k

section
variable {ops : Array Oper} {rest : List Oper} {op : Oper} {a : Act} {Q : Exit → Act → World → Prop}
/-- append of one list of texts, maybe of none, onto another. -/
theorem wpList_join2 (hgd : op.guard = none) (s x : Operand) (ho : op.op = .call { callee := .builtin .append, args := #[s, x], argTypes := #[22, 22] }) (W0 Wa : World) (M N : Nat) (vp vq : Value) (ts us : List (List (BitVec 8))) (vs xs : List Value)
    (hM : Txs W0 N vp ts vs) (hn : Txs W0 N vq us xs) (hs : a.eval s = vp) (hx : a.eval x = vq) (hk : ts.length + us.length ≤ 4398046511104) (hN : N ≤ W0.heap.size) (hMN : M ≤ N) (hb : Below M Wa W0)
    (h : ∀ v' w', Txs w' N v' (ts ++ us) (vs ++ xs) → Below M Wa w' → wpList Tryd.prog ops Q rest (a.put op.dst v') w') :
    wpList Tryd.prog ops Q (op :: rest) a W0 := by
  obtain ⟨i, hi0, hz, hsz, hby⟩ := info_parts info_all_slb
  have hblk : ∀ k, vp.ownBlock = some k → N ≤ k := own_block hM.own
  have hl := hn.len
  rcases hn.own.2 with ⟨h2, h0⟩ | ⟨g, cap, cur, hq, hgN, hh, hcap, _, _, ht⟩
  · have eu : us = [] := List.length_eq_zero_iff.1 h0
    subst eu
    have ex : xs = [] := List.length_eq_zero_iff.1 (by simpa using hl)
    subst ex
    refine wpList_append_own_none hgd s x 22 ho N 38 i 1 Tryd.underlying22 hi0 vp ts.length vs hs hM.own (by rw [hx, h2]) ?_
    exact h vp W0 (by simpa using hM) hb
  · have hr : Row W0 g cur.toList 38 := by unfold Row; rw [hh]
    have hcell : W0.rangeAt g 0 xs := fun j u hj => hr.all j u (by
      rw [← ht] at hj
      have hjl : j < us.length * 1 := by have := (List.getElem?_eq_some_iff.1 hj).1; rw [List.length_take] at this; omega
      rwa [List.getElem?_take_of_lt hjl] at hj)
    refine wpList_append_own _ hgd s x 22 ho N 38 i (.slice none 0 0) 1 24 Tryd.underlying22 hi0 hz hsz hby rfl (by decide) vp ts.length vs hs hM.own ⟨g, 0, none⟩ us.length cap xs (by rw [hx, hq]) (by omega) ?_ ?_ (by unfold maxLen; omega) (by omega) hN ?_
    · intro j u hj; rw [Addr.add_mid]; exact hcell j u hj
    · intro u hu
      obtain ⟨j, hj, e⟩ := List.getElem_of_mem hu
      have hj2 := own_one (hn.each j (by omega))
      rw [List.getD_eq_getElem?_getD, List.getElem?_eq_getElem hj, Option.getD_some, e] at hj2
      exact hj2
    · intro v' w' h2 h3 _
      exact h v' w' (hM.join hn h2 h3) (hb.grown h3 (Nat.le_trans hMN hN) (fun k hk => Nat.le_trans hMN (hblk k hk)))
end

theorem pl_lt2 (n : Nat) : ∀ i, 1 ≤ n → n < 4611686018427387904 → n ≤ 3 ∨ pl n i + 1 < n := by
  induction n using Nat.strongRecOn with
  | ind n ih =>
    intro i h1 hn
    by_cases h3 : n ≤ 3
    · exact .inl h3
    right
    have hb := fpart_bounds n (by omega) hn
    have hp := fpart_pos n
    by_cases h4 : n = 4
    · subst h4
      have e : fpart 4 = 2 := fpart_is 4 1 (by omega) (by omega) (by decide) (by decide)
      rw [pl_many 4 i (by omega) (by omega), e]
      have a := pl_lt 2 i (by omega) (by omega)
      have b := pl_lt (4 - 2) (i - 2) (by omega) (by omega)
      split <;> omega
    · rw [pl_many n i (by omega) hn]
      have a := pl_lt (fpart n) i (by omega) (by omega)
      have b := pl_lt (n - fpart n) (i - fpart n) (by omega) (by omega)
      rcases ih (fpart n) hb.1 i (by omega) (by omega) with c | c <;> rcases ih (n - fpart n) (by omega) (i - fpart n) (by omega) (by omega) with d | d <;> split <;> omega
theorem pl_short (n i : Nat) (h1 : 1 ≤ n) (hn : n ≤ 1099511627776) : pl n i + 2 ≤ 1099511627776 := by
  have a := pl_lt n i h1 (by omega)
  rcases pl_lt2 n i h1 (by omega) with h | h <;> omega
theorem mem_short (L : List (List (BitVec 8))) (h : ∀ p ∈ L, p.length < 1152921504606846976) (i : Nat) : (L.getD i []).length < 1152921504606846976 := by
  rw [List.getD_eq_getElem?_getD]
  by_cases hi : i < L.length
  · rw [List.getElem?_eq_getElem hi]; exact h _ (List.getElem_mem _)
  · rw [List.getElem?_eq_none (by omega)]; decide
theorem Txs.lt {w : World} {N : Nat} {vp : Value} {ts : List (List (BitVec 8))} {vs : List Value} (h : Txs w N vp ts vs) : ∀ g, vp.ownBlock = some g → g < w.heap.size := by
  intro g hg
  rcases h.own.2 with ⟨h2, _⟩ | ⟨g', cap, cur, hv, _, hh, _⟩
  · rw [h2] at hg; simp [Value.ownBlock] at hg
  · rw [hv] at hg
    simp only [Value.ownBlock, Option.some.injEq] at hg
    subst hg
    exact (Array.getElem?_eq_some_iff.1 hh).1
/-- Behind an append another list of texts of the call's own is as it was. -/
theorem Txs.grown {w w' : World} {N : Nat} {vp vq : Value} {ts us : List (List (BitVec 8))} {vs xs : List Value} (h : Txs w N vq us xs) (k : Txs w N vp ts vs) (hne : ∀ g, vq.ownBlock = some g → vp.ownBlock ≠ some g) (hg : w.grownBy w' vp.ownBlock) : Txs w' N vq us xs := by
  refine ⟨?_, fun i hi => own_grown (h.each i hi) k.own (by decide) hg⟩
  obtain ⟨h1, h2⟩ := h.own
  refine ⟨h1, ?_⟩
  rcases h2 with h2 | ⟨g, cap, cur, hv, hN, hh, r⟩
  · exact .inl h2
  · refine .inr ⟨g, cap, cur, hv, hN, (hg.block g (Array.getElem?_eq_some_iff.1 hh).1 (fun e => hne g (by rw [hv]; rfl) e.symm)).trans hh, r⟩

set_option maxRecDepth 100000 in
set_option maxHeartbeats 2000000 in
theorem grewTexts_any (m n : Nat) (h1 : 1 ≤ m) (hmn : m ≤ n) (hn : n ≤ 1099511627776) (was : List (BitVec 8)) (Hw : Dl was) (ds : List (List (BitVec 8))) (hds : ds.length = gs m n true) (PA : Option Addr) (pc : Nat) (w : World) (hG : Given w) (hp : PAt w (.slice PA ds.length pc) ds) :
    Calls Tryd.prog 25 #[.agg (vB was).toArray, .int .i64 (m : Int), .int .i64 (n : Int), .slice PA ds.length pc] w fun e w' => ∃ tv vs, e = .returned tv ∧ Txs w' w.heap.size tv (gt m n true was ds) vs ∧ Below w.heap.size w w' := by
  have hd := rsb_len n m true was ds Hw hp.1 h1 hmn (by omega) hds
  have hb : Below w.heap.size w (w.alloc (Obj.cells (vB was).toArray 28)) := (Below.refl _ _).alloc (Nat.le_refl _) _
  have r4 : Row (w.alloc (Obj.cells (vB was).toArray 28)) w.heap.size (vB was) 28 := Row.new' rfl rfl
  have HS : Hid (∀ W, Below w.heap.size w W → _) := fun W (hB : Below w.heap.size w W) => comes_any n m true was ds Hw h1 hmn hn hds PA pc W (hG.low hB) (hp.below hB)
  have c1 : ¬ (m : Int) = 0 := by omega
  obtain ⟨x, ex⟩ : ∃ x, x = (rsb m n true was ds).1 := ⟨_, rfl⟩
  obtain ⟨y, ey⟩ : ∃ y, y = (rsb m n true was ds).2 := ⟨_, rfl⟩
  rw [← ex, ← ey] at hd HS
  obtain ⟨Hx, Hy⟩ := hd
  clear ex ey hp hG hmn hn h1 hds
  generalize gt m n true was ds = ts at *
  generalize ds.length = p at *
  go_enter Tryd.func25, Tryd.ntmps25
  go_wp2_with (refine wpList_load_w rfl 28 (.tmp 4) rfl w.heap.size 0 rfl (vB was) _ r4.all Tryd.underlying28 rfl Hw.info ?_; simp only [Act.put, List.setIfInBounds_toArray, List.set_cons_zero, List.set_cons_succ])
  refine (HS.out _ hb).mono ?_
  rintro e V ⟨tv, vs, rfl, tx, hB⟩
  replace tx := tx.less (M := w.heap.size) hb.size
  replace hb := hb.trans (hB.mono hb.size)
  clear hB r4
  have n0 : Row (V.alloc (Obj.cells z65.toArray 77)) V.heap.size z65 77 := Row.new' rfl rfl
  have T0 := n0.there 0 (cm x y tv).toArray.size (by rw [List.size_toArray, cm_len Hx Hy]; decide)
  have rc := n0.over (vs := cm x y tv) (by rw [cm_len Hx Hy]; rfl)
  have hB : Below V.heap.size V ((V.alloc (Obj.cells z65.toArray 77)).setCells V.heap.size 0 (cm x y tv)) := below_setCells ((Below.refl _ _).alloc (Nat.le_refl _) _) (Nat.le_refl _) _
  have hone := own_one tx.own
  replace tx := tx.below hB
  replace hb := hb.trans (hB.mono hb.size)
  have g64 := cm_t Hx Hy rc
  clear hB n0 rc
  go_wp2_with (refine wpList_store_mid rfl 77 (.tmp 9) (.tmp 16) rfl V.heap.size 0 (cm x y tv).toArray rfl rfl T0 (cm_info' Hx Hy _) (cm_one hone) ?_; simp only [Act.put]; clear T0; (change wpList _ _ _ _ _ ((V.alloc (Obj.cells z65.toArray 77)).setCells V.heap.size 0 (cm x y tv))); (generalize (V.alloc (Obj.cells z65.toArray 77)).setCells V.heap.size 0 (cm x y tv) = X9 at *))
  go_ret
  exact ⟨tv, vs, rfl, tx, hb⟩

end Go.Proofs.YtnogjhbohljjnabDoor
