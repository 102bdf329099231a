/-
  Lists of numbers: made, copied; room, alike.
-/
import Derived.Test.YtehccmlbnfhhmaaDoorWCt
import Derived.Laws.CopyOwn
import Derived.Laws.MakeOwn
namespace Go.Proofs.YtehccmlbnfhhmaaDoor
open Go Go.RowKit
open Wd

theorem flat_zero : ∀ n : Nat, flat (List.replicate n 0) = List.replicate (n * 4) (.int .u64 0)
  | 0 => rfl
  | n + 1 => by
    rw [List.replicate_succ, show (0 : Nat) :: List.replicate n 0 = [0] ++ List.replicate n 0 from rfl, flat_append, flat_zero n, flat_one, dgs_zero, show (n + 1) * 4 = n * 4 + 4 by omega]
    rfl
theorem made_w (n : Nat) : madeCells #[.int .u64 0, .int .u64 0, .int .u64 0, .int .u64 0] (n * 4) = (flat (List.replicate n 0)).toArray := by
  apply Array.ext'
  rw [flat_zero]
  apply List.ext_getElem?
  intro j
  by_cases hj : j < n * 4
  · have h4 : j % 4 = 0 ∨ j % 4 = 1 ∨ j % 4 = 2 ∨ j % 4 = 3 := by omega
    rcases h4 with h | h | h | h <;> simp [madeCells, hj, h]
  · simp [madeCells, hj]
section
variable {ops : Array Oper} {rest : List Oper} {op : Oper} {a : Act} {w : World} {Q : Exit → Act → World → Prop}
theorem wpList_make_w (hgd : op.guard = none) (x y : Operand) (ho : op.op = .makeSlice 26 x y) (n : Nat) (hx : a.eval x = .int .i64 (n : Int)) (hy : a.eval y = .int .i64 (n : Int)) (hn : n * 32 ≤ 281474976710656)
    (h : wpList Tryd.prog ops Q rest (a.put op.dst (.slice (some ⟨w.heap.size, 0, none⟩) n n)) (w.alloc (.cells (flat (List.replicate n 0)).toArray 24))) : wpList Tryd.prog ops Q (op :: rest) a w :=
  wpList_plain hgd fun _ hK => by
    obtain ⟨ie, z, h1, h2, h3, h5, h4⟩ := info_w_open
    have hr := run_make (P := Tryd.prog) w 26 24 ie z Tryd.underlying26 h1 h2 .i64 .i64 (n : Int) (n : Int) (by omega) (by omega) (by rw [h5]; omega) (by omega)
    rw [h3, h4, Int.toNat_natCast, made_w] at hr
    unfold Oper.wp execOp
    simp only [ho, hx, hy, Sem.run_bind, hr, Result.andThen_ok]
    exact hK _ _ h
theorem run_copy4 (w : World) (ty : TypeId) (g dLen dCap : Nat) (ad : Addr) (sLen sCap : Nat) (cur : Array Value) (t : TypeId) (cs : List Value) (m : Nat) (hm : Nat.min sLen dLen = m)
    (hg : w.heap[g]? = some (.cells cur t (0, 0))) (hn : cs.length = m * 4)
    (hsrc : ∀ j v, cs[j]? = some v → w.cell? (ad.add j) = some v) (hfit : cs.length ≤ cur.size) (h1 : ∀ v ∈ cs, v.oneCell' = true) :
    (Builtin.copy_ #[26, 26] ty #[.slice (some ⟨g, 0, none⟩) dLen dCap, .slice (some ad) sLen sCap]).run Tryd.prog w =
      .ok (goInt m) (w.setRow g (cs ++ cur.toList.drop cs.length).toArray) := by
  obtain ⟨ie, z, hq, _, hi, _, _⟩ := info_w_open
  have hl := run_loadCells_list (P := Tryd.prog) w ad cs hsrc
  have hst := run_storeCells_at Tryd.prog g 0 t cs 0 cur w hg (by simpa using hfit) h1
  simp [Builtin.copy_, run_underlying Tryd.underlying26, Builtin.lenOf, Builtin.firstCells, sizeOf, typeInfo, hq, hi, hm, ← hn, hl, hst]
theorem run_copy4_none (w : World) (ty : TypeId) (d s : Option Addr) (dLen dCap sLen sCap : Nat) (hm : Nat.min sLen dLen = 0) :
    (Builtin.copy_ #[26, 26] ty #[.slice d dLen dCap, .slice s sLen sCap]).run Tryd.prog w = .ok (goInt 0) w := by
  obtain ⟨ie, z, hq, _, _, _, _⟩ := info_w_open
  have hl : ∀ p : Addr, (loadCells p 0).run Tryd.prog w = .ok #[] w := fun p => run_loadCells_list (P := Tryd.prog) w p [] (fun j v hj => by simp at hj)
  cases d with
  | none => cases s <;> simp [Builtin.copy_, run_underlying Tryd.underlying26, Builtin.lenOf, Builtin.firstCells, sizeOf, typeInfo, hq, hm, hl]
  | some d => cases s <;> simp [Builtin.copy_, run_underlying Tryd.underlying26, Builtin.lenOf, Builtin.firstCells, sizeOf, typeInfo, hq, hm, hl, storeCells]
/-- copy, from the first place on. -/
theorem wpList_copy4 (hgd : op.guard = none) (d s : Operand) (ho : op.op = .call { callee := .builtin .copy, args := #[d, s], argTypes := #[26, 26] })
    (g dLen dCap : Nat) (sp : Option Addr) (sLen sCap : Nat) (hd : a.eval d = .slice (some ⟨g, 0, none⟩) dLen dCap) (hs : a.eval s = .slice sp sLen sCap)
    (cur : List Nat) (r : Row w g (flat cur) 24) (xs : List Nat) (hn : xs.length = sLen) (hx : Ws w sp xs) (hdl : dLen ≤ cur.length)
    (h : ∀ w', Row w' g (flat (xs.take dLen ++ cur.drop (Nat.min sLen dLen))) 24 → Below g w w' → w'.heap.size = w.heap.size → (∀ b, b ≠ g → w'.heap[b]? = w.heap[b]?) → wpList Tryd.prog ops Q rest (a.put op.dst (goInt (Nat.min sLen dLen))) w') : wpList Tryd.prog ops Q (op :: rest) a w := by
  refine wpList_plain hgd fun K hK => ?_
  by_cases h0 : Nat.min sLen dLen = 0
  · have hrun := run_copy4_none w op.type (some ⟨g, 0, none⟩) sp dLen dCap sLen sCap h0
    have e : xs.take dLen = [] := by
      rw [← hn] at h0
      apply List.eq_nil_of_length_eq_zero
      rw [List.length_take]
      simpa [Nat.min_comm] using h0
    have h2 := h w (by rw [e, h0, List.drop_zero, List.nil_append]; exact r) (Below.refl _ _) rfl (fun _ _ => rfl)
    rw [h0] at h2
    refine wp_pure (v := goInt 0) ?_ (hK _ _ h2)
    simp [execOp, ho, resolve, invoke, builtin, hd, hs, hrun, Result.andThen]
  · obtain ⟨m, hm⟩ : ∃ m, Nat.min sLen dLen = m := ⟨_, rfl⟩
    have hml : m ≤ sLen ∧ m ≤ dLen := by rw [← hm]; exact ⟨Nat.min_le_left _ _, Nat.min_le_right _ _⟩
    have hxl : 0 < xs.length := by omega
    have etk : xs.take dLen = xs.take m := by
      rw [← hm, ← hn]
      rcases Nat.le_total xs.length dLen with hh | hh
      · rw [List.take_of_length_le hh, show Nat.min xs.length dLen = xs.length from Nat.min_eq_left hh, List.take_length]
      · rw [show Nat.min xs.length dLen = dLen from Nat.min_eq_right hh]
    obtain ⟨b, o, rfl, _, _⟩ := hx 0 hxl
    have hlen : (flat (xs.take m)).length = m * 4 := by rw [flat_length, List.length_take, Nat.min_eq_left (by omega)]
    have hrun := run_copy4 w op.type g dLen dCap ⟨b, o, none⟩ sLen sCap (flat cur).toArray 24 (flat (xs.take m)) m hm r hlen (fun j v hj => by
      have hjl : j < m * 4 := by have := (List.getElem?_eq_some_iff.1 hj).1; rw [hlen] at this; exact this
      obtain ⟨b', o', e', h1, _⟩ := hx (j / 4) (by omega)
      obtain ⟨rfl, rfl⟩ : b = b' ∧ o = o' := by simpa using e'
      rw [Addr.add_mid]
      have h3 := flat_get (xs.take m) (j / 4) (j % 4) (by rw [List.length_take]; omega) (Nat.mod_lt _ (by decide))
      rw [show j / 4 * 4 + j % 4 = j by omega, hj] at h3
      have e2 : (xs.take m).getD (j / 4) 0 = xs.getD (j / 4) 0 := by
        rw [List.getD_eq_getElem?_getD, List.getElem?_take_of_lt (by omega), ← List.getD_eq_getElem?_getD]
      rw [e2] at h3
      have h4 := h1 (j % 4) v h3.symm
      rw [show o + j / 4 * 4 + j % 4 = o + j by omega] at h4
      exact h4) (by rw [hlen]; simp [flat_length]; omega) (fun v hv => by
      unfold flat at hv
      obtain ⟨x, _, hx⟩ := List.mem_flatMap.1 hv
      exact vQ_one _ v hx)
    have e5 : flat (xs.take m) ++ (flat cur).drop (flat (xs.take m)).length = flat (xs.take m ++ cur.drop m) := by
      have h7 : flat cur = flat (cur.take m) ++ flat (cur.drop m) := by rw [← flat_append, List.take_append_drop]
      have h8 : (flat cur).drop (m * 4) = flat (cur.drop m) := by rw [h7, List.drop_left' (by rw [flat_length, List.length_take, Nat.min_eq_left (by omega)])]
      rw [flat_append, hlen, h8]
    have hrow : Row (w.setRow g (flat (xs.take m) ++ (flat cur).drop (flat (xs.take m)).length).toArray) g (flat (xs.take m ++ cur.drop m)) 24 := by
      rw [e5]
      exact setRow_heap w g _ _ _ _ r
    have h2 := h _ (by rw [etk, hm]; exact hrow) (below_setRow (Below.refl _ _) (Nat.le_refl _) _) (by simp [World.setRow]) (fun b' hb' => setRow_other w g b' _ hb')
    rw [hm] at h2
    have hex : (execOp a.eval op).run Tryd.prog w = .ok (.value (goInt m)) (w.setRow g (flat (xs.take m) ++ (flat cur).drop (flat (xs.take m)).length).toArray) := by
      generalize (flat (xs.take m) ++ (flat cur).toArray.toList.drop (flat (xs.take m)).length).toArray = R at hrun
      simp [execOp, ho, resolve, invoke, builtin, hd, hs, hrun, Result.andThen]
    unfold Oper.wp
    rw [hex]
    exact hK _ _ h2
end

end Go.Proofs.YtehccmlbnfhhmaaDoor
