/-
  sparse: the teller of a proof, what its steps keep.
-/
import Derived.Test.YtfdgdmehgbmnkaaDoorSpO
import Derived.Test.YtfdgdmehgbmnkaaDoorTSd
namespace Go.Proofs.YtfdgdmehgbmnkaaDoor
open Go Go.RowKit
open Sha

theorem own_row {W : World} {N e size n : Nat} {v : Value} {xs : List Value} (h : W.ownsRow N e size v n xs) (g : Nat) (hg : v.ownBlock = some g) : ∃ cs, Row W g cs e := by
  rcases h.2 with ⟨h2, _⟩ | ⟨g', cap, cur, hv, _, hh, _⟩
  · rw [h2] at hg; simp [Value.ownBlock] at hg
  · rw [hv] at hg
    simp only [Value.ownBlock, Option.some.injEq] at hg
    subst hg
    exact ⟨cur.toList, by unfold Row; rw [hh]⟩
theorem own_keep {W W' : World} {N e size n : Nat} {v : Value} {xs : List Value} (h : W.ownsRow N e size v n xs) (hb : ∀ g, v.ownBlock = some g → W'.heap[g]? = W.heap[g]?) : W'.ownsRow N e size v n xs := by
  obtain ⟨h1, h2⟩ := h
  refine ⟨h1, ?_⟩
  rcases h2 with h2 | ⟨g, cap, cur, hv, hg, hh, q⟩
  · exact .inl h2
  · exact .inr ⟨g, cap, cur, hv, hg, by rw [hb g (by rw [hv]; rfl)]; exact hh, q⟩
theorem own_grown {W W' : World} {N e size n : Nat} {v : Value} {xs : List Value} {k : Option Nat} (h : W.ownsRow N e size v n xs) (hg : W.grownBy W' k) (hk : ∀ g, k = some g → ∃ cs t, Row W g cs t ∧ t ≠ e) : W'.ownsRow N e size v n xs :=
  own_keep h fun g e1 => by
    obtain ⟨cs, r⟩ := own_row h g e1
    exact hg.block g r.lt fun e2 => by
      obtain ⟨cs', t, r', hne⟩ := hk g e2.symm
      exact row_ne r' r hne rfl
theorem own_setc {W : World} {N e size n b : Nat} {v : Value} {xs cs : List Value} {t : TypeId} (h : W.ownsRow N e size v n xs) (r : Row W b cs t) (hne : e ≠ t) (i : Nat) (u : Value) : (W.setCell ⟨b, i, none⟩ u).ownsRow N e size v n xs :=
  ownsRow_setCell_other h (by
    intro e1
    obtain ⟨cs', r'⟩ := own_row h b e1
    exact row_ne r' r hne rfl) u
theorem row_grown {W W' : World} {b : Nat} {cs : List Value} {t : TypeId} {k : Option Nat} (r : Row W b cs t) (hg : W.grownBy W' k) (hk : ∀ g, k = some g → ∃ cs' t', Row W g cs' t' ∧ t' ≠ t) : Row W' b cs t := by
  unfold Row
  rw [hg.block b r.lt fun e2 => by
    obtain ⟨cs', t', r', hne⟩ := hk b e2.symm
    exact row_ne r' r hne rfl]
  exact r
theorem own_put {W : World} {N g n cap : Nat} {l : List (BitVec 8)} (h : W.ownsRow N 5 1 (.slice (some ⟨g, 0, none⟩) n cap) n (vB l)) (i : Nat) (y : BitVec 8) : (W.setCell ⟨g, i, none⟩ (.int .u8 (c y))).ownsRow N 5 1 (.slice (some ⟨g, 0, none⟩) n cap) n (vB (l.set i y)) := by
  obtain ⟨h1, h2⟩ := h
  refine ⟨by rw [vB_length, List.length_set, ← vB_length]; exact h1, ?_⟩
  rcases h2 with ⟨h2, _⟩ | ⟨g', cap', cur, hv, hg, hh, q1, q2, q3, q4⟩
  · cases h2
  · simp only [Value.slice.injEq, Option.some.injEq, Addr.mk.injEq] at hv
    obtain ⟨⟨rfl, _, _⟩, _, rfl⟩ := hv
    have r : Row W g cur.toList 5 := by unfold Row; rw [hh]
    have r2 := r.set i (.int .u8 (c y))
    refine .inr ⟨g, cap, (cur.toList.set i (.int .u8 (c y))).toArray, rfl, hg, r2, q1, q2, by simp [← q3], ?_⟩
    rw [List.take_set, q4]
    unfold vB
    rw [List.map_set]
theorem own_cell {W : World} {N g n cap : Nat} {l : List (BitVec 8)} (h : W.ownsRow N 5 1 (.slice (some ⟨g, 0, none⟩) n cap) n (vB l)) (i : Nat) (x : BitVec 8) (hx : l[i]? = some x) : W.cell? ⟨g, i, none⟩ = some (.int .u8 (c x)) := by
  rcases h.2 with ⟨h2, _⟩ | ⟨g', cap', cur, hv, hg, hh, q1, q2, q3, q4⟩
  · cases h2
  · simp only [Value.slice.injEq, Option.some.injEq, Addr.mk.injEq] at hv
    obtain ⟨⟨rfl, _, _⟩, _, rfl⟩ := hv
    have r : Row W g cur.toList 5 := by unfold Row; rw [hh]
    refine r.cell i _ ?_
    have e1 : (vB l)[i]? = some (.int .u8 (c x)) := by unfold vB; rw [List.getElem?_map, hx]; rfl
    rw [← q4] at e1
    have hlt := (List.getElem?_eq_some_iff.1 e1).1
    rw [List.length_take] at hlt
    rwa [List.getElem?_take_of_lt (by omega)] at e1
/-- Rows of other kinds than a proof's stand. -/
def KpT (w W : World) : Prop := ∀ x cs t, t ≠ 5 → t ≠ 29 → t ≠ 90 → Row w x cs t → Row W x cs t
theorem KpT.refl (w : World) : KpT w w := fun _ _ _ _ _ _ h => h
theorem KpT.trans {w W X : World} (h : KpT w W) (k : KpT W X) : KpT w X := fun x cs t h1 h2 h3 r => k x cs t h1 h2 h3 (h x cs t h1 h2 h3 r)
theorem KpT.of {w W : World} (k : Below w.heap.size w W) : KpT w W := fun _ _ _ _ _ _ r => Row.below r k r.lt
theorem KpT.grown {W X : World} {k : Option Nat} (hg : W.grownBy X k) (hk : ∀ g, k = some g → ∃ cs t, Row W g cs t ∧ (t = 5 ∨ t = 29)) : KpT W X := fun x cs t h1 h2 h3 r =>
  row_grown r hg fun g e => by
    obtain ⟨cs', t', r', ht⟩ := hk g e
    exact ⟨cs', t', r', fun e2 => ht.elim (fun h => h1 (e2.symm.trans h)) (fun h => h2 (e2.symm.trans h))⟩
theorem KpT.setc {W : World} {b : Nat} {cs' : List Value} {t' : TypeId} (r' : Row W b cs' t') (ht : t' = 5 ∨ t' = 90) (i : Nat) (v : Value) : KpT W (W.setCell ⟨b, i, none⟩ v) := fun _ _ _ h1 _ h3 r =>
  Row.set_other r _ _ _ (row_ne r r' fun e => ht.elim (fun h => h1 (e.trans h)) (fun h => h3 (e.trans h)))
/-- A teller: so many marks are told, so many digests stand beside them; the array of these lies ahead of H. -/
def TlAt (w : World) (b H k s : Nat) : Prop := ∃ va vb l ys, Row w b [va, vb, .int .i64 (k : Int)] 90 ∧ w.ownsRow (b + 1) 5 1 va ((k + 3) / 4) (vB l) ∧ w.ownsRow (b + 1) 29 32 vb s ys ∧ (∀ g, vb.ownBlock = some g → g < H)
theorem TlAt.be {w w' : World} {b H k s : Nat} (h : TlAt w b H k s) (hB : Below w.heap.size w w') : TlAt w' b H k s := by
  obtain ⟨va, vb, l, ys, h1, h2, h3, h4⟩ := h
  exact ⟨va, vb, l, ys, Row.below h1 hB h1.lt, ownsRow_below h2 hB (Nat.le_refl _), ownsRow_below h3 hB (Nat.le_refl _), h4⟩
theorem below_setC2 {B : Nat} {a w : World} (h : Below B a w) {b : Nat} (hb : B ≤ b) (i : Nat) (v : Value) : Below B a (w.setCell ⟨b, i, none⟩ v) := below_setCells (o := i) h hb [v]
section
variable {o : Oper} {a : Act} {w : World} {K : Act → World → Prop} {Q : Exit → Act → World → Prop}
theorem or_byteS (x y : BitVec 8) : bits BinOp.or IntKind.u8 (c x) (c y) = c (x ||| y) := by
  unfold c
  rw [u8_or_nat _ _ x.isLt y.isLt, BitVec.toNat_or]
theorem wp_tl0 {x : Operand} (ho : o.op = .fieldAddr 90 x 0) (B : Nat) (hx : a.eval x = .pointer (some ⟨B, 0, none⟩)) (h : K (a.put o.dst (.pointer (some ⟨B, 0, none⟩))) w) : Oper.wp Tryd.prog o a w K Q := by
  unfold Oper.wp execOp
  simp only [ho, hx]
  go_simp
  exact h
theorem wp_tl1 {x : Operand} (ho : o.op = .fieldAddr 90 x 1) (B : Nat) (hx : a.eval x = .pointer (some ⟨B, 0, none⟩)) (h : K (a.put o.dst (.pointer (some ⟨B, 2, none⟩))) w) : Oper.wp Tryd.prog o a w K Q := by
  unfold Oper.wp execOp
  simp only [ho, hx]
  go_simp
  exact h
theorem wp_pr0 {x : Operand} (ho : o.op = .fieldAddr 48 x 0) (B : Nat) (hx : a.eval x = .pointer (some ⟨B, 0, none⟩)) (h : K (a.put o.dst (.pointer (some ⟨B, 0, none⟩))) w) : Oper.wp Tryd.prog o a w K Q := by
  unfold Oper.wp execOp
  simp only [ho, hx]
  go_simp
  exact h
theorem ld_B (w : World) (b f : Nat) (v : Value) (h : w.cell? ⟨b, f, none⟩ = some v) : (loadVar 46 ⟨b, f, none⟩).run Tryd.prog w = .ok v w := by
  simp [loadVar, isAgg, run_underlying Tryd.underlying46, h]
theorem ld_D (w : World) (b f : Nat) (v : Value) (h : w.cell? ⟨b, f, none⟩ = some v) : (loadVar 30 ⟨b, f, none⟩).run Tryd.prog w = .ok v w := by
  simp [loadVar, isAgg, run_underlying Tryd.underlying30, h]
theorem ld_U (w : World) (b f : Nat) (v : Value) (h : w.cell? ⟨b, f, none⟩ = some v) : (loadVar 5 ⟨b, f, none⟩).run Tryd.prog w = .ok v w := by
  simp [loadVar, isAgg, run_underlying Tryd.underlying5, h]
theorem wp_ldV {x : Operand} {ty : TypeId} (b f : Nat) (v : Value) (ho : o.op = .load ty x) (hx : a.eval x = .pointer (some ⟨b, f, none⟩)) (hr : (loadVar ty ⟨b, f, none⟩).run Tryd.prog w = .ok v w) (h : K (a.put o.dst v) w) : Oper.wp Tryd.prog o a w K Q := by
  unfold Oper.wp execOp
  simp only [ho, hx, Instr.loadAt, Instr.sureAddr, Sem.run_bind, Sem.run_pure, Result.andThen_ok, hr, Oper.upon_value]
  exact h
theorem wp_quo4 {x : Operand} {t yt : TypeId} (ho : o.op = .binOp .quo t x (.const (.int .i64 4)) yt) (k q : Nat) (hq : q = k / 4) (hb : k < 1152921504606846976) (hx : a.eval x = .int .i64 (k : Int)) (h : K (a.put o.dst (.int .i64 (q : Int))) w) : Oper.wp Tryd.prog o a w K Q := by
  have hc : a.eval (.const (.int .i64 4)) = .int .i64 4 := rfl
  unfold Oper.wp execOp
  simp only [ho, hx, hc]
  go_simp
  rw [show IntKind.i64.wrap ((k : Int) / 4) = (q : Int) by rw [IntKind.wrap_i64]; omega]
  exact h
theorem wp_orU {x y : Operand} {t yt : TypeId} (ho : o.op = .binOp .or t x y yt) (u v : BitVec 8) (hx : a.eval x = .int .u8 (c u)) (hy : a.eval y = .int .u8 (c v)) (h : K (a.put o.dst (.int .u8 (c (u ||| v)))) w) : Oper.wp Tryd.prog o a w K Q := by
  rw [← or_byteS] at h
  unfold Oper.wp execOp
  simp only [ho, hx, hy]
  simp [go_sem]
  exact h
theorem wp_shlU {x y : Operand} {t yt : TypeId} (ho : o.op = .binOp .shl t x y yt) (u : BitVec 8) (s : Nat) (hs : s < 8) (hx : a.eval x = .int .u8 (c u)) (hy : a.eval y = .int .i64 (s : Int)) (h : K (a.put o.dst (.int .u8 (c (u <<< s)))) w) : Oper.wp Tryd.prog o a w K Q := by
  have e : (c u * 2 ^ s) % 256 = c (u <<< s) := by
    unfold c
    rw [BitVec.toNat_shiftLeft, Nat.shiftLeft_eq]
    simp
  unfold Oper.wp execOp
  simp only [ho, hx, hy]
  go_simp
  rw [show IntKind.u8.wrap (c u * 2 ^ s) = c (u <<< s) from (by rw [← e]; rfl)]
  exact h
end
set_option maxRecDepth 100000 in
theorem shiftOf_any (k : Nat) (w : World) : Calls Tryd.prog 81 #[.int .i64 (k : Int)] w fun e w' => e = .returned (.int .i64 ((8 - 2 * (k % 4 + 1) : Nat) : Int)) ∧ w' = w := by
  obtain ⟨m, hm⟩ : ∃ m, m = k % 4 := ⟨_, rfl⟩
  have em : (k : Int).tmod 4 = (m : Int) := by rw [hm]; exact (Int.ofNat_tmod k 4).symm
  have hm4 : m < 4 := by omega
  have er : (8 : Int) - 2 * ((m : Int) + 1) = ((8 - 2 * (m + 1) : Nat) : Int) := by omega
  rw [← hm, ← er]
  clear hm er
  go_enter Tryd.func81, Tryd.ntmps81
  go_wp2
  go_ret
  exact ⟨rfl, rfl⟩

end Go.Proofs.YtfdgdmehgbmnkaaDoor
