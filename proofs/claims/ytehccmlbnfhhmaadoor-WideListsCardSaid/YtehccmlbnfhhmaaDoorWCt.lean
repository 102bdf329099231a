/-
  Lists of numbers: cut, built, grown; pick.
-/
import Derived.Test.YtehccmlbnfhhmaaDoorWSum
import Derived.Test.YtehccmlbnfhhmaaDoorWFp
import Derived.Great.BuildSlice
import Derived.Laws.AppendOwn
namespace Go.Proofs.YtehccmlbnfhhmaaDoor
open Go Go.RowKit
open Wd

theorem len4' {c : List Value} (h : c.length = 4) : ∃ x y z u, c = [x, y, z, u] := by
  match c, h with
  | [x, y, z, u], _ => exact ⟨x, y, z, u, rfl⟩
/-- Cells that stay. -/
def RgAt (W : World) (b o : Nat) (c : List Value) : Prop := W.rangeAt b o c ∧ b < W.heap.size
theorem RgAt.below {W W' : World} {b o : Nat} {c : List Value} (h : RgAt W b o c) (hB : Below W.heap.size W W') : RgAt W' b o c := ⟨fun i v hv => (hB.cell (p := ⟨b, o + i, none⟩) h.2).trans (h.1 i v hv), Nat.lt_of_lt_of_le h.2 hB.size⟩

/-! ### Cut -/
theorem Ws.take {W : World} {A : Option Addr} {xs : List Nat} (h : Ws W A xs) (k : Nat) : Ws W A (xs.take k) := fun i hi => by
  rw [List.length_take] at hi
  obtain ⟨b, o, e, h1, h2⟩ := h i (by omega)
  refine ⟨b, o, e, ?_, h2⟩
  have e2 : (xs.take k).getD i 0 = xs.getD i 0 := by
    rw [List.getD_eq_getElem?_getD, List.getElem?_take_of_lt (by omega), ← List.getD_eq_getElem?_getD]
  rw [e2]
  exact h1
theorem Ws.drop {W : World} {b o : Nat} {xs : List Nat} (h : Ws W (some ⟨b, o, none⟩) xs) (k : Nat) : Ws W (some ⟨b, o + k * 4, none⟩) (xs.drop k) := fun i hi => by
  rw [List.length_drop] at hi
  obtain ⟨b', o', e, h1, h2⟩ := h (k + i) (by omega)
  obtain ⟨rfl, rfl⟩ : b = b' ∧ o = o' := by simpa using e
  refine ⟨b, _, rfl, ?_, h2⟩
  have e2 : (xs.drop k).getD i 0 = xs.getD (k + i) 0 := by
    rw [List.getD_eq_getElem?_getD, List.getElem?_drop, ← List.getD_eq_getElem?_getD]
  rw [e2, show o + k * 4 + i * 4 = o + (k + i) * 4 by omega]
  exact h1
theorem Ws.nil (W : World) (A : Option Addr) : Ws W A [] := fun i hi => by simp at hi
theorem info_all_w : (Tryd.prog.info? 24).map (fun i => (i.size, i.bytes)) = some (4, 32) := by kernel_rfl
theorem info_zero_w : ((Tryd.prog.info? 24).bind (·.zero)).map (·.cells) = some #[.int .u64 0, .int .u64 0, .int .u64 0, .int .u64 0] := by kernel_rfl
theorem info_w_open : ∃ ie z, Tryd.prog.info? 24 = some ie ∧ ie.zero = some z ∧ ie.size = 4 ∧ ie.bytes = 32 ∧ z.cells = #[.int .u64 0, .int .u64 0, .int .u64 0, .int .u64 0] := by
  have i1 := info_all_w
  have i2 := info_zero_w
  cases hi : Tryd.prog.info? 24 with
  | none => rw [hi] at i1; cases i1
  | some ie =>
    rw [hi] at i1 i2
    cases hz : ie.zero with
    | none => simp [hz] at i2
    | some z =>
      have i3 : ie.size = 4 ∧ ie.bytes = 32 := by simpa using i1
      exact ⟨ie, z, rfl, hz, i3.1, i3.2, by simpa [hz] using i2⟩

section
variable {ops : Array Oper} {rest : List Oper} {op : Oper} {a : Act} {w : World} {Q : Exit → Act → World → Prop}
theorem run_slice_hw (w0 w : World) (A : Option Addr) (n cap : Nat) (xs : List Nat) (hn : xs.length = n) (hA : 0 < n → ∃ b o, A = some ⟨b, o, none⟩) (h : Ws w0 A xs) (hc : n ≤ cap) (k : Nat) (hk : k ≤ n) :
    ∃ B c, (Instr.sliceAt 26 (.slice A n cap) none (some (.int .i64 (k : Int))) none).run Tryd.prog w = .ok (.slice B k c) w ∧ Ws w0 B (xs.take k) := by
  obtain ⟨ie, z, hq, _, h4, _, _⟩ := info_w_open
  have hu := Tryd.underlying26
  by_cases h0 : n = 0
  · subst h0
    obtain rfl : k = 0 := by omega
    rw [List.take_zero]
    cases A with
    | none => exact ⟨_, cap, by simp [Instr.sliceAt, Instr.slice, run_underlying hu, Instr.sliceBounds, Instr.sliceBound, asIntOf, sizeOf, typeInfo, hq]; rfl, Ws.nil _ _⟩
    | some p => exact ⟨_, cap, by simp [Instr.sliceAt, Instr.slice, run_underlying hu, Instr.sliceBounds, Instr.sliceBound, asIntOf, sizeOf, typeInfo, hq]; rfl, Ws.nil _ _⟩
  · obtain ⟨b, o, rfl⟩ := hA (by omega)
    have hkc : k ≤ cap := by omega
    exact ⟨some ⟨b, o, none⟩, cap, by simp [Instr.sliceAt, Instr.slice, run_underlying hu, Instr.sliceBounds, Instr.sliceBound, asIntOf, sizeOf, typeInfo, hq, hkc, Addr.add], h.take k⟩
theorem run_slice_lw (w0 w : World) (A : Option Addr) (n cap : Nat) (xs : List Nat) (hn : xs.length = n) (hA : 0 < n → ∃ b o, A = some ⟨b, o, none⟩) (h : Ws w0 A xs) (hc : n ≤ cap) (k : Nat) (hk : k ≤ n) :
    ∃ B c, (Instr.sliceAt 26 (.slice A n cap) (some (.int .i64 (k : Int))) none none).run Tryd.prog w = .ok (.slice B (n - k) c) w ∧ Ws w0 B (xs.drop k) := by
  obtain ⟨ie, z, hq, _, h4, _, _⟩ := info_w_open
  have hu := Tryd.underlying26
  by_cases h0 : n = 0
  · subst h0
    obtain rfl : k = 0 := by omega
    have hxs : xs = [] := List.length_eq_zero_iff.1 hn
    subst hxs
    cases A with
    | none => exact ⟨_, cap, by simp [Instr.sliceAt, Instr.slice, run_underlying hu, Instr.sliceBounds, Instr.sliceBound, asIntOf, sizeOf, typeInfo, hq]; rfl, Ws.nil _ _⟩
    | some p => exact ⟨_, cap, by simp [Instr.sliceAt, Instr.slice, run_underlying hu, Instr.sliceBounds, Instr.sliceBound, asIntOf, sizeOf, typeInfo, hq]; rfl, Ws.nil _ _⟩
  · obtain ⟨b, o, rfl⟩ := hA (by omega)
    by_cases h2 : cap = k
    · have hkn : k = n := by omega
      refine ⟨some ⟨b, o, none⟩, cap - k, by simp [Instr.sliceAt, Instr.slice, run_underlying hu, Instr.sliceBounds, Instr.sliceBound, asIntOf, sizeOf, typeInfo, hq, h2, hk, Addr.add_mid], ?_⟩
      rw [hkn, ← hn, List.drop_length]
      exact Ws.nil _ _
    · exact ⟨some ⟨b, o + k * 4, none⟩, cap - k, by simp [Instr.sliceAt, Instr.slice, run_underlying hu, Instr.sliceBounds, Instr.sliceBound, asIntOf, sizeOf, typeInfo, hq, h2, hk, Addr.add_mid, h4], h.drop k⟩
theorem wpList_slice_hw (hgd : op.guard = none) (x z : Operand) (ho : op.op = .slice 26 x none (some z) none) (w0 : World) (A : Option Addr) (n cap : Nat) (xs : List Nat) (hn : xs.length = n) (hA : 0 < n → ∃ b o, A = some ⟨b, o, none⟩) (hv : Ws w0 A xs) (hc : n ≤ cap)
    (k : Nat) (hx : a.eval x = .slice A n cap) (hz : a.eval z = .int .i64 (k : Int)) (hk : k ≤ n)
    (h : ∀ B c, Ws w0 B (xs.take k) → wpList Tryd.prog ops Q rest (a.put op.dst (.slice B k c)) w) : wpList Tryd.prog ops Q (op :: rest) a w :=
  wpList_plain hgd fun _ hK => by
    obtain ⟨B, c, hr, hS⟩ := run_slice_hw w0 w A n cap xs hn hA hv hc k hk
    unfold Oper.wp execOp
    simp only [ho, hx, hz, Option.map_some, Option.map_none, Sem.run_bind, hr, Result.andThen_ok, Sem.run_pure, Oper.upon_value]
    exact hK _ _ (h _ _ hS)
theorem wpList_slice_lw (hgd : op.guard = none) (x z : Operand) (ho : op.op = .slice 26 x (some z) none none) (w0 : World) (A : Option Addr) (n cap : Nat) (xs : List Nat) (hn : xs.length = n) (hA : 0 < n → ∃ b o, A = some ⟨b, o, none⟩) (hv : Ws w0 A xs) (hc : n ≤ cap)
    (k : Nat) (hx : a.eval x = .slice A n cap) (hz : a.eval z = .int .i64 (k : Int)) (hk : k ≤ n)
    (h : ∀ B c, Ws w0 B (xs.drop k) → wpList Tryd.prog ops Q rest (a.put op.dst (.slice B (n - k) c)) w) : wpList Tryd.prog ops Q (op :: rest) a w :=
  wpList_plain hgd fun _ hK => by
    obtain ⟨B, c, hr, hS⟩ := run_slice_lw w0 w A n cap xs hn hA hv hc k hk
    unfold Oper.wp execOp
    simp only [ho, hx, hz, Option.map_some, Option.map_none, Sem.run_bind, hr, Result.andThen_ok, Sem.run_pure, Oper.upon_value]
    exact hK _ _ (h _ _ hS)

/-! ### Built, and grown -/
theorem wpList_build1 (hg : op.guard = none) (x : Operand) (ho : op.op = .buildSlice 26 1 #[(0, x)]) (c : List Value) (hc : c.length = 4) (hx : a.eval x = .agg c.toArray) (N : Nat) (hN : w.heap.size = N)
    (h : wpList Tryd.prog ops Q rest (a.put op.dst (.slice (some ⟨N, 0, none⟩) 1 1)) (w.alloc (.cells c.toArray 24))) : wpList Tryd.prog ops Q (op :: rest) a w := by
  subst hN
  obtain ⟨c0, c1, c2, c3, rfl⟩ := len4' hc
  obtain ⟨ie, z, h1, h2, h3, _, h4⟩ := info_w_open
  refine wpList_buildSlice hg 26 24 1 _ ho _ ie z Tryd.underlying26 h1 h2 (by rw [h3]; decide) (by rw [h3]; decide) ?_ h
  rw [h3, h4]
  rw [show (Array.map (fun (p : Nat × Operand) => match p with | (i, x) => (i, a.eval x)) #[(0, x)]).toList = [(0, a.eval x)] by simp, hx]
  rw [show (Array.range (1 * 4)).map (fun x => (#[.int .u64 0, .int .u64 0, .int .u64 0, .int .u64 0] : Array Value)[x % (#[.int .u64 0, .int .u64 0, .int .u64 0, .int .u64 0] : Array Value).size]!) = #[.int .u64 0, .int .u64 0, .int .u64 0, .int .u64 0] by kernel_rfl]
  simp [Instr.fill, Value.cells]
theorem ownsW_below {B N e size n : Nat} {w w' : World} {v : Value} {xs : List Value} (h : w.ownsRow N e size v n xs) (k : Below B w w') (hB : w.heap.size ≤ B) : w'.ownsRow N e size v n xs := by
  obtain ⟨h1, h2⟩ := h
  refine ⟨h1, ?_⟩
  rcases h2 with h2 | ⟨g, cap, cur, hv, hg, hh, r⟩
  · exact .inl h2
  · exact .inr ⟨g, cap, cur, hv, hg, (k.block g (Nat.lt_of_lt_of_le (Array.getElem?_eq_some_iff.1 hh).1 hB)).trans hh, r⟩
theorem wpList_append_w (hgd : op.guard = none) (s x : Operand) (ho : op.op = .call { callee := .builtin .append, args := #[s, x], argTypes := #[26, 26] }) (W0 Wa : World) (M : Nat) (v : Value) (n m : Nat) (c : List Value) (Hc : Wc c m) (l : List Value)
    (hown : W0.ownsRow M 24 4 v n l) (hs : a.eval s = v) (hx : a.eval x = .slice (some ⟨W0.heap.size, 0, none⟩) 1 1) (hk : (n + 1) * 32 ≤ 140737488355328) (hM : M ≤ W0.heap.size) (hb : Below M Wa W0)
    (h : ∀ v' w', w'.ownsRow M 24 4 v' (n + 1) (l ++ c) → Below M Wa w' → wpList Tryd.prog ops Q rest (a.put op.dst v') w') :
    wpList Tryd.prog ops Q (op :: rest) a (W0.alloc (.cells c.toArray 24)) := by
  obtain ⟨ie, z, h1, h2, h3, h5, h4⟩ := info_w_open
  have hk0 : Below W0.heap.size W0 (W0.alloc (.cells c.toArray 24)) := (Below.refl _ _).alloc (Nat.le_refl _) _
  have hown1 := ownsW_below hown hk0 (Nat.le_refl _)
  have hr : Row (W0.alloc (.cells c.toArray 24)) W0.heap.size c 24 := Row.new _ _ _
  have hN1 : M ≤ (W0.alloc (.cells c.toArray 24)).heap.size := Nat.le_trans hM hk0.size
  have hcell := hr.all
  have hb1 : Below M Wa (W0.alloc (.cells c.toArray 24)) := hb.alloc hM _
  generalize hW1 : W0.alloc (.cells c.toArray 24) = W1 at *
  refine wpList_append_own _ hgd s x 26 ho M 24 ie z 4 32 Tryd.underlying26 h1 h2 h3 h5 (by rw [h4]; rfl) (by decide) v n l hs hown1 ⟨W0.heap.size, 0, none⟩ 1 1 c hx (by rw [Hc.len]) ?_ ?_ (by unfold maxLen; omega) hk hN1 ?_
  · intro j u hj; rw [Addr.add_mid]; exact hcell j u hj
  · intro u hu
    rw [Hc] at hu
    exact vQ_one _ u hu
  · intro v' w' h2 h3 _
    refine h v' w' h2 (hb1.grown h3 hN1 (fun k hk => ?_))
    rcases hown1.2 with ⟨h2, _⟩ | ⟨g', cap, cur, hv, hg, _⟩
    · rw [h2] at hk; simp [Value.ownBlock] at hk
    · rw [hv] at hk; simp [Value.ownBlock] at hk; omega
end

/-- The cells of a list of numbers. -/
def flat (xs : List Nat) : List Value := xs.flatMap (fun x => vQ (dgs x 4))
theorem flat_length : ∀ xs : List Nat, (flat xs).length = xs.length * 4
  | [] => rfl
  | x :: r => by
    have := flat_length r
    unfold flat at this ⊢
    rw [List.flatMap_cons, List.length_append, this, vQ_length, dgs_length, List.length_cons]
    omega
theorem flat_get : ∀ (xs : List Nat) (i j : Nat), i < xs.length → j < 4 → (flat xs)[i * 4 + j]? = (vQ (dgs (xs.getD i 0) 4))[j]?
  | x :: r, 0, j, _, hj => by
    unfold flat
    rw [List.flatMap_cons, Nat.zero_mul, Nat.zero_add, List.getElem?_append_left (by rw [vQ_length, dgs_length]; exact hj)]
    rfl
  | x :: r, i + 1, j, hi, hj => by
    have ih := flat_get r i j (by simpa using hi) hj
    unfold flat at ih ⊢
    rw [List.flatMap_cons, List.getElem?_append_right (by rw [vQ_length, dgs_length]; omega), vQ_length, dgs_length, show (i + 1) * 4 + j - 4 = i * 4 + j by omega, ih]
    simp
theorem flat_append (xs ys : List Nat) : flat (xs ++ ys) = flat xs ++ flat ys := by unfold flat; rw [List.flatMap_append]
theorem flat_one (x : Nat) : flat [x] = vQ (dgs x 4) := by simp [flat]
theorem owns_ws {W : World} {M n : Nat} {v : Value} {xs : List Nat} (h : W.ownsRow M 24 4 v n (flat xs)) (hn : xs.length = n) : ∃ A cap, v = .slice A n cap ∧ Ws W A xs := by
  rcases h.2 with ⟨h2, h0⟩ | ⟨g, cap, cur, hv, hg, hh, hc, hx, hs, ht⟩
  · subst h0
    exact ⟨none, 0, h2, by rw [List.length_eq_zero_iff.1 hn]; exact Ws.nil _ _⟩
  · refine ⟨some ⟨g, 0, none⟩, cap, hv, fun i hi => ⟨g, 0, rfl, fun j u hj => ?_, (Array.getElem?_eq_some_iff.1 hh).1⟩⟩
    have hr : Row W g cur.toList 24 := by unfold Row; rw [hh]
    have hj4 : j < 4 := by have := (List.getElem?_eq_some_iff.1 hj).1; rw [vQ_length, dgs_length] at this; exact this
    have h3 := flat_get xs i j hi hj4
    rw [hj, ← ht, List.getElem?_take_of_lt (by omega)] at h3
    rw [show 0 + i * 4 + j = i * 4 + j by omega]
    exact hr.cell _ _ h3
theorem row_ws {W : World} {N : Nat} {c : List Value} {x : Nat} (Hc : Wc c x) (r : Row W N c 24) : Ws W (some ⟨N, 0, none⟩) [x] := fun i hi => by
  have h0 : i = 0 := by simpa using hi
  subst h0
  refine ⟨N, 0, rfl, ?_, Row.lt r⟩
  rw [show 0 + 0 * 4 = 0 from rfl, show ([x].getD 0 0) = x from rfl, ← show c = vQ (dgs x 4) from Hc]
  exact r.all

section
variable {Q : Exit → Act → World → Prop} {o : Oper} {a : Act} {w : World} {K : Act → World → Prop}
theorem wp_index_ws {x y : Operand} (ho : o.op = .indexAddr 26 x y) (b f n c t : Nat) (hx : a.eval x = .slice (some ⟨b, f, none⟩) n c) (hy : a.eval y = .int .i64 (t : Int)) (ht : t < n)
    (h : K (a.put o.dst (.pointer (some ⟨b, f + t * 4, none⟩))) w) : Oper.wp Tryd.prog o a w K Q := by
  refine wp_pure (v := .pointer (some ⟨b, f + t * 4, none⟩)) ?_ h
  unfold execOp
  simp only [ho, hx, hy, Sem.run_bind, run_indexAt_ws w b f n c t ht, Result.andThen_ok]
  rfl
theorem wp_neq_c (x y : Operand) (yt : TypeId) (ho : o.op = .binOp .neq 24 x y yt) {c d : List Value} {m n : Nat} (Hc : Wc c m) (Hd : Wc d n) (hm : m < 2 ^ 256) (hn : n < 2 ^ 256) (hx : a.eval x = .agg c.toArray) (hy : a.eval y = .agg d.toArray)
    {B : Bool} (hB : (!decide (m = n)) = B) (h : K (a.put o.dst (.bool B)) w) : Oper.wp Tryd.prog o a w K Q := by
  have hr := run_neq_w w (dgs m 4) (dgs n 4) (dgs_length _ _) (dgs_length _ _)
  rw [show decide (dgs m 4 = dgs n 4) = decide (m = n) by rw [Bool.eq_iff_iff]; simp only [decide_eq_true_eq]; exact dgs_eq m n hm hn, hB] at hr
  rw [Hc] at hx
  rw [Hd] at hy
  unfold Oper.wp execOp
  simp only [ho, hx, hy, Sem.run_bind, run_eqGuard_agg w .neq _ x y _ _ guard_wide, Result.andThen_ok, hr, Sem.run_pure, Oper.upon_value]
  exact h
theorem wp_neq0_v {x : Operand} {t yt : TypeId} (ho : o.op = .binOp .neq t x (.const (.int .i64 0)) yt) (hx : a.eval x = .int .i64 0) (h : K (a.put o.dst (.bool false)) w) : Oper.wp Tryd.prog o a w K Q := by
  unfold Oper.wp execOp
  simp only [ho, hx, show a.eval (.const (.int .i64 0)) = .int .i64 0 from rfl]
  simp [go_sem]
  exact h
theorem wp_pick_f {c x y : Operand} (v : Value) (ho : o.op = .pick c x y) (hc : a.eval c = .bool false) (hy : a.eval y = v) (h : K (a.put o.dst v) w) : Oper.wp Tryd.prog o a w K Q := by
  unfold Oper.wp execOp
  simp only [ho, hc, hy]
  simp [go_sem]
  exact h
end

end Go.Proofs.YtehccmlbnfhhmaaDoor
