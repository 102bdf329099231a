/-
  EscrowHeld: laws of the walk; a cut that is told by what it wipes.
-/
import Derived.Test.YtefjonidpmpjbaaEsP0
import Derived.Test.YtefjonidpmpjbaaTFp
import Derived.Deep.Cut
namespace Go.Proofs.Ytefjonidpmpjbaa
open Go Go.RowKit Go.Maps
open Wd

/-- What may be written is struck. -/
def wipeL : List Value → List Bool → List Value
  | v :: r, b :: bs => (bif b then undef else v) :: wipeL r bs
  | l, [] => l
  | [], _ => []
/-- What may be written is whatever f tells. -/
def overL : List Value → List Bool → Nat → (Nat → Value) → List Value
  | v :: r, b :: bs, k, f => (bif b then f k else v) :: overL r bs (k + 1) f
  | l, [], _, _ => l
  | [], _, _, _ => []
theorem over_eq : ∀ (bs : List Bool) (l l' : List Value) (k0 : Nat) (f : Nat → Value), l'.length = l.length → (∀ k, f (k0 + k) = l'.getD k undef) → wipeL l' bs = wipeL l bs → l' = overL l bs k0 f
  | [], [], [], _, _, _, _, _ => rfl
  | [], [], _ :: _, _, _, hl, _, _ => by simp at hl
  | [], _ :: _, [], _, _, hl, _, _ => by simp at hl
  | [], _ :: _, _ :: _, _, _, _, _, h => h
  | b :: bs, [], l', _, _, hl, _, _ => by
    cases l' with
    | nil => rfl
    | cons _ _ => simp at hl
  | b :: bs, v :: r, [], _, _, hl, _, _ => by simp at hl
  | b :: bs, v :: r, v' :: r', k0, f, hl, hf, h => by
    simp only [wipeL, List.cons.injEq] at h
    have ih := over_eq bs r r' (k0 + 1) f (by simpa using hl) (fun k => by rw [show k0 + 1 + k = k0 + (k + 1) by omega, hf (k + 1)]; rfl) h.2
    have h0 : f k0 = v' := hf 0
    simp only [overL, List.cons.injEq]
    refine ⟨?_, ih⟩
    cases b
    · simpa using h.1
    · simpa using h0.symm
theorem wp_cutW (bs : List Bool) {P : Program} {s : Code} {K : Act → World → Prop} {Q' : Exit → Act → World → Prop} {l : List Value} {d : List Deferred} {w : World} (Pw : World → Prop)
    (rest : ∀ (f : Nat → Value) (w' : World), Pw w' → K ⟨(overL l bs 0 f).toArray, d⟩ w')
    (first : ∀ K' : Act → World → Prop, (∀ (l' : List Value) (w' : World), wipeL l' bs = wipeL l bs → l'.length = l.length → Pw w' → K' ⟨l'.toArray, d⟩ w') → s.wp P (Exit.then K' Q') ⟨l.toArray, d⟩ w) : s.wp P (Exit.then K Q') ⟨l.toArray, d⟩ w := by
  refine wp_mono (first (fun a' w' => ∃ l' : List Value, a' = ⟨l'.toArray, d⟩ ∧ wipeL l' bs = wipeL l bs ∧ l'.length = l.length ∧ Pw w') (fun l' w' h1 h2 h3 => ⟨l', rfl, h1, h2, h3⟩)) ?_
  intro e a' w' hq
  cases e with
  | normal =>
    obtain ⟨l', rfl, h1, h2, h3⟩ := hq
    rw [over_eq bs l l' 0 (fun k => l'.getD k undef) h2 (fun k => by rw [Nat.zero_add]) h1]
    exact rest _ w' h3
  | exit id => exact hq
  | goto l => exact hq
  | ret => exact hq
  | panic ch => exact hq
  | outgrown => exact hq

section
variable {P : Program} {Q : Exit → Act → World → Prop} {o : Oper} {a : Act} {w : World} {K : Act → World → Prop}
theorem wp_ixs (T e : TypeId) {x y : Operand} (ho : o.op = .indexAddr T x y) (b f n c t s : Nat) (hx : a.eval x = .slice (some ⟨b, f, none⟩) n c) (hy : a.eval y = .int .i64 (t : Int)) (ht : t < n)
    (hu : P.underlying T = some (.slice e)) (hs : (P.info? e).map (·.size) = some s) (h : K (a.put o.dst (.pointer (some ⟨b, f + t * s, none⟩))) w) : Oper.wp P o a w K Q := by
  refine wp_pure (v := .pointer (some ⟨b, f + t * s, none⟩)) ?_ h
  have hr : (Instr.indexAt T (.slice (some ⟨b, f, none⟩) n c) (.int .i64 (t : Int))).run P w = .ok (.pointer (some ⟨b, f + t * s, none⟩)) w := by
    cases hi : P.info? e with
    | none => rw [hi] at hs; cases hs
    | some ie =>
      rw [hi] at hs
      have h4 : ie.size = s := by simpa using hs
      simp [Instr.indexAt, run_underlying hu, asIntOf, ht, sizeOf, typeInfo, hi, h4, Addr.add_mid]
  unfold execOp
  simp only [ho, hx, hy, Sem.run_bind, hr, Result.andThen_ok]
  rfl
theorem wp_load_1 {ty : TypeId} {x : Operand} (b f : Nat) (v : Value) (ho : o.op = .load ty x) (hx : a.eval x = .pointer (some ⟨b, f, none⟩)) (hr : (loadVar ty ⟨b, f, none⟩).run P w = .ok v w) (h : K (a.put o.dst v) w) : Oper.wp P o a w K Q := by
  unfold Oper.wp execOp
  simp only [ho, hx, Instr.loadAt, Instr.sureAddr, Sem.run_bind, Sem.run_pure, Result.andThen_ok, hr, Oper.upon_value]
  exact h
end
section
variable {P : Program} {ops : Array Oper} {rest : List Oper} {op : Oper} {a : Act} {w : World} {Q : Exit → Act → World → Prop}
theorem wpList_ixs (T e : TypeId) (x y : Operand) (ho : op.op = .indexAddr T x y) (b f n c t s : Nat) (hx : a.eval x = .slice (some ⟨b, f, none⟩) n c) (hy : a.eval y = .int .i64 (t : Int)) (ht : t < n)
    (hu : P.underlying T = some (.slice e)) (hs : (P.info? e).map (·.size) = some s) (hw : Region.wanted op (yielded ops a.tmps) = true) (h : wpList P ops Q rest (a.put op.dst (.pointer (some ⟨b, f + t * s, none⟩))) w) : wpList P ops Q (op :: rest) a w :=
  BigFrame.wpList_want hw fun _ hK => wp_ixs T e ho b f n c t s hx hy ht hu hs (hK _ _ h)
end
theorem run_load_in (w : World) (b f : Nat) (v : Value) (h : w.cell? ⟨b, f, none⟩ = some v) : (loadVar 3 ⟨b, f, none⟩).run Try.prog w = .ok v w := by
  simp [loadVar, isAgg, run_underlying Try.underlying3, h]
section
variable {Q : Exit → Act → World → Prop} {o : Oper} {a : Act} {w : World} {K : Act → World → Prop}
theorem wp_sf1 {x : Operand} (b f : Nat) (ho : o.op = .fieldAddr 35 x 1) (hx : a.eval x = .pointer (some ⟨b, f, none⟩)) (h : K (a.put o.dst (.pointer (some ⟨b, f + 1, none⟩))) w) : Oper.wp Try.prog o a w K Q := by
  obtain ⟨dst, op, ty, pos, after, guard⟩ := o
  simp only at ho
  subst ho
  unfold Oper.wp execOp
  simp only [hx]
  go_simp
  exact h
theorem wp_sf2 {x : Operand} (b f : Nat) (ho : o.op = .fieldAddr 35 x 2) (hx : a.eval x = .pointer (some ⟨b, f, none⟩)) (h : K (a.put o.dst (.pointer (some ⟨b, f + 2, none⟩))) w) : Oper.wp Try.prog o a w K Q := by
  obtain ⟨dst, op, ty, pos, after, guard⟩ := o
  simp only at ho
  subst ho
  unfold Oper.wp execOp
  simp only [hx]
  go_simp
  exact h
theorem wp_sf4 {x : Operand} (b f : Nat) (ho : o.op = .fieldAddr 35 x 4) (hx : a.eval x = .pointer (some ⟨b, f, none⟩)) (h : K (a.put o.dst (.pointer (some ⟨b, f + 4, none⟩))) w) : Oper.wp Try.prog o a w K Q := by
  obtain ⟨dst, op, ty, pos, after, guard⟩ := o
  simp only at ho
  subst ho
  unfold Oper.wp execOp
  simp only [hx]
  go_simp
  exact h
theorem wp_neq_c (x y : Operand) (yt : TypeId) (ho : o.op = .binOp .neq 33 x y yt) {c : List Value} {m : Nat} (Hc : Wc c m) (hx : a.eval x = .agg c.toArray) (hy : a.eval y = .agg c.toArray)
    (h : K (a.put o.dst (.bool false)) w) : Oper.wp Try.prog o a w K Q := by
  have hr := run_neq_w w (dgs m 4) (dgs m 4) (dgs_length _ _) (dgs_length _ _)
  rw [Hc] at hx hy
  unfold Oper.wp execOp
  simp only [ho, hx, hy, Sem.run_bind, run_eqGuard_agg w .neq _ x y _ _ guard_wide, Result.andThen_ok, hr, Sem.run_pure, Oper.upon_value]
  simpa using h
end
theorem und_Ws : Try.prog.underlying 42 = some (.slice 33) := by kernel_rfl
theorem und_Ss : Try.prog.underlying 22 = some (.slice 35) := by kernel_rfl
theorem info_S : (Try.prog.info? 35).map (·.size) = some 8 := by kernel_rfl
theorem wpList_mk64 {ops : Array Oper} {rest : List Oper} {op : Oper} {a : Act} {w : World} {Q : Exit → Act → World → Prop} (hgd : op.guard = none) (ho : op.op = .makeSlice 42 (.const (.int .i64 64)) (.const (.int .i64 64)))
    (h : ∀ X, Row X w.heap.size (hcells fun _ => 0) 33 → Below w.heap.size w X → wpList Try.prog ops Q rest (a.put op.dst (.slice (some ⟨w.heap.size, 0, none⟩) 64 64)) X) : wpList Try.prog ops Q (op :: rest) a w :=
  wpList_plain hgd fun _ hK => by
    unfold Oper.wp execOp
    simp only [ho, Act.eval, Sem.run_bind, mk64, Result.andThen_ok, Sem.run_pure, Oper.upon_value]
    exact hK _ _ (h _ (Row.new' rfl rfl) ((Below.refl _ _).alloc (Nat.le_refl _) _))
theorem changing_l {w0 w : World} {p c : Nat} {s s' : St} {E : Int} (h : Vl w0 w p c s) (hc : c + 1 < maxLen) (r : Stv) (hr : r.Ok) {k : Int} (hk : pk r.kd 11 = k) (hs : act s k r = (s', E)) :
    Calls Try.prog 12 #[.pointer (some ⟨p, 0, none⟩), .agg r.cells.toArray] w fun e w' => e = .returned (.tuple #[.bool (decide (k < 7)), .int .i64 E]) ∧ Vl w0 w' p (c + 2) s' ∧ Kq p w w' := by
  obtain ⟨m1, m2, hV, hl⟩ := h
  have h9 := changing_any hV hc r hr
  rw [hk, hs] at h9
  exact h9.mono fun e w' hC => ⟨hC.1, (Vl.call hV hl (r := (s', E)) (e := .returned (.int .i64 E)) ⟨rfl, hC.2⟩).2⟩

end Go.Proofs.Ytefjonidpmpjbaa
