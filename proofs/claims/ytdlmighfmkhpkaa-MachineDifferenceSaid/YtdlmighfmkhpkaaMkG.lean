/-
  lists that are owned; instructions.
-/
import Derived.Test.YtdlmighfmkhpkaaWEq
import Derived.Test.YtdlmighfmkhpkaaWDivU
import Derived.Test.YtdlmighfmkhpkaaWOM
import Derived.Laws.MakeOwn
import Derived.Laws.OwnMore
import Derived.BigQuiet
import Derived.Test.YtdlmighfmkhpkaaMkF

namespace Go.Proofs.Ytdlmighfmkhpkaa
open Go Go.RowKit
open Wd

theorem i64_and1 (n : Int) : bits .and .i64 n 1 = n % 2 := by
  have h1 : (BitVec.ofInt 64 1).toNat = 2 ^ 1 - 1 := by decide
  have key : (BitVec.ofInt 64 n &&& BitVec.ofInt 64 1).toNat = (n % ((2 ^ 64 : Nat) : Int)).toNat % 2 ^ 1 := by
    rw [BitVec.toNat_and, BitVec.toNat_ofInt, h1, Nat.and_two_pow_sub_one_eq_mod]
  show IntKind.i64.wrap ((BitVec.ofInt 64 n &&& BitVec.ofInt 64 1).toNat : Nat) = n % 2
  rw [key, IntKind.wrap_i64]
  omega
theorem wrap_mod2 (y : Nat) : IntKind.i64.wrap (y : Int) % 2 = ((y % 2 : Nat) : Int) := by
  rw [IntKind.wrap_i64]
  omega
theorem info_all_int : (Try.prog.info? 3).map (fun i => (i.zero, i.size, i.bytes)) = some (some (.int .i64 0), 1, 8) := by kernel_rfl
theorem made_ints (n : Nat) : madeCells (Value.int IntKind.i64 0).cells (n * 1) = (vI (List.replicate n 0)).toArray := by
  apply Array.ext'
  rw [show (Value.int IntKind.i64 0).cells = #[Value.int IntKind.i64 0] from rfl, toList_madeCells_one]
  simp [vI]
section
variable {P : Program} {ops : Array Oper} {rest : List Oper} {op : Oper} {a : Act} {w : World} {Q : Exit → Act → World → Prop}
/-- make of n numbers. -/
theorem wpList_make_i (hgd : op.guard = none) (t : TypeId) (x y : Operand) (ho : op.op = .makeSlice t x y) (e : TypeId) (n : Nat) (l l' : Int) (hl : l = (n : Int)) (hl' : l' = (n : Int)) (hx : a.eval x = .int .i64 l) (hy : a.eval y = .int .i64 l') (hn : n ≤ 35184372088832)
    (hu : P.underlying t = some (.slice e)) (hi : (P.info? e).map (fun i => (i.zero, i.size, i.bytes)) = some (some (.int .i64 0), 1, 8))
    (h : wpList P ops Q rest (a.put op.dst (.slice (some ⟨w.heap.size, 0, none⟩) n n)) (w.alloc (.cells (vI (List.replicate n 0)).toArray e))) : wpList P ops Q (op :: rest) a w :=
  wpList_plain hgd fun _ hK => by
    subst hl; subst hl'
    obtain ⟨i, hi0, hz, hs, hb⟩ := info_parts hi
    have hr := run_make (P := P) w t e i (.int .i64 0) hu hi0 hz .i64 .i64 (n : Int) (n : Int) (by omega) (by omega) (by rw [hb]; omega) (by omega)
    rw [hs, Int.toNat_natCast, made_ints] at hr
    unfold Oper.wp execOp
    simp only [ho, hx, hy, Sem.run_bind, hr, Result.andThen_ok, Sem.run_pure, Oper.upon_value]
    exact hK _ _ h
end

theorem drewN_add' (w : World) (m k : Nat) : (w.drewN m).drewN k = w.drewN (m + k) := by simp [World.drewN, Nat.add_assoc]
theorem fillB (a t : Nat) (h : t < 256) : (bts a t ++ List.replicate (256 - t) 0).set t (bt a t) = bts a (t + 1) ++ List.replicate (256 - (t + 1)) 0 := by
  rw [bts_succ, fill _ t 256 _ (bts_length _ _) h]

end Go.Proofs.Ytdlmighfmkhpkaa

namespace Go.Proofs.Ytdlmighfmkhpkaa
open Go Go.RowKit
open Sha
open Wd

/-- What the bytes at a place say: code, number, small number, size. -/
def ri (b : List (BitVec 8)) : Option (Nat × Nat × Nat × Nat) := match b with
  | [] => none
  | x :: r => if 28 ≤ x.toNat then none else if r.length < ow (oper x.toNat) r then none else
    match ro (oper x.toNat) (r.take (ow (oper x.toNat) r)) with
    | none => none
    | some (a, n) => some (x.toNat, a, n, 1 + ow (oper x.toNat) r)
theorem ri_size {b : List (BitVec 8)} {c a n s : Nat} (h : ri b = some (c, a, n, s)) : c < 28 ∧ 1 ≤ s ∧ s ≤ 257 ∧ s ≤ b.length := by
  cases b with
  | nil => cases h
  | cons x r =>
    unfold ri at h
    simp only at h
    split at h
    · cases h
    · split at h
      · cases h
      · split at h
        · cases h
        · rename_i h1 h2 _ _ _ _
          simp only [Option.some.injEq, Prod.mk.injEq] at h
          obtain ⟨rfl, _, _, rfl⟩ := h
          have := ow_le (oper x.toNat) r
          rw [List.length_cons]
          omega
theorem cons_cell {w : World} {g o : Nat} {x : BitVec 8} {r : List (BitVec 8)} (h : w.rangeAt g o (vB (x :: r))) : w.cell? ⟨g, o, none⟩ = some (.int .u8 ((x.toNat : Nat) : Int)) := h 0 _ rfl
theorem cons_rest {w : World} {g o : Nat} {x : BitVec 8} {r : List (BitVec 8)} (h : w.rangeAt g o (vB (x :: r))) : w.rangeAt g (o + 1) (vB r) := fun j v hj => by
  have := h (j + 1) v hj
  rwa [show o + (j + 1) = o + 1 + j by omega] at this
theorem readI_some (T g o n cap : Nat) (b : List (BitVec 8)) (hn : b.length = n) (hc : n ≤ cap) (c a m s : Nat) (h : ri b = some (c, a, m, s)) (w : World) (hT : Row w T mtab 72) (hr : w.rangeAt g o (vB b)) : Calls Try.prog 17 #[.slice (some ⟨T, 0, none⟩) 28 28, .slice (some ⟨g, o, none⟩) n cap] w fun e w' => e = .returned (.tuple #[.agg (ic c 0 a m).toArray, .int .i64 (s : Int)]) ∧ Below w.heap.size w w' := by
  cases b with
  | nil => cases h
  | cons x r =>
    unfold ri at h
    simp only at h
    split at h
    · cases h
    · split at h
      · cases h
      · split at h
        · cases h
        · rename_i h1 h2 _ _ _ h3
          simp only [Option.some.injEq, Prod.mk.injEq] at h
          obtain ⟨rfl, rfl, rfl, rfl⟩ := h
          exact ri_4 T g o n cap _ x.isLt r hn hc (by omega) (by omega) _ _ h3 w hT (cons_rest hr) (cons_cell hr)
theorem readI_none (T g o n cap : Nat) (b : List (BitVec 8)) (hn : b.length = n) (h0 : 0 < n) (hc : n ≤ cap) (h : ri b = none) (w : World) (hT : Row w T mtab 72) (hr : w.rangeAt g o (vB b)) : Calls Try.prog 17 #[.slice (some ⟨T, 0, none⟩) 28 28, .slice (some ⟨g, o, none⟩) n cap] w fun e w' => e = .returned (.tuple #[.agg zI.toArray, .int .i64 0]) ∧ Below w.heap.size w w' := by
  cases b with
  | nil => simp at hn; omega
  | cons x r =>
    unfold ri at h
    simp only at h
    split at h
    · rename_i h1
      exact ri_1 T g o n cap _ x.isLt r hn hc h1 w hT (cons_rest hr) (cons_cell hr)
    · split at h
      · rename_i h1 h2
        exact ri_2 T g o n cap _ x.isLt r hn hc (by omega) h2 w hT (cons_rest hr) (cons_cell hr)
      · split at h
        · rename_i h1 h2 h3
          exact ri_3 T g o n cap _ x.isLt r hn hc (by omega) (by omega) h3 w hT (cons_rest hr) (cons_cell hr)
        · cases h
/-- Lists that are owned, of any type. -/
abbrev Lw (w : World) (e : TypeId) (s : Nat) (v : Value) (n : Nat) (xs : List Value) : Prop := w.ownsRow 0 e s v n xs
section
variable {w w' : World} {v : Value} {e : TypeId} {s n : Nat} {xs : List Value}
theorem Lw.lt (h : Lw w e s v n xs) : ∀ g, v.ownBlock = some g → g < w.heap.size := fun g e => (World.ownsRow.lt h g e).2
theorem Lw.block (h : Lw w e s v n xs) (k : ∀ g, v.ownBlock = some g → w'.heap[g]? = w.heap[g]?) : Lw w' e s v n xs := by
  obtain ⟨h1, h2⟩ := h
  refine ⟨h1, ?_⟩
  rcases h2 with h2 | ⟨g, cap, cur, hv, hg, hh, r⟩
  · exact .inl h2
  · exact .inr ⟨g, cap, cur, hv, hg, (k g (by rw [hv]; rfl)).trans hh, r⟩
theorem Lw.be (h : Lw w e s v n xs) (k : Below w.heap.size w w') : Lw w' e s v n xs := Lw.block h fun g e => k.block g (Lw.lt h g e)
theorem Lw.gro {R : Nat → Prop} (h : Lw w e s v n xs) (k : Gro R w w') (hR : ∀ g, v.ownBlock = some g → ¬ R g) : Lw w' e s v n xs := Lw.block h fun g e => k.block g (Lw.lt h g e) (hR g e)
theorem Lw.ne {b : Nat} {cs : List Value} {t : TypeId} (h : Lw w e s v n xs) (r : Row w b cs t) (ht : t ≠ e) : ∀ g, v.ownBlock = some g → g ≠ b := fun g e q => by
  subst q
  obtain ⟨_, h2⟩ := h
  rcases h2 with ⟨h2, _⟩ | ⟨g', cap, cur, hv, hg, hh, _⟩
  · rw [h2] at e; cases e
  · rw [hv] at e
    obtain rfl : g' = g := by simpa [Value.ownBlock] using e
    have := hh.symm.trans r
    simp only [Option.some.injEq, Obj.cells.injEq] at this
    exact ht this.2.1.symm
theorem Lw.nil (w : World) (e : TypeId) (s : Nat) : Lw w e s (.slice none 0 0) 0 [] := ⟨by simp, .inl ⟨rfl, rfl⟩⟩
theorem Lw.form (h : Lw w e s v n xs) : ∃ A cap, v = .slice A n cap ∧ n ≤ cap ∧ (A = none → cap = 0) := by
  obtain ⟨_, h2⟩ := h
  rcases h2 with ⟨h2, h3⟩ | ⟨g, cap, cur, hv, hg, hh, hc, _⟩
  · exact ⟨none, 0, by rw [h2, h3], by rw [h3]; exact Nat.le_refl _, fun _ => rfl⟩
  · exact ⟨_, cap, hv, hc, fun q => by cases q⟩
theorem Lw.len (h : Lw w e s v n xs) : xs.length = n * s := h.1
theorem Lw.open (h : Lw w e s v n xs) (hn : 0 < n) : ∃ g cap, v = .slice (some ⟨g, 0, none⟩) n cap ∧ n ≤ cap := by
  obtain ⟨_, h2⟩ := h
  rcases h2 with ⟨h2, h3⟩ | ⟨g, cap, cur, hv, hg, hh, hc, _⟩
  · omega
  · exact ⟨g, cap, hv, hc⟩
theorem Lw.range {g cap : Nat} (h : Lw w e s (.slice (some ⟨g, 0, none⟩) n cap) n xs) : w.rangeAt g 0 xs := fun j u hj => by
  have hlt : j < n * s := by have := (List.getElem?_eq_some_iff.1 hj).1; rwa [Lw.len h] at this
  rw [Nat.zero_add]
  exact (World.ownsRow.cellAt h j hlt).trans hj
end
section
variable {Q : Exit → Act → World → Prop} {o : Oper} {a : Act} {w : World} {K : Act → World → Prop}
/-- append of one element onto a list that is owned. -/
theorem wp_appL (t e : TypeId) (sz bt : Nat) (hu : Try.prog.underlying t = some (.slice e)) (hi : ∃ ie z, Try.prog.info? e = some ie ∧ ie.zero = some z ∧ ie.size = sz ∧ ie.bytes = bt ∧ z.cells.size = sz) (h0 : 0 < sz) (hb0 : bt ≤ 4096) (s x : Operand) (ho : o.op = .call { callee := .builtin .append, args := #[s, x], argTypes := #[t, t] }) (v : Value) (n : Nat) (l news : List Value) (hs : a.eval s = v) (hown : Lw w e sz v n l)
    (g2 : Nat) (hm : news.length = sz) (hx : a.eval x = .slice (some ⟨g2, 0, none⟩) 1 1) (hX : w.rangeAt g2 0 news) (h1 : ∀ v ∈ news, v.oneCell' = true) (hk : n ≤ 1000000)
    (h : ∀ v' w', Lw w' e sz v' (n + 1) (l ++ news) → w.grownBy w' v.ownBlock → (v'.ownBlock = v.ownBlock ∨ v'.ownBlock = some w.heap.size) → K (a.put o.dst v') w') : Oper.wp Try.prog o a w K Q := by
  obtain ⟨ie, z, i1, i2, i3, i5, i4⟩ := hi
  obtain ⟨v', w', hr, q2, q3, _, q5⟩ := run_append_own_at (P := Try.prog) w 0 t o.type e ie z sz bt hu i1 i2 i3 i5 i4 h0 v n l hown ⟨g2, 0, none⟩ 1 1 news (by rw [hm, Nat.one_mul]) (fun j u hj => by rw [Addr.add_mid]; exact hX j u hj) h1 (by unfold maxLen; omega) (by
    have : bt * (n + 1) ≤ 4096 * 1000001 := Nat.mul_le_mul hb0 (by omega)
    rw [Nat.mul_comm] at this
    omega) (Nat.zero_le _)
  unfold Oper.wp execOp
  simp only [ho, resolve, invoke, builtin, Sem.run_bind, Sem.run_pure, Result.andThen_ok, List.map_toArray, List.map_cons, List.map_nil, hs, hx, hr]
  exact h v' w' q2 q3 q5
end

end Go.Proofs.Ytdlmighfmkhpkaa
