/-
  what a program's bytes say.
-/
import Derived.Test.YtdlmighfmkhpkaaMkI
namespace Go.Proofs.Ytdlmighfmkhpkaa
open Go Go.RowKit
open Sha
open Wd

section
variable {ops : Array Oper} {rest : List Oper} {op : Oper} {a : Act} {w : World} {Q : Exit → Act → World → Prop}
/-- A store of one cell, into a row. -/
theorem wpList_set1 (hgd : op.guard = none) (ty : TypeId) (x y : Operand) (ho : op.op = .store ty x y)
    (b i : Nat) (v : Value) (cs : List Value) (t : TypeId) (hx : a.eval x = .pointer (some ⟨b, i, none⟩)) (hy : a.eval y = v) (hcs : v.cells = #[v]) (r : Row w b cs t) (hl : i < cs.length) (hi : (Try.prog.info? ty).map (·.size) = some 1) (h1 : v.oneCell' = true)
    (h : ∀ X, Row X b (cs.set i v) t → Gro (· = b) w X → X.heap.size = w.heap.size → wpList Try.prog ops Q rest (a.put op.dst undef) X) : wpList Try.prog ops Q (op :: rest) a w :=
  wpList_store1 hgd ty x y ho b i v hx hy hcs (r.there i 1 (by omega)) hi h1 (h _ (r.set i v) ((Gro.refl _ _).set b i v rfl) (by simp))
theorem wpList_makeI (hgd : op.guard = none) (x y : Operand) (ho : op.op = .makeSlice 47 x y) (n : Nat) (hx : a.eval x = .int .i64 (n : Int)) (hy : a.eval y = .int .i64 (n : Int)) (hn : n ≤ 35184372088832)
    (h : ∀ X, Row X w.heap.size (vI (List.replicate n 0)) 3 → Below w.heap.size w X → X.heap.size = w.heap.size + 1 → wpList Try.prog ops Q rest (a.put op.dst (.slice (some ⟨w.heap.size, 0, none⟩) n n)) X) : wpList Try.prog ops Q (op :: rest) a w :=
  wpList_make_i hgd 47 x y ho 3 n _ _ rfl rfl hx hy hn Try.underlying47 info_all_int (h _ (Row.new' rfl rfl) ((Below.refl _ _).alloc (Nat.le_refl _) _) (by simp))
theorem wpList_build1 (t e : TypeId) (sz : Nat) (hu : Try.prog.underlying t = some (.slice e)) (hi : ∃ ie z, Try.prog.info? e = some ie ∧ ie.zero = some z ∧ ie.size = sz ∧ z.cells.size = sz) (h0 : 0 < sz) (hs : sz ≤ 4096) (hgd : op.guard = none) (x : Operand) (ho : op.op = .buildSlice t 1 #[(0, x)]) (L : List Value) (hL : L.length = sz) (hx : a.eval x = .agg L.toArray)
    (h : ∀ X, Row X w.heap.size L e → Below w.heap.size w X → X.heap.size = w.heap.size + 1 → wpList Try.prog ops Q rest (a.put op.dst (.slice (some ⟨w.heap.size, 0, none⟩) 1 1)) X) : wpList Try.prog ops Q (op :: rest) a w := by
  obtain ⟨ie, z, h1, h2, h3, h4⟩ := hi
  refine wpList_buildSlice hgd t e 1 _ ho L.toArray ie z hu h1 h2 (by rw [h3]; omega) (by rw [h3]; omega) ?_ (h _ (Row.new' rfl rfl) ((Below.refl _ _).alloc (Nat.le_refl _) _) (by simp))
  rw [show (Array.map (fun (p : Nat × Operand) => match p with | (i, x) => (i, a.eval x)) #[(0, x)]).toList = [(0, a.eval x)] by simp, hx, h3]
  exact fill_one sz h0 _ _ (by simp [hL]) (by simp)
theorem wpList_appL (t e : TypeId) (sz bt : Nat) (hu : Try.prog.underlying t = some (.slice e)) (hi : ∃ ie z, Try.prog.info? e = some ie ∧ ie.zero = some z ∧ ie.size = sz ∧ ie.bytes = bt ∧ z.cells.size = sz) (h0 : 0 < sz) (hb0 : bt ≤ 4096) (hgd : op.guard = none) (s x : Operand) (ho : op.op = .call { callee := .builtin .append, args := #[s, x], argTypes := #[t, t] }) (v : Value) (n : Nat) (l news : List Value) (hs : a.eval s = v) (hown : Lw w e sz v n l)
    (g2 : Nat) (hm : news.length = sz) (hx : a.eval x = .slice (some ⟨g2, 0, none⟩) 1 1) (hX : w.rangeAt g2 0 news) (h1 : ∀ v ∈ news, v.oneCell' = true) (hk : n ≤ 1000000)
    (h : ∀ v' w', Lw w' e sz v' (n + 1) (l ++ news) → w.grownBy w' v.ownBlock → (v'.ownBlock = v.ownBlock ∨ v'.ownBlock = some w.heap.size) → wpList Try.prog ops Q rest (a.put op.dst v') w') : wpList Try.prog ops Q (op :: rest) a w :=
  wpList_plain hgd fun _ hK => wp_appL t e sz bt hu hi h0 hb0 s x ho v n l news hs hown g2 hm hx hX h1 hk (fun v' w' q1 q2 q3 => hK _ _ (h v' w' q1 q2 q3))
end
theorem info_I_all : (Try.prog.info? 64).map (fun i => (i.zero, i.size, i.bytes)) = some (some (.agg zI.toArray), 7, 56) := by kernel_rfl
theorem info_I_open : ∃ ie z, Try.prog.info? 64 = some ie ∧ ie.zero = some z ∧ ie.size = 7 ∧ ie.bytes = 56 ∧ z.cells.size = 7 := by
  have i1 := info_I_all
  cases hi : Try.prog.info? 64 with
  | none => rw [hi] at i1; cases i1
  | some ie =>
    rw [hi] at i1
    simp only [Option.map_some, Option.some.injEq, Prod.mk.injEq] at i1
    exact ⟨ie, _, rfl, i1.1, i1.2.1, i1.2.2, rfl⟩
theorem info_I_open4 : ∃ ie z, Try.prog.info? 64 = some ie ∧ ie.zero = some z ∧ ie.size = 7 ∧ z.cells.size = 7 := by
  obtain ⟨ie, z, h1, h2, h3, _, h5⟩ := info_I_open
  exact ⟨ie, z, h1, h2, h3, h5⟩
theorem ic_mem (c p a n : Nat) : ∀ v ∈ ic c p a n, v.oneCell' = true := by
  have := ic_one c p a n
  rw [← Array.all_toList] at this
  exact List.all_eq_true.1 this
theorem info_int1 : (Try.prog.info? 3).map (·.size) = some 1 := by kernel_rfl
theorem info_Ls : (Try.prog.info? 46).map (·.size) = some 1 := by kernel_rfl

/-- What a program's bytes say, from a place on. -/
def pg (d : List (BitVec 8)) : Nat → Nat → Option (List Ins)
  | 0, _ => none
  | f + 1, p => if d.length ≤ p then some [] else match ri (d.drop p) with
    | none => none
    | some (c, a, n, s) => (pg d f (p + s)).map (⟨c, p, a, n⟩ :: ·)
theorem pg_end {d : List (BitVec 8)} {f p : Nat} (h : d.length ≤ p) : pg d (f + 1) p = some [] := if_pos h
theorem pg_none {d : List (BitVec 8)} {f p : Nat} (h : p < d.length) (hr : ri (d.drop p) = none) : pg d (f + 1) p = none := by
  unfold pg
  rw [if_neg (by omega), hr]
theorem pg_some {d : List (BitVec 8)} {f p c a n s : Nat} (h : p < d.length) (hr : ri (d.drop p) = some (c, a, n, s)) : pg d (f + 1) p = (pg d f (p + s)).map (⟨c, p, a, n⟩ :: ·) := by
  rw [pg, if_neg (by omega), hr]
/-- The program that some bytes are. -/
def chk (d : List (BitVec 8)) : Option (List Ins) := if d.length = 0 ∨ 1024 < d.length then none else match pg d (d.length + 1) 0 with
  | none => none
  | some ls => if leads ls = true then some ls else none
/-- What holds of a program's instructions. -/
def Gd (ls : List Ins) (p : Nat) : Prop := ∀ y ∈ ls, y.p < p ∧ y.c < 28 ∧ y.n < 65536 ∧ y.a < 2 ^ 256
theorem Gd.more {ls : List Ins} {p s : Nat} (h : Gd ls p) (x : Ins) (hx : x.p = p) (hs : 1 ≤ s) (hc : x.c < 28) (hn : x.n < 65536) (ha : x.a < 2 ^ 256) : Gd (ls ++ [x]) (p + s) := fun y hy => by
  rcases List.mem_append.1 hy with q | q
  · have := h y q; exact ⟨by omega, this.2.1, this.2.2.1, this.2.2.2⟩
  · obtain rfl := List.mem_singleton.1 q
    exact ⟨by omega, hc, hn, ha⟩
theorem nb_lt (b : List (BitVec 8)) : nb b < 2 ^ 256 := rdn_lt zb_lt
theorem ri_vals {b : List (BitVec 8)} {c a n s : Nat} (h : ri b = some (c, a, n, s)) : n < 65536 ∧ a < 2 ^ 256 := by
  cases b with
  | nil => cases h
  | cons x r =>
    unfold ri at h
    simp only at h
    split at h
    · cases h
    · split at h
      · cases h
      · split at h
        · cases h
        · rename_i a' n' hro
          simp only [Option.some.injEq, Prod.mk.injEq] at h
          obtain ⟨rfl, rfl, rfl, rfl⟩ := h
          unfold ro at hro
          have h0 := ((r.take (ow (oper x.toNat) r)).getD 0 0#8).isLt
          have h1 := ((r.take (ow (oper x.toNat) r)).getD 1 0#8).isLt
          have hp : 0 < 2 ^ 256 := Nat.two_pow_pos _
          split at hro
          · simp only [Option.some.injEq, Prod.mk.injEq] at hro
            obtain ⟨rfl, rfl⟩ := hro
            exact ⟨by decide, hp⟩
          · split at hro
            · cases hro
            · split at hro
              · simp only [Option.some.injEq, Prod.mk.injEq] at hro
                obtain ⟨rfl, rfl⟩ := hro
                exact ⟨by decide, nb_lt _⟩
              · split at hro
                · simp only [Option.some.injEq, Prod.mk.injEq] at hro
                  obtain ⟨rfl, rfl⟩ := hro
                  exact ⟨by omega, hp⟩
                · simp only [Option.some.injEq, Prod.mk.injEq] at hro
                  obtain ⟨rfl, rfl⟩ := hro
                  exact ⟨by omega, hp⟩
/-- A program that is being read. -/
structure Rs (w X : World) (q pp gs n : Nat) (v : Value) (ls : List Ins) : Prop where
  hq : Row X q zP 49
  hp : Row X pp [v, .slice (some ⟨gs, 0, none⟩) n n] 49
  own : Lw X 64 7 v ls.length (fl ls)
  st : Row X gs (vI (sts ls n)) 3
  be : Below w.heap.size w X
  qlo : q = w.heap.size
  plo : w.heap.size < pp
  glo : w.heap.size ≤ gs
  vlo : ∀ g, v.ownBlock = some g → w.heap.size ≤ g
theorem Rs.keep {w X Y : World} {q pp gs n : Nat} {v : Value} {ls : List Ins} (h : Rs w X q pp gs n v ls) (k : Below X.heap.size X Y) : Rs w Y q pp gs n v ls :=
  ⟨Row.below h.hq k h.hq.lt, Row.below h.hp k h.hp.lt, Lw.be h.own k, Row.below h.st k h.st.lt, h.be.trans (k.mono h.be.size), h.qlo, h.plo, h.glo, h.vlo⟩
theorem Rs.gro {w X Y : World} {q pp gs n : Nat} {v : Value} {ls : List Ins} (h : Rs w X q pp gs n v ls) {b : Nat} (k : Gro (· = b) X Y) (hb : X.heap.size ≤ b) : Rs w Y q pp gs n v ls := h.keep (k.to_below (Nat.le_refl _) (fun g e => by rw [e]; exact hb))
theorem row_ne2 {w : World} {b c : Nat} {cs ds : List Value} {t u : TypeId} (h : Row w b cs t) (k : Row w c ds u) (ht : t ≠ u) : b ≠ c := fun e => by
  subst e
  have := h.symm.trans k
  simp only [Option.some.injEq, Obj.cells.injEq] at this
  exact ht this.2.1

end Go.Proofs.Ytdlmighfmkhpkaa
