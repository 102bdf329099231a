/-
  LadderOnce: the law's book in memory; laws of operations.
-/
import Derived.Test.YtdilgeikleddbaaLaQ
namespace Go.Proofs.Ytdilgeikleddbaa
open Go Go.RowKit
open Sha

abbrev tPo : TypeId := 64
abbrev tPos : TypeId := 59
def bcs (l : List Bk) : List Value := (l.map Bk.cells).flatten
theorem bcs_cons (a : Bk) (l : List Bk) : bcs (a :: l) = a.cells ++ bcs l := rfl
theorem bcs_app (l m : List Bk) : bcs (l ++ m) = bcs l ++ bcs m := by unfold bcs; rw [List.map_append, List.flatten_append]
theorem bcs_len {l : List Bk} (h : ∀ b ∈ l, b.Wf) : (bcs l).length = l.length * 88 := by
  unfold bcs
  induction l with
  | nil => rfl
  | cons a l ih =>
    rw [List.map_cons, List.flatten_cons, List.length_append, Bk.len (h a (List.mem_cons_self ..)), ih (fun p hp => h p (List.mem_cons_of_mem _ hp)), List.length_cons, Nat.add_mul]
    omega
theorem bcs_drop {l : List Bk} (h : ∀ b ∈ l, b.Wf) (m : Nat) : (bcs l).drop (m * 88) = bcs (l.drop m) := by
  induction l generalizing m with
  | nil => simp [bcs]
  | cons a l ih =>
    have ha := Bk.len (h a (List.mem_cons_self ..))
    cases m with
    | zero => simp
    | succ m => rw [bcs_cons, show (m + 1) * 88 = a.cells.length + m * 88 by rw [ha]; omega, List.drop_length_add_append, ih (fun p hp => h p (List.mem_cons_of_mem _ hp)), List.drop_succ_cons]
theorem bcs_at {l : List Bk} (h : ∀ b ∈ l, b.Wf) {i : Nat} {b : Bk} (hi : l[i]? = some b) (j : Nat) (u : Value) (hj : b.cells[j]? = some u) : (bcs l)[i * 88 + j]? = some u := by
  have hil : i < l.length := (List.getElem?_eq_some_iff.1 hi).1
  rw [← List.getElem?_drop, bcs_drop h i, List.drop_eq_getElem_cons hil, bcs_cons, show l[i] = b from (List.getElem?_eq_some_iff.1 hi).2, List.getElem?_append_left ((List.getElem?_eq_some_iff.1 hj).1)]
  exact hj
theorem Bk.at_c (b : Bk) (j : Nat) (u : Value) (hj : b.c.cells[j]? = some u) : b.cells[0 + j]? = some u := by
  unfold Bk.cells; rw [Nat.zero_add, List.getElem?_append_left ((List.getElem?_eq_some_iff.1 hj).1)]; exact hj
theorem Bk.at_a {b : Bk} (h : b.Wf) (j : Nat) (u : Value) (hj : (vB b.ad)[j]? = some u) : b.cells[66 + j]? = some u := by
  unfold Bk.cells; rw [List.getElem?_append_right (by rw [Cm.len h.c]; omega), Cm.len h.c, show 66 + j - 66 = j by omega, List.getElem?_append_left ((List.getElem?_eq_some_iff.1 hj).1)]; exact hj
theorem Bk.tail {b : Bk} (h : b.Wf) (j : Nat) : b.cells[86 + j]? = [Value.int .i64 b.now, .int .i64 b.gone][j]? := by
  unfold Bk.cells; rw [List.getElem?_append_right (by rw [Cm.len h.c]; omega), Cm.len h.c, List.getElem?_append_right (by rw [vB_length, h.a]; omega), vB_length, h.a, show 86 + j - 66 - 20 = j by omega]
theorem Bk.at_now {b : Bk} (h : b.Wf) : b.cells[86]? = some (.int .i64 b.now) := Bk.tail h 0
theorem Bk.at_gone {b : Bk} (h : b.Wf) : b.cells[87]? = some (.int .i64 b.gone) := Bk.tail h 1
theorem Bk.set_gone {b : Bk} (h : b.Wf) (g : Int) : b.cells.set 87 (.int .i64 g) = Bk.cells { b with gone := g } := by
  unfold Bk.cells
  rw [List.set_append_right _ _ (by rw [Cm.len h.c]; decide), Cm.len h.c, List.set_append_right _ _ (by rw [vB_length, h.a]; decide), vB_length, h.a]
  rfl
theorem Bk.one (b : Bk) : ∀ v ∈ b.cells, v.oneCell' = true := by
  intro v hv
  simp only [Bk.cells, List.mem_cons, List.mem_append, List.not_mem_nil, or_false] at hv
  rcases hv with h | h | rfl | rfl
  · exact Cm.one _ v h
  · exact vB_one _ v h
  · rfl
  · rfl
theorem bcs_set {l : List Bk} (h : ∀ b ∈ l, b.Wf) {i : Nat} {b : Bk} (hi : l[i]? = some b) (g : Int) : (bcs l).set (i * 88 + 87) (.int .i64 g) = bcs (l.set i { b with gone := g }) := by
  induction l generalizing i with
  | nil => cases hi
  | cons a l ih =>
    have ha := Bk.len (h a (List.mem_cons_self ..))
    cases i with
    | zero =>
      obtain rfl : a = b := by simpa using hi
      rw [bcs_cons, List.set_append_left _ _ (by rw [ha]; decide), List.set_cons_zero, bcs_cons, Nat.zero_mul, Nat.zero_add, Bk.set_gone (h a (List.mem_cons_self ..))]
    | succ i =>
      rw [bcs_cons, List.set_append_right _ _ (by rw [ha]; omega), ha, show (i + 1) * 88 + 87 - 88 = i * 88 + 87 by omega, ih (fun p hp => h p (List.mem_cons_of_mem _ hp)) (by simpa using hi), List.set_cons_succ, bcs_cons]
theorem info_Po : (Try.prog.info? tPo).map (·.size) = some 88 := by kernel_rfl
theorem Bk.info {b : Bk} (h : b.Wf) : (Try.prog.info? tPo).map (·.size) = some b.cells.length := by rw [Bk.len h]; exact info_Po
def zB : Bk := ⟨zC, zA, 0, 0⟩
theorem zB_wf : zB.Wf := ⟨zC_wf, by decide⟩
theorem info_PoAll : (Try.prog.info? tPo).map (fun i => (i.size, i.bytes)) = some (88, 120) := by kernel_rfl
theorem info_PoZ : ((Try.prog.info? tPo).bind (·.zero)).map (·.cells.size) = some 88 := by kernel_rfl
theorem info_PoO : ∃ ie z, Try.prog.info? tPo = some ie ∧ ie.zero = some z ∧ ie.size = 88 ∧ ie.bytes = 120 ∧ z.cells.size = 88 := by
  have i1 := info_PoAll
  have i2 := info_PoZ
  cases hi : Try.prog.info? tPo with
  | none => rw [hi] at i1; cases i1
  | some ie =>
    rw [hi] at i1 i2
    simp only [Option.map_some, Option.some.injEq, Prod.mk.injEq, Option.bind_some] at i1 i2
    cases hz : ie.zero with
    | none => rw [hz] at i2; cases i2
    | some z => rw [hz] at i2; exact ⟨ie, z, rfl, hz, i1.1, i1.2, by simpa using i2⟩
theorem built_Po : ∃ places : List (Nat × Nat), (∀ parts, Try.prog.built tPo parts = Instr.fill (places.toArray[·]?) zB.cells.toArray parts) ∧ places = [(0, 66), (66, 20), (86, 1), (87, 1)] :=
  ⟨[(0, 66), (66, 20), (86, 1), (87, 1)], fun _ => by kernel_rfl, rfl⟩
theorem built_bk (b : Bk) (h : b.Wf) (h0 : b.gone = 0) : Try.prog.built tPo [(0, .agg b.c.cells.toArray), (1, .agg (vB b.ad).toArray), (2, .int .i64 b.now)] = some b.cells.toArray := by
  obtain ⟨pl, h1, h2⟩ := built_Po
  subst h2
  rw [h1]
  have zl : zB.cells.length = 88 := Bk.len zB_wf
  rw [show zB.cells.toArray = ([] ++ zB.cells.drop 0).toArray by rw [List.drop_zero, List.nil_append]]
  refine Eq.trans (fill_next _ 0 0 66 66 [] zB.cells b.c.cells _ _ rfl rfl (Cm.len h.c) rfl (by rw [zl]; decide) rfl) ?_
  refine Eq.trans (fill_next _ 1 66 20 86 _ zB.cells (vB b.ad) _ _ rfl rfl (by rw [vB_length, h.a]) (by simp only [List.length_append, List.length_nil, Cm.len h.c]) (by rw [zl]; decide) rfl) ?_
  refine Eq.trans (fill_next _ 2 86 1 87 _ zB.cells [Value.int .i64 b.now] _ _ rfl rfl rfl (by simp only [List.length_append, List.length_nil, Cm.len h.c, vB_length, h.a]) (by rw [zl]; decide) rfl) ?_
  rw [Instr.fill, show zB.cells.drop 87 = [Value.int .i64 0] by kernel_rfl]
  congr 2
  unfold Bk.cells
  rw [h0]
  simp only [List.nil_append, List.append_assoc, List.cons_append]

/-! ### rows, ladders and the book -/
theorem Lw.rowsT {w : World} {A : Option Addr} {n c N : Nat} {l : List Pn} (h : Lw w tP 90 (.slice A n c) n (pcs l)) (hn : l.length = n) (hw : ∀ p ∈ l, p.Wf) (hf : Fresh N (.slice A n c)) : ∃ rs : List (Nat × List Value × TypeId), (∀ r ∈ rs, (Row w r.1 r.2.1 r.2.2 ∧ N ≤ r.1) ∧ r.2.2 = tP) ∧ ∀ X, (∀ r ∈ rs, Row X r.1 r.2.1 r.2.2) → Pr X A n l := by
  rcases h.2 with ⟨h2, h3⟩ | ⟨g, cap, cur, hv, _, hh, hc, _, hs, ht⟩
  · obtain ⟨rfl, rfl⟩ : A = none ∧ n = 0 := by cases h2; exact ⟨rfl, rfl⟩
    exact ⟨[], (fun r hr => by cases hr), fun X _ => ⟨hn, hw, fun _ => rfl, fun ad e => by cases e⟩⟩
  · obtain ⟨rfl, rfl⟩ : A = some ⟨g, 0, none⟩ ∧ c = cap := by simpa using hv
    have hr : Row w g cur.toList tP := by unfold Row; rw [hh]
    refine ⟨[(g, cur.toList, tP)], fun r hr' => ?_, fun X hX => ⟨hn, hw, (fun e => by cases e), fun ad e => ⟨g, 0, (Option.some.inj e).symm, ?_⟩⟩⟩
    · obtain rfl := List.mem_singleton.1 hr'
      exact ⟨⟨hr, hf g rfl⟩, rfl⟩
    · refine (hX _ (List.mem_singleton.2 rfl)).range 0 _ (fun j u hj => ?_)
      rw [Nat.zero_add]
      rw [← ht] at hj
      have hj2 : j < n * 90 := by have := (List.getElem?_eq_some_iff.1 hj).1; rw [List.length_take] at this; omega
      rwa [List.getElem?_take_of_lt hj2] at hj
/-- Rows, a ladder, and the book. -/
structure Oc (w0 w : World) (rs : List (Nat × List Value × TypeId)) (ls : List (Nat × Value × Int × La)) (bk : List Bk) (A : Option Addr) (k c : Nat) : Prop where
  hp : Hp w0 w rs ls
  bo : Lw w tPo 88 (.slice A k c) k (bcs bk)
  kl : bk.length = k
  fr : Fresh w0.heap.size (.slice A k c)
  ty : ∀ r ∈ rs, r.2.2 ≠ tPo
  bw : ∀ b ∈ bk, b.Wf
section
variable {w0 w w' : World} {rs : List (Nat × List Value × TypeId)} {ls : List (Nat × Value × Int × La)} {bk : List Bk} {A : Option Addr} {k c : Nat}
theorem Oc.below (h : Oc w0 w rs ls bk A k c) (q : Below w.heap.size w w') : Oc w0 w' rs ls bk A k c := ⟨h.hp.below q, Lw.be h.bo q, h.kl, h.fr, h.ty, h.bw⟩
theorem Oc.addR (h : Oc w0 w rs ls bk A k c) (q : Below w.heap.size w w') {b : Nat} {cs : List Value} {t : TypeId} (r : Row w' b cs t) (hb : w.heap.size ≤ b) (ht : t ≠ tPo) : Oc w0 w' ((b, cs, t) :: rs) ls bk A k c :=
  ⟨h.hp.addR q r hb, Lw.be h.bo q, h.kl, h.fr, fun x hx => by
    rcases List.mem_cons.1 hx with rfl | hx
    · exact ht
    · exact h.ty x hx, h.bw⟩
theorem Oc.addRs {rs' : List (Nat × List Value × TypeId)} (h : Oc w0 w rs ls bk A k c) (q : Below w.heap.size w w') (hr : ∀ r ∈ rs', (Row w' r.1 r.2.1 r.2.2 ∧ w.heap.size ≤ r.1) ∧ r.2.2 = tP) : Oc w0 w' (rs' ++ rs) ls bk A k c :=
  ⟨h.hp.addRs q (fun r hr' => (hr r hr').1), Lw.be h.bo q, h.kl, h.fr, fun x hx => by
    rcases List.mem_append.1 hx with hx | hx
    · rw [(hr x hx).2]; decide
    · exact h.ty x hx, h.bw⟩
theorem Oc.dropR {rs' : List (Nat × List Value × TypeId)} (h : Oc w0 w rs ls bk A k c) (q : ∀ r ∈ rs', r ∈ rs) : Oc w0 w rs' ls bk A k c := ⟨h.hp.dropR q, h.bo, h.kl, h.fr, fun x hx => h.ty x (q x hx), h.bw⟩
theorem lw_lo {v u : Value} {n m : Nat} {xs ys : List Value} (h : Lw w tPo 88 v n xs) (q : Lo w tP 90 u m ys) : ∀ g, v.ownBlock = some g → u.ownBlock ≠ some g := fun g e1 e2 => by
  rcases h.2 with ⟨h1, _⟩ | ⟨g', cap, cur, hv, _, hh, _⟩
  · rw [h1] at e1; cases e1
  · rw [hv] at e1
    obtain rfl : g' = g := by simpa [Value.ownBlock] using e1
    rcases q.2 with ⟨k1, _⟩ | ⟨g2, o2, cap2, cs2, kv, kr, _⟩
    · rw [k1] at e2; cases e2
    · rw [kv] at e2
      obtain rfl : g2 = g' := by simpa [Value.ownBlock] using e2
      have := hh.symm.trans kr
      simp only [Option.some.injEq, Obj.cells.injEq] at this
      exact absurd this.2.1 (by decide)
theorem Oc.tb (h : Oc w0 w rs ls bk A k c) {p : Nat} {v : Value} {B : Int} {st : La} (d : Ld w p v B st) : ∀ g, (Value.slice A k c).ownBlock = some g → ¬ Tb p v g := fun g e q => by
  rcases q with rfl | q
  · exact Lw.ne h.bo d.row (by decide) g e rfl
  · exact lw_lo h.bo d.own g e q
theorem Oc.turn (h : Oc w0 w rs ls bk A k c) (i : Nat) {p : Nat} {v : Value} {B B' : Int} {st st' : La} (hi : ls[i]? = some (p, v, B, st)) (t : Tn w w' p v B' st') : ∃ v', Oc w0 w' rs (ls.set i (p, v', B', st')) bk A k c := by
  obtain ⟨v', q, _⟩ := h.hp.turn i hi t
  obtain ⟨_, _, g, _⟩ := t
  exact ⟨v', ⟨q, Lw.gro h.bo g (h.tb (h.hp.lad _ (List.mem_of_getElem? hi))), h.kl, h.fr, h.ty, h.bw⟩⟩
/-- The book's own block turns. -/
theorem Oc.own (h : Oc w0 w rs ls bk A k c) {R : Nat → Prop} (g : Gro R w w') (hR : ∀ x, R x → (Value.slice A k c).ownBlock = some x) : Hp w0 w' rs ls := by
  refine ⟨h.hp.be.trans (g.to_below h.hp.be.size (fun x hx => h.fr x (hR x hx))), fun r hr => g.row (h.hp.row r hr) (fun q => ?_), fun l hl => (h.hp.lad l hl).gro g (fun x hx q => h.tb (h.hp.lad l hl) x (hR x q) hx), h.hp.new, h.hp.rl, h.hp.ll⟩
  exact Lw.ne h.bo (h.hp.row r hr) (h.ty r hr) _ (hR _ q) rfl
theorem Oc.at (h : Oc w0 w rs ls bk A k c) {j : Nat} {b : Bk} (hj : bk[j]? = some b) : ∃ g cur, A = some ⟨g, 0, none⟩ ∧ j < k ∧ Row w g cur tPo ∧ j * 88 + 87 < cur.length ∧ w.rangeAt g (0 + j * 88) b.cells ∧ ∀ (X : World) (x : Int), Row X g (cur.set (0 + j * 88 + 87) (.int .i64 x)) tPo → Gro (· = g) w X → Oc w0 X rs ls (bk.set j { b with gone := x }) A k c := by
  have hjk : j < k := by have := (List.getElem?_eq_some_iff.1 hj).1; rw [h.kl] at this; exact this
  rcases h.bo.2 with ⟨_, h3⟩ | ⟨g, cap, cur, hv, hbg, hh, hc, hm, hs, ht⟩
  · omega
  · obtain ⟨rfl, rfl⟩ : A = some ⟨g, 0, none⟩ ∧ c = cap := by simpa using hv
    have hr : Row w g cur.toList tPo := by unfold Row; rw [hh]
    have hlen : cur.toList.length = c * 88 := by rw [Array.length_toList, hs]
    have h88 : (j + 1) * 88 ≤ c * 88 := Nat.mul_le_mul_right _ (by omega)
    have h88k : (j + 1) * 88 ≤ k * 88 := Nat.mul_le_mul_right _ (by omega)
    have hkc : k * 88 ≤ c * 88 := Nat.mul_le_mul_right _ hc
    refine ⟨g, cur.toList, rfl, hjk, hr, by omega, fun i u hu => ?_, fun X x r q => ?_⟩
    · have hi : i < 88 := by have := (List.getElem?_eq_some_iff.1 hu).1; rw [Bk.len (h.bw b (List.mem_of_getElem? hj))] at this; exact this
      have h1 := bcs_at h.bw hj i u hu
      rw [← ht, List.getElem?_take_of_lt (by omega)] at h1
      rw [Nat.zero_add]
      exact hr.cell _ _ h1
    · have hp := h.own q (fun y e => by rw [e]; rfl)
      have hwf : ∀ y ∈ bk.set j { b with gone := x }, y.Wf := fun y hy => by
        rcases List.mem_or_eq_of_mem_set hy with z | rfl
        · exact h.bw y z
        · exact ⟨(h.bw b (List.mem_of_getElem? hj)).c, (h.bw b (List.mem_of_getElem? hj)).a⟩
      refine ⟨hp, ⟨by rw [bcs_len hwf, List.length_set, h.kl], .inr ⟨g, c, _, rfl, Nat.zero_le _, r, hc, hm, by rw [List.size_toArray, List.length_set, hlen], ?_⟩⟩, by rw [List.length_set]; exact h.kl, h.fr, h.ty, hwf⟩
      rw [← bcs_set h.bw hj x, ← ht, Nat.zero_add]
      have := drop_take_set cur.toList 0 (k * 88) (j * 88 + 87) (.int .i64 x) (by omega) (by omega)
      simpa using this
end
section
variable {ops : Array Oper} {rest : List Oper} {op : Oper} {a : Act} {w : World} {Q : Exit → Act → World → Prop}
/-- One more in the book. -/
theorem wpList_appO {w0 : World} {rs : List (Nat × List Value × TypeId)} {ls : List (Nat × Value × Int × La)} {bk : List Bk} {A : Option Addr} {k c : Nat} (h : Oc w0 w rs ls bk A k c) (hgd : op.guard = none) (s x : Operand) (ho : op.op = .call { callee := .builtin .append, args := #[s, x], argTypes := #[tPos, tPos] }) (hs : a.eval s = .slice A k c) (g2 : Nat) (b : Bk) (hb : b.Wf) (hx : a.eval x = .slice (some ⟨g2, 0, none⟩) 1 1) (hX : w.rangeAt g2 0 b.cells) (hk : (k + 1) * 120 ≤ 140737488355328)
    (hn : ∀ A' c' w', Oc w0 w' rs ls (bk ++ [b]) A' (k + 1) c' → wpList Try.prog ops Q rest (a.put op.dst (.slice A' (k + 1) c')) w') : wpList Try.prog ops Q (op :: rest) a w :=
  wpList_plain hgd fun _ hK => by
    obtain ⟨ie, z, i1, i2, i3, i5, i4⟩ := info_PoO
    obtain ⟨v', w', hr, q2, q3, _, q5⟩ := run_append_own_at (P := Try.prog) w 0 tPos op.type tPo ie z 88 120 Try.underlying59 i1 i2 i3 i5 i4 (by decide) (.slice A k c) k (bcs bk) h.bo ⟨g2, 0, none⟩ 1 1 b.cells (by rw [Bk.len hb]) (fun j u hj => by rw [Addr.add_mid]; exact hX j u hj) (Bk.one b) (by unfold maxLen; omega) hk (Nat.zero_le _)
    obtain ⟨A', c', rfl, _, _⟩ := Lw.form q2
    have g : Gro (fun y => (Value.slice A k c).ownBlock = some y) w w' := ⟨q3.os, q3.tape, q3.output, q3.size, fun i hi hne => q3.block i hi (fun e => hne e.symm)⟩
    unfold Oper.wp execOp
    simp only [ho, resolve, invoke, builtin, Sem.run_bind, Sem.run_pure, Result.andThen_ok, List.map_toArray, List.map_cons, List.map_nil, hs, hx, hr]
    refine hK _ _ (hn A' c' w' ⟨h.own g (fun _ e => e), ?_, by rw [List.length_append, List.length_singleton, h.kl], fun y e => ?_, h.ty, fun y hy => ?_⟩)
    · have : bcs (bk ++ [b]) = bcs bk ++ b.cells := by rw [bcs_app]; unfold bcs; simp
      rw [this]; exact q2
    · rcases q5 with q | q
      · exact h.fr y (by rw [← q]; exact e)
      · rw [q] at e; cases e; exact h.hp.be.size
    · rcases List.mem_append.1 hy with z | z
      · exact h.bw y z
      · obtain rfl := List.mem_singleton.1 z; exact hb
theorem wpList_bPo (hgd : op.guard = none) (x : Operand) (ho : op.op = .buildSlice tPos 1 #[(0, x)]) (L : List Value) (hL : L.length = 88) (hx : a.eval x = .agg L.toArray)
    (h : ∀ X, Row X w.heap.size L tPo → Below w.heap.size w X → wpList Try.prog ops Q rest (a.put op.dst (.slice (some ⟨w.heap.size, 0, none⟩) 1 1)) X) : wpList Try.prog ops Q (op :: rest) a w :=
  wpList_plain hgd fun _ hK => by
    obtain ⟨ie, z, h1, h2, h3, _, h4⟩ := info_PoO
    refine wp_buildSlice tPos tPo 1 _ ho L.toArray ie z Try.underlying59 h1 h2 (by rw [h3]; omega) (by rw [h3]; omega) ?_ (hK _ _ (h _ (Row.new' rfl rfl) ((Below.refl _ _).alloc (Nat.le_refl _) _)))
    rw [show (Array.map (fun (p : Nat × Operand) => match p with | (i, x) => (i, a.eval x)) #[(0, x)]).toList = [(0, a.eval x)] by simp, hx, h3]
    exact fill_oneL 88 (by decide) _ _ (by simp [hL]) (by simp)
set_option maxRecDepth 100000 in
theorem wpList_alPo (hgd : op.guard = none) (ho : op.op = .alloc tPo) (h : ∀ X, Row X w.heap.size zB.cells tPo → Below w.heap.size w X → X.heap.size = w.heap.size + 1 → wpList Try.prog ops Q rest (a.put op.dst (.pointer (some ⟨w.heap.size, 0, none⟩))) X) : wpList Try.prog ops Q (op :: rest) a w :=
  wpList_plain hgd fun _ hK => by
    unfold Oper.wp execOp
    simp only [ho]
    go_simp
    exact hK _ _ (h _ (Row.new' (cs := zB.cells) rfl rfl) ((Below.refl _ _).alloc (Nat.le_refl _) _) (by simp))
theorem guardA : Try.prog.eqGuardType Try.prog.depth tAd = false := by kernel_rfl
theorem wpList_neA (hw : Region.wanted op (yielded ops a.tmps) = true) (x y : Operand) (yt : TypeId) (ho : op.op = .binOp .neq tAd x y yt) (c d : List (BitVec 8)) (hc : c.length = 20) (hd : d.length = 20) (hx : a.eval x = .agg (vB c).toArray) (hy : a.eval y = .agg (vB d).toArray) (B : Bool) (hB : (!decide (c = d)) = B) (h : wpList Try.prog ops Q rest (a.put op.dst (.bool B)) w) : wpList Try.prog ops Q (op :: rest) a w :=
  BigFrame.wpList_want hw fun _ hK => by
    have hr : (binOp .neq tAd (.agg (vB c).toArray) (.agg (vB d).toArray)).run Try.prog w = .ok (.bool B) w := by rw [run_neq_struct, eq_by 9998 w tAd 20 Try.underlying51 c d hc hd, ← hB]; rfl
    unfold Oper.wp execOp
    simp only [ho, hx, hy, Sem.run_bind, run_eqGuard_agg w .neq tAd x y _ _ guardA, Result.andThen_ok, hr, Sem.run_pure, Oper.upon_value]
    exact hK _ _ h
end

theorem Hp.turnV {w0 w w' : World} {rs : List (Nat × List Value × TypeId)} {ls : List (Nat × Value × Int × La)} (h : Hp w0 w rs ls) (i : Nat) {p : Nat} {v v' : Value} {B B' : Int} {st st' : La} (hi : ls[i]? = some (p, v, B, st)) (d : Ld w' p v' B' st') (g : Gro (Tb p v) w w') (n : Nv w v v') : Hp w0 w' rs (ls.set i (p, v', B', st')) := by
  have hm := List.mem_of_getElem? hi
  have hil : i < ls.length := (List.getElem?_eq_some_iff.1 hi).1
  have hge := (List.getElem?_eq_some_iff.1 hi).2
  have hpw := List.pairwise_iff_getElem.1 h.ll
  have apart : ∀ j (hj : j < ls.length), j ≠ i → ∀ g, Tb (ls[j]).1 (ls[j]).2.1 g → ¬ Tb p v g := by
    intro j hj hne g hg q
    rcases Nat.lt_or_gt_of_ne hne with hlt | hlt
    · have := hpw j i hj hil hlt g hg
      rw [hge] at this
      exact this q
    · have := hpw i j hil hj hlt g
      rw [hge] at this
      exact this q hg
  have newT : ∀ g, Tb p v' g → Tb p v g ∨ w.heap.size ≤ g := by
    intro g hg
    rcases hg with rfl | hg
    · exact .inl (.inl rfl)
    · rcases n with n | n
      · exact .inl (.inr (by rw [← n]; exact hg))
      · exact .inr (n g hg)
  refine ⟨?_, fun r hr => g.row (h.row r hr) (h.rl r hr _ hm), fun l hl => ?_, fun l hl g' hg' => ?_, fun r hr l hl => ?_, ?_⟩
  · exact h.be.trans (g.to_below h.be.size (fun k hk => h.new _ hm k hk))
  · obtain ⟨j, hj, rfl⟩ := List.getElem_of_mem hl
    rw [List.length_set] at hj
    by_cases e : j = i
    · subst e
      rw [List.getElem_set_self]
      exact d
    · rw [List.getElem_set_ne (Ne.symm e)]
      exact (h.lad _ (List.getElem_mem hj)).gro g (fun k hk => apart j hj e k hk)
  · obtain ⟨j, hj, rfl⟩ := List.getElem_of_mem hl
    rw [List.length_set] at hj
    by_cases e : j = i
    · subst e
      rw [List.getElem_set_self] at hg'
      rcases newT g' hg' with q | q
      · exact h.new _ hm g' q
      · exact Nat.le_trans h.be.size q
    · rw [List.getElem_set_ne (Ne.symm e)] at hg'
      exact h.new _ (List.getElem_mem hj) g' hg'
  · obtain ⟨j, hj, rfl⟩ := List.getElem_of_mem hl
    rw [List.length_set] at hj
    by_cases e : j = i
    · subst e
      rw [List.getElem_set_self]
      intro q
      rcases newT _ q with q | q
      · exact h.rl r hr _ hm q
      · have := (h.row r hr).lt
        omega
    · rw [List.getElem_set_ne (Ne.symm e)]
      exact h.rl r hr _ (List.getElem_mem hj)
  · rw [List.pairwise_iff_getElem]
    intro a b ha hb hab k hk q
    have ha' : a < ls.length := by rw [List.length_set] at ha; exact ha
    have hb' : b < ls.length := by rw [List.length_set] at hb; exact hb
    by_cases ea : a = i
    · subst ea
      rw [List.getElem_set_self] at hk
      rw [List.getElem_set_ne (by omega)] at q
      rcases newT k hk with z | z
      · exact apart b hb' (by omega) k q z
      · have := (h.lad _ (List.getElem_mem hb')).lt k q
        omega
    · rw [List.getElem_set_ne (Ne.symm ea)] at hk
      by_cases eb : b = i
      · subst eb
        rw [List.getElem_set_self] at q
        rcases newT k q with z | z
        · exact apart a ha' ea k hk z
        · have := (h.lad _ (List.getElem_mem ha')).lt k hk
          omega
      · rw [List.getElem_set_ne (Ne.symm eb)] at q
        exact hpw a b ha' hb' hab k hk q

theorem Oc.turnS {w0 w w' : World} {rs : List (Nat × List Value × TypeId)} {ls : List (Nat × Value × Int × La)} {bk : List Bk} {A : Option Addr} {k c : Nat} (h : Oc w0 w rs ls bk A k c) (i : Nat) {p : Nat} {v : Value} {B B' : Int} {st st' : La} (hi : ls[i]? = some (p, v, B, st)) (t : Ts w w' p v B st') (hB : B ≤ B') : ∃ v', Oc w0 w' rs (ls.set i (p, v', B', st')) bk A k c ∧ v'.ownBlock = v.ownBlock := by
  obtain ⟨v', d, g, e⟩ := t
  exact ⟨v', ⟨h.hp.turnV i hi (d.mono hB) g (.inl e), Lw.gro h.bo g (h.tb (h.hp.lad _ (List.mem_of_getElem? hi))), h.kl, h.fr, h.ty, h.bw⟩, e⟩
/-- Rows that are new, told behind a turn. -/
theorem Oc.addN {w0 w : World} {rs rs' : List (Nat × List Value × TypeId)} {ls : List (Nat × Value × Int × La)} {bk : List Bk} {A : Option Addr} {k c N : Nat} (h : Oc w0 w rs ls bk A k c) (hr : ∀ r ∈ rs', (Row w r.1 r.2.1 r.2.2 ∧ N ≤ r.1) ∧ r.2.2 = tP) (hl : ∀ l ∈ ls, ∀ g, Tb l.1 l.2.1 g → g < N) : Oc w0 w (rs' ++ rs) ls bk A k c := by
  refine ⟨⟨h.hp.be, fun r hr' => ?_, h.hp.lad, h.hp.new, fun r hr' l hl' => ?_, h.hp.ll⟩, h.bo, h.kl, h.fr, fun r hr' => ?_, h.bw⟩
  · rcases List.mem_append.1 hr' with q | q
    · exact (hr r q).1.1
    · exact h.hp.row r q
  · rcases List.mem_append.1 hr' with q | q
    · intro z
      have := hl l hl' _ z
      have := (hr r q).1.2
      omega
    · exact h.hp.rl r q l hl'
  · rcases List.mem_append.1 hr' with q | q
    · rw [(hr r q).2]; decide
    · exact h.ty r q
theorem cnt0_succ {l : List Bk} {t : Nat} {b : Bk} (h : l[t]? = some b) : cnt0 l (t + 1) = cnt0 l t + (if b.gone = 0 then 1 else 0) := by
  unfold cnt0
  rw [List.take_add_one, h, List.filter_append, List.length_append]
  congr 1
  by_cases hg : b.gone = 0
  · rw [if_pos hg]; simp [hg]
  · rw [if_neg hg]; simp [hg]
theorem cnt0_le (l : List Bk) (t : Nat) : cnt0 l t ≤ t := by
  unfold cnt0
  exact Nat.le_trans (List.length_filter_le _ _) (by rw [List.length_take]; omega)
theorem Inv.cnt {S : La} {bk : List Bk} {win : Int} (h : Inv S bk win) : cnt0 bk bk.length = S.pend.length := by
  unfold cnt0
  rw [List.take_length, ← opn_len 0 bk, h.op, List.length_map]
/-! ### a cut around a statement: what it may write is wiped -/
def wipeL : List Value → List Bool → List Value
  | v :: r, b :: bs => (bif b then undef else v) :: wipeL r bs
  | l, [] => l
  | [], _ => []
def overL : List Value → List Bool → Nat → (Nat → Value) → List Value
  | v :: r, b :: bs, k, f => (bif b then f k else v) :: overL r bs (k + 1) f
  | l, [], _, _ => l
  | [], _, _, _ => []
theorem over_eq : ∀ (bs : List Bool) (l l' : List Value) (k0 : Nat) (f : Nat → Value), l'.length = l.length → (∀ k, f (k0 + k) = l'.getD k undef) → wipeL l' bs = wipeL l bs → l' = overL l bs k0 f
  | [], [], [], _, _, _, _, _ => rfl
  | [], [], _ :: _, _, _, hl, _, _ => by simp at hl
  | [], _ :: _, [], _, _, hl, _, _ => by simp at hl
  | [], _ :: _, _ :: _, _, _, _, _, h => h
  | b :: bs, [], l', _, _, hl, _, _ => by
    cases l' with
    | nil => rfl
    | cons _ _ => simp at hl
  | b :: bs, v :: r, [], _, _, hl, _, _ => by simp at hl
  | b :: bs, v :: r, v' :: r', k0, f, hl, hf, h => by
    simp only [wipeL, List.cons.injEq] at h
    have ih := over_eq bs r r' (k0 + 1) f (by simpa using hl) (fun k => by rw [show k0 + 1 + k = k0 + (k + 1) by omega, hf (k + 1)]; rfl) h.2
    have h0 : f k0 = v' := hf 0
    simp only [overL, List.cons.injEq]
    refine ⟨?_, ih⟩
    cases b
    · simpa using h.1
    · simpa using h0.symm
theorem wp_frL {P : Program} {s : Code} {Q : Exit → Act → World → Prop} {l : List Value} {d : List Deferred} {w : World} (h : ∀ L : List Value, L = l → s.wp P Q ⟨L.toArray, d⟩ w) : s.wp P Q ⟨l.toArray, d⟩ w := h l rfl

/-! ### laws of single operations -/
section
variable {Q : Exit → Act → World → Prop} {o : Oper} {a : Act} {w : World} {K : Act → World → Prop}
theorem wp_P5 {x : Operand} (ho : o.op = .fieldAddr tP x 5) (B f : Nat) (hx : a.eval x = .pointer (some ⟨B, f, none⟩)) (h : K (a.put o.dst (.pointer (some ⟨B, f + 89, none⟩))) w) : Oper.wp Try.prog o a w K Q := by
  unfold Oper.wp execOp
  simp only [ho, hx]
  go_simp
  exact h
theorem wp_P0 {x : Operand} (ho : o.op = .fieldAddr tP x 0) (B f : Nat) (hx : a.eval x = .pointer (some ⟨B, f, none⟩)) (h : K (a.put o.dst (.pointer (some ⟨B, f, none⟩))) w) : Oper.wp Try.prog o a w K Q := by
  unfold Oper.wp execOp
  simp only [ho, hx]
  go_simp
  exact h
theorem wp_P1 {x : Operand} (ho : o.op = .fieldAddr tP x 1) (B f : Nat) (hx : a.eval x = .pointer (some ⟨B, f, none⟩)) (h : K (a.put o.dst (.pointer (some ⟨B, f + 1, none⟩))) w) : Oper.wp Try.prog o a w K Q := by
  unfold Oper.wp execOp
  simp only [ho, hx]
  go_simp
  exact h
theorem wp_St7 {x : Operand} (ho : o.op = .fieldAddr 53 x 7) (B f : Nat) (hx : a.eval x = .pointer (some ⟨B, f, none⟩)) (h : K (a.put o.dst (.pointer (some ⟨B, f + 91, none⟩))) w) : Oper.wp Try.prog o a w K Q := by
  unfold Oper.wp execOp
  simp only [ho, hx]
  go_simp
  exact h
theorem wp_Po3 {x : Operand} (ho : o.op = .fieldAddr tPo x 3) (B f : Nat) (hx : a.eval x = .pointer (some ⟨B, f, none⟩)) (h : K (a.put o.dst (.pointer (some ⟨B, f + 87, none⟩))) w) : Oper.wp Try.prog o a w K Q := by
  unfold Oper.wp execOp
  simp only [ho, hx]
  go_simp
  exact h
theorem wp_Po0 {x : Operand} (ho : o.op = .fieldAddr tPo x 0) (B f : Nat) (hx : a.eval x = .pointer (some ⟨B, f, none⟩)) (h : K (a.put o.dst (.pointer (some ⟨B, f, none⟩))) w) : Oper.wp Try.prog o a w K Q := by
  unfold Oper.wp execOp
  simp only [ho, hx]
  go_simp
  exact h
theorem wp_lssI {x y : Operand} {t yt : TypeId} (ho : o.op = .binOp .lss t x y yt) (ht : t = 3) (u z : Int) (B : Bool) (hx : a.eval x = .int .i64 u) (hy : a.eval y = .int .i64 z) (hB : decide (u < z) = B) (h : K (a.put o.dst (.bool B)) w) : Oper.wp Try.prog o a w K Q := by
  subst ht hB
  unfold Oper.wp execOp
  simp only [ho, hx, hy]
  simp [go_sem]
  exact h
theorem wp_gtrI {x y : Operand} {t yt : TypeId} (ho : o.op = .binOp .gtr t x y yt) (ht : t = 3) (u z : Int) (B : Bool) (hx : a.eval x = .int .i64 u) (hy : a.eval y = .int .i64 z) (hB : decide (z < u) = B) (h : K (a.put o.dst (.bool B)) w) : Oper.wp Try.prog o a w K Q := by
  subst ht hB
  unfold Oper.wp execOp
  simp only [ho, hx, hy]
  simp [go_sem]
  exact h
theorem wp_eqI {x y : Operand} {t yt : TypeId} (ho : o.op = .binOp .eql t x y yt) (ht : t = 3) (u z : Int) (B : Bool) (hx : a.eval x = .int .i64 u) (hy : a.eval y = .int .i64 z) (hB : (u == z) = B) (h : K (a.put o.dst (.bool B)) w) : Oper.wp Try.prog o a w K Q := by
  subst ht hB
  unfold Oper.wp execOp
  simp only [ho, hx, hy]
  simp [go_sem]
  exact h
theorem wp_neI {x y : Operand} {t yt : TypeId} (ho : o.op = .binOp .neq t x y yt) (ht : t = 3) (u z : Int) (B : Bool) (hx : a.eval x = .int .i64 u) (hy : a.eval y = .int .i64 z) (hB : (u != z) = B) (h : K (a.put o.dst (.bool B)) w) : Oper.wp Try.prog o a w K Q := by
  subst ht hB
  unfold Oper.wp execOp
  simp only [ho, hx, hy]
  simp [go_sem]
  exact h
theorem wp_pickF {c x y : Operand} (v : Value) (ho : o.op = .pick c x y) (hc : a.eval c = .bool false) (hy : a.eval y = v) (h : K (a.put o.dst v) w) : Oper.wp Try.prog o a w K Q := by
  unfold Oper.wp execOp
  simp only [ho, hc, hy]
  simp [go_sem]
  exact h
theorem wp_lenL {x : Operand} (t e : TypeId) (A : Option Addr) (n cap : Nat) (ho : o.op = .call { callee := .builtin .len, args := #[x], argTypes := #[t] }) (ht : Try.prog.underlying t = some (.slice e)) (hx : a.eval x = .slice A n cap) (h : K (a.put o.dst (.int .i64 (n : Int))) w) : Oper.wp Try.prog o a w K Q := by
  have hr : (Builtin.len_ #[t] o.type #[.slice A n cap]).run Try.prog w = .ok (goInt n) w := by
    simp [Builtin.len_, run_underlying ht]
  unfold Oper.wp
  simp [execOp, ho, resolve, invoke, builtin, hx, hr, Result.andThen]
  exact h
theorem wp_subI {x y : Operand} {t yt : TypeId} (ho : o.op = .binOp .sub t x y yt) (ht : t = 3) (u z r : Int) (hx : a.eval x = .int .i64 u) (hy : a.eval y = .int .i64 z) (hr : IntKind.i64.wrap (u - z) = r) (h : K (a.put o.dst (.int .i64 r)) w) : Oper.wp Try.prog o a w K Q := by
  subst ht
  unfold Oper.wp execOp
  simp only [ho, hx, hy]
  simp [go_sem, hr]
  exact h
theorem wp_neCm (x y : Operand) (yt : TypeId) (ho : o.op = .binOp .neq tC x y yt) (c d : Cm) (hc : c.Wf) (hd : d.Wf) (hx : a.eval x = .agg c.cells.toArray) (hy : a.eval y = .agg d.cells.toArray) (B : Bool) (hB : (!decide (c = d)) = B) (h : K (a.put o.dst (.bool B)) w) : Oper.wp Try.prog o a w K Q := by
  have hr : (binOp .neq tC (.agg c.cells.toArray) (.agg d.cells.toArray)).run Try.prog w = .ok (.bool B) w := by rw [run_neq_struct, eq_cm 9997 w c d hc hd, ← hB]; rfl
  unfold Oper.wp execOp
  simp only [ho, hx, hy, Sem.run_bind, run_eqGuard_agg w .neq tC x y _ _ guardC, Result.andThen_ok, hr, Sem.run_pure, Oper.upon_value]
  exact h
theorem wp_cutF (t e : TypeId) (x y : Operand) (A : Option Addr) (n cap i s : Nat) (ho : o.op = .slice t x (some y) none none) (hx : a.eval x = .slice A n cap) (hy : a.eval y = .int .i64 (i : Int)) (hi : i ≤ n)
    (hu : Try.prog.underlying t = some (.slice e)) (hs : (Try.prog.info? e).map (·.size) = some s) (h : K (a.put o.dst (.slice (cutL A cap i s) (n - i) (cap - i))) w) : Oper.wp Try.prog o a w K Q := by
  cases hq : Try.prog.info? e with
  | none => simp [hq] at hs
  | some ie =>
    have h1 : ie.size = s := by simpa [hq] using hs
    have hr : (Instr.sliceAt t (.slice A n cap) (some (.int .i64 (i : Int))) none none).run Try.prog w = .ok (.slice (cutL A cap i s) (n - i) (cap - i)) w := by
      simp [Instr.sliceAt, Instr.slice, run_underlying hu, Instr.sliceBounds, Instr.sliceBound, asIntOf, sizeOf, typeInfo, hq, h1, hi, cutL]
    unfold Oper.wp execOp
    simp only [ho, hx, hy, Option.map_some, Option.map_none, Sem.run_bind, hr, Result.andThen_ok, Sem.run_pure, Oper.upon_value]
    exact h
end

end Go.Proofs.Ytdilgeikleddbaa
