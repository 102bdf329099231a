/-
  LadderPlays: three ladders of both kinds, and the lists that were told, side by side.
-/
import Derived.Test.YtfdbjcdcfmnicaaLpH
namespace Go.Proofs.Ytfdbjcdcfmnicaa
open Go Go.RowKit
open Sha

def ptL (p : Nat) : Value := .pointer (some ⟨p, 0, none⟩)
def prc (P : List Nat) (Ds : List (List Value)) (T : Value) : List Value := P.map ptL ++ (Ds.flatten ++ [T])
theorem flat_len {Ds : List (List Value)} (h : ∀ d ∈ Ds, d.length = 70) : Ds.flatten.length = Ds.length * 70 := by
  induction Ds with
  | nil => rfl
  | cons d Ds ih => rw [List.flatten_cons, List.length_append, h d (List.mem_cons_self ..), ih (fun x hx => h x (List.mem_cons_of_mem _ hx)), List.length_cons]; omega
theorem flat_at {Ds : List (List Value)} (h : ∀ d ∈ Ds, d.length = 70) {k : Nat} {d : List Value} (hk : Ds[k]? = some d) (j : Nat) (u : Value) (hj : d[j]? = some u) : Ds.flatten[k * 70 + j]? = some u := by
  induction Ds generalizing k with
  | nil => cases hk
  | cons x Ds ih =>
    have hx := h x (List.mem_cons_self ..)
    cases k with
    | zero =>
      cases hk
      rw [List.flatten_cons, Nat.zero_mul, Nat.zero_add, List.getElem?_append_left ((List.getElem?_eq_some_iff.1 hj).1)]
      exact hj
    | succ k =>
      rw [List.flatten_cons, List.getElem?_append_right (by omega), hx, show (k + 1) * 70 + j - 70 = k * 70 + j by omega]
      exact ih (fun y hy => h y (List.mem_cons_of_mem _ hy)) hk
theorem flat_set {Ds : List (List Value)} (h : ∀ d ∈ Ds, d.length = 70) {k : Nat} (hk : k < Ds.length) (d : List Value) : Ds.flatten.take (k * 70) ++ d ++ Ds.flatten.drop (k * 70 + 70) = (Ds.set k d).flatten := by
  induction Ds generalizing k with
  | nil => cases hk
  | cons x Ds ih =>
    have hx := h x (List.mem_cons_self ..)
    cases k with
    | zero => rw [Nat.zero_mul, List.take_zero, List.nil_append, List.set_cons_zero, List.flatten_cons, List.flatten_cons, Nat.zero_add, ← hx, List.drop_left]
    | succ k =>
      rw [List.flatten_cons, List.set_cons_succ, List.flatten_cons, show (k + 1) * 70 = x.length + k * 70 by omega, List.take_length_add_append, show x.length + k * 70 + 70 = x.length + (k * 70 + 70) by omega, List.drop_length_add_append, List.append_assoc, List.append_assoc, ← ih (fun y hy => h y (List.mem_cons_of_mem _ hy)) (by simpa using hk), List.append_assoc]
section
variable {P : List Nat} {Ds : List (List Value)} {T : Value}
theorem prc_len (hp : P.length = 3) (hd : Ds.length = 3) (h : ∀ d ∈ Ds, d.length = 70) : (prc P Ds T).length = 214 := by
  unfold prc
  rw [List.length_append, List.length_append, List.length_map, flat_len h, hp, hd]
  rfl
theorem prc_p {k p : Nat} (hk : P[k]? = some p) : (prc P Ds T)[k]? = some (ptL p) := by
  have hk3 : k < P.length := (List.getElem?_eq_some_iff.1 hk).1
  unfold prc
  rw [List.getElem?_append_left (by rw [List.length_map]; exact hk3), List.getElem?_map, hk]
  rfl
theorem prc_d (hp : P.length = 3) (h : ∀ d ∈ Ds, d.length = 70) {k : Nat} {d : List Value} (hk : Ds[k]? = some d) (j : Nat) (u : Value) (hj : d[j]? = some u) : (prc P Ds T)[3 + k * 70 + j]? = some u := by
  have q := flat_at h hk j u hj
  unfold prc
  rw [List.getElem?_append_right (by rw [List.length_map, hp]; omega), List.length_map, hp, show 3 + k * 70 + j - 3 = k * 70 + j by omega, List.getElem?_append_left ((List.getElem?_eq_some_iff.1 q).1)]
  exact q
theorem prc_T (hp : P.length = 3) (hd : Ds.length = 3) (h : ∀ d ∈ Ds, d.length = 70) : (prc P Ds T)[213]? = some T := by
  unfold prc
  rw [List.getElem?_append_right (by rw [List.length_map, hp]; decide), List.length_map, hp, List.getElem?_append_right (by rw [flat_len h, hd]; decide), flat_len h, hd]
  rfl
theorem prc_setp (hp : P.length = 3) {k : Nat} (hk : k < 3) (p : Nat) : (prc P Ds T).set k (ptL p) = prc (P.set k p) Ds T := by
  unfold prc
  rw [List.set_append_left _ _ (by rw [List.length_map, hp]; exact hk), List.map_set]
theorem prc_setT (hp : P.length = 3) (hd : Ds.length = 3) (h : ∀ d ∈ Ds, d.length = 70) (u : Value) : (prc P Ds T).set 213 u = prc P Ds u := by
  unfold prc
  rw [List.set_append_right _ _ (by rw [List.length_map, hp]; decide), List.length_map, hp, List.set_append_right _ _ (by rw [flat_len h, hd]; decide), flat_len h, hd]
  rfl
theorem prc_setd (hp : P.length = 3) (hd : Ds.length = 3) (h : ∀ d ∈ Ds, d.length = 70) {k : Nat} (hk : k < 3) (d : List Value) (hl : d.length = 70) : (prc P Ds T).take (3 + k * 70) ++ d ++ (prc P Ds T).drop (3 + k * 70 + d.length) = prc P (Ds.set k d) T := by
  have e3 : (P.map ptL).length = 3 := by rw [List.length_map, hp]
  have fl : Ds.flatten.length = 210 := by rw [flat_len h, hd]
  unfold prc
  rw [← flat_set h (by rw [hd]; exact hk) d, hl, show 3 + k * 70 = (P.map ptL).length + k * 70 by rw [e3], List.take_length_add_append, show (P.map ptL).length + k * 70 + 70 = (P.map ptL).length + (k * 70 + 70) by omega, List.drop_length_add_append, List.take_append_of_le_length (by omega), List.drop_append_of_le_length (by omega)]
  simp only [List.append_assoc]
end
/-- Three ladders of both kinds, and the lists that were told. -/
structure Pl (w0 w : World) (q : Nat) (B : Int) (Ls : List (Nat × Value × La)) (Es : List (Value × La)) (T : Value) (ts : List (Value × Nat)) : Prop where
  hp : Hp w0 w [] (Ls.map fun l => (l.1, l.2.1, B, l.2.2))
  l3 : Ls.length = 3
  e3 : Es.length = 3
  row : Row w q (prc (Ls.map (·.1)) (Es.map fun e => e.2.dc e.1) T) tPr
  qn : w0.heap.size ≤ q
  rf : ∀ e ∈ Es, Rf w e.1 B e.2
  ra : ∀ e ∈ Es, ∀ g, e.1.ownBlock = some g → ∀ l ∈ Ls, ¬ Tb l.1 l.2.1 g
  tl : Lw w tPs 1 T ts.length (ts.map (·.1))
  tn : ∀ g, T.ownBlock = some g → w0.heap.size ≤ g
  ti : ∀ (j : Nat) (y : Value × Nat), ts[j]? = some y → Lo w tP 90 y.1 y.2 (pcs (List.replicate y.2 (mk (-1 - (j : Int))))) ∧ y.2 ≤ 1000
  ta : ∀ y ∈ ts, ∀ g, y.1.ownBlock = some g → ∀ l ∈ Ls, ¬ Tb l.1 l.2.1 g
theorem Hp.mono {w0 w : World} {B C : Int} {Ls : List (Nat × Value × La)} (h : Hp w0 w [] (Ls.map fun l => (l.1, l.2.1, B, l.2.2))) (k : B ≤ C) : Hp w0 w [] (Ls.map fun l => (l.1, l.2.1, C, l.2.2)) := by
  refine ⟨h.be, (fun _ q => by cases q), fun l hl => ?_, fun l hl => ?_, (fun _ q => by cases q), ?_⟩
  · obtain ⟨x, hx, rfl⟩ := List.mem_map.1 hl
    exact (h.lad _ (List.mem_map.2 ⟨x, hx, rfl⟩)).mono k
  · obtain ⟨x, hx, rfl⟩ := List.mem_map.1 hl
    exact h.new (x.1, x.2.1, B, x.2.2) (List.mem_map.2 ⟨x, hx, rfl⟩)
  · have := h.ll
    rw [List.pairwise_map] at this ⊢
    exact this
section
variable {w0 w X : World} {q : Nat} {B C : Int} {Ls : List (Nat × Value × La)} {Es : List (Value × La)} {T : Value} {ts : List (Value × Nat)}
theorem Pl.lad (h : Pl w0 w q B Ls Es T ts) {k : Nat} {l : Nat × Value × La} (hk : Ls[k]? = some l) : Ld w l.1 l.2.1 B l.2.2 := h.hp.lad _ (List.mem_map.2 ⟨l, List.mem_of_getElem? hk, rfl⟩)
theorem Pl.ladm (h : Pl w0 w q B Ls Es T ts) {l : Nat × Value × La} (hk : l ∈ Ls) : Ld w l.1 l.2.1 B l.2.2 := h.hp.lad _ (List.mem_map.2 ⟨l, hk, rfl⟩)
theorem Pl.mono (h : Pl w0 w q B Ls Es T ts) (k : B ≤ C) : Pl w0 w q C Ls Es T ts := ⟨h.hp.mono k, h.l3, h.e3, h.row, h.qn, fun e he => ⟨(h.rf e he).own, (h.rf e he).ok.mono k⟩, h.ra, h.tl, h.tn, h.ti, h.ta⟩
theorem Pl.be (h : Pl w0 w q B Ls Es T ts) : Below w0.heap.size w0 w := h.hp.be
theorem Pl.below (h : Pl w0 w q B Ls Es T ts) (k : Below w.heap.size w X) : Pl w0 X q B Ls Es T ts :=
  ⟨h.hp.below k, h.l3, h.e3, Row.below h.row k h.row.lt, h.qn, fun e he => (h.rf e he).be k, h.ra, Lw.be h.tl k, h.tn, fun j y hy => ⟨(h.ti j y hy).1.be k, (h.ti j y hy).2⟩, h.ta⟩
theorem Pl.d70 (h : Pl w0 w q B Ls Es T ts) : ∀ d ∈ Es.map (fun e => e.2.dc e.1), d.length = 70 := fun d hd => by
  obtain ⟨e, he, rfl⟩ := List.mem_map.1 hd
  exact La.dlen (h.rf e he).ok.cf _
/-- Whatever turns elsewhere. -/
theorem Pl.gro {R : Nat → Prop} (h : Pl w0 w q B Ls Es T ts) (k : Gro R w X) (hq : ¬ R q) (hT : ∀ g, T.ownBlock = some g → ¬ R g) (hE : ∀ e ∈ Es, ∀ g, e.1.ownBlock = some g → ¬ R g) (ht : ∀ y ∈ ts, ∀ g, y.1.ownBlock = some g → ¬ R g) (hL : ∀ l ∈ Ls, ∀ g, Tb l.1 l.2.1 g → ¬ R g) (hn : ∀ g, R g → w0.heap.size ≤ g) : Pl w0 X q B Ls Es T ts := by
  refine ⟨⟨h.be.trans (k.to_below h.be.size hn), (fun _ q => by cases q), fun l hl => ?_, h.hp.new, (fun _ q => by cases q), h.hp.ll⟩, h.l3, h.e3, k.row h.row hq, h.qn, fun e he => ⟨(h.rf e he).own.gro k (hE e he), (h.rf e he).ok⟩, h.ra, Lw.gro h.tl k hT, h.tn, fun j y hy => ⟨(h.ti j y hy).1.gro k (ht y (List.mem_of_getElem? hy)), (h.ti j y hy).2⟩, h.ta⟩
  obtain ⟨x, hx, rfl⟩ := List.mem_map.1 hl
  exact (h.ladm hx).gro k (hL x hx)
/-- Fresh blocks turn. -/
theorem Pl.fresh {R : Nat → Prop} (h : Pl w0 w q B Ls Es T ts) {V : World} (hV : Pl w0 V q B Ls Es T ts) (k : Gro R w X) (hR : ∀ g, R g → V.heap.size ≤ g) : Pl w0 X q B Ls Es T ts :=
  h.gro k (fun e => by have := hR q e; have := hV.row.lt; omega) (fun g e r => by have := hR g r; have := Lw.lt hV.tl g e; omega) (fun x hx g e r => by have := hR g r; have := (hV.rf x hx).own.lt g e; omega) (fun y hy g e r => by obtain ⟨j, hj, rfl⟩ := List.getElem_of_mem hy; have := hR g r; have := (hV.ti j _ (List.getElem?_eq_getElem hj)).1.lt g e; omega) (fun l hl g e r => by have := hR g r; have := (hV.ladm hl).lt g e; omega) (fun g r => Nat.le_trans hV.be.size (hR g r))
theorem tb_ty (h : Pl w0 w q B Ls Es T ts) {l : Nat × Value × La} (hl : l ∈ Ls) {g : Nat} {cs : List Value} {t : TypeId} (r : Row w g cs t) (h1 : t ≠ tL) (h2 : t ≠ tP) : ¬ Tb l.1 l.2.1 g := by
  rintro (e | e)
  · subst e; exact h1 (row_ty r (h.ladm hl).row)
  · exact (h.ladm hl).own.ne r h2 g e rfl
/-- One of the ladders has turned. -/
theorem Pl.turn (h : Pl w0 w q B Ls Es T ts) {k : Nat} {p : Nat} {v : Value} {st st' : La} (hk : Ls[k]? = some (p, v, st)) (hBC : B ≤ C) (t : Tn w X p v C st') : ∃ v', Pl w0 X q C (Ls.set k (p, v', st')) Es T ts := by
  have hC := h.mono hBC
  have hm := List.mem_of_getElem? hk
  have hk3 : k < Ls.length := (List.getElem?_eq_some_iff.1 hk).1
  have hkm : (Ls.map fun l => (l.1, l.2.1, C, l.2.2))[k]? = some (p, v, C, st) := by rw [List.getElem?_map, hk]; rfl
  obtain ⟨v', hH, hN⟩ := hC.hp.turn k hkm t
  obtain ⟨_, _, hG, _⟩ := t
  have hset : (Ls.map fun l => (l.1, l.2.1, C, l.2.2)).set k (p, v', C, st') = (Ls.set k (p, v', st')).map fun l => (l.1, l.2.1, C, l.2.2) := by rw [List.map_set]
  rw [hset] at hH
  have hP : (Ls.set k (p, v', st')).map (·.1) = Ls.map (·.1) := by
    rw [List.map_set]
    refine List.ext_getElem? fun j => ?_
    by_cases z : k = j
    · subst z
      rw [List.getElem?_set_self (by rw [List.length_map]; exact hk3), List.getElem?_map, hk]
      rfl
    · rw [List.getElem?_set_ne z]
  have apart : ∀ g, (∀ l ∈ Ls, ¬ Tb l.1 l.2.1 g) → g < w.heap.size → ∀ l ∈ Ls.set k (p, v', st'), ¬ Tb l.1 l.2.1 g := fun g ha hlt l hl => by
    rcases List.mem_or_eq_of_mem_set hl with z | z
    · exact ha l z
    · subst z
      rintro (e | e)
      · exact ha _ hm (.inl e)
      · rcases hN with n | n
        · exact ha _ hm (.inr (by rw [← n]; exact e))
        · have := n g e; omega
  have tT : ∀ g, T.ownBlock = some g → ¬ Tb p v g := fun g e => by
    rintro (z | z)
    · subst z; exact Lw.ne h.tl (h.ladm hm).row (by decide) g e rfl
    · exact lo_lw (h.ladm hm).own h.tl (by decide) g z e
  refine ⟨v', hH, by rw [List.length_set]; exact h.l3, h.e3, by rw [hP]; exact hG.row h.row (tb_ty h hm h.row (by decide) (by decide)), h.qn, fun e he => ⟨(hC.rf e he).own.gro hG (fun g e1 e2 => h.ra e he g e1 _ hm e2), (hC.rf e he).ok⟩, fun e he g e1 => apart g (h.ra e he g e1) ((h.rf e he).own.lt g e1), Lw.gro h.tl hG tT, h.tn, fun j y hy => ⟨(h.ti j y hy).1.gro hG (fun g e1 e2 => h.ta y (List.mem_of_getElem? hy) g e1 _ hm e2), (h.ti j y hy).2⟩, fun y hy g e1 => ?_⟩
  obtain ⟨j, hj, rfl⟩ := List.getElem_of_mem hy
  exact apart g (h.ta _ hy g e1) ((h.ti j _ (List.getElem?_eq_getElem hj)).1.lt g e1)
/-- The document's ladder is laid anew. -/
theorem Pl.setE (h : Pl w0 w q B Ls Es T ts) {k : Nat} (hk : k < 3) {v' : Value} {st' : La} (hr : Rf w v' B st') (ha : ∀ g, v'.ownBlock = some g → ∀ l ∈ Ls, ¬ Tb l.1 l.2.1 g) (hX : Row X q ((prc (Ls.map (·.1)) (Es.map fun e => e.2.dc e.1) T).take (3 + k * 70) ++ st'.dc v' ++ (prc (Ls.map (·.1)) (Es.map fun e => e.2.dc e.1) T).drop (3 + k * 70 + (st'.dc v').length)) tPr) (hg : Gro (· = q) w X) : Pl w0 X q B Ls (Es.set k (v', st')) T ts := by
  rw [prc_setd (by rw [List.length_map]; exact h.l3) (by rw [List.length_map]; exact h.e3) h.d70 hk _ (La.dlen hr.ok.cf _), show (Es.map fun e => e.2.dc e.1).set k (st'.dc v') = (Es.set k (v', st')).map (fun e => e.2.dc e.1) by rw [List.map_set]] at hX
  have nq : ∀ {v : Value} {n : Nat} {xs : List Value}, Lo w tP 90 v n xs → ∀ g, v.ownBlock = some g → ¬ g = q := fun hl g e z => hl.ne h.row (by decide) g e z
  refine ⟨⟨h.be.trans (hg.to_below h.be.size (fun g e => by rw [e]; exact h.qn)), (fun _ q => by cases q), fun l hl => ?_, h.hp.new, (fun _ q => by cases q), h.hp.ll⟩, h.l3, by rw [List.length_set]; exact h.e3, hX, h.qn, fun e he => ?_, fun e he => ?_, Lw.gro h.tl hg (fun g e z => Lw.ne h.tl h.row (by decide) g e z), h.tn, fun j y hy => ⟨(h.ti j y hy).1.gro hg (nq (h.ti j y hy).1), (h.ti j y hy).2⟩, h.ta⟩
  · obtain ⟨x, hx, rfl⟩ := List.mem_map.1 hl
    exact (h.ladm hx).gro hg (fun g e z => by subst z; exact tb_ty h hx h.row (by decide) (by decide) e)
  · rcases List.mem_or_eq_of_mem_set he with z | z
    · exact ⟨(h.rf e z).own.gro hg (nq (h.rf e z).own), (h.rf e z).ok⟩
    · subst z; exact ⟨hr.own.gro hg (nq hr.own), hr.ok⟩
  · rcases List.mem_or_eq_of_mem_set he with z | z
    · exact h.ra e z
    · subst z; exact ha
end

end Go.Proofs.Ytfdbjcdcfmnicaa
