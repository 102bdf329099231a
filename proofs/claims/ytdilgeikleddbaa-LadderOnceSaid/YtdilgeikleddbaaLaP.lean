/-
  LadderOnce: what is kept: numbers, counts, the law's book.
-/
import Derived.Test.YtdilgeikleddbaaLaO
namespace Go.Proofs.Ytdilgeikleddbaa
open Go Go.RowKit
open Sha

/-! ### counts and numbers rise -/
def chn (win : Int) : Int → Cm → List Pn → Prop
  | _, _, [] => True
  | a, c, q :: r => a < q.nr ∧ c.n < q.c.n ∧ q.c.n - c.n ≤ 1024 ∧ c.k ≤ q.c.k ∧ 0 ≤ q.du ∧ q.dl - q.po = win ∧ 0 ≤ q.po ∧ q.dl ≤ 4611686018427387904 ∧ chn win q.nr q.c r
theorem chn_mono {win a b : Int} {c : Cm} {l : List Pn} (h : chn win a c l) (k : b ≤ a) : chn win b c l := by
  cases l with
  | nil => trivial
  | cons q r => obtain ⟨h1, h2⟩ := h; exact ⟨by omega, h2⟩
theorem chn_take {win a : Int} {c : Cm} {l : List Pn} (h : chn win a c l) (i : Nat) : chn win a c (l.take i) := by
  induction l generalizing a c i with
  | nil => simp [chn]
  | cons q r ih =>
    cases i with
    | zero => trivial
    | succ i => obtain ⟨h1, h2, h3, h4, h5, h6, h7, h8, h9⟩ := h; exact ⟨h1, h2, h3, h4, h5, h6, h7, h8, ih h9 i⟩
theorem chn_app {win a : Int} {c : Cm} {l : List Pn} (h : chn win a c l) (q : Pn) (h1 : ∀ x ∈ l, x.nr < q.nr) (ha : a < q.nr) (hq : chn win (q.nr - 1) ((l.getLast?.map (·.c)).getD c) [q]) : chn win a c (l ++ [q]) := by
  induction l generalizing a c with
  | nil => obtain ⟨_, h2⟩ := hq; exact ⟨ha, h2⟩
  | cons x r ih =>
    obtain ⟨g1, g2, g3, g4, g5, g6, g7, g8, g9⟩ := h
    refine ⟨g1, g2, g3, g4, g5, g6, g7, g8, ih g9 (fun y hy => h1 y (List.mem_cons_of_mem _ hy)) (h1 x (List.mem_cons_self ..)) ?_⟩
    cases r with
    | nil => exact hq
    | cons y r' =>
      obtain ⟨z, hz⟩ : ∃ z, (y :: r').getLast? = some z := ⟨_, List.getLast?_eq_some_getLast (by simp)⟩
      rw [List.getLast?_cons_cons, hz] at hq
      rw [hz]
      exact hq
theorem chn_set {win a : Int} {c : Cm} {l : List Pn} (h : chn win a c l) {i : Nat} {x : Pn} (hi : l[i]? = some x) (d : Int) (hd : 0 ≤ d) : chn win a c (l.set i { x with du := d }) := by
  induction l generalizing a c i with
  | nil => cases hi
  | cons q r ih =>
    obtain ⟨g1, g2, g3, g4, g5, g6, g7, g8, g9⟩ := h
    cases i with
    | zero =>
      obtain rfl : q = x := by simpa using hi
      exact ⟨g1, g2, g3, g4, hd, g6, g7, g8, g9⟩
    | succ i => exact ⟨g1, g2, g3, g4, g5, g6, g7, g8, ih g9 (by simpa using hi)⟩
theorem chn_lt {win a : Int} {c : Cm} {l : List Pn} (h : chn win a c l) : ∀ x ∈ l, a < x.nr := by
  induction l generalizing a c with
  | nil => intro x hx; cases hx
  | cons q r ih =>
    obtain ⟨g1, _, _, _, _, _, _, _, g9⟩ := h
    intro x hx
    rcases List.mem_cons.1 hx with rfl | hx
    · exact g1
    · have := ih g9 x hx; omega
/-- What stands at a place of the row. -/
theorem chn_at {win a : Int} {c : Cm} {l : List Pn} (h : chn win a c l) {i : Nat} {x : Pn} (hi : l[i]? = some x) :
    (match i with | 0 => a | j + 1 => (l.getD j zP).nr) < x.nr ∧ (match i with | 0 => c | j + 1 => (l.getD j zP).c).n < x.c.n ∧ x.c.n - (match i with | 0 => c | j + 1 => (l.getD j zP).c).n ≤ 1024 ∧ (match i with | 0 => c | j + 1 => (l.getD j zP).c).k ≤ x.c.k ∧ 0 ≤ x.du ∧ x.dl - x.po = win ∧ 0 ≤ x.po ∧ x.dl ≤ 4611686018427387904 := by
  induction l generalizing a c i with
  | nil => cases hi
  | cons q r ih =>
    obtain ⟨g1, g2, g3, g4, g5, g6, g7, g8, g9⟩ := h
    cases i with
    | zero =>
      obtain rfl : q = x := by simpa using hi
      exact ⟨g1, g2, g3, g4, g5, g6, g7, g8⟩
    | succ i =>
      have := ih g9 (i := i) (by simpa using hi)
      cases i with
      | zero => simpa using this
      | succ i => simpa using this
/-- Each number is found where it stands. -/
theorem chn_fi {win a : Int} {c : Cm} {l : List Pn} (h : chn win a c l) {i : Nat} {x : Pn} (hi : l[i]? = some x) : fiN l x.nr = some i := by
  have hlt : ∀ (j : Nat) (y : Pn), j < i → l[j]? = some y → y.nr < x.nr := by
    induction l generalizing a c i with
    | nil => cases hi
    | cons q r ih =>
      obtain ⟨g1, _, _, _, _, _, _, _, g9⟩ := h
      intro j y hj hy
      cases i with
      | zero => omega
      | succ i =>
        cases j with
        | zero =>
          obtain rfl : q = y := by simpa using hy
          exact chn_lt g9 x (List.mem_of_getElem? (by simpa using hi))
        | succ j => exact ih g9 (by simpa using hi) j y (by omega) (by simpa using hy)
  unfold fiN
  rw [List.findIdx?_eq_some_iff_getElem]
  obtain ⟨ht, hxe⟩ := List.getElem?_eq_some_iff.1 hi
  refine ⟨ht, by rw [hxe]; exact decide_eq_true rfl, fun j hj => ?_⟩
  have := hlt j _ hj (List.getElem?_eq_getElem (by omega))
  simp only [Bool.not_eq_true, decide_eq_false_iff_not]
  omega

/-! ### the law's book -/
structure Bk where
  c : Cm
  ad : List (BitVec 8)
  now : Int
  gone : Int
def Bk.cells (b : Bk) : List Value := b.c.cells ++ (vB b.ad ++ [.int .i64 b.now, .int .i64 b.gone])
structure Bk.Wf (b : Bk) : Prop where
  c : b.c.Wf
  a : b.ad.length = 20
theorem Bk.len {b : Bk} (h : b.Wf) : b.cells.length = 88 := by
  unfold Bk.cells; simp only [List.length_cons, List.length_append, vB_length, Cm.len h.c, h.a, List.length_nil]
/-- The numbers that are open, in order. -/
def opn : Nat → List Bk → List Int
  | _, [] => []
  | k, b :: r => if b.gone = 0 then ((k + 1 : Nat) : Int) :: opn (k + 1) r else opn (k + 1) r
theorem opn_app (k : Nat) (l : List Bk) (b : Bk) (hb : b.gone = 0) : opn k (l ++ [b]) = opn k l ++ [((k + l.length + 1 : Nat) : Int)] := by
  induction l generalizing k with
  | nil => simp [opn, hb]
  | cons a l ih =>
    rw [List.cons_append, opn, opn, ih (k + 1), List.length_cons, show k + 1 + l.length + 1 = k + (l.length + 1) + 1 by omega]
    split <;> rfl
theorem opn_gt (k : Nat) (l : List Bk) : ∀ x ∈ opn k l, ((k + 1 : Nat) : Int) ≤ x := by
  induction l generalizing k with
  | nil => intro x hx; cases hx
  | cons a l ih =>
    intro x hx
    rw [opn] at hx
    split at hx
    · rcases List.mem_cons.1 hx with rfl | hx
      · exact Int.le_refl _
      · have := ih (k + 1) x hx; omega
    · have := ih (k + 1) x hx; omega
theorem opn_mem {k : Nat} {l : List Bk} {x : Int} (h : x ∈ opn k l) : ∃ (j : Nat) (b : Bk), l[j]? = some b ∧ b.gone = 0 ∧ x = ((k + j + 1 : Nat) : Int) := by
  induction l generalizing k with
  | nil => cases h
  | cons a l ih =>
    rw [opn] at h
    split at h
    · rename_i hg
      rcases List.mem_cons.1 h with rfl | h
      · exact ⟨0, a, rfl, hg, rfl⟩
      · obtain ⟨j, b, h1, h2, h3⟩ := ih h
        exact ⟨j + 1, b, by simpa using h1, h2, by rw [h3]; congr 1; omega⟩
    · obtain ⟨j, b, h1, h2, h3⟩ := ih h
      exact ⟨j + 1, b, by simpa using h1, h2, by rw [h3]; congr 1; omega⟩
theorem opn_set (k : Nat) (l : List Bk) (j : Nat) (b : Bk) (hb : b.gone ≠ 0) (hj : j < l.length) : opn k (l.set j b) = (opn k l).filter (fun x => decide (x ≠ ((k + j + 1 : Nat) : Int))) := by
  induction l generalizing k j with
  | nil => simp at hj
  | cons a l ih =>
    have hall : ∀ i, i ≤ k → (opn (k + 1) l).filter (fun x => decide (x ≠ ((i + 1 : Nat) : Int))) = opn (k + 1) l := fun i hi => by
      rw [List.filter_eq_self]
      intro x hx
      have := opn_gt (k + 1) l x hx
      exact decide_eq_true (by omega)
    cases j with
    | zero =>
      rw [List.set_cons_zero, opn, if_neg hb, opn]
      split
      · rw [List.filter_cons_of_neg (by simp), show k + 0 + 1 = k + 1 from rfl, hall k (Nat.le_refl _)]
      · rw [show k + 0 + 1 = k + 1 from rfl, hall k (Nat.le_refl _)]
    | succ j =>
      rw [List.set_cons_succ, opn, opn, ih (k + 1) j (by simpa using hj), show k + 1 + j + 1 = k + (j + 1) + 1 by omega]
      split
      · rw [List.filter_cons_of_pos (by simp; omega)]
      · rfl
theorem opn_pw (k : Nat) (l : List Bk) : (opn k l).Pairwise (· < ·) := by
  induction l generalizing k with
  | nil => exact List.Pairwise.nil
  | cons a l ih =>
    rw [opn]
    split
    · refine List.Pairwise.cons (fun x hx => ?_) (ih (k + 1))
      have := opn_gt (k + 1) l x hx
      omega
    · exact ih (k + 1)
/-- So many are open. -/
def cnt0 (l : List Bk) (t : Nat) : Nat := ((l.take t).filter (fun b => decide (b.gone = 0))).length
theorem opn_len (k : Nat) (l : List Bk) : (opn k l).length = (l.filter (fun b => decide (b.gone = 0))).length := by
  induction l generalizing k with
  | nil => rfl
  | cons a l ih =>
    rw [opn]
    split
    · rename_i h; rw [List.filter_cons_of_pos (by simpa using h), List.length_cons, List.length_cons, ih]
    · rename_i h; rw [List.filter_cons_of_neg (by simpa using h), ih]
structure Inv (S : La) (bk : List Bk) (win : Int) : Prop where
  op : opn 0 bk = S.pend.map (·.nr)
  gv : S.given = (bk.length : Int)
  da : ∀ q ∈ S.pend, ∀ b, bk[(q.nr - 1).toNat]? = some b → b.c = q.c ∧ b.ad = q.ad ∧ b.now = q.po
  ch : chn win 0 S.conf S.pend
  wi : S.win = win
  bw : ∀ b ∈ bk, b.Wf
theorem Inv.at {S : La} {bk : List Bk} {win : Int} (h : Inv S bk win) {q : Pn} (hq : q ∈ S.pend) : ∃ b, bk[(q.nr - 1).toNat]? = some b ∧ b.gone = 0 ∧ b.c = q.c ∧ b.ad = q.ad ∧ b.now = q.po ∧ 1 ≤ q.nr ∧ q.nr ≤ (bk.length : Int) := by
  have hm : q.nr ∈ opn 0 bk := by rw [h.op]; exact List.mem_map.2 ⟨q, hq, rfl⟩
  obtain ⟨j, b, h1, h2, h3⟩ := opn_mem hm
  have hj : (q.nr - 1).toNat = j := by omega
  have hl := (List.getElem?_eq_some_iff.1 h1).1
  obtain ⟨d1, d2, d3⟩ := h.da q hq b (by rw [hj]; exact h1)
  exact ⟨b, by rw [hj]; exact h1, h2, d1, d2, d3, by omega, by omega⟩
theorem Inv.first (c : Cm) (win : Int) : Inv (La0 c win) [] win := ⟨rfl, rfl, (fun q hq => by cases hq), trivial, rfl, (fun b hb => by cases hb)⟩
theorem top_last (S : La) : S.top = (S.pend.getLast?.map (·.c)).getD S.conf := by
  unfold La.top La.beh
  cases hp : S.pend with
  | nil => rfl
  | cons a l =>
    rw [if_neg (by simp), List.getLast?_eq_getElem?, List.getD_eq_getElem?_getD]
    simp only [List.length_cons, Nat.add_sub_cancel]
    rw [List.getElem?_eq_getElem (by simp)]
    rfl
theorem Inv.post {S S' : La} {bk : List Bk} {win : Int} {B : Int} (h : Inv S bk win) (hok : S.Ok B) {c : Cm} {ad : List (BitVec 8)} (hc : c.Wf) (had : ad.length = 20) {ib now N : Int} (hp : S.post c ad ib now = (S', N, 0)) : N = ((bk.length + 1 : Nat) : Int) ∧ ¬ ib < c.n ∧ Inv S' (bk ++ [⟨c, ad, now, 0⟩]) win ∧ S'.conf = S.conf := by
  unfold La.post at hp
  split at hp
  · cases hp
  · rename_i ht
    split at hp
    · cases hp
    · rename_i hw
      split at hp
      · cases hp
      · rename_i hf
        split at hp
        · cases hp
        · rename_i hib
          split at hp
          · cases hp
          · have htm : 0 ≤ now ∧ now ≤ 4611686018427387904 := by
              have : (tmB now && decide (S.last ≤ now)) = true := by simpa using ht
              unfold tmB at this
              simp only [Bool.and_eq_true, decide_eq_true_eq] at this
              exact this.1
            have hfo : folB c S.top = true := by simpa using hf
            obtain ⟨e1, e2⟩ := Prod.mk.inj hp
            obtain ⟨e3, _⟩ := Prod.mk.inj e2
            subst e1 e3
            have hg := h.gv
            have hnr : ∀ x ∈ S.pend, x.nr < S.given + 1 := fun x hx => by
              obtain ⟨_, _, _, _, _, _, _, q⟩ := h.at hx
              omega
            unfold folB at hfo
            simp only [Bool.and_eq_true, decide_eq_true_eq] at hfo
            refine ⟨by rw [hg]; omega, hib, ⟨?_, ?_, ?_, ?_, h.wi, ?_⟩, rfl⟩
            · show opn 0 (bk ++ [⟨c, ad, now, 0⟩]) = (S.pend ++ [S.newP c ad now]).map (·.nr)
              rw [opn_app 0 bk ⟨c, ad, now, 0⟩ rfl, List.map_append, h.op]
              show _ = _ ++ [S.given + 1]
              rw [hg]
              congr 2
              omega
            · show S.given + 1 = _
              rw [List.length_append, List.length_singleton, hg]; omega
            · intro q hq b hb
              rcases List.mem_append.1 hq with hq | hq
              · obtain ⟨b', q1, q2, q3, q4, q5, q6, q7⟩ := h.at hq
                rw [List.getElem?_append_left (by omega)] at hb
                exact h.da q hq b hb
              · obtain rfl := List.mem_singleton.1 hq
                have e : (S.given + 1 - 1).toNat = bk.length := by omega
                have hb' : (bk ++ [⟨c, ad, now, 0⟩])[(S.given + 1 - 1).toNat]? = some b := hb
                rw [e, List.getElem?_append_right (Nat.le_refl _), Nat.sub_self] at hb'
                cases hb'
                exact ⟨rfl, rfl, rfl⟩
            · show chn win 0 S.conf (S.pend ++ [S.newP c ad now])
              refine chn_app h.ch _ hnr (by show 0 < S.given + 1; omega) ?_
              rw [← top_last]
              have hwi := h.wi
              have w1 := hok.w1
              have w2 := hok.w2
              exact ⟨by show S.given + 1 - 1 < S.given + 1; omega, hfo.1.1.2, hfo.1.2, hfo.2, Int.le_refl _, by show now + S.win - now = win; omega, htm.1, by show now + S.win ≤ _; omega, trivial⟩
            · intro b hb
              rcases List.mem_append.1 hb with hb | hb
              · exact h.bw b hb
              · obtain rfl := List.mem_singleton.1 hb; exact ⟨hc, had⟩
/-- One is gone. -/
def bgo (bk : List Bk) (nr g : Int) : List Bk := match bk[(nr - 1).toNat]? with | none => bk | some b => bk.set (nr - 1).toNat { b with gone := g }
theorem bgo_len (bk : List Bk) (nr g : Int) : (bgo bk nr g).length = bk.length := by
  unfold bgo; split <;> simp
theorem bgo_op {bk : List Bk} {nr g : Int} (hg : g ≠ 0) (h1 : 1 ≤ nr) (h2 : nr ≤ (bk.length : Int)) : opn 0 (bgo bk nr g) = (opn 0 bk).filter (fun x => decide (x ≠ nr)) := by
  have hj : (nr - 1).toNat < bk.length := by omega
  unfold bgo
  rw [List.getElem?_eq_getElem hj]
  simp only
  rw [opn_set 0 bk _ _ hg hj, show ((0 + (nr - 1).toNat + 1 : Nat) : Int) = nr by omega]
theorem bgo_ne {bk : List Bk} {nr g : Int} {j : Nat} (h : j ≠ (nr - 1).toNat) : (bgo bk nr g)[j]? = bk[j]? := by
  unfold bgo; split
  · rfl
  · exact List.getElem?_set_ne (Ne.symm h)
theorem bgo_wf {bk : List Bk} {nr g : Int} (h : ∀ b ∈ bk, b.Wf) : ∀ b ∈ bgo bk nr g, b.Wf := by
  unfold bgo; split
  · exact h
  · rename_i b0 hb0
    intro b hb
    rcases List.mem_or_eq_of_mem_set hb with q | rfl
    · exact h b q
    · exact ⟨(h b0 (List.mem_of_getElem? hb0)).c, (h b0 (List.mem_of_getElem? hb0)).a⟩
def bgos (bk : List Bk) (l : List Pn) (g : Int) : List Bk := l.foldl (fun b q => bgo b q.nr g) bk
theorem bgos_snoc (bk : List Bk) (l : List Pn) (q : Pn) (g : Int) : bgos bk (l ++ [q]) g = bgo (bgos bk l g) q.nr g := by
  unfold bgos; rw [List.foldl_append]; rfl
theorem bgos_len (bk : List Bk) (l : List Pn) (g : Int) : (bgos bk l g).length = bk.length := by
  unfold bgos
  induction l generalizing bk with
  | nil => rfl
  | cons q r ih => rw [List.foldl_cons, ih, bgo_len]
theorem bgos_wf {bk : List Bk} {l : List Pn} {g : Int} (h : ∀ b ∈ bk, b.Wf) : ∀ b ∈ bgos bk l g, b.Wf := by
  unfold bgos
  induction l generalizing bk with
  | nil => exact h
  | cons q r ih => rw [List.foldl_cons]; exact ih (bgo_wf h)
theorem bgos_ne {bk : List Bk} {l : List Pn} {g : Int} {j : Nat} (h : ∀ q ∈ l, j ≠ (q.nr - 1).toNat) : (bgos bk l g)[j]? = bk[j]? := by
  unfold bgos
  induction l generalizing bk with
  | nil => rfl
  | cons q r ih => rw [List.foldl_cons, ih (fun x hx => h x (List.mem_cons_of_mem _ hx)), bgo_ne (h q (List.mem_cons_self ..))]
theorem bgos_op {bk : List Bk} {l : List Pn} {g : Int} (hg : g ≠ 0) (h : ∀ q ∈ l, 1 ≤ q.nr ∧ q.nr ≤ (bk.length : Int)) : opn 0 (bgos bk l g) = (opn 0 bk).filter (fun x => decide (∀ q ∈ l, x ≠ q.nr)) := by
  unfold bgos
  induction l generalizing bk with
  | nil => exact (List.filter_eq_self.2 (fun _ _ => decide_eq_true (fun q hq => by cases hq))).symm
  | cons q r ih =>
    rw [List.foldl_cons, ih (fun x hx => by rw [bgo_len]; exact h x (List.mem_cons_of_mem _ hx)), bgo_op hg (h q (List.mem_cons_self ..)).1 (h q (List.mem_cons_self ..)).2, List.filter_filter]
    congr 1
    funext x
    rw [Bool.eq_iff_iff]
    simp only [Bool.and_eq_true, decide_eq_true_eq, List.forall_mem_cons]
    exact And.comm
theorem pw_nr {S : La} {bk : List Bk} {win : Int} (h : Inv S bk win) : (S.pend.map (·.nr)).Pairwise (· < ·) := by rw [← h.op]; exact opn_pw 0 bk
theorem Inv.dropped {S : La} {bk : List Bk} {win : Int} (h : Inv S bk win) (i : Nat) : Inv { S with pend := S.pend.take i } (bgos bk (S.pend.drop i) 2) win := by
  have hb : ∀ q ∈ S.pend.drop i, 1 ≤ q.nr ∧ q.nr ≤ (bk.length : Int) := fun q hq => by
    obtain ⟨_, _, _, _, _, _, q6, q7⟩ := h.at (List.mem_of_mem_drop hq)
    exact ⟨q6, q7⟩
  have hpw : ∀ x ∈ S.pend.take i, ∀ y ∈ S.pend.drop i, x.nr < y.nr := by
    have := pw_nr h
    rw [← List.take_append_drop i S.pend, List.map_append, List.pairwise_append] at this
    intro x hx y hy
    exact this.2.2 _ (List.mem_map.2 ⟨x, hx, rfl⟩) _ (List.mem_map.2 ⟨y, hy, rfl⟩)
  refine ⟨?_, by show S.given = _; rw [bgos_len]; exact h.gv, ?_, chn_take h.ch i, h.wi, bgos_wf h.bw⟩
  · rw [bgos_op (by decide) hb, h.op]
    show (S.pend.map (·.nr)).filter _ = (S.pend.take i).map (·.nr)
    conv => lhs; rw [← List.take_append_drop i S.pend]
    rw [List.map_append, List.filter_append, List.filter_eq_self.2, List.filter_eq_nil_iff.2, List.append_nil]
    · intro x hx
      obtain ⟨q, hq, rfl⟩ := List.mem_map.1 hx
      intro hh
      exact of_decide_eq_true hh q (by rw [List.take_append_drop]; exact hq) rfl
    · intro x hx
      obtain ⟨q, hq, rfl⟩ := List.mem_map.1 hx
      refine decide_eq_true (fun y hy e => ?_)
      rw [List.take_append_drop] at hy
      have := hpw q hq y hy
      omega
  · intro q hq b hb2
    have hq' : q ∈ S.pend.take i := hq
    rw [bgos_ne (fun y hy e => by
      have := hpw q hq' y hy
      have := (hb y hy).1
      obtain ⟨_, _, _, _, _, _, q6, _⟩ := h.at (List.mem_of_mem_take hq')
      omega)] at hb2
    exact h.da q (List.mem_of_mem_take hq') b hb2
theorem Inv.confirmed {S : La} {bk : List Bk} {win now : Int} (h : Inv S bk win) {y : Pn} {rest : List Pn} (hp : S.pend = y :: rest) : Inv { S with last := now, conf := y.c, pend := rest } (bgo bk y.nr 1) win := by
  have hy : y ∈ S.pend := by rw [hp]; exact List.mem_cons_self ..
  obtain ⟨b0, y1, y2, y3, y4, y5, y6, y7⟩ := h.at hy
  have hch := h.ch
  rw [hp] at hch
  obtain ⟨g1, _, _, _, _, _, _, _, g9⟩ := hch
  have hlt : ∀ x ∈ rest, y.nr < x.nr := chn_lt g9
  refine ⟨?_, by show S.given = _; rw [bgo_len]; exact h.gv, ?_, chn_mono g9 (by omega), h.wi, bgo_wf h.bw⟩
  · rw [bgo_op (by decide) y6 y7, h.op, hp, List.map_cons, List.filter_cons_of_neg (by simp)]
    rw [List.filter_eq_self]
    intro x hx
    obtain ⟨q, hq, rfl⟩ := List.mem_map.1 hx
    have := hlt q hq
    exact decide_eq_true (by omega)
  · intro q hq b hb
    have := hlt q hq
    rw [bgo_ne (by omega)] at hb
    exact h.da q (by rw [hp]; exact List.mem_cons_of_mem _ hq) b hb
theorem Inv.du {S : La} {bk : List Bk} {win : Int} (h : Inv S bk win) {i : Nat} {x : Pn} (hi : S.pend[i]? = some x) (d : Int) (hd : 0 ≤ d) : Inv (S.setDu i x d) bk win := by
  have hx := List.mem_of_getElem? hi
  refine ⟨?_, h.gv, fun q hq b hb => ?_, chn_set h.ch hi d hd, h.wi, h.bw⟩
  · rw [h.op]
    show S.pend.map (·.nr) = (S.pend.set i { x with du := d }).map (·.nr)
    rw [List.map_set]
    have : (S.pend.map (·.nr))[i]? = some x.nr := by rw [List.getElem?_map, hi]; rfl
    obtain ⟨hl, he⟩ := List.getElem?_eq_some_iff.1 this
    rw [← he, List.set_getElem_self]
  · rcases mem_setP hq with q1 | rfl
    · exact h.da q q1 b hb
    · exact h.da x hx b hb
theorem Inv.held {S S' : La} {bk : List Bk} {win B nr now E : Int} (h : Inv S bk win) (hok : S.Ok B) (hp : S.hold nr now = (S', E)) : Inv S' bk win ∧ S'.conf = S.conf := by
  unfold La.hold at hp
  split at hp
  · cases hp; exact ⟨h, rfl⟩
  · split at hp
    · cases hp; exact ⟨h, rfl⟩
    · split at hp
      · cases hp; exact ⟨h, rfl⟩
      · rename_i i _ x hx
        split at hp
        · cases hp; exact ⟨h, rfl⟩
        · cases hp
          have := hok.pd x (List.mem_of_getElem? hx)
          exact ⟨h.du hx _ (by omega), rfl⟩
theorem Inv.released {S S' : La} {bk : List Bk} {win B nr E : Int} (h : Inv S bk win) (hok : S.Ok B) (hp : S.rel nr = (S', E)) : Inv S' bk win ∧ S'.conf = S.conf := by
  unfold La.rel at hp
  split at hp
  · cases hp; exact ⟨h, rfl⟩
  · split at hp
    · cases hp; exact ⟨h, rfl⟩
    · rename_i i _ x hx
      split at hp
      · cases hp; exact ⟨h, rfl⟩
      · cases hp
        have := hok.pd x (List.mem_of_getElem? hx)
        exact ⟨h.du hx _ (by omega), rfl⟩

end Go.Proofs.Ytdilgeikleddbaa
