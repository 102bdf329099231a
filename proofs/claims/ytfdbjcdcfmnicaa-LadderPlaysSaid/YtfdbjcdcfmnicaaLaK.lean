/-
  the ladder's laws: rows and ladders side by side; the law's awake.
-/
import Derived.Test.YtfdbjcdcfmnicaaLaJ
namespace Go.Proofs.Ytfdbjcdcfmnicaa
open Go Go.RowKit
open Sha

/-- Rows and ladders, made since w0, each apart from the others. -/
structure Hp (w0 w : World) (rs : List (Nat × List Value × TypeId)) (ls : List (Nat × Value × Int × La)) : Prop where
  be : Below w0.heap.size w0 w
  row : ∀ r ∈ rs, Row w r.1 r.2.1 r.2.2
  lad : ∀ l ∈ ls, Ld w l.1 l.2.1 l.2.2.1 l.2.2.2
  new : ∀ l ∈ ls, ∀ g, Tb l.1 l.2.1 g → w0.heap.size ≤ g
  rl : ∀ r ∈ rs, ∀ l ∈ ls, ¬ Tb l.1 l.2.1 r.1
  ll : ls.Pairwise (fun a b => ∀ g, Tb a.1 a.2.1 g → ¬ Tb b.1 b.2.1 g)
section
variable {w0 w w' : World} {rs : List (Nat × List Value × TypeId)} {ls : List (Nat × Value × Int × La)}
theorem Hp.nil (w : World) : Hp w w [] [] := ⟨Below.refl _ _, (fun _ h => by cases h), (fun _ h => by cases h), (fun _ h => by cases h), (fun _ h => by cases h), List.Pairwise.nil⟩
theorem Hp.below (h : Hp w0 w rs ls) (k : Below w.heap.size w w') : Hp w0 w' rs ls :=
  ⟨h.be.trans (k.mono h.be.size), fun r hr => Row.below (h.row r hr) k (h.row r hr).lt, fun l hl => (h.lad l hl).be k, h.new, h.rl, h.ll⟩
theorem Hp.addR (h : Hp w0 w rs ls) (k : Below w.heap.size w w') {b : Nat} {cs : List Value} {t : TypeId} (r : Row w' b cs t) (hb : w.heap.size ≤ b) : Hp w0 w' ((b, cs, t) :: rs) ls := by
  have h2 := h.below k
  refine ⟨h2.be, fun q hq => ?_, h2.lad, h2.new, fun q hq l hl => ?_, h2.ll⟩
  · rcases List.mem_cons.1 hq with rfl | hq
    · exact r
    · exact h2.row q hq
  · rcases List.mem_cons.1 hq with rfl | hq
    · intro q
      have := (h.lad l hl).lt b q
      omega
    · exact h2.rl q hq l hl
theorem Hp.addL (h : Hp w0 w rs ls) (k : Below w.heap.size w w') {p : Nat} {v : Value} {B : Int} {st : La} (d : Ld w' p v B st) (hn : ∀ g, Tb p v g → w.heap.size ≤ g) : Hp w0 w' rs ((p, v, B, st) :: ls) := by
  have h2 := h.below k
  refine ⟨h2.be, h2.row, fun q hq => ?_, fun q hq g hg => ?_, fun q hq l hl => ?_, List.Pairwise.cons (fun l hl g hg q => ?_) h2.ll⟩
  · rcases List.mem_cons.1 hq with rfl | hq
    · exact d
    · exact h2.lad q hq
  · rcases List.mem_cons.1 hq with rfl | hq
    · exact Nat.le_trans h.be.size (hn g hg)
    · exact h2.new q hq g hg
  · rcases List.mem_cons.1 hl with rfl | hl
    · intro e
      have := (h.row q hq).lt
      have := hn _ e
      omega
    · exact h2.rl q hq l hl
  · have := (h.lad l hl).lt g q
    have := hn g hg
    omega
theorem Hp.dropR (h : Hp w0 w rs ls) {rs' : List (Nat × List Value × TypeId)} (k : ∀ r ∈ rs', r ∈ rs) : Hp w0 w rs' ls := ⟨h.be, fun r hr => h.row r (k r hr), h.lad, h.new, fun r hr => h.rl r (k r hr), h.ll⟩
/-- One of the ladders has turned. -/
theorem Hp.turn (h : Hp w0 w rs ls) (i : Nat) {p : Nat} {v : Value} {B B' : Int} {st st' : La} (hi : ls[i]? = some (p, v, B, st)) (t : Tn w w' p v B' st') : ∃ v', Hp w0 w' rs (ls.set i (p, v', B', st')) ∧ Nv w v v' := by
  obtain ⟨v', d, g, n⟩ := t
  have hm := List.mem_of_getElem? hi
  have hil : i < ls.length := (List.getElem?_eq_some_iff.1 hi).1
  have hge := (List.getElem?_eq_some_iff.1 hi).2
  have hpw := List.pairwise_iff_getElem.1 h.ll
  have apart : ∀ j (hj : j < ls.length), j ≠ i → ∀ g, Tb (ls[j]).1 (ls[j]).2.1 g → ¬ Tb p v g := by
    intro j hj hne g hg q
    rcases Nat.lt_or_gt_of_ne hne with hlt | hlt
    · have := hpw j i hj hil hlt g hg
      rw [hge] at this
      exact this q
    · have := hpw i j hil hj hlt g
      rw [hge] at this
      exact this q hg
  have newT : ∀ g, Tb p v' g → Tb p v g ∨ w.heap.size ≤ g := by
    intro g hg
    rcases hg with rfl | hg
    · exact .inl (.inl rfl)
    · rcases n with n | n
      · exact .inl (.inr (by rw [← n]; exact hg))
      · exact .inr (n g hg)
  refine ⟨v', ⟨?_, fun r hr => g.row (h.row r hr) (h.rl r hr _ hm), fun l hl => ?_, fun l hl g' hg' => ?_, fun r hr l hl => ?_, ?_⟩, n⟩
  · exact h.be.trans (g.to_below h.be.size (fun k hk => h.new _ hm k hk))
  · obtain ⟨j, hj, rfl⟩ := List.getElem_of_mem hl
    rw [List.length_set] at hj
    by_cases e : j = i
    · subst e
      rw [List.getElem_set_self]
      exact d
    · rw [List.getElem_set_ne (Ne.symm e)]
      exact (h.lad _ (List.getElem_mem hj)).gro g (fun k hk => apart j hj e k hk)
  · obtain ⟨j, hj, rfl⟩ := List.getElem_of_mem hl
    rw [List.length_set] at hj
    by_cases e : j = i
    · subst e
      rw [List.getElem_set_self] at hg'
      rcases newT g' hg' with q | q
      · exact h.new _ hm g' q
      · exact Nat.le_trans h.be.size q
    · rw [List.getElem_set_ne (Ne.symm e)] at hg'
      exact h.new _ (List.getElem_mem hj) g' hg'
  · obtain ⟨j, hj, rfl⟩ := List.getElem_of_mem hl
    rw [List.length_set] at hj
    by_cases e : j = i
    · subst e
      rw [List.getElem_set_self]
      intro q
      rcases newT _ q with q | q
      · exact h.rl r hr _ hm q
      · have := (h.row r hr).lt
        omega
    · rw [List.getElem_set_ne (Ne.symm e)]
      exact h.rl r hr _ (List.getElem_mem hj)
  · rw [List.pairwise_iff_getElem]
    intro a b ha hb hab k hk q
    have ha' : a < ls.length := by rw [List.length_set] at ha; exact ha
    have hb' : b < ls.length := by rw [List.length_set] at hb; exact hb
    by_cases ea : a = i
    · subst ea
      rw [List.getElem_set_self] at hk
      rw [List.getElem_set_ne (by omega)] at q
      rcases newT k hk with z | z
      · exact apart b hb' (by omega) k q z
      · have := (h.lad _ (List.getElem_mem hb')).lt k q
        omega
    · rw [List.getElem_set_ne (Ne.symm ea)] at hk
      by_cases eb : b = i
      · subst eb
        rw [List.getElem_set_self] at q
        rcases newT k q with z | z
        · exact apart a ha' ea k hk z
        · have := (h.lad _ (List.getElem_mem ha')).lt k hk
          omega
      · rw [List.getElem_set_ne (Ne.symm eb)] at q
        exact hpw a b ha' hb' hab k hk q
end
/-! ### the law's awake -/
def cm4 : Cm := ⟨4, zD, zD, 1⟩
def cm5 : Cm := ⟨5, zD, zD, 1⟩
def ad7 : List (BitVec 8) := 7#8 :: List.replicate 19 0#8
theorem cm4_wf : cm4.Wf := ⟨by decide, by decide⟩
theorem cm5_wf : cm5.Wf := ⟨by decide, by decide⟩
theorem ad7_len : ad7.length = 20 := by decide
theorem built_4 : Try.prog.built tC [(0, .int .i64 4), (3, .int .i64 1)] = some cm4.cells.toArray := by kernel_rfl
theorem built_5 : Try.prog.built tC [(0, .int .i64 5), (3, .int .i64 1)] = some cm5.cells.toArray := by kernel_rfl
theorem built_7 : Try.prog.built tAd [(0, .int .u8 7)] = some (vB ad7).toArray := by kernel_rfl
def aw1 : La := ((La0 cm4 10).post cm5 ad7 5 100).1
def aw2 : La := (aw1.confirm 110).1
def awP : Pn := (aw1.confirm 110).2.1
theorem aw_new : newE cm4 10 = 0 := by kernel_rfl
theorem aw_post : (La0 cm4 10).post cm5 ad7 5 100 = (aw1, 1, 0) := by kernel_rfl
theorem aw_109 : aw1.confirm 109 = (aw1, zP, 165) := by kernel_rfl
theorem aw_110 : aw1.confirm 110 = (aw2, awP, 0) := by kernel_rfl
theorem aw_conf : cm5 = aw2.conf := by kernel_rfl
theorem awP_wf : awP.Wf := ⟨⟨by kernel_rfl, by kernel_rfl⟩, by kernel_rfl⟩
theorem awP_nr : awP.nr = 1 := by kernel_rfl
set_option maxRecDepth 100000 in
set_option maxHeartbeats 4000000 in
theorem awake_any (w : World) : Calls Try.prog 9 #[] w fun e w' => e = .returned (.bool true) ∧ Below w.heap.size w w' := by
  obtain ⟨L4, hL4⟩ : ∃ L, L = cm4.cells := ⟨_, rfl⟩
  obtain ⟨L5, hL5⟩ : ∃ L, L = cm5.cells := ⟨_, rfl⟩
  obtain ⟨ad, had⟩ : ∃ L, L = ad7 := ⟨_, rfl⟩
  have HB4 : Hid (Try.prog.built tC [(0, .int .i64 4), (3, .int .i64 1)] = some L4.toArray) := by show _ = _; rw [hL4]; exact built_4
  have HB5 : Hid (Try.prog.built tC [(0, .int .i64 5), (3, .int .i64 1)] = some L5.toArray) := by show _ = _; rw [hL5]; exact built_5
  have HB7 : Hid (Try.prog.built tAd [(0, .int .u8 7)] = some (vB ad).toArray) := by show _ = _; rw [had]; exact built_7
  have HNEW : Hid (∀ X, Calls Try.prog 21 #[.agg L4.toArray, .int .i64 10] X fun e w' => ∃ p, e = .returned (.tuple #[.pointer (some ⟨p, 0, none⟩), .int .i64 0]) ∧ Ld w' p (.slice none 0 0) 0 (La0 cm4 10) ∧ X.heap.size ≤ p ∧ Below X.heap.size X w') := fun X => new_ok cm4 cm4_wf 10 L4 hL4 aw_new (Int.le_refl 0) X
  have HPOST : Hid (∀ X p v, Ld X p v 0 (La0 cm4 10) → Calls Try.prog 23 #[.pointer (some ⟨p, 0, none⟩), .agg L5.toArray, .agg (vB ad).toArray, .int .i64 5, .int .i64 100] X fun e w' => e = .returned (.tuple #[.int .i64 1, .int .i64 0]) ∧ Tn X w' p v (0 + 1) aw1) := fun X p v h => post_any h (Int.le_refl 0) (by decide) cm5 cm5_wf ad (by rw [had]; exact ad7_len) 5 100 L5 hL5 aw1 1 0 (by rw [had]; exact aw_post)
  have HC1 : Hid (∀ X p v, Ld X p v (0 + 1) aw1 → Calls Try.prog 24 #[.pointer (some ⟨p, 0, none⟩), .int .i64 109] X fun e w' => e = .returned (.tuple #[.agg zP.cells.toArray, .int .i64 165]) ∧ Ts X w' p v (0 + 1) aw1) := fun X p v h => confirm_any h 109 aw1 zP 165 aw_109
  have HC2 : Hid (∀ X p v, Ld X p v (0 + 1) aw1 → Calls Try.prog 24 #[.pointer (some ⟨p, 0, none⟩), .int .i64 110] X fun e w' => e = .returned (.tuple #[.agg awP.cells.toArray, .int .i64 0]) ∧ Ts X w' p v (0 + 1) aw2) := fun X p v h => confirm_any h 110 aw2 awP 0 aw_110
  have HCF : Hid (∀ X p v, Ld X p v (0 + 1) aw2 → Calls Try.prog 30 #[.pointer (some ⟨p, 0, none⟩)] X fun e w' => e = .returned (.agg cm5.cells.toArray) ∧ Below X.heap.size X w') := fun X p v h => confirmed_any h cm5 aw_conf
  clear hL4 hL5 had
  go_enter Try.func9, Try.ntmps9
  go_wp2_with (first
    | (refine wpList_blt rfl tC _ rfl [(0, .int .i64 4), (3, .int .i64 1)] rfl L4 HB4.out ?_; simp only [Act.put, List.setIfInBounds_toArray, List.set_cons_zero, List.set_cons_succ])
    | (refine wpList_blt rfl tC _ rfl [(0, .int .i64 5), (3, .int .i64 1)] rfl L5 HB5.out ?_; simp only [Act.put, List.setIfInBounds_toArray, List.set_cons_zero, List.set_cons_succ])
    | (refine wpList_blt rfl tAd _ rfl [(0, .int .u8 7)] rfl (vB ad) HB7.out ?_; simp only [Act.put, List.setIfInBounds_toArray, List.set_cons_zero, List.set_cons_succ])
    | (go_at_call 21; refine Calls.mono (HNEW.out _) ?_; rintro e X1 ⟨p, rfl, q1, q2, q3⟩; have H1 : Hid (Hp w X1 [] [(p, .slice none 0 0, 0, La0 cm4 10)]) := (Hp.nil w).addL q3 q1 (fun g hg => by { rcases hg with rfl | hg; exact q2; cases hg }); clear q1 q2 q3)
    | (go_at_call 23; refine Calls.mono (HPOST.out _ _ _ (H1.out.lad _ (List.mem_cons_self ..))) ?_; rintro e X2 ⟨rfl, q1⟩; obtain ⟨v2, q2, _⟩ := H1.out.turn 0 rfl q1; have H2 : Hid (Hp w X2 [] [(p, v2, 0 + 1, aw1)]) := q2; clear q1 q2 H1)
    | (go_at_call 24; refine Calls.mono (HC1.out _ _ _ (H2.out.lad _ (List.mem_cons_self ..))) ?_; rintro e X3 ⟨rfl, q1⟩; obtain ⟨v3, q2, _⟩ := H2.out.turn 0 rfl q1.tn; have H3 : Hid (Hp w X3 [] [(p, v3, 0 + 1, aw1)]) := q2; clear q1 q2 HC1 H2)
    | (go_at_call 24; refine Calls.mono (HC2.out _ _ _ (H4.out.lad _ (List.mem_cons_self ..))) ?_; rintro e X5 ⟨rfl, q1⟩; obtain ⟨v5, q2, _⟩ := H4.out.turn 0 rfl q1.tn; have H5 : Hid (Hp w X5 [] [(p, v5, 0 + 1, aw2)]) := q2; clear q1 q2)
    | (go_at_call 30; refine Calls.mono (HCF.out _ _ _ (H7.out.lad _ (List.mem_cons_self ..))) ?_; rintro e X8 ⟨rfl, q1⟩; have H8 : Hid (Hp w X8 [(X5.heap.size, awP.cells, tP)] [(p, v5, 0 + 1, aw2)]) := H7.out.below q1; clear q1)
    | (refine wpList_alP rfl rfl ?_; intro X6 q1 q2 q3; clear q3; have R6 : Hid (Row X6 X5.heap.size zP.cells tP) := q1; have B6 : Hid (Below X5.heap.size X5 X6) := q2; clear q1 q2; simp only [Act.put, List.setIfInBounds_toArray, List.set_cons_zero, List.set_cons_succ])
    | (refine wpList_stL rfl tP (.tmp 7) (.tmp 32) rfl X5.heap.size awP.cells zP.cells tP rfl rfl R6.out ((Pn.len awP_wf).trans (Pn.len zP_wf).symm) (Pn.info awP_wf) (all_one (Pn.one awP)) ?_; intro X7 q1 q2; have H7 : Hid (Hp w X7 [(X5.heap.size, awP.cells, tP)] [(p, v5, 0 + 1, aw2)]) := H5.out.addR (gro_newL B6.out (Nat.le_refl _) q2) q1 (Nat.le_refl _); clear q1 q2)
    | (refine wpList_alP rfl rfl ?_; intro X35 q1 q2 q3; clear q3; have R35 : Hid (Row X35 X3.heap.size zP.cells tP) := q1; have B35 : Hid (Below X3.heap.size X3 X35) := q2; clear q1 q2; simp only [Act.put, List.setIfInBounds_toArray, List.set_cons_zero, List.set_cons_succ])
    | (refine wpList_stL rfl tP (.tmp 5) (.tmp 27) rfl X3.heap.size zP.cells zP.cells tP rfl rfl R35.out rfl (Pn.info zP_wf) (all_one (Pn.one zP)) ?_; intro X4 q1 q2; have H4 : Hid (Hp w X4 [] [(p, v3, 0 + 1, aw1)]) := H3.out.below (gro_newL B35.out (Nat.le_refl _) q2); clear q1 q2 R35 B35)
    | (refine wpList_alC rfl rfl ?_; intro X9 q1 q2 q3; clear q3; have R9 : Hid (Row X9 X8.heap.size zC.cells tC) := q1; have B9 : Hid (Below X8.heap.size X8 X9) := q2; clear q1 q2; simp only [Act.put, List.setIfInBounds_toArray, List.set_cons_zero, List.set_cons_succ])
    | (refine wpList_stL rfl tC (.tmp 9) (.tmp 35) rfl X8.heap.size cm5.cells zC.cells tC rfl rfl R9.out ((Cm.len cm5_wf).trans (Cm.len zC_wf).symm) (Cm.info cm5_wf) (all_one (Cm.one cm5)) ?_; intro X10 q1 q2; have q3 := H8.out.addR (gro_newL B9.out (Nat.le_refl _) q2) q1 (Nat.le_refl _); have c7 : X10.cell? ⟨X5.heap.size, 0, none⟩ = some (.int .i64 1) := (q3.row _ (List.mem_cons_of_mem _ (List.mem_cons_self ..))).cell 0 _ (by { rw [Pn.at_nr, awP_nr] }); have c9 : X10.cell? ⟨X8.heap.size, 0, none⟩ = some (.int .i64 5) := q1.cell 0 _ rfl; have B10 : Hid (Below w.heap.size w X10) := q3.be; clear q1 q2 q3))
  go_ret
  exact ⟨rfl, B10.out⟩

end Go.Proofs.Ytfdbjcdcfmnicaa
