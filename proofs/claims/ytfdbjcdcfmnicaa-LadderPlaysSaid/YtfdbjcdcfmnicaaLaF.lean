/-
  the ladder: New, Find, Before, Copy.
-/
import Derived.Test.YtfdbjcdcfmnicaaLaE
namespace Go.Proofs.Ytfdbjcdcfmnicaa
open Go Go.RowKit
open Sha

def La0 (c : Cm) (win : Int) : La := ⟨win, 0, 0, c, []⟩
theorem La0_ok {c : Cm} {win : Int} (hw : c.Wf) (hm : c.May) (h1 : 1 ≤ win) (h2 : win ≤ 4611686018427387904) {B : Int} (hB : 0 ≤ B) : (La0 c win).Ok B :=
  ⟨h1, h2, Int.le_refl _, (show (0 : Int) ≤ 4611686018427387904 by decide), Int.le_refl _, hB, hw, hm, (fun p h => by cases h), (fun p h => by cases h), (fun p h => by cases h), Nat.zero_le _⟩
def zL : List Value := La.cells (La0 zC 0) (.slice none 0 0)
theorem built_L : ∃ places : List (Nat × Nat), (∀ parts, Try.prog.built tL parts = Instr.fill (places.toArray[·]?) zL.toArray parts) ∧ places = [(0, 1), (1, 1), (2, 1), (3, 66), (69, 1)] :=
  ⟨[(0, 1), (1, 1), (2, 1), (3, 66), (69, 1)], fun _ => by kernel_rfl, rfl⟩
theorem built_la (c : Cm) (win : Int) (h : c.Wf) : Try.prog.built tL [(0, .int .i64 win), (3, .agg c.cells.toArray)] = some ((La0 c win).cells (.slice none 0 0)).toArray := by
  obtain ⟨pl, h1, h2⟩ := built_L
  subst h2
  rw [h1]
  have zl : zL.length = 70 := by kernel_rfl
  rw [show zL.toArray = ([] ++ zL.drop 0).toArray by rw [List.drop_zero, List.nil_append]]
  refine Eq.trans (fill_next _ 0 0 1 1 [] zL [Value.int .i64 win] _ _ rfl rfl rfl rfl (by rw [zl]; decide) rfl) ?_
  rw [skip_next ([] ++ [Value.int .i64 win]) zL 1 2 [.int .i64 0, .int .i64 0] (by kernel_rfl)]
  refine Eq.trans (fill_next _ 3 3 66 69 _ zL c.cells _ _ rfl rfl (Cm.len h) rfl (by rw [zl]; decide) rfl) ?_
  rw [Instr.fill, show zL.drop 69 = [Value.slice none 0 0] by kernel_rfl]
  congr 2
def newE (c : Cm) (win : Int) : Int := if mayB c = true then (if 1 ≤ win ∧ win ≤ 4611686018427387904 then 0 else 1) else 160
set_option maxRecDepth 100000 in
set_option maxHeartbeats 4000000 in
theorem new_no (c : Cm) (hw : c.Wf) (win : Int) (Lc : List Value) (hL : Lc = c.cells) (E : Int) (hE : newE c win = E) (hne : E ≠ 0) (w : World) : Calls Try.prog 21 #[.agg Lc.toArray, .int .i64 win] w fun e w' => e = .returned (.tuple #[.pointer none, .int .i64 E]) ∧ Below w.heap.size w w' := by
  obtain ⟨T, hT⟩ : ∃ T, T = mayB c := ⟨_, rfl⟩
  have HM : Hid (∀ w, Calls Try.prog 34 #[.agg Lc.toArray] w fun e w' => e = .returned (.bool T) ∧ Below w.heap.size w w') := fun w => by rw [hT]; exact mayBe_any c hw Lc hL w
  unfold newE at hE
  rw [← hT] at hE
  have HL : Hid (Lc = c.cells) := hL
  have HI : Hid ((Try.prog.info? tC).map (·.size) = some Lc.length) := by show _ = _; rw [hL]; exact Cm.info hw
  clear hT hL hw
  cases T with
  | false =>
    obtain rfl : E = 160 := by rw [← hE]; rfl
    clear hE hne
    go_enter Try.func21, Try.ntmps21
    go_wp2_with (first
      | (refine wpList_bxG tC rfl (.tmp 0) rfl Lc rfl ?_; intro X1 q1 q2 q3; have R1 : Hid (Row X1 w.heap.size Lc tC) := q1; have B1 : Hid (Below w.heap.size w X1) := q2; clear q1 q2 q3; simp only [Act.put, List.setIfInBounds_toArray, List.set_cons_zero, List.set_cons_succ])
      | (refine wpList_ldS rfl tC (.tmp 2) rfl w.heap.size 0 rfl Lc _ R1.out.all Try.underlying25 rfl HI.out ?_; simp only [Act.put, List.setIfInBounds_toArray, List.set_cons_zero, List.set_cons_succ])
      | (go_at_call 34; refine Calls.mono (HM.out _) ?_; rintro e X2 ⟨rfl, q⟩; have B2 : Hid (Below w.heap.size w X2) := B1.out.trans (q.mono B1.out.size); have R2 : Hid (Row X2 w.heap.size Lc tC) := Row.below R1.out q R1.out.lt; clear q))
    go_ret2
    exact ⟨rfl, B2.out⟩
  | true =>
    by_cases h1 : win < 1
    · obtain rfl : E = 1 := by rw [← hE, if_pos rfl, if_neg (by omega)]
      clear hE hne
      go_enter Try.func21, Try.ntmps21
      go_wp2_with (first
        | (refine wpList_bxG tC rfl (.tmp 0) rfl Lc rfl ?_; intro X1 q1 q2 q3; have R1 : Hid (Row X1 w.heap.size Lc tC) := q1; have B1 : Hid (Below w.heap.size w X1) := q2; clear q1 q2 q3; simp only [Act.put, List.setIfInBounds_toArray, List.set_cons_zero, List.set_cons_succ])
        | (refine wpList_ldS rfl tC (.tmp 2) rfl w.heap.size 0 rfl Lc _ R1.out.all Try.underlying25 rfl HI.out ?_; simp only [Act.put, List.setIfInBounds_toArray, List.set_cons_zero, List.set_cons_succ])
        | (go_at_call 34; refine Calls.mono (HM.out _) ?_; rintro e X2 ⟨rfl, q⟩; have B2 : Hid (Below w.heap.size w X2) := B1.out.trans (q.mono B1.out.size); have R2 : Hid (Row X2 w.heap.size Lc tC) := Row.below R1.out q R1.out.lt; clear q))
      go_ret2
      exact ⟨rfl, B2.out⟩
    · by_cases h2 : 4611686018427387904 < win
      · obtain rfl : E = 1 := by rw [← hE, if_pos rfl, if_neg (by omega)]
        clear hE hne
        go_enter Try.func21, Try.ntmps21
        go_wp2_with (first
          | (refine wpList_bxG tC rfl (.tmp 0) rfl Lc rfl ?_; intro X1 q1 q2 q3; have R1 : Hid (Row X1 w.heap.size Lc tC) := q1; have B1 : Hid (Below w.heap.size w X1) := q2; clear q1 q2 q3; simp only [Act.put, List.setIfInBounds_toArray, List.set_cons_zero, List.set_cons_succ])
          | (refine wpList_ldS rfl tC (.tmp 2) rfl w.heap.size 0 rfl Lc _ R1.out.all Try.underlying25 rfl HI.out ?_; simp only [Act.put, List.setIfInBounds_toArray, List.set_cons_zero, List.set_cons_succ])
          | (go_at_call 34; refine Calls.mono (HM.out _) ?_; rintro e X2 ⟨rfl, q⟩; have B2 : Hid (Below w.heap.size w X2) := B1.out.trans (q.mono B1.out.size); have R2 : Hid (Row X2 w.heap.size Lc tC) := Row.below R1.out q R1.out.lt; clear q))
        go_ret2
        exact ⟨rfl, B2.out⟩
      · exact absurd (by rw [← hE, if_pos rfl, if_pos (by omega)]) hne
set_option maxRecDepth 100000 in
set_option maxHeartbeats 4000000 in
theorem new_ok (c : Cm) (hw : c.Wf) (win : Int) (Lc : List Value) (hL : Lc = c.cells) (hE : newE c win = 0) {B : Int} (hB : 0 ≤ B) (w : World) : Calls Try.prog 21 #[.agg Lc.toArray, .int .i64 win] w fun e w' => ∃ p, e = .returned (.tuple #[.pointer (some ⟨p, 0, none⟩), .int .i64 0]) ∧ Ld w' p (.slice none 0 0) B (La0 c win) ∧ w.heap.size ≤ p ∧ Below w.heap.size w w' := by
  obtain ⟨hT, h1, h2⟩ : mayB c = true ∧ 1 ≤ win ∧ win ≤ 4611686018427387904 := by
    unfold newE at hE
    split at hE
    · rename_i h
      split at hE
      · rename_i h2; exact ⟨h, h2⟩
      · cases hE
    · cases hE
  have HM : Hid (∀ w, Calls Try.prog 34 #[.agg Lc.toArray] w fun e w' => e = .returned (.bool true) ∧ Below w.heap.size w w') := fun w => by rw [← hT]; exact mayBe_any c hw Lc hL w
  have HL : Hid (Lc = c.cells) := hL
  have HI : Hid ((Try.prog.info? tC).map (·.size) = some Lc.length) := by show _ = _; rw [hL]; exact Cm.info hw
  have HOK : Hid ((La0 c win).Ok B) := La0_ok hw ((mayB_iff c).1 hT) h1 h2 hB
  obtain ⟨Lz, hLz⟩ : ∃ Lz, Lz = (La0 c win).cells (.slice none 0 0) := ⟨_, rfl⟩
  have HBL : Hid (Try.prog.built tL [(0, .int .i64 win), (3, .agg Lc.toArray)] = some Lz.toArray) := by show _ = _; rw [hLz, hL]; exact built_la c win hw
  have HLZ : Hid (Lz = (La0 c win).cells (.slice none 0 0)) := hLz
  have n1 : ¬ win < 1 := by omega
  have n2 : ¬ 4611686018427387904 < win := by omega
  clear hT hL hw hE hLz hB h1 h2
  go_enter Try.func21, Try.ntmps21
  go_wp2_with (first
    | (refine wpList_bxG tC rfl (.tmp 0) rfl Lc rfl ?_; intro X1 q1 q2 q3; have R1 : Hid (Row X1 w.heap.size Lc tC) := q1; have B1 : Hid (Below w.heap.size w X1) := q2; clear q1 q2 q3; simp only [Act.put, List.setIfInBounds_toArray, List.set_cons_zero, List.set_cons_succ])
    | (refine wpList_ldS rfl tC (.tmp 2) rfl w.heap.size 0 rfl Lc _ R1.out.all Try.underlying25 rfl HI.out ?_; simp only [Act.put, List.setIfInBounds_toArray, List.set_cons_zero, List.set_cons_succ])
    | (refine wpList_ldS rfl tC (.tmp 2) rfl w.heap.size 0 rfl Lc _ R2.out.all Try.underlying25 rfl HI.out ?_; simp only [Act.put, List.setIfInBounds_toArray, List.set_cons_zero, List.set_cons_succ])
    | (refine wpList_blt rfl tL _ rfl [(0, .int .i64 win), (3, .agg Lc.toArray)] rfl Lz HBL.out ?_; simp only [Act.put, List.setIfInBounds_toArray, List.set_cons_zero, List.set_cons_succ])
    | (refine wpList_bxG tL rfl (.tmp 19) rfl Lz rfl ?_; intro X3 q1 q2 q3; have R3 : Hid (Row X3 X2.heap.size Lz tL) := q1; have B3 : Hid (Below w.heap.size w X3) := B2.out.trans (q2.mono B2.out.size); clear q1 q2 q3; simp only [Act.put, List.setIfInBounds_toArray, List.set_cons_zero, List.set_cons_succ])
    | (go_at_call 34; refine Calls.mono (HM.out _) ?_; rintro e X2 ⟨rfl, q⟩; have B2 : Hid (Below w.heap.size w X2) := B1.out.trans (q.mono B1.out.size); have R2 : Hid (Row X2 w.heap.size Lc tC) := Row.below R1.out q R1.out.lt; clear q))
  go_ret2
  exact ⟨_, rfl, ⟨by have := R3.out; rw [HLZ.out] at this; exact this, Lo.nil _ _ _, HOK.out⟩, B2.out.size, B3.out⟩
set_option maxRecDepth 100000 in
set_option maxHeartbeats 4000000 in
theorem find_none {w : World} {p : Nat} {v : Value} {B : Int} {st : La} (h : Ld w p v B st) (nr : Int) (hi : fiN st.pend nr = none) : Calls Try.prog 31 #[.pointer (some ⟨p, 0, none⟩), .int .i64 nr] w fun e w' => e = .returned (.tuple #[.agg zP.cells.toArray, .int .i64 164]) ∧ Below w.heap.size w w' := by
  have HPL : Hid (∀ X, Below w.heap.size w X → Calls Try.prog 71 #[.pointer (some ⟨p, 0, none⟩), .int .i64 nr] X fun e w' => e = .returned (.tuple #[.int .i64 0, .int .i64 164]) ∧ Below X.heap.size X w') := fun X k => place_none (h.be k) nr hi
  obtain ⟨Z, hZ⟩ : ∃ Z, Z = zP.cells := ⟨_, rfl⟩
  have HB0 : Hid (Try.prog.built tP [] = some Z.toArray) := by show _ = _; rw [hZ]; exact built_p0
  have HI : Hid ((Try.prog.info? tP).map (·.size) = some Z.length) := by show _ = _; rw [hZ]; exact Pn.info zP_wf
  have HO : Hid (Z.toArray.all (·.oneCell') = true) := by show _ = _; rw [hZ]; exact all_one (Pn.one zP)
  have HZ : Hid (Z = zP.cells) := hZ
  rw [← hZ]
  clear h hi hZ
  go_enter Try.func31, Try.ntmps31
  go_wp2_with (first
    | (refine wpList_alP rfl rfl ?_; intro X1 q1 q2 _; rw [← HZ.out] at q1; have R1 : Hid (Row X1 w.heap.size Z tP) := q1; have B1 : Hid (Below w.heap.size w X1) := q2; clear q1 q2; simp only [Act.put, List.setIfInBounds_toArray, List.set_cons_zero, List.set_cons_succ])
    | (go_at_call 71; refine Calls.mono (HPL.out _ B1.out) ?_; rintro e X2 ⟨rfl, q⟩; have B2 : Hid (Below w.heap.size w X2) := B1.out.trans (q.mono B1.out.size); have R2 : Hid (Row X2 w.heap.size Z tP) := Row.below R1.out q R1.out.lt; clear q)
    | (refine wpList_blt rfl tP _ rfl [] rfl Z HB0.out ?_; simp only [Act.put, List.setIfInBounds_toArray, List.set_cons_zero, List.set_cons_succ])
    | (refine wpList_stL rfl tP (.tmp 4) (.tmp 16) rfl w.heap.size Z Z tP rfl rfl R2.out rfl HI.out HO.out ?_; intro X3 q1 q2; have R3 : Hid (Row X3 w.heap.size Z tP) := q1; have B3 : Hid (Below w.heap.size w X3) := gro_newL B2.out (Nat.le_refl _) q2; clear q1 q2))
  exact bodyPost_ret (results_rSt Try.results31 _ _ w.heap.size tP Z (.int .i64 164) rfl rfl R3.out Try.underlying66 HI.out) rfl ⟨rfl, B3.out⟩
set_option maxRecDepth 100000 in
set_option maxHeartbeats 4000000 in
theorem find_some {w : World} {p : Nat} {v : Value} {B : Int} {st : La} (h : Ld w p v B st) (nr : Int) (i : Nat) (x : Pn) (hi : fiN st.pend nr = some i) (hx : st.pend[i]? = some x) : Calls Try.prog 31 #[.pointer (some ⟨p, 0, none⟩), .int .i64 nr] w fun e w' => e = .returned (.tuple #[.agg x.cells.toArray, .int .i64 0]) ∧ Below w.heap.size w w' := by
  have HPL : Hid (∀ X, Below w.heap.size w X → Calls Try.prog 71 #[.pointer (some ⟨p, 0, none⟩), .int .i64 nr] X fun e w' => e = .returned (.tuple #[.int .i64 (i : Int), .int .i64 0]) ∧ Below X.heap.size X w') := fun X k => place_some (h.be k) nr i hi
  have hxw : x.Wf := h.ok.pw x (List.mem_of_getElem? hx)
  obtain ⟨g, o, cap, hv, hr, _⟩ := h.at hx
  have hil : i < st.pend.length := (List.getElem?_eq_some_iff.1 hx).1
  obtain ⟨n, hn⟩ : ∃ n, n = st.pend.length := ⟨_, rfl⟩
  rw [← hn] at hv hil
  have HJ : Hid (i < n) := hil
  have HC : Hid (∀ X, Below w.heap.size w X → X.cell? ⟨p, 69, none⟩ = some (.slice (some ⟨g, o, none⟩) n cap)) := fun X kx => by rw [← hv]; exact (h.be kx).c69
  have HR : Hid (∀ X, Below w.heap.size w X → X.rangeAt g (o + i * 90) x.cells) := fun X kx => range_be hr kx
  have HI : Hid ((Try.prog.info? tP).map (·.size) = some x.cells.length) := Pn.info hxw
  have HLN : Hid (x.cells.length = zP.cells.length) := (Pn.len hxw).trans (Pn.len zP_wf).symm
  clear h hi hx hxw hv hr hil hn
  go_enter Try.func31, Try.ntmps31
  go_wp2_with (first
    | (refine wpList_alP rfl rfl ?_; intro X1 q1 q2 _; have R1 : Hid (Row X1 w.heap.size zP.cells tP) := q1; have B1 : Hid (Below w.heap.size w X1) := q2; clear q1 q2; simp only [Act.put, List.setIfInBounds_toArray, List.set_cons_zero, List.set_cons_succ])
    | (go_at_call 71; refine Calls.mono (HPL.out _ B1.out) ?_; rintro e X2 ⟨rfl, q⟩; have B2 : Hid (Below w.heap.size w X2) := B1.out.trans (q.mono B1.out.size); have R2 : Hid (Row X2 w.heap.size zP.cells tP) := Row.below R1.out q R1.out.lt; have c69 := HC.out X2 B2.out; clear q)
    | (refine wpList_ixL tPs tP (.tmp 21) (.tmp 22) rfl g o n cap i 90 rfl rfl HJ.out Try.underlying42 info_P rfl ?_; simp only [Act.put, List.setIfInBounds_toArray, List.set_cons_zero, List.set_cons_succ])
    | (refine wpList_ldS rfl tP (.tmp 23) rfl g (o + i * 90) rfl x.cells _ (HR.out _ B2.out) Try.underlying66 rfl HI.out ?_; simp only [Act.put, List.setIfInBounds_toArray, List.set_cons_zero, List.set_cons_succ])
    | (refine wpList_stL rfl tP (.tmp 4) (.tmp 24) rfl w.heap.size x.cells zP.cells tP rfl rfl R2.out HLN.out HI.out (all_one (Pn.one x)) ?_; intro X3 q1 q2; have R3 : Hid (Row X3 w.heap.size x.cells tP) := q1; have B3 : Hid (Below w.heap.size w X3) := gro_newL B2.out (Nat.le_refl _) q2; clear q1 q2))
  exact bodyPost_ret (results_rSt Try.results31 _ _ w.heap.size tP x.cells (.int .i64 0) rfl rfl R3.out Try.underlying66 HI.out) rfl ⟨rfl, B3.out⟩
set_option maxRecDepth 100000 in
set_option maxHeartbeats 4000000 in
theorem before_none {w : World} {p : Nat} {v : Value} {B : Int} {st : La} (h : Ld w p v B st) (nr : Int) (hi : fiN st.pend nr = none) : Calls Try.prog 64 #[.pointer (some ⟨p, 0, none⟩), .int .i64 nr] w fun e w' => e = .returned (.tuple #[.agg zC.cells.toArray, .int .i64 164]) ∧ Below w.heap.size w w' := by
  have HPL : Hid (∀ X, Below w.heap.size w X → Calls Try.prog 71 #[.pointer (some ⟨p, 0, none⟩), .int .i64 nr] X fun e w' => e = .returned (.tuple #[.int .i64 0, .int .i64 164]) ∧ Below X.heap.size X w') := fun X k => place_none (h.be k) nr hi
  obtain ⟨Z, hZ⟩ : ∃ Z, Z = zC.cells := ⟨_, rfl⟩
  have HB0 : Hid (Try.prog.built tC [] = some Z.toArray) := by show _ = _; rw [hZ]; exact built_c0
  have HI : Hid ((Try.prog.info? tC).map (·.size) = some Z.length) := by show _ = _; rw [hZ]; exact Cm.info zC_wf
  have HO : Hid (Z.toArray.all (·.oneCell') = true) := by show _ = _; rw [hZ]; exact all_one (Cm.one zC)
  have HZ : Hid (Z = zC.cells) := hZ
  rw [← hZ]
  clear h hi hZ
  go_enter Try.func64, Try.ntmps64
  go_wp2_with (first
    | (refine wpList_alC rfl rfl ?_; intro X1 q1 q2 _; rw [← HZ.out] at q1; have R1 : Hid (Row X1 w.heap.size Z tC) := q1; have B1 : Hid (Below w.heap.size w X1) := q2; clear q1 q2; simp only [Act.put, List.setIfInBounds_toArray, List.set_cons_zero, List.set_cons_succ])
    | (go_at_call 71; refine Calls.mono (HPL.out _ B1.out) ?_; rintro e X2 ⟨rfl, q⟩; have B2 : Hid (Below w.heap.size w X2) := B1.out.trans (q.mono B1.out.size); have R2 : Hid (Row X2 w.heap.size Z tC) := Row.below R1.out q R1.out.lt; clear q)
    | (refine wpList_blt rfl tC _ rfl [] rfl Z HB0.out ?_; simp only [Act.put, List.setIfInBounds_toArray, List.set_cons_zero, List.set_cons_succ])
    | (refine wpList_stL rfl tC (.tmp 4) (.tmp 16) rfl w.heap.size Z Z tC rfl rfl R2.out rfl HI.out HO.out ?_; intro X3 q1 q2; have R3 : Hid (Row X3 w.heap.size Z tC) := q1; have B3 : Hid (Below w.heap.size w X3) := gro_newL B2.out (Nat.le_refl _) q2; clear q1 q2))
  exact bodyPost_ret (results_rSt Try.results64 _ _ w.heap.size tC Z (.int .i64 164) rfl rfl R3.out Try.underlying25 HI.out) rfl ⟨rfl, B3.out⟩
set_option maxRecDepth 100000 in
set_option maxHeartbeats 4000000 in
theorem before_some {w : World} {p : Nat} {v : Value} {B : Int} {st : La} (h : Ld w p v B st) (nr : Int) (i : Nat) (hi : fiN st.pend nr = some i) (hil : i < st.pend.length) (c : Cm) (hc : c = st.beh i) : Calls Try.prog 64 #[.pointer (some ⟨p, 0, none⟩), .int .i64 nr] w fun e w' => e = .returned (.tuple #[.agg c.cells.toArray, .int .i64 0]) ∧ Below w.heap.size w w' := by
  have HPL : Hid (∀ X, Below w.heap.size w X → Calls Try.prog 71 #[.pointer (some ⟨p, 0, none⟩), .int .i64 nr] X fun e w' => e = .returned (.tuple #[.int .i64 (i : Int), .int .i64 0]) ∧ Below X.heap.size X w') := fun X k => place_some (h.be k) nr i hi
  have HBH : Hid (∀ X, Below w.heap.size w X → Calls Try.prog 91 #[.pointer (some ⟨p, 0, none⟩), .int .i64 (i : Int)] X fun e w' => e = .returned (.agg c.cells.toArray) ∧ Below X.heap.size X w') := fun X k => behind_any (h.be k) i (by omega) c hc
  have hwf := (La.beh_wf h.ok i (by omega)).1
  rw [← hc] at hwf
  have HI : Hid ((Try.prog.info? tC).map (·.size) = some c.cells.length) := Cm.info hwf
  have HLN : Hid (c.cells.length = zC.cells.length) := (Cm.len hwf).trans (Cm.len zC_wf).symm
  clear h hi hc hwf hil
  go_enter Try.func64, Try.ntmps64
  go_wp2_with (first
    | (refine wpList_alC rfl rfl ?_; intro X1 q1 q2 _; have R1 : Hid (Row X1 w.heap.size zC.cells tC) := q1; have B1 : Hid (Below w.heap.size w X1) := q2; clear q1 q2; simp only [Act.put, List.setIfInBounds_toArray, List.set_cons_zero, List.set_cons_succ])
    | (go_at_call 71; refine Calls.mono (HPL.out _ B1.out) ?_; rintro e X2 ⟨rfl, q⟩; have B2 : Hid (Below w.heap.size w X2) := B1.out.trans (q.mono B1.out.size); have R2 : Hid (Row X2 w.heap.size zC.cells tC) := Row.below R1.out q R1.out.lt; clear q)
    | (go_at_call 91; refine Calls.mono (HBH.out _ B2.out) ?_; rintro e X4 ⟨rfl, q⟩; have B4 : Hid (Below w.heap.size w X4) := B2.out.trans (q.mono B2.out.size); have R4 : Hid (Row X4 w.heap.size zC.cells tC) := Row.below R2.out q R2.out.lt; clear q)
    | (refine wpList_stL rfl tC (.tmp 4) (.tmp 20) rfl w.heap.size c.cells zC.cells tC rfl rfl R4.out HLN.out HI.out (all_one (Cm.one c)) ?_; intro X3 q1 q2; have R3 : Hid (Row X3 w.heap.size c.cells tC) := q1; have B3 : Hid (Below w.heap.size w X3) := gro_newL B4.out (Nat.le_refl _) q2; clear q1 q2))
  exact bodyPost_ret (results_rSt Try.results64 _ _ w.heap.size tC c.cells (.int .i64 0) rfl rfl R3.out Try.underlying25 HI.out) rfl ⟨rfl, B3.out⟩
theorem zL_len : zL.length = 70 := by kernel_rfl
theorem La.one {B : Int} {st : La} (_h : st.Ok B) (A : Option Addr) (n c : Nat) : ∀ v ∈ st.cells (.slice A n c), v.oneCell' = true := by
  intro v hv
  simp only [La.cells, List.mem_cons, List.mem_append, List.not_mem_nil, or_false] at hv
  rcases hv with rfl | rfl | rfl | h | rfl
  · rfl
  · rfl
  · rfl
  · exact Cm.one _ v h
  · rfl
section
variable {ops : Array Oper} {rest : List Oper} {op : Oper} {a : Act} {w : World} {Q : Exit → Act → World → Prop}
set_option maxRecDepth 100000 in
theorem wpList_alL (hgd : op.guard = none) (ho : op.op = .alloc tL) (h : ∀ X, Row X w.heap.size zL tL → Below w.heap.size w X → X.heap.size = w.heap.size + 1 → wpList Try.prog ops Q rest (a.put op.dst (.pointer (some ⟨w.heap.size, 0, none⟩))) X) : wpList Try.prog ops Q (op :: rest) a w :=
  wpList_plain hgd fun _ hK => by
    unfold Oper.wp execOp
    simp only [ho]
    go_simp
    exact hK _ _ (h _ (Row.new' (cs := zL) rfl rfl) ((Below.refl _ _).alloc (Nat.le_refl _) _) (by simp))
end
set_option maxRecDepth 100000 in
set_option maxHeartbeats 4000000 in
theorem copy_any {w : World} {p : Nat} {v : Value} {B : Int} {st : La} (h : Ld w p v B st) : Calls Try.prog 32 #[.pointer (some ⟨p, 0, none⟩)] w fun e w' => ∃ p' v', e = .returned (.pointer (some ⟨p', 0, none⟩)) ∧ Ld w' p' v' B st ∧ w.heap.size ≤ p' ∧ Fresh w.heap.size v' ∧ Below w.heap.size w w' := by
  obtain ⟨A, cap, hv, _, hA, hS⟩ := h.form
  obtain ⟨n, hn⟩ : ∃ n, n = st.pend.length := ⟨_, rfl⟩
  rw [← hn] at hv hA
  have HN : Hid (n = st.pend.length) := hn
  have HOK : Hid (st.Ok B) := h.ok
  obtain ⟨M, hM⟩ : ∃ M, M = st.cells (.slice A n cap) := ⟨_, rfl⟩
  have HM : Hid (M = st.cells (.slice A n cap)) := hM
  have HML : Hid (M.length = 70) := by show _ = _; rw [hM]; exact La.len h.ok _
  have HI : Hid ((Try.prog.info? tL).map (·.size) = some M.length) := by show _ = _; rw [HML.out]; exact info_L
  have HO : Hid (M.toArray.all (·.oneCell') = true) := by show _ = _; rw [hM]; exact all_one (La.one h.ok _ _ _)
  have HRW : Hid (Row w p M tL) := by show Row _ _ _ _; rw [hM, ← hv]; exact h.row
  have HC : Hid (∀ X, Below w.heap.size w X → X.cell? ⟨p, 69, none⟩ = some (.slice A n cap)) := fun X kx => by rw [← hv]; exact (h.be kx).c69
  have HCP : Hid (∀ X, Below w.heap.size w X → Calls Try.prog 68 #[.slice A n cap] X fun r w' => ∃ A' c', r = .returned (.slice A' n c') ∧ Lw w' tP 90 (.slice A' n c') n (pcs st.pend) ∧ Fresh X.heap.size (.slice A' n c') ∧ Below X.heap.size X w') := fun X kx => copied_any X A n cap st.pend hn.symm h.ok.pw hA (fun ad e => by obtain ⟨g, o, e2, q⟩ := hS ad e; exact ⟨g, o, e2, range_be q kx⟩) (by have := h.ok.pl; omega)
  clear h hv hA hS hn hM
  go_enter Try.func32, Try.ntmps32
  go_wp2_with (first
    | (refine wpList_ldS rfl tL (.tmp 7) rfl p 0 rfl M _ HRW.out.all Try.underlying114 rfl HI.out ?_; simp only [Act.put, List.setIfInBounds_toArray, List.set_cons_zero, List.set_cons_succ])
    | (refine wpList_alL rfl rfl ?_; intro X1 q1 q2 _; have R1 : Hid (Row X1 w.heap.size zL tL) := q1; have B1 : Hid (Below w.heap.size w X1) := q2; clear q1 q2; simp only [Act.put, List.setIfInBounds_toArray, List.set_cons_zero, List.set_cons_succ])
    | (refine wpList_stL rfl tL (.tmp 3) (.tmp 8) rfl w.heap.size M zL tL rfl rfl R1.out (HML.out.trans zL_len.symm) HI.out HO.out ?_; intro X2 q1 q2; have R2 : Hid (Row X2 w.heap.size M tL) := q1; have B2 : Hid (Below w.heap.size w X2) := gro_newL B1.out (Nat.le_refl _) q2; have c69 := HC.out X2 B2.out; clear q1 q2)
    | (go_at_call 68; refine Calls.mono (HCP.out _ B2.out) ?_; rintro e X3 ⟨A', c', rfl, q1, q2, q3⟩; have H1 : Hid (Lw X3 tP 90 (.slice A' n c') n (pcs st.pend)) := q1; have H2 : Hid (Fresh w.heap.size (.slice A' n c')) := q2.more B2.out.size; have B3 : Hid (Below w.heap.size w X3) := B2.out.trans (q3.mono B2.out.size); have R3 : Hid (Row X3 w.heap.size M tL) := Row.below R2.out q3 R2.out.lt; clear q1 q2 q3 c69)
    | (refine wpList_st1 rfl tPs (.tmp 14) (.tmp 13) rfl w.heap.size 69 (.slice A' n c') M tL rfl rfl rfl R3.out (by rw [HML.out]; decide) info_Ps rfl ?_; intro X4 q1 q2; have R4 : Hid (Row X4 w.heap.size (M.set 69 (.slice A' n c')) tL) := q1; have B4 : Hid (Below w.heap.size w X4) := gro_newL B3.out (Nat.le_refl _) q2; have H4 : Hid (Lw X4 tP 90 (.slice A' n c') n (pcs st.pend)) := Lw.gro H1.out q2 (Lw.ne H1.out R3.out (by decide)); clear q1 q2))
  go_ret
  exact ⟨_, _, rfl, ⟨by have := R4.out; rw [HM.out, La.set_v HOK.out] at this; exact this, by rw [← HN.out]; exact Lo.of H4.out, HOK.out⟩, Nat.le_refl _, H2.out, B4.out⟩

end Go.Proofs.Ytfdbjcdcfmnicaa
