/-
  the ladder: what it is asked, by places.
-/
import Derived.Test.YtfdbjcdcfmnicaaLaD
namespace Go.Proofs.Ytfdbjcdcfmnicaa
open Go Go.RowKit
open Sha

def La.beh (st : La) (k : Nat) : Cm := if k = 0 then st.conf else (st.pend.getD (k - 1) zP).c
def La.top (st : La) : Cm := st.beh st.pend.length
theorem La.beh_wf {B : Int} {st : La} (h : st.Ok B) (k : Nat) (hk : k ≤ st.pend.length) : (st.beh k).Wf ∧ (st.beh k).May := by
  unfold La.beh
  split
  · exact ⟨h.cf, h.cm⟩
  · have hl : k - 1 < st.pend.length := by omega
    have : st.pend.getD (k - 1) zP ∈ st.pend := by rw [List.getD_eq_getElem?_getD, List.getElem?_eq_getElem hl]; exact List.getElem_mem _
    exact ⟨(h.pw _ this).c, h.pm _ this⟩
theorem La.top_wf {B : Int} {st : La} (h : st.Ok B) : st.top.Wf ∧ st.top.May := La.beh_wf h _ (Nat.le_refl _)
set_option maxRecDepth 100000 in
set_option maxHeartbeats 4000000 in
theorem behind_any {w : World} {p : Nat} {v : Value} {B : Int} {st : La} (h : Ld w p v B st) (k : Nat) (hk : k ≤ st.pend.length) (c : Cm) (hc : c = st.beh k) : Calls Try.prog 91 #[.pointer (some ⟨p, 0, none⟩), .int .i64 (k : Int)] w fun e w' => e = .returned (.agg c.cells.toArray) ∧ Below w.heap.size w w' := by
  have hwf := (La.beh_wf h.ok k hk).1
  rw [← hc] at hwf
  have HI : Hid ((Try.prog.info? tC).map (·.size) = some c.cells.length) := Cm.info hwf
  have HLN : Hid (c.cells.length = zC.cells.length) := (Cm.len hwf).trans (Cm.len zC_wf).symm
  cases k with
  | zero =>
    have HR : Hid (∀ X, Below w.heap.size w X → X.rangeAt p 3 c.cells) := fun X kx => by rw [hc]; exact (h.be kx).conf
    clear hc hwf h hk
    go_enter Try.func91, Try.ntmps91
    go_wp2_with (first
      | (refine wpList_alC rfl rfl ?_; intro X1 q1 q2 _; have R1 : Hid (Row X1 w.heap.size zC.cells tC) := q1; have B1 : Hid (Below w.heap.size w X1) := q2; clear q1 q2; simp only [Act.put, List.setIfInBounds_toArray, List.set_cons_zero, List.set_cons_succ])
      | (refine wpList_ldS rfl tC (.tmp 9) rfl p 3 rfl c.cells _ (HR.out _ B1.out) Try.underlying25 rfl HI.out ?_; simp only [Act.put, List.setIfInBounds_toArray, List.set_cons_zero, List.set_cons_succ])
      | (refine wpList_stL rfl tC (.tmp 4) (.tmp 10) rfl w.heap.size c.cells zC.cells tC rfl rfl R1.out HLN.out HI.out (all_one (Cm.one c)) ?_; intro X2 q1 q2; have R2 : Hid (Row X2 w.heap.size c.cells tC) := q1; have B2 : Hid (Below w.heap.size w X2) := gro_newL B1.out (Nat.le_refl _) q2; clear q1 q2))
    exact bodyPost_ret (results_rS Try.results91 _ _ w.heap.size tC c.cells rfl R2.out Try.underlying25 HI.out) rfl ⟨rfl, B2.out⟩
  | succ j =>
    have hj : j < st.pend.length := by omega
    obtain ⟨x, hx⟩ : ∃ x, st.pend[j]? = some x := ⟨_, List.getElem?_eq_getElem hj⟩
    have hcx : c = x.c := by rw [hc, La.beh, if_neg (Nat.succ_ne_zero j), Nat.add_sub_cancel, List.getD_eq_getElem?_getD, hx]; rfl
    obtain ⟨g, o, cap, hv, hr, _⟩ := h.at hx
    obtain ⟨n, hn⟩ : ∃ n, n = st.pend.length := ⟨_, rfl⟩
    rw [← hn] at hv hj
    have HJ : Hid (j < n) := hj
    have HC : Hid (∀ X, Below w.heap.size w X → X.cell? ⟨p, 69, none⟩ = some (.slice (some ⟨g, o, none⟩) n cap)) := fun X kx => by rw [← hv]; exact (h.be kx).c69
    have HR : Hid (∀ X, Below w.heap.size w X → X.rangeAt g (o + j * 90 + 1) c.cells) := fun X kx i u hu => by
      rw [hcx] at hu
      have := range_be hr kx (1 + i) u (Pn.at_c x i u hu)
      rwa [← Nat.add_assoc] at this
    have hs : IntKind.i64.wrap (((j + 1 : Nat) : Int) - 1) = (j : Int) := by rw [IntKind.wrap_i64]; have := h.ok.pl; omega
    have hz : ¬ (((j + 1 : Nat) : Int) = 0) := by omega
    obtain ⟨K, hK⟩ : ∃ K : Int, K = ((j + 1 : Nat) : Int) := ⟨_, rfl⟩
    rw [← hK] at hs hz ⊢
    clear hc hwf h hk hcx hr hx hv hn hj hK
    go_enter Try.func91, Try.ntmps91
    go_wp2_with (first
      | (refine wpList_alC rfl rfl ?_; intro X1 q1 q2 _; have R1 : Hid (Row X1 w.heap.size zC.cells tC) := q1; have B1 : Hid (Below w.heap.size w X1) := q2; have c69 := HC.out X1 q2; clear q1 q2; simp only [Act.put, List.setIfInBounds_toArray, List.set_cons_zero, List.set_cons_succ])
      | (refine wpList_ixL tPs tP (.tmp 14) (.tmp 16) rfl g o n cap j 90 rfl rfl HJ.out Try.underlying42 info_P rfl ?_; simp only [Act.put, List.setIfInBounds_toArray, List.set_cons_zero, List.set_cons_succ])
      | (refine wpList_ldS rfl tC (.tmp 18) rfl g (o + j * 90 + 1) rfl c.cells _ (HR.out _ B1.out) Try.underlying25 rfl HI.out ?_; simp only [Act.put, List.setIfInBounds_toArray, List.set_cons_zero, List.set_cons_succ])
      | (refine wpList_stL rfl tC (.tmp 4) (.tmp 19) rfl w.heap.size c.cells zC.cells tC rfl rfl R1.out HLN.out HI.out (all_one (Cm.one c)) ?_; intro X2 q1 q2; have R2 : Hid (Row X2 w.heap.size c.cells tC) := q1; have B2 : Hid (Below w.heap.size w X2) := gro_newL B1.out (Nat.le_refl _) q2; clear q1 q2))
    exact bodyPost_ret (results_rS Try.results91 _ _ w.heap.size tC c.cells rfl R2.out Try.underlying25 HI.out) rfl ⟨rfl, B2.out⟩
set_option maxRecDepth 100000 in
set_option maxHeartbeats 4000000 in
theorem top_any {w : World} {p : Nat} {v : Value} {B : Int} {st : La} (h : Ld w p v B st) (c : Cm) (hc : c = st.top) : Calls Try.prog 66 #[.pointer (some ⟨p, 0, none⟩)] w fun e w' => e = .returned (.agg c.cells.toArray) ∧ Below w.heap.size w w' := by
  have hwf := (La.top_wf h.ok).1
  rw [← hc] at hwf
  have HI : Hid ((Try.prog.info? tC).map (·.size) = some c.cells.length) := Cm.info hwf
  have HLN : Hid (c.cells.length = zC.cells.length) := (Cm.len hwf).trans (Cm.len zC_wf).symm
  obtain ⟨A, cap, hv, _⟩ := h.form
  obtain ⟨n, hn⟩ : ∃ n, n = st.pend.length := ⟨_, rfl⟩
  rw [← hn] at hv
  have HC : Hid (∀ X, Below w.heap.size w X → X.cell? ⟨p, 69, none⟩ = some (.slice A n cap)) := fun X kx => by rw [← hv]; exact (h.be kx).c69
  have HB : Hid (∀ X, Below w.heap.size w X → Calls Try.prog 91 #[.pointer (some ⟨p, 0, none⟩), .int .i64 (n : Int)] X fun e w' => e = .returned (.agg c.cells.toArray) ∧ Below X.heap.size X w') := fun X kx => behind_any (h.be kx) n (by omega) c (by rw [hc, La.top, hn])
  clear hc hwf h hv hn
  go_enter Try.func66, Try.ntmps66
  go_wp2_with (first
    | (refine wpList_alC rfl rfl ?_; intro X1 q1 q2 _; have R1 : Hid (Row X1 w.heap.size zC.cells tC) := q1; have B1 : Hid (Below w.heap.size w X1) := q2; have c69 := HC.out X1 q2; clear q1 q2; simp only [Act.put, List.setIfInBounds_toArray, List.set_cons_zero, List.set_cons_succ])
    | (go_at_call 91; refine Calls.mono (HB.out _ B1.out) ?_; rintro e X3 ⟨rfl, q⟩; have B3 : Hid (Below w.heap.size w X3) := B1.out.trans (q.mono B1.out.size); have R3 : Hid (Row X3 w.heap.size zC.cells tC) := Row.below R1.out q R1.out.lt; clear q)
    | (refine wpList_stL rfl tC (.tmp 2) (.tmp 12) rfl w.heap.size c.cells zC.cells tC rfl rfl R3.out HLN.out HI.out (all_one (Cm.one c)) ?_; intro X2 q1 q2; have R2 : Hid (Row X2 w.heap.size c.cells tC) := q1; have B2 : Hid (Below w.heap.size w X2) := gro_newL B3.out (Nat.le_refl _) q2; clear q1 q2))
  exact bodyPost_ret (results_rS Try.results66 _ _ w.heap.size tC c.cells rfl R2.out Try.underlying25 HI.out) rfl ⟨rfl, B2.out⟩
set_option maxRecDepth 100000 in
set_option maxHeartbeats 4000000 in
theorem confirmed_any {w : World} {p : Nat} {v : Value} {B : Int} {st : La} (h : Ld w p v B st) (c : Cm) (hc : c = st.conf) : Calls Try.prog 30 #[.pointer (some ⟨p, 0, none⟩)] w fun e w' => e = .returned (.agg c.cells.toArray) ∧ Below w.heap.size w w' := by
  have hwf := h.ok.cf
  rw [← hc] at hwf
  have HI : Hid ((Try.prog.info? tC).map (·.size) = some c.cells.length) := Cm.info hwf
  have HLN : Hid (c.cells.length = zC.cells.length) := (Cm.len hwf).trans (Cm.len zC_wf).symm
  have HR : Hid (∀ X, Below w.heap.size w X → X.rangeAt p 3 c.cells) := fun X kx => by rw [hc]; exact (h.be kx).conf
  clear hc hwf h
  go_enter Try.func30, Try.ntmps30
  go_wp2_with (first
    | (refine wpList_alC rfl rfl ?_; intro X1 q1 q2 _; have R1 : Hid (Row X1 w.heap.size zC.cells tC) := q1; have B1 : Hid (Below w.heap.size w X1) := q2; clear q1 q2; simp only [Act.put, List.setIfInBounds_toArray, List.set_cons_zero, List.set_cons_succ])
    | (refine wpList_ldS rfl tC (.tmp 8) rfl p 3 rfl c.cells _ (HR.out _ B1.out) Try.underlying25 rfl HI.out ?_; simp only [Act.put, List.setIfInBounds_toArray, List.set_cons_zero, List.set_cons_succ])
    | (refine wpList_stL rfl tC (.tmp 2) (.tmp 9) rfl w.heap.size c.cells zC.cells tC rfl rfl R1.out HLN.out HI.out (all_one (Cm.one c)) ?_; intro X2 q1 q2; have R2 : Hid (Row X2 w.heap.size c.cells tC) := q1; have B2 : Hid (Below w.heap.size w X2) := gro_newL B1.out (Nat.le_refl _) q2; clear q1 q2))
  exact bodyPost_ret (results_rS Try.results30 _ _ w.heap.size tC c.cells rfl R2.out Try.underlying25 HI.out) rfl ⟨rfl, B2.out⟩
set_option maxRecDepth 100000 in
set_option maxHeartbeats 4000000 in
theorem pending_any {w : World} {p : Nat} {v : Value} {B : Int} {st : La} (h : Ld w p v B st) (n : Nat) (hn : n = st.pend.length) : Calls Try.prog 22 #[.pointer (some ⟨p, 0, none⟩)] w fun r w' => ∃ A' c', r = .returned (.slice A' n c') ∧ Lw w' tP 90 (.slice A' n c') n (pcs st.pend) ∧ Fresh w.heap.size (.slice A' n c') ∧ Below w.heap.size w w' := by
  obtain ⟨A, cap, hv, _, hA, hS⟩ := h.form
  rw [← hn] at hv hA
  have c69 : w.cell? ⟨p, 69, none⟩ = some (.slice A n cap) := by rw [← hv]; exact h.c69
  have HC : Hid (Calls Try.prog 68 #[.slice A n cap] w fun r w' => ∃ A' c', r = .returned (.slice A' n c') ∧ Lw w' tP 90 (.slice A' n c') n (pcs st.pend) ∧ Fresh w.heap.size (.slice A' n c') ∧ Below w.heap.size w w') := copied_any w A n cap st.pend hn.symm h.ok.pw hA hS (by have := h.ok.pl; omega)
  clear h hn hv hA hS
  go_enter Try.func22, Try.ntmps22
  go_wp2_with (go_at_call 68; refine Calls.mono HC.out ?_; rintro e X1 ⟨A', c', rfl, q1, q2, q3⟩; have H1 : Hid (Lw X1 tP 90 (.slice A' n c') n (pcs st.pend)) := q1; have H2 : Hid (Fresh w.heap.size (.slice A' n c')) := q2; have H3 : Hid (Below w.heap.size w X1) := q3; clear q1 q2 q3)
  go_ret
  exact ⟨A', c', rfl, H1.out, H2.out, H3.out⟩
set_option maxRecDepth 100000 in
set_option maxHeartbeats 4000000 in
theorem place1_any (x : Pn) (nr : Int) (Lc : List Value) (hL : Lc = x.cells) (b : Nat) (w : World) (hb : Row w b [.int .i64 nr] 3) (T : Bool) (hT : T = decide (x.nr = nr)) : Calls Try.prog 93 #[.agg Lc.toArray, .pointer (some ⟨b, 0, none⟩)] w fun e w' => e = .returned (.bool T) ∧ Below w.heap.size w w' := by
  have HL : Hid (Lc = x.cells) := hL
  have HB : Hid (Row w b [.int .i64 nr] 3) := hb
  have HT : Hid (T = decide (x.nr = nr)) := hT
  clear hL hb hT
  go_enter Try.func93, Try.ntmps93
  go_wp2_with (refine wpList_bxG tP rfl (.tmp 0) rfl Lc rfl ?_; intro X q1 q2 _; rw [HL.out] at q1; have c0 := q1.cell 0 _ (Pn.at_nr x); have c1 : X.cell? ⟨b, 0, none⟩ = some (.int .i64 nr) := (Row.below HB.out q2 HB.out.lt).cell 0 _ rfl; have B1 : Hid (Below w.heap.size w X) := q2; clear q1 q2; simp only [Act.put, List.setIfInBounds_toArray, List.set_cons_zero, List.set_cons_succ])
  go_ret
  exact ⟨by rw [HT.out]; rfl, B1.out⟩
/-- Where one of that number stands. -/
def fiN (l : List Pn) (nr : Int) : Option Nat := l.findIdx? (fun x => decide (x.nr = nr))
def fiI (l : List Pn) (nr : Int) : Int := match fiN l nr with | some i => (i : Int) | none => -1
theorem fiI_none {l : List Pn} {nr : Int} (h : ∀ (i : Nat) (x : Pn), l[i]? = some x → x.nr ≠ nr) : fiI l nr = -1 := by
  have : fiN l nr = none := by
    unfold fiN
    rw [List.findIdx?_eq_none_iff]
    intro x hx
    obtain ⟨i, hi, rfl⟩ := List.getElem_of_mem hx
    exact decide_eq_false (h i _ (List.getElem?_eq_getElem hi))
  unfold fiI; rw [this]
theorem fiI_some {l : List Pn} {nr : Int} {t : Nat} {x : Pn} (hx : l[t]? = some x) (he : x.nr = nr) (h : ∀ (i : Nat) (x : Pn), i < t → l[i]? = some x → x.nr ≠ nr) : fiI l nr = (t : Int) := by
  have : fiN l nr = some t := by
    unfold fiN
    rw [List.findIdx?_eq_some_iff_getElem]
    obtain ⟨ht, hxe⟩ := List.getElem?_eq_some_iff.1 hx
    refine ⟨ht, by rw [hxe]; exact decide_eq_true he, fun j hj => ?_⟩
    have := h j _ hj (List.getElem?_eq_getElem (by omega))
    simpa using this
  unfold fiI; rw [this]
set_option maxRecDepth 100000 in
set_option maxHeartbeats 4000000 in
theorem index_any (l : List Pn) (nr : Int) (A : Option Addr) (n cap : Nat) (hn : l.length = n) (hw : ∀ p ∈ l, p.Wf) (hb : n ≤ 1000000) (hA : A = none → n = 0 ∧ cap = 0) (w : World) (hS : ∀ ad, A = some ad → ∃ g o, ad = ⟨g, o, none⟩ ∧ w.rangeAt g o (pcs l)) (b : Nat) (hbx : Row w b [.int .i64 nr] 3) :
    Calls Try.prog 92 #[.slice A n cap, .func (.func 93) #[] #[.pointer (some ⟨b, 0, none⟩)]] w fun e w' => e = .returned (.int .i64 (fiI l nr)) ∧ Below w.heap.size w w' := by
  have HN : Hid (l.length = n) := hn
  have HW : Hid (∀ p ∈ l, p.Wf) := hw
  have HA : Hid (A = none → n = 0 ∧ cap = 0) := hA
  have HS : Hid (∀ ad, A = some ad → ∃ g o, ad = ⟨g, o, none⟩ ∧ w.rangeAt g o (pcs l)) := hS
  have HB : Hid (∀ X, Below w.heap.size w X → Row X b [.int .i64 nr] 3) := fun X k => Row.below hbx k hbx.lt
  clear hn hw hA hS hbx
  go_enter Try.func92, Try.ntmps92
  go_wp2
  go_loopw [5, 8] (fun _ i wr => ∃ t : Nat, t ≤ n ∧ i = .int .i64 (t : Int) ∧ Below w.heap.size w wr ∧ ∀ (j : Nat) (x : Pn), j < t → l[j]? = some x → x.nr ≠ nr) (fun _ i _ => n - (intOf i).toNat)
  case atStart => exact ⟨0, Nat.zero_le _, rfl, Below.refl _ _, fun j x hj => by omega⟩
  case round =>
    obtain ⟨t, ht, rfl, hbw, hno⟩ := hrel
    have HBW : Hid (Below w.heap.size w wr) := hbw
    have HNO : Hid (∀ (j : Nat) (x : Pn), j < t → l[j]? = some x → x.nr ≠ nr) := hno
    clear hbw hno
    by_cases hlt : t < n
    · obtain ⟨x, hx⟩ : ∃ x, l[t]? = some x := ⟨_, List.getElem?_eq_getElem (by rw [HN.out]; exact hlt)⟩
      have hxm : x ∈ l := List.mem_of_getElem? hx
      have HI : Hid ((Try.prog.info? tP).map (·.size) = some x.cells.length) := Pn.info (HW.out x hxm)
      obtain ⟨g, o, rfl, hr⟩ : ∃ g o, A = some ⟨g, o, none⟩ ∧ wr.rangeAt g (o + t * 90) x.cells := by
        cases A with
        | none => have := (HA.out rfl).1; omega
        | some ad =>
          obtain ⟨g, o, rfl, hr⟩ := HS.out ad rfl
          refine ⟨g, o, rfl, fun j u hj => ?_⟩
          rw [Nat.add_assoc]
          exact range_be hr HBW.out (t * 90 + j) u (pcs_at HW.out hx j u hj)
      have HR : Hid (wr.rangeAt g (o + t * 90) x.cells) := hr
      have HX : Hid (l[t]? = some x) := hx
      obtain ⟨T, hT⟩ : ∃ T, T = decide (x.nr = nr) := ⟨_, rfl⟩
      have HC : Hid (Calls Try.prog 93 #[.agg x.cells.toArray, .pointer (some ⟨b, 0, none⟩)] wr fun e w' => e = .returned (.bool T) ∧ Below wr.heap.size wr w') := place1_any x nr _ rfl b wr (HB.out _ HBW.out) T hT
      have HT : Hid (T = decide (x.nr = nr)) := hT
      clear hx hxm hr hT
      cases T with
      | true =>
        go_wp2_with (first
          | (refine wpList_ixL tPs tP (.tmp 12) (.tmp 13) rfl g o n cap t 90 rfl rfl hlt Try.underlying42 info_P rfl ?_; simp only [Act.put, List.setIfInBounds_toArray, List.set_cons_zero, List.set_cons_succ])
          | (refine wpList_ldS rfl tP (.tmp 14) rfl g (o + t * 90) rfl x.cells _ HR.out Try.underlying66 rfl HI.out ?_; simp only [Act.put, List.setIfInBounds_toArray, List.set_cons_zero, List.set_cons_succ])
          | (go_at_call 93; refine Calls.mono HC.out ?_; rintro e X2 ⟨rfl, q⟩; have B2 : Hid (Below w.heap.size w X2) := HBW.out.trans (q.mono HBW.out.size); clear q))
        go_ret
        exact ⟨by rw [fiI_some HX.out (of_decide_eq_true HT.out.symm) HNO.out]; rfl, B2.out⟩
      | false =>
        go_wp2_with (first
          | (refine wpList_ixL tPs tP (.tmp 12) (.tmp 13) rfl g o n cap t 90 rfl rfl hlt Try.underlying42 info_P rfl ?_; simp only [Act.put, List.setIfInBounds_toArray, List.set_cons_zero, List.set_cons_succ])
          | (refine wpList_ldS rfl tP (.tmp 14) rfl g (o + t * 90) rfl x.cells _ HR.out Try.underlying66 rfl HI.out ?_; simp only [Act.put, List.setIfInBounds_toArray, List.set_cons_zero, List.set_cons_succ])
          | (go_at_call 93; refine Calls.mono HC.out ?_; rintro e X2 ⟨rfl, q⟩; have B2 : Hid (Below w.heap.size w X2) := HBW.out.trans (q.mono HBW.out.size); clear q))
        refine ⟨⟨t + 1, hlt, by go_num, B2.out, fun j y hj hy => ?_⟩, by simp [intOf]; omega⟩
        by_cases hjt : j < t
        · exact HNO.out j y hjt hy
        · obtain rfl : j = t := by omega
          rw [HX.out] at hy
          cases hy
          exact of_decide_eq_false HT.out.symm
    · go_wp2
      go_ret
      exact ⟨by rw [fiI_none (fun i x hx => HNO.out i x (by have := (List.getElem?_eq_some_iff.1 hx).1; have := HN.out; omega) hx)]; rfl, HBW.out⟩
set_option maxRecDepth 100000 in
set_option maxHeartbeats 4000000 in
theorem place_some {w : World} {p : Nat} {v : Value} {B : Int} {st : La} (h : Ld w p v B st) (nr : Int) (i : Nat) (hi : fiN st.pend nr = some i) : Calls Try.prog 71 #[.pointer (some ⟨p, 0, none⟩), .int .i64 nr] w fun e w' => e = .returned (.tuple #[.int .i64 (i : Int), .int .i64 0]) ∧ Below w.heap.size w w' := by
  obtain ⟨A, cap, hv, _, hA, hS⟩ := h.form
  obtain ⟨n, hn⟩ : ∃ n, n = st.pend.length := ⟨_, rfl⟩
  rw [← hn] at hv hA
  have HC : Hid (∀ X, Below w.heap.size w X → X.cell? ⟨p, 69, none⟩ = some (.slice A n cap)) := fun X kx => by rw [← hv]; exact (h.be kx).c69
  have HX : Hid (∀ X b, Below w.heap.size w X → Row X b [.int .i64 nr] 3 → Calls Try.prog 92 #[.slice A n cap, .func (.func 93) #[] #[.pointer (some ⟨b, 0, none⟩)]] X fun e w' => e = .returned (.int .i64 (i : Int)) ∧ Below X.heap.size X w') := fun X b kx hb => by
    have q := index_any st.pend nr A n cap hn.symm h.ok.pw (by have := h.ok.pl; omega) hA X (fun ad e => by obtain ⟨g, o, e2, q⟩ := hS ad e; exact ⟨g, o, e2, range_be q kx⟩) b hb
    unfold fiI at q; rw [hi] at q; exact q
  have hlt : ¬ ((i : Int) < 0) := by omega
  clear h hv hA hS hn hi
  go_enter Try.func71, Try.ntmps71
  go_wp2_with (first
    | (refine wpList_bx1 3 rfl (.tmp 1) rfl (.int .i64 nr) rfl rfl ?_; intro X1 q1 q2 _; have R1 : Hid (Row X1 w.heap.size [.int .i64 nr] 3) := q1; have B1 : Hid (Below w.heap.size w X1) := q2; have c69 := HC.out X1 q2; clear q1 q2; simp only [Act.put, List.setIfInBounds_toArray, List.set_cons_zero, List.set_cons_succ])
    | (go_at_call 92; refine Calls.mono (HX.out _ _ B1.out R1.out) ?_; rintro e X2 ⟨rfl, q⟩; have B2 : Hid (Below w.heap.size w X2) := B1.out.trans (q.mono B1.out.size); clear q))
  go_ret2
  exact ⟨rfl, B2.out⟩
set_option maxRecDepth 100000 in
set_option maxHeartbeats 4000000 in
theorem place_none {w : World} {p : Nat} {v : Value} {B : Int} {st : La} (h : Ld w p v B st) (nr : Int) (hi : fiN st.pend nr = none) : Calls Try.prog 71 #[.pointer (some ⟨p, 0, none⟩), .int .i64 nr] w fun e w' => e = .returned (.tuple #[.int .i64 0, .int .i64 164]) ∧ Below w.heap.size w w' := by
  obtain ⟨A, cap, hv, _, hA, hS⟩ := h.form
  obtain ⟨n, hn⟩ : ∃ n, n = st.pend.length := ⟨_, rfl⟩
  rw [← hn] at hv hA
  have HC : Hid (∀ X, Below w.heap.size w X → X.cell? ⟨p, 69, none⟩ = some (.slice A n cap)) := fun X kx => by rw [← hv]; exact (h.be kx).c69
  have HX : Hid (∀ X b, Below w.heap.size w X → Row X b [.int .i64 nr] 3 → Calls Try.prog 92 #[.slice A n cap, .func (.func 93) #[] #[.pointer (some ⟨b, 0, none⟩)]] X fun e w' => e = .returned (.int .i64 (-1)) ∧ Below X.heap.size X w') := fun X b kx hb => by
    have q := index_any st.pend nr A n cap hn.symm h.ok.pw (by have := h.ok.pl; omega) hA X (fun ad e => by obtain ⟨g, o, e2, q⟩ := hS ad e; exact ⟨g, o, e2, range_be q kx⟩) b hb
    unfold fiI at q; rw [hi] at q; exact q
  clear h hv hA hS hn hi
  go_enter Try.func71, Try.ntmps71
  go_wp2_with (first
    | (refine wpList_bx1 3 rfl (.tmp 1) rfl (.int .i64 nr) rfl rfl ?_; intro X1 q1 q2 _; have R1 : Hid (Row X1 w.heap.size [.int .i64 nr] 3) := q1; have B1 : Hid (Below w.heap.size w X1) := q2; have c69 := HC.out X1 q2; clear q1 q2; simp only [Act.put, List.setIfInBounds_toArray, List.set_cons_zero, List.set_cons_succ])
    | (go_at_call 92; refine Calls.mono (HX.out _ _ B1.out R1.out) ?_; rintro e X2 ⟨rfl, q⟩; have B2 : Hid (Below w.heap.size w X2) := B1.out.trans (q.mono B1.out.size); clear q))
  go_ret2
  exact ⟨rfl, B2.out⟩

end Go.Proofs.Ytfdbjcdcfmnicaa
