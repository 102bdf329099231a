/-
  The law's pieces.
-/
import Derived.Test.YtmkmdbpibpbcjaaXLb2
namespace Go.Proofs.Ytmkmdbpibpbcjaa
open Go Go.RowKit
open Sha

theorem sapp_form' {w' : World} {v' : Value} {vs : List Value} {y : Value} {t : Nat} (q1 : Sw w' v' (vs ++ [y])) (hd : vs.length = t) : ∃ Ax cx, v' = .slice Ax (t + 1) cx := by
  obtain ⟨Ax, cx, ex, _⟩ := Sw.form q1
  exact ⟨Ax, cx, by rw [ex]; simp [hd]⟩
/-- A piece. -/
def ct (bs : List (BitVec 8)) (s i : Nat) : List (BitVec 8) := sub bs (i * s) (min s (bs.length - i * s))
def cts (bs : List (BitVec 8)) (s t : Nat) : List (List (BitVec 8)) := (List.range t).map (ct bs s)
theorem cts_len (bs : List (BitVec 8)) (s t : Nat) : (cts bs s t).length = t := by simp [cts]
theorem cts_succ (bs : List (BitVec 8)) (s t : Nat) : cts bs s (t + 1) = cts bs s t ++ [ct bs s t] := by simp [cts, List.range_succ]
/-- How many pieces. -/
def cn (n s : Nat) : Nat := (n + (s - 1)) / s
theorem cn_lt (n s t : Nat) (hs : 0 < s) : t < cn n s ↔ t * s < n := by
  unfold cn
  rw [Nat.lt_iff_add_one_le, Nat.le_div_iff_mul_le hs, Nat.add_mul]
  omega
theorem sl_mid {w : World} {ab ao n cb q m : Nat} {bs : List (BitVec 8)} (h : SlAt w (.slice (some ⟨ab, ao, none⟩) n cb) bs) (hb : bs.length = n) (hq : q + m ≤ n) (c' : Nat) (hc : m ≤ c') : SlAt w (.slice (some ⟨ab, ao + q, none⟩) m c') (sub bs q m) := by
  have e := sub_len bs q m (by omega)
  rcases h with ⟨h0, A', c'', hv⟩ | ⟨ab', ao', c'', hv, hc2, hr⟩
  · subst h0
    simp only [List.length_nil] at hb
    exact .inl ⟨by unfold sub; simp, _, _, by rw [show m = 0 by omega]⟩
  · simp only [Value.slice.injEq, Option.some.injEq, Addr.mk.injEq] at hv
    obtain ⟨⟨rfl, rfl, _⟩, _, rfl⟩ := hv
    refine .inr ⟨ab, ao + q, c', by rw [e], by rw [e]; exact hc, fun j v hj => ?_⟩
    have hjl : j < m := by have := (List.getElem?_eq_some_iff.1 hj).1; rw [vB_length, e] at this; exact this
    have := hr (q + j) v (by
      unfold vB at hj ⊢
      rw [List.getElem?_map] at hj ⊢
      rw [sub_get bs q m j hjl] at hj
      exact hj)
    rw [show ao + q + j = ao + (q + j) by omega]
    exact this

set_option maxRecDepth 100000 in
set_option maxHeartbeats 4000000 in
theorem pieces_any (B : Option Addr) (n cb : Nat) (bs : List (BitVec 8)) (hb : bs.length = n) (hl : n ≤ 4194304) (N : Int) (h1 : -9223372036854775808 ≤ N) (h2 : N ≤ 9223372036854775807) (s : Nat) (hs : ((s : Nat) : Int) = 1 + pk N 9) (w : World) (hv : SlAt w (.slice B n cb) bs) :
    Calls Try.prog 77 #[.slice B n cb, .int .i64 N] w fun e w' => (∃ Av cv vs, e = .returned (.slice Av (cn n s) cv) ∧ Ly w.heap.size w' (.slice Av (cn n s) cv) vs (cts bs s (cn n s))) ∧ Below w.heap.size w w' := by
  have HP : Hid (∀ w, _) := fun w => pick_any N 9 (by decide) h1 h2 (by decide) w
  have hr9 := pk_range N 9 (by decide)
  have hs1 : 1 ≤ s := by omega
  have hs9 : s ≤ 9 := by omega
  obtain ⟨p, hp⟩ : ∃ p : Nat, pk N 9 = (p : Int) := ⟨(pk N 9).toNat, by omega⟩
  rw [hp] at HP
  have hsp : (1 : Int) + (p : Int) = (s : Int) := by omega
  have HV : Hid (SlAt w (.slice B n cb) bs) := hv
  have HBN : Hid (bs.length = n) := hb
  have HCN : Hid (∀ t, t < cn n s ↔ t * s < n) := fun t => cn_lt n s t (by omega)
  have hcn4 : cn n s ≤ 4194304 + 9 := by unfold cn; exact Nat.le_trans (Nat.div_le_self _ _) (by omega)
  clear hv hb h1 h2 hr9 hs hp
  go_enter Try.func77, Try.ntmps77
  go_wp2_with (go_at_call 30; refine Calls.mono (HP.out _) ?_; rintro e w2 ⟨rfl, hq⟩; obtain rfl := hq.symm)
  clear hsp HP
  go_loopw [6, 7, 8] (fun l i _ wr => ∃ (t q : Nat) (Av : Option Addr) (cv : Nat) (vs : List Value), t ≤ cn n s ∧ q = t * s ∧ i = .int .i64 (q : Int) ∧ l = .slice Av t cv ∧ Ly w.heap.size wr (.slice Av t cv) vs (cts bs s t) ∧ Below w.heap.size w wr) (fun _ i _ _ => n - (intOf i).toNat)
  case atStart => exact ⟨0, 0, none, 0, [], Nat.zero_le _, by simp, rfl, rfl, ⟨Sw.nil _, (fun g e => by simp [Value.ownBlock] at e), rfl, (fun i hi => by simp [cts] at hi)⟩, Below.refl _ _⟩
  case round =>
    obtain ⟨t, q, Av, cv, vs, ht, hq, rfl, rfl, hly, hbb⟩ := hrel
    have LY : Hid (Ly _ _ _ _ _) := hly
    have BB : Hid (Below w.heap.size w wr) := hbb
    have hlt' := HCN.out t
    have HQ : Hid (q = t * s) := hq
    by_cases hlt : q < n
    · have htc : t < cn n s := hlt'.2 (by omega)
      obtain ⟨ab, ao, rfl⟩ : ∃ ab ao, B = some ⟨ab, ao, none⟩ := by
        rcases HV.out with ⟨h0, _⟩ | ⟨ab, ao, c', hv, _⟩
        · have := HBN.out; rw [h0] at this; simp at this; omega
        · simp only [Value.slice.injEq] at hv; exact ⟨ab, ao, hv.1⟩
      have hncb : n ≤ cb := by
        rcases HV.out with ⟨h0, _⟩ | ⟨ab', ao', c', hv, hc, _⟩
        · have := HBN.out; rw [h0] at this; simp at this; omega
        · simp only [Value.slice.injEq] at hv; have := HBN.out; omega
      obtain ⟨m, hm⟩ : ∃ m, m = min s (n - q) := ⟨_, rfl⟩
      have hqm : q + m ≤ n := by omega
      have hne : ¬ cb = q := by omega
      have hsl := sl_mid (SlAt.be HV.out BB.out) HBN.out hqm (cb - q) (by omega)
      have hct : ct bs s t = sub bs q m := by unfold ct; rw [HBN.out, ← hq, ← hm]
      have hdl := sub_len bs q m (by rw [HBN.out]; exact hqm)
      have HOW : Hid _ := own_any (some ⟨ab, ao + q, none⟩) m (cb - q) (sub bs q m) hdl (by omega) wr hsl
      have hvl : vs.length = t := by rw [hly.len, cts_len]
      have HVL : Hid (vs.length = t) := hvl
      have HL : Hid ((vs.length + 1) * 24 ≤ 140737488355328) := by show _ ≤ _; rw [hvl]; omega
      have HCT : Hid (ct bs s t = sub bs q m) := hct
      have HDL : Hid ((sub bs q m).length = m) := hdl
      have HTC : Hid (t < cn n s) := htc
      have hq1 : q + s = (t + 1) * s := by rw [hq, Nat.add_mul]; omega
      have HQ1 : Hid (q + s = (t + 1) * s) := hq1
      have AFTER : ∀ (W : World), Row W wr.heap.size (vB (sub bs q m)) 5 → Below wr.heap.size wr W → True := fun _ _ _ => trivial
      clear AFTER hsl hct hdl hvl hlt' hly hbb htc hq hq1 hcn4 ht
      by_cases hend : n < q + s
      · have hm2 : q + m = n := by omega
        have c1 : (n : Int) < (q : Int) + (s : Int) := by omega
        have e2 : (n : Int) - (q : Int) = (m : Int) := by omega
        have e3 : n - q = m := by omega
        clear hm
        go_wp2_with fail
        refine Calls.mono HOW.out ?_
        rintro e W1 ⟨rfl, hr1, hb1⟩
        have hbw := row_bw hr1 (by rw [HDL.out]; omega)
        have HBO : Hid (Bo w.heap.size (ct bs s t) (ct bs s t).length W1 (.slice (some ⟨wr.heap.size, 0, none⟩) m m)) := by
          rw [HCT.out, HDL.out]
          rw [HDL.out] at hbw
          exact ⟨_, _, rfl, hbw, (fun g e => by simp only [Value.ownBlock, Option.some.injEq] at e; rw [← e]; exact BB.out.size), (fun e => by cases e)⟩
        have LY1 : Hid (Ly w.heap.size W1 (.slice Av t cv) vs (cts bs s t)) := LY.out.gro (Gro.of_below (R := fun _ => False) hb1) (fun _ _ q => q) (fun _ _ _ q => q)
        have BB1 : Hid (Below w.heap.size w W1) := BB.out.trans (hb1.mono BB.out.size)
        clear hr1 hb1 hbw HOW
        generalize wr.heap.size = xh at *
        have b1 : Below W1.heap.size W1 (W1.alloc (Obj.cells #[.slice (some ⟨xh, 0, none⟩) m m] 27)) := (Below.refl _ _).alloc (Nat.le_refl _) _
        have R1 : Hid (Row (W1.alloc (Obj.cells #[.slice (some ⟨xh, 0, none⟩) m m] 27)) W1.heap.size [.slice (some ⟨xh, 0, none⟩) m m] 27) := Row.new' rfl rfl
        have LY2 : Hid (Ly w.heap.size (W1.alloc (Obj.cells #[.slice (some ⟨xh, 0, none⟩) m m] 27)) (.slice Av t cv) vs (cts bs s t)) := LY1.out.gro (Gro.of_below (R := fun _ => False) b1) (fun _ _ q => q) (fun _ _ _ q => q)
        have BO2 : Hid (Bo w.heap.size (ct bs s t) (ct bs s t).length (W1.alloc (Obj.cells #[.slice (some ⟨xh, 0, none⟩) m m] 27)) (.slice (some ⟨xh, 0, none⟩) m m)) := HBO.out.gro (Gro.of_below (R := fun _ => False) b1) (fun _ _ _ q => q)
        have B1 : Hid _ := b1
        clear b1
        go_wp2_with (refine wpList_apps rfl (.tmp 28) (.tmp 34) rfl (.slice Av t cv) vs rfl LY2.out.own W1.heap.size (.slice (some ⟨xh, 0, none⟩) m m) rfl rfl R1.out HL.out ?_; intro v' w' q1 q2 q3; obtain ⟨Ax, cx, ex⟩ := sapp_form' q1 HVL.out; subst ex; have Q1 : Hid _ := q1; have Q2 : Hid _ := q2; have Q3 : Hid _ := q3; clear q1 q2 q3; simp only [Act.put, List.setIfInBounds_toArray, List.set_cons_zero, List.set_cons_succ])
        have HLY := Ly.app LY2.out BO2.out B1.out BB1.out.size Q1.out Q2.out Q3.out
        rw [← cts_succ] at HLY
        exact ⟨⟨t + 1, q + s, Ax, cx, _, HTC.out, HQ1.out, by go_num, rfl, HLY, ((BB1.out.trans (B1.out.mono BB1.out.size))).grown Q2.out (Nat.le_trans BB1.out.size B1.out.size) (fun k hk => LY2.out.fv k hk)⟩, by simp [intOf]; omega⟩
      · obtain rfl : s = m := by omega
        clear hm
        have c1 : ¬ (n : Int) < (q : Int) + (s : Int) := by omega
        have c2 : q + s ≤ cb := by omega
        go_wp2_with fail
        refine Calls.mono HOW.out ?_
        rintro e W1 ⟨rfl, hr1, hb1⟩
        have hbw := row_bw hr1 (by rw [HDL.out]; omega)
        have HBO : Hid (Bo w.heap.size (ct bs s t) (ct bs s t).length W1 (.slice (some ⟨wr.heap.size, 0, none⟩) s s)) := by
          rw [HCT.out, HDL.out]
          rw [HDL.out] at hbw
          exact ⟨_, _, rfl, hbw, (fun g e => by simp only [Value.ownBlock, Option.some.injEq] at e; rw [← e]; exact BB.out.size), (fun e => by cases e)⟩
        have LY1 : Hid (Ly w.heap.size W1 (.slice Av t cv) vs (cts bs s t)) := LY.out.gro (Gro.of_below (R := fun _ => False) hb1) (fun _ _ q => q) (fun _ _ _ q => q)
        have BB1 : Hid (Below w.heap.size w W1) := BB.out.trans (hb1.mono BB.out.size)
        clear hr1 hb1 hbw HOW
        generalize wr.heap.size = xh at *
        have b1 : Below W1.heap.size W1 (W1.alloc (Obj.cells #[.slice (some ⟨xh, 0, none⟩) s s] 27)) := (Below.refl _ _).alloc (Nat.le_refl _) _
        have R1 : Hid (Row (W1.alloc (Obj.cells #[.slice (some ⟨xh, 0, none⟩) s s] 27)) W1.heap.size [.slice (some ⟨xh, 0, none⟩) s s] 27) := Row.new' rfl rfl
        have LY2 : Hid (Ly w.heap.size (W1.alloc (Obj.cells #[.slice (some ⟨xh, 0, none⟩) s s] 27)) (.slice Av t cv) vs (cts bs s t)) := LY1.out.gro (Gro.of_below (R := fun _ => False) b1) (fun _ _ q => q) (fun _ _ _ q => q)
        have BO2 : Hid (Bo w.heap.size (ct bs s t) (ct bs s t).length (W1.alloc (Obj.cells #[.slice (some ⟨xh, 0, none⟩) s s] 27)) (.slice (some ⟨xh, 0, none⟩) s s)) := HBO.out.gro (Gro.of_below (R := fun _ => False) b1) (fun _ _ _ q => q)
        have B1 : Hid _ := b1
        clear b1
        go_wp2_with (refine wpList_apps rfl (.tmp 28) (.tmp 34) rfl (.slice Av t cv) vs rfl LY2.out.own W1.heap.size (.slice (some ⟨xh, 0, none⟩) s s) rfl rfl R1.out HL.out ?_; intro v' w' q1 q2 q3; obtain ⟨Ax, cx, ex⟩ := sapp_form' q1 HVL.out; subst ex; have Q1 : Hid _ := q1; have Q2 : Hid _ := q2; have Q3 : Hid _ := q3; clear q1 q2 q3; simp only [Act.put, List.setIfInBounds_toArray, List.set_cons_zero, List.set_cons_succ])
        have HLY := Ly.app LY2.out BO2.out B1.out BB1.out.size Q1.out Q2.out Q3.out
        rw [← cts_succ] at HLY
        exact ⟨⟨t + 1, q + s, Ax, cx, _, HTC.out, HQ1.out, by go_num, rfl, HLY, ((BB1.out.trans (B1.out.mono BB1.out.size))).grown Q2.out (Nat.le_trans BB1.out.size B1.out.size) (fun k hk => LY2.out.fv k hk)⟩, by simp [intOf]; omega⟩
    · obtain rfl : t = cn n s := by
        have : ¬ t < cn n s := fun h => hlt (by have := hlt'.1 h; omega)
        omega
      clear hlt' hly hbb hq hcn4 ht
      go_wp2
      go_ret
      exact ⟨⟨Av, cv, vs, rfl, LY.out⟩, BB.out⟩

end Go.Proofs.Ytmkmdbpibpbcjaa
