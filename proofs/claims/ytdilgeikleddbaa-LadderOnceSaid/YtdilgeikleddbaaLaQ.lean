/-
  LadderOnce: the law's shape.
-/
import Derived.Test.YtdilgeikleddbaaLaP
namespace Go.Proofs.Ytdilgeikleddbaa
open Go Go.RowKit
open Sha

theorem Hp.setOther {w0 w w' : World} {rs : List (Nat × List Value × TypeId)} {ls : List (Nat × Value × Int × La)} {b : Nat} (h : Hp w0 w rs ls) (k : Gro (· = b) w w') (hb : w0.heap.size ≤ b) (hr : ∀ r ∈ rs, r.1 ≠ b) (hl : ∀ l ∈ ls, ¬ Tb l.1 l.2.1 b) : Hp w0 w' rs ls :=
  ⟨h.be.trans (k.to_below h.be.size (fun g e => by rw [e]; exact hb)), fun r hr' => k.row (h.row r hr') (hr r hr'), fun l hl' => (h.lad l hl').gro k (fun g hg e => hl l hl' (by rw [← e]; exact hg)), h.new, h.rl, h.ll⟩
def nrB (S : La) : Nat → Int
  | 0 => 0
  | j + 1 => (S.pend.getD j zP).nr
theorem beh_succ {S : La} {t : Nat} {x : Pn} (hx : S.pend[t]? = some x) : S.beh (t + 1) = x.c := by
  unfold La.beh
  rw [if_neg (Nat.succ_ne_zero t), Nat.add_sub_cancel, List.getD_eq_getElem?_getD, hx]
  rfl
theorem nrB_succ {S : La} {t : Nat} {x : Pn} (hx : S.pend[t]? = some x) : nrB S (t + 1) = x.nr := by
  show (S.pend.getD t zP).nr = x.nr
  rw [List.getD_eq_getElem?_getD, hx]
  rfl
theorem chn_shape {S : La} {win : Int} (h : chn win 0 S.conf S.pend) {t : Nat} {x : Pn} (hx : S.pend[t]? = some x) : nrB S t < x.nr ∧ (S.beh t).n < x.c.n ∧ x.c.n - (S.beh t).n ≤ 1024 ∧ (S.beh t).k ≤ x.c.k ∧ 0 ≤ x.du ∧ x.dl - x.po = win ∧ 0 ≤ x.po ∧ x.dl ≤ 4611686018427387904 := by
  have := chn_at h hx
  cases t with
  | zero => exact this
  | succ t =>
    have e : S.beh (t + 1) = (S.pend.getD t zP).c := by unfold La.beh; rw [if_neg (Nat.succ_ne_zero t), Nat.add_sub_cancel]
    rw [e]
    exact this
set_option maxRecDepth 100000 in
set_option maxHeartbeats 8000000 in
theorem shape_any {w : World} {p : Nat} {v : Value} {B : Int} {S : La} (h : Ld w p v B S) (win : Int) (hch : chn win 0 S.conf S.pend) (hwi : S.win = win) : Calls Try.prog 29 #[.pointer (some ⟨p, 0, none⟩), .int .i64 win] w fun e w' => e = .returned (.bool true) ∧ Below w.heap.size w w' := by
  obtain ⟨n, hn⟩ : ∃ n, n = S.pend.length := ⟨_, rfl⟩
  obtain ⟨cf, hcf⟩ : ∃ c, c = S.conf := ⟨_, rfl⟩
  have HLD : Hid (Ld w p v B S) := h
  have HCH : Hid (chn win 0 S.conf S.pend) := hch
  have HNN : Hid (S.pend.length = n) := hn.symm
  have hn32 : n ≤ 32 := by rw [hn]; exact h.ok.pl
  have h32 : ¬ ((32 : Int) < (n : Int)) := by omega
  have HCFW : Hid cf.Wf := by rw [hcf]; exact h.ok.cf
  have HB0 : Hid (cf = S.beh 0) := hcf
  have HICF : Hid ((Try.prog.info? tC).map (·.size) = some cf.cells.length) := Cm.info HCFW.out
  have HLCF : Hid (cf.cells.length = zC.cells.length) := (Cm.len HCFW.out).trans (Cm.len zC_wf).symm
  have HPN : Hid (∀ X, Below w.heap.size w X → Calls Try.prog 22 #[.pointer (some ⟨p, 0, none⟩)] X fun r w' => ∃ A' c', r = .returned (.slice A' n c') ∧ Lw w' tP 90 (.slice A' n c') n (pcs S.pend) ∧ Fresh X.heap.size (.slice A' n c') ∧ Below X.heap.size X w') := fun X k => pending_any (h.be k) n hn
  have HCF : Hid (∀ X, Below w.heap.size w X → Calls Try.prog 30 #[.pointer (some ⟨p, 0, none⟩)] X fun e w' => e = .returned (.agg cf.cells.toArray) ∧ Below X.heap.size X w') := fun X k => confirmed_any (h.be k) cf hcf
  have HW1 : Hid (1 ≤ win ∧ win ≤ 4611686018427387904) := by rw [← hwi]; exact ⟨h.ok.w1, h.ok.w2⟩
  have HPW : Hid (∀ q ∈ S.pend, q.Wf) := h.ok.pw
  clear h hch hwi hn hcf
  go_enter Try.func29, Try.ntmps29
  go_wp2_with (first
    | (go_at_call 22; refine Calls.mono (HPN.out _ (Below.refl _ _)) ?_; rintro e X1 ⟨A1, k1, rfl, q1, q2, q3⟩; obtain ⟨R1, q4, q5⟩ := Lw.rows q1 HNN.out HPW.out q2; have H1 : Hid (Hp w X1 (R1 ++ []) []) := (Hp.nil w).addRs q3 q4; have HR1 : Hid (∀ X, (∀ r ∈ R1, Row X r.1 r.2.1 r.2.2) → Pr X A1 n S.pend) := q5; clear q1 q2 q3 q4 q5)
    | (go_at_call 30; refine Calls.mono (HCF.out _ H1.out.be) ?_; rintro e X2 ⟨rfl, q⟩; have H2 : Hid (Hp w X2 (R1 ++ []) []) := H1.out.below q; clear q H1)
    | (refine wpList_alC rfl rfl ?_; intro X3 q1 q2 q3; clear q3; have RA : Hid (Row X3 X2.heap.size zC.cells tC) := q1; have BA : Hid (Below X2.heap.size X2 X3) := q2; clear q1 q2; simp only [Act.put, List.setIfInBounds_toArray, List.set_cons_zero, List.set_cons_succ])
    | (refine wpList_stL rfl tC (.tmp 6) (.tmp 18) rfl X2.heap.size cf.cells zC.cells tC rfl rfl RA.out HLCF.out HICF.out (all_one (Cm.one cf)) ?_; intro X4 q1 q2; have R6 : Hid (Row X4 X2.heap.size cf.cells tC) := q1; have H4 : Hid (Hp w X4 (R1 ++ []) []) := H2.out.below (gro_newL BA.out (Nat.le_refl _) q2); have HN6 : Hid (∀ r ∈ R1 ++ [], r.1 ≠ X2.heap.size) := (fun r hr e => by { have := (H2.out.row r hr).lt; omega }); clear q1 q2 RA BA; have HB6 : Hid (w.heap.size ≤ X2.heap.size) := H2.out.be.size))
  obtain ⟨b6, hb6⟩ : ∃ b, b = X2.heap.size := ⟨_, rfl⟩
  rw [← hb6] at R6 HN6 HB6 ⊢
  clear hb6 H2 HPN HCF
  go_loopw [7, 8] (fun nb i wr => ∃ (t : Nat) (c : Cm), t ≤ n ∧ i = .int .i64 (t : Int) ∧ nb = .int .i64 (nrB S t) ∧ c = S.beh t ∧ Row wr b6 c.cells tC ∧ Hp w wr (R1 ++ []) []) (fun _ i _ => n - (intOf i).toNat)
  case atStart => exact ⟨0, cf, Nat.zero_le _, rfl, rfl, HB0.out, R6.out, H4.out⟩
  case round =>
    clear R6 H4 HICF HLCF HCFW HB0
    obtain ⟨t, c, htn, rfl, rfl, hc, hR6, hH⟩ := hrel
    have R6 : Hid (Row wr b6 c.cells tC) := hR6
    have HH : Hid (Hp w wr (R1 ++ []) []) := hH
    have HCE : Hid (c = S.beh t) := hc
    have hcw := La.beh_wf HLD.out.ok t (by rw [HNN.out]; exact htn)
    rw [← hc] at hcw
    have HCW : Hid c.Wf := hcw.1
    have HCM : Hid c.May := hcw.2
    have HIC : Hid ((Try.prog.info? tC).map (·.size) = some c.cells.length) := Cm.info hcw.1
    obtain ⟨nb, hnb⟩ : ∃ nb, nb = nrB S t := ⟨_, rfl⟩
    rw [← hnb]
    have HNB : Hid (nb = nrB S t) := hnb
    clear hc hR6 hH hcw hnb
    by_cases hlt : t < n
    · have hlt2 : (t : Int) < (n : Int) := by omega
      obtain ⟨x, hx⟩ : ∃ x, S.pend[t]? = some x := ⟨_, List.getElem?_eq_getElem (by rw [HNN.out]; exact hlt)⟩
      have hxm := List.mem_of_getElem? hx
      have HXW : Hid x.Wf := HPW.out x hxm
      have HIX : Hid ((Try.prog.info? tP).map (·.size) = some x.cells.length) := Pn.info HXW.out
      have HLX : Hid (x.cells.length = zP.cells.length) := (Pn.len HXW.out).trans (Pn.len zP_wf).symm
      have HIXC : Hid ((Try.prog.info? tC).map (·.size) = some x.c.cells.length) := Cm.info HXW.out.c
      have HLXC : Hid (x.c.cells.length = c.cells.length) := (Cm.len HXW.out.c).trans (Cm.len HCW.out).symm
      have HLC : Hid (c.cells.length = zC.cells.length) := (Cm.len HCW.out).trans (Cm.len zC_wf).symm
      obtain ⟨g, o, rfl, hrg⟩ := (HR1.out wr (fun r hr => HH.out.row r (List.mem_append_left _ hr))).get hx
      have HRG : Hid (wr.rangeAt g (o + t * 90) x.cells) := hrg
      have HFI : Hid (∀ X, Below w.heap.size w X → Calls Try.prog 31 #[.pointer (some ⟨p, 0, none⟩), .int .i64 x.nr] X fun e w' => e = .returned (.tuple #[.agg x.cells.toArray, .int .i64 0]) ∧ Below X.heap.size X w') := fun X k => find_some (HLD.out.be k) x.nr t x (chn_fi HCH.out hx) hx
      have HBF : Hid (∀ X, Below w.heap.size w X → Calls Try.prog 64 #[.pointer (some ⟨p, 0, none⟩), .int .i64 x.nr] X fun e w' => e = .returned (.tuple #[.agg c.cells.toArray, .int .i64 0]) ∧ Below X.heap.size X w') := fun X k => before_some (HLD.out.be k) x.nr t (chn_fi HCH.out hx) (by rw [HNN.out]; exact hlt) c HCE.out
      obtain ⟨s1, s2, s3, s4, s5, s6, s7, s8⟩ := chn_shape HCH.out hx
      rw [← HNB.out] at s1
      rw [← HCE.out] at s2 s3 s4
      have hmx := HLD.out.ok.pm x hxm
      have hw := HW1.out
      have hcm := HCM.out
      have f1 : ¬ x.nr ≤ nb := by omega
      have f2 : ¬ x.c.n ≤ c.n := by omega
      have hs : IntKind.i64.wrap (x.c.n - c.n) = x.c.n - c.n := by rw [IntKind.wrap_i64]; have := hmx.1; have := hmx.2.1; have := hcm.1; have := hcm.2.1; omega
      have f3 : ¬ (1024 : Int) < x.c.n - c.n := by omega
      have f4 : ¬ x.c.k < c.k := by omega
      have f5 : ¬ x.du < 0 := by omega
      have hs2 : IntKind.i64.wrap (x.dl - x.po) = win := by rw [s6, IntKind.wrap_i64]; omega
      have f6 : ¬ x.po < 0 := by omega
      have f7 : ¬ (4611686018427387904 : Int) < x.dl := by omega
      have HXT : Hid (S.pend[t]? = some x) := hx
      clear hx hxm hrg s1 s2 s3 s4 s5 s6 s7 s8 hmx hw hcm
      go_wp2_with (first
        | (refine wpList_ixL tPs tP (.tmp 28) (.tmp 29) rfl g o n k1 t 90 rfl rfl hlt Try.underlying42 info_P rfl ?_; simp only [Act.put, List.setIfInBounds_toArray, List.set_cons_zero, List.set_cons_succ])
        | (refine wpList_ldS rfl tP (.tmp 30) rfl g (o + t * 90) rfl x.cells _ HRG.out Try.underlying66 rfl HIX.out ?_; simp only [Act.put, List.setIfInBounds_toArray, List.set_cons_zero, List.set_cons_succ])
        | (refine wpList_stL rfl tP (.tmp 9) (.tmp 31) rfl wr.heap.size x.cells zP.cells tP rfl rfl RA.out HLX.out HIX.out (all_one (Pn.one x)) ?_; intro Y1 q1 q2; have q3 := HH.out.addR (gro_newL BA.out (Nat.le_refl _) q2) q1 (Nat.le_refl _); have HY1 : Hid (Hp w Y1 ((wr.heap.size, x.cells, tP) :: (R1 ++ [])) []) := q3; have R61 : Hid (Row Y1 b6 c.cells tC) := Row.below R6.out (gro_newL BA.out (Nat.le_refl _) q2) R6.out.lt; have c0 := q1.cell 0 _ (Pn.at_nr x); clear q1 q2 q3 RA BA)
        | (go_at_call 31; refine Calls.mono (HFI.out _ HY1.out.be) ?_; rintro e Y2 ⟨rfl, q⟩; have HY2 : Hid (Hp w Y2 ((wr.heap.size, x.cells, tP) :: (R1 ++ [])) []) := HY1.out.below q; have R62 : Hid (Row Y2 b6 c.cells tC) := Row.below R61.out q R61.out.lt; clear q HY1 R61 c0)
        | (refine wpList_stL rfl tP (.tmp 10) (.tmp 37) rfl Y2.heap.size x.cells zP.cells tP rfl rfl RB.out HLX.out HIX.out (all_one (Pn.one x)) ?_; intro Y4 q1 q2; have q3 := HY2.out.addR (gro_newL BB.out (Nat.le_refl _) q2) q1 (Nat.le_refl _); have HY4 : Hid (Hp w Y4 ((Y2.heap.size, x.cells, tP) :: (wr.heap.size, x.cells, tP) :: (R1 ++ [])) []) := q3; have R64 : Hid (Row Y4 b6 c.cells tC) := Row.below R62.out (gro_newL BB.out (Nat.le_refl _) q2) R62.out.lt; have c0 : Y4.cell? ⟨wr.heap.size, 0, none⟩ = some (.int .i64 x.nr) := (q3.row _ (List.mem_cons_of_mem _ (List.mem_cons_self ..))).cell 0 _ (Pn.at_nr x); clear q1 q2 q3 RB BB HY2 R62)
        | (go_at_call 64; refine Calls.mono (HBF.out _ HY4.out.be) ?_; rintro e Y5 ⟨rfl, q⟩; have HY5 : Hid (Hp w Y5 ((Y2.heap.size, x.cells, tP) :: (wr.heap.size, x.cells, tP) :: (R1 ++ [])) []) := HY4.out.below q; have R65 : Hid (Row Y5 b6 c.cells tC) := Row.below R64.out q R64.out.lt; clear q HY4 R64 c0)
        | (refine wpList_stL rfl tC (.tmp 12) (.tmp 44) rfl Y5.heap.size c.cells zC.cells tC rfl rfl RC.out HLC.out HIC.out (all_one (Cm.one c)) ?_; intro Y7 q1 q2; have q3 := HY5.out.addR (gro_newL BC.out (Nat.le_refl _) q2) q1 (Nat.le_refl _); have HY7 : Hid (Hp w Y7 ((Y5.heap.size, c.cells, tC) :: (Y2.heap.size, x.cells, tP) :: (wr.heap.size, x.cells, tP) :: (R1 ++ [])) []) := q3; have q4 : Row Y7 b6 c.cells tC := Row.below R65.out (gro_newL BC.out (Nat.le_refl _) q2) R65.out.lt; have R67 : Hid (Row Y7 b6 c.cells tC) := q4; have q5 : Row Y7 wr.heap.size x.cells tP := q3.row _ (List.mem_cons_of_mem _ (List.mem_cons_of_mem _ (List.mem_cons_self ..))); have c0 := q5.cell 0 _ (Pn.at_nr x); have c1 := q5.cell 1 _ (Pn.at_c x 0 _ (Cm.at_n x.c)); have c66 := q5.cell 66 _ (Pn.at_c x 65 _ (Cm.at_k HXW.out.c)); have c87 := q5.cell 87 _ (Pn.at_po HXW.out); have c88 := q5.cell 88 _ (Pn.at_dl HXW.out); have c89 := q5.cell 89 _ (Pn.at_du HXW.out); have d0 := q4.cell 0 _ (Cm.at_n c); have d65 := q4.cell 65 _ (Cm.at_k HCW.out); have HN9 : Hid (∀ r ∈ R1 ++ [], r.1 ≠ b6) := HN6.out; clear q1 q2 q3 q4 q5 RC BC HY5 R65)
        | (refine wpList_alC rfl rfl ?_; intro Y6 q1 q2 q3; clear q3; have RC : Hid (Row Y6 Y5.heap.size zC.cells tC) := q1; have BC : Hid (Below Y5.heap.size Y5 Y6) := q2; clear q1 q2; simp only [Act.put, List.setIfInBounds_toArray, List.set_cons_zero, List.set_cons_succ])
        | (refine wpList_alP rfl rfl ?_; intro Y3 q1 q2 q3; clear q3; have RB : Hid (Row Y3 Y2.heap.size zP.cells tP) := q1; have BB : Hid (Below Y2.heap.size Y2 Y3) := q2; clear q1 q2; simp only [Act.put, List.setIfInBounds_toArray, List.set_cons_zero, List.set_cons_succ])
        | (refine wpList_alP rfl rfl ?_; intro Y0 q1 q2 q3; clear q3; have RA : Hid (Row Y0 wr.heap.size zP.cells tP) := q1; have BA : Hid (Below wr.heap.size wr Y0) := q2; clear q1 q2; simp only [Act.put, List.setIfInBounds_toArray, List.set_cons_zero, List.set_cons_succ])
        | (refine wpList_ldS rfl tP (.tmp 10) rfl Y2.heap.size 0 rfl x.cells _ (HY7.out.row _ (List.mem_cons_of_mem _ (List.mem_cons_self ..))).all Try.underlying66 rfl HIX.out ?_; simp only [Act.put, List.setIfInBounds_toArray, List.set_cons_zero, List.set_cons_succ])
        | (refine wpList_ldS rfl tP (.tmp 9) rfl wr.heap.size 0 rfl x.cells _ (HY7.out.row _ (List.mem_cons_of_mem _ (List.mem_cons_of_mem _ (List.mem_cons_self ..)))).all Try.underlying66 rfl HIX.out ?_; simp only [Act.put, List.setIfInBounds_toArray, List.set_cons_zero, List.set_cons_succ])
        | (refine wpList_neP rfl (.tmp 53) (.tmp 54) _ rfl x x HXW.out HXW.out rfl rfl false (by rw [decide_eq_true rfl]; rfl) ?_; simp only [Act.put, List.setIfInBounds_toArray, List.set_cons_zero, List.set_cons_succ])
        | (refine wpList_ldS rfl tC (.tmp 12) rfl Y5.heap.size 0 rfl c.cells _ (HY7.out.row _ (List.mem_cons_self ..)).all Try.underlying25 rfl HIC.out ?_; simp only [Act.put, List.setIfInBounds_toArray, List.set_cons_zero, List.set_cons_succ])
        | (refine wpList_ldS rfl tC (.tmp 6) rfl b6 0 rfl c.cells _ R67.out.all Try.underlying25 rfl HIC.out ?_; simp only [Act.put, List.setIfInBounds_toArray, List.set_cons_zero, List.set_cons_succ])
        | (refine wpList_neC rfl (.tmp 58) (.tmp 59) _ rfl c c HCW.out HCW.out rfl rfl false (by rw [decide_eq_true rfl]; rfl) ?_; simp only [Act.put, List.setIfInBounds_toArray, List.set_cons_zero, List.set_cons_succ])
        | (refine wpList_ldS rfl tC (.tmp 115) rfl wr.heap.size 1 rfl x.c.cells _ ((HY7.out.row _ (List.mem_cons_of_mem _ (List.mem_cons_of_mem _ (List.mem_cons_self ..)))).range 1 _ (fun j u hj => Pn.at_c x j u hj)) Try.underlying25 rfl HIXC.out ?_; simp only [Act.put, List.setIfInBounds_toArray, List.set_cons_zero, List.set_cons_succ])
        | (refine wpList_stL rfl tC (.tmp 6) (.tmp 116) rfl b6 x.c.cells c.cells tC rfl rfl R67.out HLXC.out HIXC.out (all_one (Cm.one x.c)) ?_; intro Y8 q1 q2; have R68 : Hid (Row Y8 b6 x.c.cells tC) := q1; have HY8 : Hid (Hp w Y8 (R1 ++ []) []) := (HY7.out.dropR (fun r hr => List.mem_cons_of_mem _ (List.mem_cons_of_mem _ (List.mem_cons_of_mem _ hr)))).setOther q2 HB6.out HN9.out (fun l hl => by { cases hl }); clear q1 q2 HY7 R67 c0 c1 c66 c87 c88 c89 d0 d65))
      exact ⟨⟨t + 1, x.c, hlt, by go_num, by rw [nrB_succ HXT.out], (beh_succ HXT.out).symm, R68.out, HY8.out⟩, by simp [intOf]; omega⟩
    · have hlt2 : ¬ ((t : Int) < (n : Int)) := by omega
      have HTP : Hid (∀ X, Below w.heap.size w X → Calls Try.prog 66 #[.pointer (some ⟨p, 0, none⟩)] X fun e w' => e = .returned (.agg c.cells.toArray) ∧ Below X.heap.size X w') := fun X k => top_any (HLD.out.be k) c (by rw [HCE.out, La.top, HNN.out, show t = n by omega])
      have HLC : Hid (c.cells.length = zC.cells.length) := (Cm.len HCW.out).trans (Cm.len zC_wf).symm
      obtain ⟨Z, hZ⟩ : ∃ Z, Z = wr := ⟨_, rfl⟩
      subst hZ
      go_wp2_with (first
        | (go_at_call 66; refine Calls.mono (HTP.out _ HH.out.be) ?_; rintro e Z2 ⟨rfl, q⟩; have B2 : Hid (Below w.heap.size w Z2) := HH.out.be.trans (q.mono HH.out.be.size); have R62 : Hid (Row Z2 b6 c.cells tC) := Row.below R6.out q R6.out.lt; clear q HH R6)
        | (refine wpList_alC rfl rfl ?_; intro Z3 q1 q2 q3; clear q3; have RA : Hid (Row Z3 Z2.heap.size zC.cells tC) := q1; have BA : Hid (Below Z2.heap.size Z2 Z3) := q2; clear q1 q2; simp only [Act.put, List.setIfInBounds_toArray, List.set_cons_zero, List.set_cons_succ])
        | (refine wpList_stL rfl tC (.tmp 14) (.tmp 118) rfl Z2.heap.size c.cells zC.cells tC rfl rfl RA.out HLC.out HIC.out (all_one (Cm.one c)) ?_; intro Z4 q1 q2; have R4 : Hid (Row Z4 Z2.heap.size c.cells tC) := q1; have q3 := gro_newL BA.out (Nat.le_refl _) q2; have B4 : Hid (Below w.heap.size w Z4) := B2.out.trans (q3.mono B2.out.size); have R64 : Hid (Row Z4 b6 c.cells tC) := Row.below R62.out q3 R62.out.lt; clear q1 q2 q3 RA BA)
        | (refine wpList_ldS rfl tC (.tmp 14) rfl Z2.heap.size 0 rfl c.cells _ R4.out.all Try.underlying25 rfl HIC.out ?_; simp only [Act.put, List.setIfInBounds_toArray, List.set_cons_zero, List.set_cons_succ])
        | (refine wpList_ldS rfl tC (.tmp 6) rfl b6 0 rfl c.cells _ R64.out.all Try.underlying25 rfl HIC.out ?_; simp only [Act.put, List.setIfInBounds_toArray, List.set_cons_zero, List.set_cons_succ])
        | (refine wpList_eqC rfl (.tmp 119) (.tmp 120) _ rfl c c HCW.out HCW.out rfl rfl true (decide_eq_true rfl) ?_; simp only [Act.put, List.setIfInBounds_toArray, List.set_cons_zero, List.set_cons_succ]))
      go_ret
      exact ⟨rfl, B4.out⟩

end Go.Proofs.Ytdilgeikleddbaa
