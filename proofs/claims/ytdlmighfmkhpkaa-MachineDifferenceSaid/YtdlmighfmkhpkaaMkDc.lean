/-
  run.all at such a program.
-/
import Derived.Test.YtdlmighfmkhpkaaMkDb
namespace Go.Proofs.Ytdlmighfmkhpkaa
open Go Go.RowKit
open Sha
open Wd

theorem rev2 (y x : Nat) (st : List Nat) : (y :: x :: st).reverse = st.reverse ++ [x] ++ [y] := by simp
theorem zR_one : zR.toArray.all (·.oneCell') = true := by rw [← Array.all_toList]; rfl
/-- What run.all answers. -/
def rans (E : Int) (v l1 : Nat) : List Value := if E = 0 then wq v ++ [.int .i64 ((100 - l1 : Nat) : Int)] else zR
set_option maxRecDepth 100000 in
set_option maxHeartbeats 4000000 in
theorem all_ev (r T gs n : Nat) (pl : Value) (C : List Value) (h av stk0 : Value) (an : List Value) (ls : List Ins) (ags : List Nat) (hls : ls.length ≤ 50) (h8 : ags.length ≤ 8) (hag : ∀ a ∈ ags, a < 2 ^ 256) (hgas : C[47]? = some (.int .i64 100)) (E : Int) (v l1 : Nat) (hev : ev ags ls [] 100 = some (E, v, l1)) (k0 w0 w : World) (H : Rn k0 w0 w r T gs n pl C h av stk0 [] 100 0 an ls ags) :
    Calls Try.prog 50 #[.pointer (some ⟨r, 0, none⟩)] w fun e w' => e = .returned (.tuple #[.agg (rans E v l1).toArray, .int .i64 E]) ∧ Below w0.heap.size w0 w' := by
  have hpos : 0 < ls.length := by
    cases ls with
    | nil => unfold ev at hev; cases hev
    | cons x r => simp
  obtain ⟨g, cp, hpl, hcp⟩ := Lw.open H.prg hpos
  subst hpl
  obtain ⟨N, hN⟩ : ∃ N, N = ls.length := ⟨_, rfl⟩
  have HN : Hid (N = ls.length) := hN
  have HH : Hid (Rn k0 w0 w r T gs n (.slice (some ⟨g, 0, none⟩) N cp) C h av stk0 ([]) 100 0 an ls ags) := by rw [hN]; exact H
  have HG : Hid (C[47]? = some (.int .i64 100)) := hgas
  have HAG : Hid (ags.length ≤ 8 ∧ ∀ a ∈ ags, a < 2 ^ 256) := ⟨h8, hag⟩
  have HEV : Hid (ev ags ls [] 100 = some (E, v, l1)) := hev
  have hNl : N ≤ 50 := by omega
  clear H hgas hcp h8 hag hev hpos hls hN
  go_enter Try.func50, Try.ntmps50
  go_upto_region 1 with (refine wpList_allocR rfl rfl ?_; intro X0 q1 q2 q3; have RB0 : Hid (Row X0 w.heap.size zR 31) := q1; have HR0 : Hid (Rn X0 w0 X0 r T gs n (.slice (some ⟨g, 0, none⟩) N cp) C h av stk0 ([]) 100 0 an ls ags) := (HH.out.keep q2).rebase; clear q1 q2 q3; simp only [Act.put, List.setIfInBounds_toArray, List.set_cons_zero, List.set_cons_succ])
  obtain ⟨b2, hb2⟩ : ∃ b, b = w.heap.size := ⟨_, rfl⟩
  rw [← hb2] at RB0
  rw [← hb2]
  have HB2 : Hid (w0.heap.size ≤ b2) := by show _ ≤ _; rw [hb2]; exact HH.out.be.size
  clear hb2 HH
  have c1 : X0.cell? ⟨r, 1, none⟩ = some (.slice (some ⟨g, 0, none⟩) N cp) := HR0.out.row.cell 1 _ rfl
  go_step3
  go_wp2_with fail
  go_step3
  go_wp2_with fail
  clear c1
  go_loopw [6] (fun _ wr => ∃ (nx l : Nat) (st : List Nat) (stk : Value), Hid (Rn wr w0 wr r T gs n (.slice (some ⟨g, 0, none⟩) N cp) C h av stk (st.reverse) l nx an ls ags) ∧ Hid (Row wr b2 zR 31) ∧ Hid (ev ags (ls.drop nx) st l = some (E, v, l1)) ∧ nx ≤ N ∧ l ≤ 100 ∧ Hid (st.length ≤ nx ∧ ∀ a ∈ st, a < 2 ^ 256)) (fun _ wr => N - (match wr.cell? ⟨r, 54, none⟩ with | some u => (intOf u).toNat | none => 0))
  case atStart => exact ⟨0, 100, [], stk0, HR0, RB0, HEV, Nat.zero_le _, Nat.le_refl _, ⟨Nat.zero_le _, fun a ha => by cases ha⟩⟩
  case round =>
    clear HR0 RB0 HEV
    obtain ⟨nx, l, st, stk, HR1, RB1, HEV, hnx, hl, HST⟩ := hrel
    by_cases hlt : nx < N
    · obtain ⟨x, hx⟩ : ∃ x, ls[nx]? = some x := ⟨_, List.getElem?_eq_getElem (by rw [← HN.out]; exact hlt)⟩
      have hdr : ls.drop nx = x :: ls.drop (nx + 1) := by
        rw [List.drop_eq_getElem_cons (by rw [← HN.out]; exact hlt)]
        congr 1
        rw [List.getElem?_eq_getElem (by rw [← HN.out]; exact hlt)] at hx
        exact Option.some.inj hx
      have hev := HEV.out
      rw [hdr] at hev
      have hcs := ev_cases hev
      have c54 : wr.cell? ⟨r, 54, none⟩ = some (.int .i64 (nx : Int)) := HR1.out.row.cell 54 _ (rc_hi HR1.out.clen 3)
      have hNx : ((nx : Int) == (N : Int)) = false := by simp; omega
      obtain ⟨L, hL⟩ : ∃ L, L = ic x.c x.p x.a x.n := ⟨_, rfl⟩
      have HL : Hid (L = ic x.c x.p x.a x.n) := hL
      have RG : Hid (wr.rangeAt g (nx * 7) L) := by rw [hL]; exact fl_at (Lw.range (by have := HR1.out.prg; rwa [← HN.out] at this)) nx x hx
      have HI : Hid ((Try.prog.info? 64).map (·.size) = some L.length) := by show _ = _; rw [hL]; exact info_Ic _ _ _ _
      have HN7 : Hid (L.length = zI.length) := by show _ = _; rw [hL]; exact ic_len _ _ _ _
      have HO : Hid (L.toArray.all (·.oneCell') = true) := by show _ = _; rw [hL]; exact ic_one _ _ _ _
      have HCS : Hid _ := hcs
      have HM : Hid (∀ wz : World, wz.cell? ⟨r, 54, none⟩ = some (.int .i64 ((nx + 1 : Nat) : Int)) → N - (match wz.cell? ⟨r, 54, none⟩ with | some u => (intOf u).toNat | none => 0) < N - (match wr.cell? ⟨r, 54, none⟩ with | some u => (intOf u).toNat | none => 0)) := fun wz hz => by rw [hz, c54]; simp [intOf]; omega
      clear hL hx hdr hev hcs HEV
      go_upto_region 5 with (first
        | (refine wpList_load_w rfl 64 (.tmp 25) rfl g (nx * 7) rfl L _ RG.out Try.underlying64 rfl HI.out ?_; simp only [Act.put, List.setIfInBounds_toArray, List.set_cons_zero, List.set_cons_succ])
        | (refine wpList_allocI rfl rfl ?_; intro Y1 q1 q2 q3; have R2 : Hid (Row Y1 wr.heap.size zI 64) := q1; have B2 : Hid (Below wr.heap.size wr Y1) := q2; clear q1 q2 q3; simp only [Act.put, List.setIfInBounds_toArray, List.set_cons_zero, List.set_cons_succ])
        | (refine wpList_storeL rfl 64 (.tmp 5) (.tmp 26) rfl wr.heap.size L zI 64 rfl rfl R2.out HN7.out HI.out HO.out ?_; intro Y2 q1 q2; have E2 : Hid (Y2 = _) := q1; have R3 : Hid (Row Y2 wr.heap.size L 64) := q2; clear q1 q2; simp only [Act.put]))
      have BY : Below wr.heap.size wr Y2 := by rw [E2.out]; exact below_setCells B2.out (Nat.le_refl _) _
      have HRY : Hid (Rn Y2 w0 Y2 r T gs n (.slice (some ⟨g, 0, none⟩) N cp) C h av stk (st.reverse) l nx an ls ags) := (HR1.out.keep BY).rebase
      have RBY : Hid (Row Y2 b2 zR 31) := Row.below RB1.out BY RB1.out.lt
      obtain ⟨b5, hb5⟩ : ∃ b, b = wr.heap.size := ⟨_, rfl⟩
      rw [← hb5] at R3
      rw [← hb5]
      have hst := HST.out
      rcases HCS.out with ⟨hc, ha0, a, ha, hg, hev⟩ | ⟨hc, ha0, st', hse, hg, hE, hl1⟩ | ⟨hc, ha0, y, x', st', z, E', hse, hbn, hg, hev⟩
      · have HEV2 : Hid (ev ags (ls.drop (nx + 1)) (a :: st) (l - 2) = some (E, v, l1)) := hev
        have HST2 : Hid ((a :: st).length ≤ nx + 1 ∧ ∀ u ∈ a :: st, u < 2 ^ 256) := ⟨by rw [List.length_cons]; omega, fun u hu => by
          rcases List.mem_cons.1 hu with rfl | hu
          · exact HAG.out.2 _ (List.mem_of_getElem? ha)
          · exact hst.2 u hu⟩
        have HS : Hid (Calls Try.prog 71 #[.pointer (some ⟨r, 0, none⟩), .agg L.toArray] Y2 fun e w' => ∃ v, e = .returned (.int .i64 v) ∧ (v = 0 ∧ ∃ stk', Rn Y2 w0 w' r T gs n (.slice (some ⟨g, 0, none⟩) N cp) C h av stk' ((a :: st).reverse) (l - 2) (nx + 1) an ls ags)) := by
          rw [HL.out, hc, ha0, List.reverse_cons]
          exact stp_arg r T gs n _ C h av stk st.reverse l nx an ls ags x.p x.n a ha HAG.out.1 (by rw [List.length_reverse]; omega) hg (by omega) (by omega) Y2 w0 Y2 HRY.out
        have ci : L[0]? = some (.int .i64 (x.c : Int)) := by rw [HL.out]; exact ic_0 _ _ _ _
        have HCI : Hid (L[0]? = some (.int .i64 (x.c : Int))) := ci
        obtain ⟨xc, hxc⟩ : ∃ xc, xc = x.c := ⟨_, rfl⟩
        rw [← hxc] at HCI
        have ex1 : ((xc : Int) == 1) = false := by simp; omega
        clear ci hxc hb5 c54 E2 R2 B2 BY RG HN7 HO HR1 RB1 hst HCS HL hc ha0 ha hg hev
        go_upto_region 6 with (first
          | (refine wpList_load_w rfl 64 (.tmp 5) rfl b5 0 rfl L _ R3.out.all Try.underlying64 rfl HI.out ?_; simp only [Act.put, List.setIfInBounds_toArray, List.set_cons_zero, List.set_cons_succ])
          | (go_at_call 71; refine Calls.mono HS.out ?_; rintro e X2 ⟨u, rfl, rfl, stk2, q⟩; have HR2 : Hid (Rn X2 w0 X2 r T gs n (.slice (some ⟨g, 0, none⟩) N cp) C h av stk2 ((a :: st).reverse) (l - 2) (nx + 1) an ls ags) := q.rebase; have RB2 : Hid (Row X2 b2 zR 31) := q.kp (by decide) (by decide) RBY.out; have R5 : Hid (Row X2 b5 L 64) := q.kp (by decide) (by decide) R3.out; clear q))
        have ci0 : X2.cell? ⟨b5, 0, none⟩ = some (.int .i64 (xc : Int)) := R5.out.cell 0 _ HCI.out
        have c542 : X2.cell? ⟨r, 54, none⟩ = some (.int .i64 ((nx + 1 : Nat) : Int)) := HR2.out.row.cell 54 _ (rc_hi HR2.out.clen 3)
        have HD : Hid _ := HM.out X2 c542
        clear c542 HS HRY RBY R3 R5 HI
        go_wp2_with fail
        exact ⟨⟨nx + 1, l - 2, a :: st, stk2, HR2, RB2, HEV2, by omega, by omega, HST2⟩, HD.out⟩
      · subst hse
        have HE0 : Hid (E = 0 ∧ l1 = l - 1) := ⟨hE, hl1⟩
        have HS : Hid (Calls Try.prog 71 #[.pointer (some ⟨r, 0, none⟩), .agg L.toArray] Y2 fun e w' => ∃ u, e = .returned (.int .i64 u) ∧ (u = 0 ∧ ∃ stk', Rn Y2 w0 w' r T gs n (.slice (some ⟨g, 0, none⟩) N cp) C h av stk' (st'.reverse) (l - 1) (nx + 1) (wq v) ls ags)) := by
          rw [HL.out, hc, ha0]
          have q := HRY.out
          rw [List.reverse_cons] at q
          exact stp_done r T gs n _ C h av stk st'.reverse l nx an ls ags x.p x.n v (by rw [List.length_reverse]; have := hst.1; rw [List.length_cons] at this; omega) hg (by omega) (by omega) Y2 w0 Y2 q
        have ci : L[0]? = some (.int .i64 1) := by rw [HL.out, hc]; exact ic_0 _ _ _ _
        have HCI : Hid (L[0]? = some (.int .i64 1)) := ci
        obtain ⟨lz, hlz⟩ : ∃ lz, lz = l - 1 := ⟨_, rfl⟩
        rw [← hlz] at HS
        have HLZ : Hid (lz = l - 1) := hlz
        have hlz2 : lz ≤ 100 := by omega
        clear hlz ci hb5 c54 E2 R2 B2 BY RG HN7 HO HR1 RB1 hst HCS HL hc ha0 hg hE hl1
        go_upto_region 6 with (first
          | (refine wpList_load_w rfl 64 (.tmp 5) rfl b5 0 rfl L _ R3.out.all Try.underlying64 rfl HI.out ?_; simp only [Act.put, List.setIfInBounds_toArray, List.set_cons_zero, List.set_cons_succ])
          | (go_at_call 71; refine Calls.mono HS.out ?_; rintro e X4 ⟨u, rfl, rfl, stk4, q⟩; have HR4 : Hid (Rn X4 w0 X4 r T gs n (.slice (some ⟨g, 0, none⟩) N cp) C h av stk4 (st'.reverse) lz (nx + 1) (wq v) ls ags) := q.rebase; have RB4 : Hid (Row X4 b2 zR 31) := q.kp (by decide) (by decide) RBY.out; have R5 : Hid (Row X4 b5 L 64) := q.kp (by decide) (by decide) R3.out; clear q))
        have ci0 : X4.cell? ⟨b5, 0, none⟩ = some (.int .i64 1) := R5.out.cell 0 _ HCI.out
        clear HS HRY RBY R3 R5 HI
        obtain ⟨a0, ha0⟩ : ∃ a, a = ((lim v 0 : Nat) : Int) := ⟨_, rfl⟩
        obtain ⟨a1, ha1⟩ : ∃ a, a = ((lim v 1 : Nat) : Int) := ⟨_, rfl⟩
        obtain ⟨a2, ha2⟩ : ∃ a, a = ((lim v 2 : Nat) : Int) := ⟨_, rfl⟩
        obtain ⟨a3, ha3⟩ : ∃ a, a = ((lim v 3 : Nat) : Int) := ⟨_, rfl⟩
        have hwv : wq v = [.int .u64 a0, .int .u64 a1, .int .u64 a2, .int .u64 a3] := by rw [wq_cells, ha0, ha1, ha2, ha3]
        have HWV : Hid (wq v = [.int .u64 a0, .int .u64 a1, .int .u64 a2, .int .u64 a3]) := hwv
        have r55 : ∀ j u, (wq v)[j]? = some u → X4.cell? ⟨r, j + 55, none⟩ = some u := fun j u hj => HR4.out.row.cell (j + 55) _ ((rc_hi HR4.out.clen (j + 4)).trans hj)
        rw [hwv] at r55
        have d0 : X4.cell? ⟨r, 55, none⟩ = some (.int .u64 a0) := r55 0 _ rfl
        have d1 : X4.cell? ⟨r, 56, none⟩ = some (.int .u64 a1) := r55 1 _ rfl
        have d2 : X4.cell? ⟨r, 57, none⟩ = some (.int .u64 a2) := r55 2 _ rfl
        have d3 : X4.cell? ⟨r, 58, none⟩ = some (.int .u64 a3) := r55 3 _ rfl
        have d4 : X4.cell? ⟨r, 50, none⟩ = some (.int .i64 100) := HR4.out.row.cell 50 _ ((rc_low HR4.out.clen 47 (by decide)).trans HG.out)
        have d5 : X4.cell? ⟨r, 53, none⟩ = some (.int .i64 (lz : Int)) := HR4.out.row.cell 53 _ (rc_hi HR4.out.clen 2)
        have e0 := RB4.out.cell 0 _ rfl
        have f0 := RB4.out.thaw 0
        have e1 := RB4.out.cell 1 _ rfl
        have f1 := RB4.out.thaw 1
        have e2 := RB4.out.cell 2 _ rfl
        have f2 := RB4.out.thaw 2
        have e3 := RB4.out.cell 3 _ rfl
        have f3 := RB4.out.thaw 3
        have e4 := RB4.out.cell 4 _ rfl
        have f4 := RB4.out.thaw 4
        have BR4 : Hid (Below w0.heap.size w0 X4) := HR4.out.be
        clear r55 hwv ha0 ha1 ha2 ha3 HR4
        go_upto_region 9 with fail
        go_region
        have RF := ((((RB4.out.set 0 (.int .u64 a0)).set 1 (.int .u64 a1)).set 2 (.int .u64 a2)).set 3 (.int .u64 a3)).set 4 (.int .i64 (100 - (lz : Int)))
        have GF : Gro (· = b2) X4 _ := (((((Gro.refl (· = b2) X4).set b2 0 (.int .u64 a0) rfl).set b2 1 (.int .u64 a1) rfl).set b2 2 (.int .u64 a2) rfl).set b2 3 (.int .u64 a3) rfl).set b2 4 (.int .i64 (100 - (lz : Int))) rfl
        have BF := (BR4.out.trans (GF.to_below BR4.out.size (fun k e => by rw [e]; exact HB2.out))).drew
        have RFD := RF.drew
        have hR : rans E v l1 = [.int .u64 a0, .int .u64 a1, .int .u64 a2, .int .u64 a3, .int .i64 (100 - (lz : Int))] := by
          unfold rans
          rw [if_pos HE0.out.1, HWV.out, HE0.out.2, ← HLZ.out, show ((100 - lz : Nat) : Int) = 100 - (lz : Int) by omega]
          rfl
        have HRR : Hid (rans E v l1 = [.int .u64 a0, .int .u64 a1, .int .u64 a2, .int .u64 a3, .int .i64 (100 - (lz : Int))]) := hR
        clear d0 d1 d2 d3 d4 d5 e0 e1 e2 e3 e4 f0 f1 f2 f3 f4 ci0 hR
        go_wp2_with fail
        rw [Exit.noGoto_ret]
        refine bodyPost_ret (results_rowS_tmp Try.results50 _ _ b2 31 [.int .u64 a0, .int .u64 a1, .int .u64 a2, .int .u64 a3, .int .i64 (100 - (lz : Int))] (.int .i64 0) rfl rfl RFD Try.underlying31 info_Ran) rfl ?_
        exact ⟨by rw [HRR.out, HE0.out.1], BF⟩
      · subst hse
        have hxy : x' < 2 ^ 256 ∧ y < 2 ^ 256 := ⟨hst.2 _ (by simp), hst.2 _ (by simp)⟩
        have hz2 := (bin_lt hxy.1 hxy.2 hbn).1
        have hlen : st'.length + 2 ≤ nx := by have := hst.1; simpa using this
        have HSB : Hid _ := stp_bin r T gs n (.slice (some ⟨g, 0, none⟩) N cp) C h av stk st'.reverse l nx an ls ags x.c x.p x.n x' y z E' hxy.1 hxy.2 hbn (by rw [List.length_reverse]; omega) hg (by omega) (by omega) Y2 w0 Y2 (by have q := HRY.out; rw [rev2] at q; exact q)
        rcases hev with ⟨hE', hev⟩ | ⟨hE', hE⟩
        · have HEV2 : Hid (ev ags (ls.drop (nx + 1)) (z :: st') (l - gasB x.c) = some (E, v, l1)) := hev
          have HST2 : Hid ((z :: st').length ≤ nx + 1 ∧ ∀ u ∈ z :: st', u < 2 ^ 256) := ⟨by rw [List.length_cons]; omega, fun u hu => by
            rcases List.mem_cons.1 hu with rfl | hu
            · exact hz2
            · exact hst.2 u (by simp [hu])⟩
          have HS : Hid (Calls Try.prog 71 #[.pointer (some ⟨r, 0, none⟩), .agg L.toArray] Y2 fun e w' => ∃ v, e = .returned (.int .i64 v) ∧ (v = 0 ∧ ∃ stk', Rn Y2 w0 w' r T gs n (.slice (some ⟨g, 0, none⟩) N cp) C h av stk' ((z :: st').reverse) (l - gasB x.c) (nx + 1) an ls ags)) := by
            rw [HL.out, ha0, List.reverse_cons]
            refine Calls.mono HSB.out ?_
            rintro e w' ⟨u, q1, q2, _⟩
            exact ⟨u, q1, q2 hE'⟩
          obtain ⟨lz, hlz⟩ : ∃ lz, lz = l - gasB x.c := ⟨_, rfl⟩
          rw [← hlz] at HS HEV2
          have hlz2 : lz ≤ 100 := by omega
          clear hlz HSB hz2 hbn hE'
          have ci : L[0]? = some (.int .i64 (x.c : Int)) := by rw [HL.out]; exact ic_0 _ _ _ _
          have HCI : Hid (L[0]? = some (.int .i64 (x.c : Int))) := ci
          obtain ⟨xc, hxc⟩ : ∃ xc, xc = x.c := ⟨_, rfl⟩
          rw [← hxc] at HCI
          have ex1 : ((xc : Int) == 1) = false := by simp; omega
          clear ci hxc hb5 c54 E2 R2 B2 BY RG HN7 HO HR1 RB1 hst HCS HL hc ha0 hg hev hxy hlen
          go_upto_region 6 with (first
            | (refine wpList_load_w rfl 64 (.tmp 5) rfl b5 0 rfl L _ R3.out.all Try.underlying64 rfl HI.out ?_; simp only [Act.put, List.setIfInBounds_toArray, List.set_cons_zero, List.set_cons_succ])
            | (go_at_call 71; refine Calls.mono HS.out ?_; rintro e X2 ⟨u, rfl, rfl, stk2, q⟩; have HR2 : Hid (Rn X2 w0 X2 r T gs n (.slice (some ⟨g, 0, none⟩) N cp) C h av stk2 ((z :: st').reverse) lz (nx + 1) an ls ags) := q.rebase; have RB2 : Hid (Row X2 b2 zR 31) := q.kp (by decide) (by decide) RBY.out; have R5 : Hid (Row X2 b5 L 64) := q.kp (by decide) (by decide) R3.out; clear q))
          have ci0 : X2.cell? ⟨b5, 0, none⟩ = some (.int .i64 (xc : Int)) := R5.out.cell 0 _ HCI.out
          have c542 : X2.cell? ⟨r, 54, none⟩ = some (.int .i64 ((nx + 1 : Nat) : Int)) := HR2.out.row.cell 54 _ (rc_hi HR2.out.clen 3)
          have HD : Hid _ := HM.out X2 c542
          clear c542 HS HRY RBY R3 R5 HI
          go_wp2_with fail
          exact ⟨⟨nx + 1, lz, z :: st', stk2, HR2, RB2, HEV2, by omega, by omega, HST2⟩, HD.out⟩
        · have HE4 : Hid (E = 104) := hE
          have HS : Hid (Calls Try.prog 71 #[.pointer (some ⟨r, 0, none⟩), .agg L.toArray] Y2 fun e w' => e = .returned (.int .i64 104) ∧ ∃ stk', Rn Y2 w0 w' r T gs n (.slice (some ⟨g, 0, none⟩) N cp) C h av stk' (st'.reverse) (l - gasB x.c) (nx + 1) an ls ags) := by
            rw [HL.out, ha0]
            refine Calls.mono HSB.out ?_
            rintro e w' ⟨u, rfl, _, q2⟩
            obtain ⟨rfl, q⟩ := q2 hE'
            exact ⟨rfl, q⟩
          clear HSB hz2 hbn hE' hc ha0 hg hxy hlen hb5 c54 E2 R2 B2 BY RG HN7 HO HR1 RB1 hst HCS HL hE
          go_upto_region 7 with (first
            | (refine wpList_load_w rfl 64 (.tmp 5) rfl b5 0 rfl L _ R3.out.all Try.underlying64 rfl HI.out ?_; simp only [Act.put, List.setIfInBounds_toArray, List.set_cons_zero, List.set_cons_succ])
            | (go_at_call 71; refine Calls.mono HS.out ?_; rintro e X2 ⟨rfl, stk2, q⟩; have BR2 : Hid (Below w0.heap.size w0 X2) := q.be; have RB2 : Hid (Row X2 b2 zR 31) := q.kp (by decide) (by decide) RBY.out; clear q))
          go_wp2_with (refine wpList_storeL rfl 31 (.tmp 2) (.tmp 33) rfl b2 zR zR 31 rfl rfl RB2.out rfl info_Ran zR_one ?_; intro X9 q1 q2; have E9 : Hid (X9 = _) := q1; have R9 : Hid (Row X9 b2 zR 31) := q2; clear q1 q2; simp only [Act.put])
          rw [Exit.noGoto_ret]
          have hBE : Below w0.heap.size w0 X9 := by rw [E9.out]; exact below_setCells BR2.out HB2.out _
          refine bodyPost_ret (results_rowS_tmp Try.results50 _ _ b2 31 zR (.int .i64 104) rfl rfl R9.out Try.underlying31 info_Ran) rfl ?_
          exact ⟨by unfold rans; rw [HE4.out]; rfl, hBE⟩
    · have hN2 : nx = N := by omega
      have := HEV.out
      rw [hN2, HN.out, List.drop_length] at this
      unfold ev at this
      cases this

end Go.Proofs.Ytdlmighfmkhpkaa
