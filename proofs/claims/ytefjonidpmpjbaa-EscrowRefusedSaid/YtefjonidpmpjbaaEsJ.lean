/-
  The vault's calls, over its state.
-/
import Derived.Test.YtefjonidpmpjbaaEsI
namespace Go.Proofs.Ytefjonidpmpjbaa
open Go Go.RowKit Go.Maps
open Wd

theorem Vt.lk {w w' : World} {p c : Nat} {m1 m2 : Value} {s : St} {r : Nat} (h : Vt w p c m1 m2 s) (g : Gro (· = p) w w') (hr : Row w' p (vcs m1 m2 r) tV) (hl : r < 2 ^ 256) : Vt w' p c m1 m2 { s with L := r } := by
  obtain ⟨g2, p1, p2⟩ := h.pd
  have hrow := h.row
  exact ⟨hr, h.tk.keep fun b hb hlt => g.block b hlt (fun e => h.tk.notrow hrow (e ▸ hb)), ⟨g2, p1.keep fun b hb hlt => g.block b hlt (fun e => p1.notrow hrow (e ▸ hb)), p2⟩, h.ap, ⟨h.ok.t, hl⟩⟩

set_option maxRecDepth 100000 in
set_option maxHeartbeats 4000000 in
theorem lock_any {w : World} {p c : Nat} {m1 m2 : Value} {s : St} (hV : Vt w p c m1 m2 s) (m : Nat) (hm : m < 2 ^ 256) :
    Calls Try.prog 28 #[.pointer (some ⟨p, 0, none⟩), .agg (vQ (dgs m 4)).toArray] w (VtC w p c m1 m2 (sLock s m)) := by
  have HV : Hid (Vt w p c m1 m2 s) := hV
  have HM : Hid (m < 2 ^ 256) := hm
  have HL : Hid (s.L < 2 ^ 256) := hV.ok.l
  have HRW : Hid (Row w p (vcs m1 m2 s.L) tV) := hV.row
  obtain ⟨k0, k1, k2, k3, hk⟩ : ∃ a0 a1 a2 a3 : Int, vQ (dgs m 4) = [.int .u64 a0, .int .u64 a1, .int .u64 a2, .int .u64 a3] := ⟨_, _, _, _, rfl⟩
  obtain ⟨l0, l1, l2, l3, hl⟩ : ∃ a0 a1 a2 a3 : Int, vQ (dgs s.L 4) = [.int .u64 a0, .int .u64 a1, .int .u64 a2, .int .u64 a3] := ⟨_, _, _, _, rfl⟩
  have HWM : Hid (Wc [.int .u64 k0, .int .u64 k1, .int .u64 k2, .int .u64 k3] m) := hk.symm
  have HWL : Hid (Wc [.int .u64 l0, .int .u64 l1, .int .u64 l2, .int .u64 l3] s.L) := hl.symm
  obtain ⟨rs, hrs⟩ : ∃ r, r = sLock s m := ⟨_, rfl⟩
  have HRS : Hid (rs = sLock s m) := hrs
  obtain ⟨r, hr⟩ : ∃ r, addR s.L m = r := ⟨_, rfl⟩
  obtain ⟨er, her⟩ : ∃ r, addE s.L m = r := ⟨_, rfl⟩
  have HR : Hid (addR s.L m = r) := hr
  have HER : Hid (addE s.L m = er) := her
  have hec : er = 0 ∨ er = 22 := her ▸ addE_cases s.L m
  have HRL : Hid (r < 2 ^ 256) := hr ▸ addR_lt' s.L m
  obtain ⟨r0, r1, r2, r3, hq⟩ : ∃ a0 a1 a2 a3 : Int, vQ (dgs r 4) = [.int .u64 a0, .int .u64 a1, .int .u64 a2, .int .u64 a3] := ⟨_, _, _, _, rfl⟩
  have HWR : Hid (Wc [.int .u64 r0, .int .u64 r1, .int .u64 r2, .int .u64 r3] r) := hq.symm
  have HCN : Hid (∀ X, Calls Try.prog 51 #[.agg #[.int .u64 l0, .int .u64 l1, .int .u64 l2, .int .u64 l3], .agg #[.int .u64 k0, .int .u64 k1, .int .u64 k2, .int .u64 k3]] X fun e w' => e = .returned (.tuple #[.agg #[.int .u64 r0, .int .u64 r1, .int .u64 r2, .int .u64 r3], .int .i64 er]) ∧ Below X.heap.size X w') := fun X => (add_c HWL.out HWM.out HL.out HM.out hr her X).mono fun e w' ⟨cr, h1, h2, h3⟩ => ⟨by rw [h2, h1, hq], h3⟩
  rw [← hrs, hk]
  have HRO : Hid (Row w p [m1, m2, .int .u64 l0, .int .u64 l1, .int .u64 l2, .int .u64 l3] tV) := by
    have := HRW.out
    unfold vcs at this
    rw [hl] at this
    exact this
  clear hV hk hl hm hrs hr her hq
  go_enter Try.func28, Try.ntmps28
  go_upto_region 1 with (refine wpList_boxG 33 rfl (.tmp 1) rfl [.int .u64 k0, .int .u64 k1, .int .u64 k2, .int .u64 k3] rfl ?_; intro X1 q1 q2; have RM : Hid (Row X1 w.heap.size [.int .u64 k0, .int .u64 k1, .int .u64 k2, .int .u64 k3] 33) := q1; have B1 : Hid (Below w.heap.size w X1) := q2; clear q1 q2)
  obtain ⟨bm, hbm⟩ : ∃ b, b = w.heap.size := ⟨_, rfl⟩
  rw [← hbm] at RM ⊢
  clear hbm
  have RO1 : Hid (Row X1 p [m1, m2, .int .u64 l0, .int .u64 l1, .int .u64 l2, .int .u64 l3] tV) := Row.below HRO.out B1.out HRO.out.lt
  go_upto_region 3 with fail
  have d0 := RM.out.cell 0 _ rfl
  have d1 := RM.out.cell 1 _ rfl
  have d2 := RM.out.cell 2 _ rfl
  have d3 := RM.out.cell 3 _ rfl
  have g0 := RO1.out.cell 2 _ rfl
  have g1 := RO1.out.cell 3 _ rfl
  have g2 := RO1.out.cell 4 _ rfl
  have g3 := RO1.out.cell 5 _ rfl
  have RA := Row.alloc RM.out (.cells #[.int .u64 0, .int .u64 0, .int .u64 0, .int .u64 0] 33)
  have RB := Row.alloc RO1.out (.cells #[.int .u64 0, .int .u64 0, .int .u64 0, .int .u64 0] 33)
  have i0 := RA.cell 0 _ rfl
  have i1 := RA.cell 1 _ rfl
  have i2 := RA.cell 2 _ rfl
  have i3 := RA.cell 3 _ rfl
  have j0 := RB.cell 2 _ rfl
  have j1 := RB.cell 3 _ rfl
  have j2 := RB.cell 4 _ rfl
  have j3 := RB.cell 5 _ rfl
  clear RA RB
  go_cut [5, 6] from 5 to 17 (fun c5 c6 wz => ∃ b5, c6 = .int .i64 er ∧ c5 = .pointer (some ⟨b5, 0, none⟩) ∧ w.heap.size ≤ b5 ∧ Row wz b5 [.int .u64 r0, .int .u64 r1, .int .u64 r2, .int .u64 r3] 33 ∧ Below w.heap.size w wz)
  case first =>
    rename_i J9 K9 hJ9 hK9
    go_region_law (refine stp_fn rfl 51 rfl #[.agg #[.int .u64 l0, .int .u64 l1, .int .u64 l2, .int .u64 l3], .agg #[.int .u64 k0, .int .u64 k1, .int .u64 k2, .int .u64 k3]] (by go_simp) (Calls.mono (HCN.out _) ?_); rintro e V ⟨rfl, q⟩; refine ⟨_, rfl, ?_⟩; (first | (have BV : Hid (Below w.heap.size w V) := (B1.out.drew).trans (q.mono B1.out.size)) | (have BV : Hid (Below w.heap.size w V) := (B1.out.alloc B1.out.size _).drew.trans (q.mono (by have := B1.out.size; simp; omega)); have RZ : Row V X1.heap.size (vQ (List.replicate 4 0)) 33 := Row.below (Row.drew (Row.new' (w := X1) rfl rfl)) q (by simp); have z0 := RZ.cell 0 _ rfl; have z1 := RZ.cell 1 _ rfl; have z2 := RZ.cell 2 _ rfl; have z3 := RZ.cell 3 _ rfl; have y0 := RZ.thaw 0; have y1 := RZ.thaw 1; have y2 := RZ.thaw 2; have y3 := RZ.thaw 3)); clear q)
    all_goals
      simp only [Act.put, List.setIfInBounds_toArray, List.set_cons_zero, List.set_cons_succ, List.getElem_toArray, List.getElem_cons_succ, List.getElem_cons_zero]
      refine hK9 _ _ ?_
      refine hJ9 _ _ ?_
      (first
        | exact ⟨_, _, _, _, _, _, _, _, _, _, _, _, _, ⟨X1.heap.size, rfl, rfl, B1.out.size, (((RZ.set 0 (.int .u64 r0)).set 1 (.int .u64 r1)).set 2 (.int .u64 r2)).set 3 (.int .u64 r3), (((BV.out.setCell (p := ⟨_, 0, none⟩) B1.out.size _).setCell (p := ⟨_, 1, none⟩) B1.out.size _).setCell (p := ⟨_, 2, none⟩) B1.out.size _).setCell (p := ⟨_, 3, none⟩) B1.out.size _⟩, rfl⟩
        | exact ⟨_, _, _, _, _, _, _, _, _, _, _, _, _, ⟨V.heap.size, rfl, rfl, BV.out.size, Row.new' rfl rfl, BV.out.alloc BV.out.size _⟩, rfl⟩)
  case rest =>
    clear d0 d1 d2 d3 g0 g1 g2 g3 i0 i1 i2 i3 j0 j1 j2 j3
    obtain ⟨b5, rfl, rfl, hb5, hr5, hB5⟩ := hcut
    have HB5 : Hid (w.heap.size ≤ b5) := hb5
    have R5 : Hid (Row wc b5 [.int .u64 r0, .int .u64 r1, .int .u64 r2, .int .u64 r3] 33) := hr5
    have B5 : Hid (Below w.heap.size w wc) := hB5
    clear hb5 hr5 hB5
    rcases hec with rfl | rfl
    · have VW : Hid (Vt wc p c m1 m2 s) := HV.out.be B5.out
      obtain ⟨cc, hcc⟩ : ∃ c, c = ([.int .u64 r0, .int .u64 r1, .int .u64 r2, .int .u64 r3] : List Value) := ⟨_, rfl⟩
      rw [← hcc] at R5 HWR
      clear hcc
      go_wp2_with (first
        | (refine wpList_load_w rfl 33 (.tmp 5) rfl b5 0 rfl cc _ R5.out.all Try.underlying33 rfl HWR.out.info ?_)
        | (refine wpList_storeM rfl 33 (.tmp 23) (.tmp 21) rfl p 2 cc (vcs m1 m2 s.L) tV rfl rfl VW.out.row (by rw [HWR.out.len]; simp [vcs, vQ_length, dgs_length]) HWR.out.info HWR.out.one ?_; intro X8 q1 q2; have R8 : Hid (Row X8 p (vcs m1 m2 r) tV) := (by rw [← vcs_put HWR.out m1 m2 s.L]; exact q1); have G8 : Hid (Gro (· = p) wc X8) := q2; clear q1 q2))
      go_ret
      rw [show rs = ({ s with L := r }, 0) by rw [HRS.out, sLock, HER.out, HR.out]; rfl]
      exact ⟨rfl, m1, m2, (Vt.lk VW.out G8.out R8.out HRL.out).mono (by omega), .inl rfl, .inl rfl, (Gro.of_below B5.out).trans (G8.out.mono fun g e => .inl e)⟩
    · go_wp2_with fail
      go_ret
      rw [show rs = (s, 145) by rw [HRS.out, sLock, HER.out]; rfl]
      exact VtC.same HV.out B5.out

set_option maxRecDepth 100000 in
set_option maxHeartbeats 4000000 in
theorem free_any {w : World} {p c : Nat} {m1 m2 : Value} {s : St} (hV : Vt w p c m1 m2 s) (m : Nat) (hm : m < 2 ^ 256) :
    Calls Try.prog 29 #[.pointer (some ⟨p, 0, none⟩), .agg (vQ (dgs m 4)).toArray] w (VtC w p c m1 m2 (sFree s m)) := by
  have HV : Hid (Vt w p c m1 m2 s) := hV
  have HM : Hid (m < 2 ^ 256) := hm
  have HL : Hid (s.L < 2 ^ 256) := hV.ok.l
  have HRW : Hid (Row w p (vcs m1 m2 s.L) tV) := hV.row
  obtain ⟨k0, k1, k2, k3, hk⟩ : ∃ a0 a1 a2 a3 : Int, vQ (dgs m 4) = [.int .u64 a0, .int .u64 a1, .int .u64 a2, .int .u64 a3] := ⟨_, _, _, _, rfl⟩
  obtain ⟨l0, l1, l2, l3, hl⟩ : ∃ a0 a1 a2 a3 : Int, vQ (dgs s.L 4) = [.int .u64 a0, .int .u64 a1, .int .u64 a2, .int .u64 a3] := ⟨_, _, _, _, rfl⟩
  have HWM : Hid (Wc [.int .u64 k0, .int .u64 k1, .int .u64 k2, .int .u64 k3] m) := hk.symm
  have HWL : Hid (Wc [.int .u64 l0, .int .u64 l1, .int .u64 l2, .int .u64 l3] s.L) := hl.symm
  obtain ⟨rs, hrs⟩ : ∃ r, r = sFree s m := ⟨_, rfl⟩
  have HRS : Hid (rs = sFree s m) := hrs
  obtain ⟨r, hr⟩ : ∃ r, subR s.L m = r := ⟨_, rfl⟩
  obtain ⟨er, her⟩ : ∃ r, subE s.L m = r := ⟨_, rfl⟩
  have HR : Hid (subR s.L m = r) := hr
  have HER : Hid (subE s.L m = er) := her
  have hec : er = 0 ∨ er = 23 := her ▸ subE_cases s.L m
  have HRL : Hid (r < 2 ^ 256) := hr ▸ subR_lt' s.L m hV.ok.l
  obtain ⟨r0, r1, r2, r3, hq⟩ : ∃ a0 a1 a2 a3 : Int, vQ (dgs r 4) = [.int .u64 a0, .int .u64 a1, .int .u64 a2, .int .u64 a3] := ⟨_, _, _, _, rfl⟩
  have HWR : Hid (Wc [.int .u64 r0, .int .u64 r1, .int .u64 r2, .int .u64 r3] r) := hq.symm
  have HCN : Hid (∀ X, Calls Try.prog 52 #[.agg #[.int .u64 l0, .int .u64 l1, .int .u64 l2, .int .u64 l3], .agg #[.int .u64 k0, .int .u64 k1, .int .u64 k2, .int .u64 k3]] X fun e w' => e = .returned (.tuple #[.agg #[.int .u64 r0, .int .u64 r1, .int .u64 r2, .int .u64 r3], .int .i64 er]) ∧ Below X.heap.size X w') := fun X => (sub_c HWL.out HWM.out HL.out HM.out hr her X).mono fun e w' ⟨cr, h1, h2, h3⟩ => ⟨by rw [h2, h1, hq], h3⟩
  rw [← hrs, hk]
  have HRO : Hid (Row w p [m1, m2, .int .u64 l0, .int .u64 l1, .int .u64 l2, .int .u64 l3] tV) := by
    have := HRW.out
    unfold vcs at this
    rw [hl] at this
    exact this
  clear hV hk hl hm hrs hr her hq
  go_enter Try.func29, Try.ntmps29
  go_upto_region 1 with (refine wpList_boxG 33 rfl (.tmp 1) rfl [.int .u64 k0, .int .u64 k1, .int .u64 k2, .int .u64 k3] rfl ?_; intro X1 q1 q2; have RM : Hid (Row X1 w.heap.size [.int .u64 k0, .int .u64 k1, .int .u64 k2, .int .u64 k3] 33) := q1; have B1 : Hid (Below w.heap.size w X1) := q2; clear q1 q2)
  obtain ⟨bm, hbm⟩ : ∃ b, b = w.heap.size := ⟨_, rfl⟩
  rw [← hbm] at RM ⊢
  clear hbm
  have RO1 : Hid (Row X1 p [m1, m2, .int .u64 l0, .int .u64 l1, .int .u64 l2, .int .u64 l3] tV) := Row.below HRO.out B1.out HRO.out.lt
  go_upto_region 3 with fail
  have d0 := RM.out.cell 0 _ rfl
  have d1 := RM.out.cell 1 _ rfl
  have d2 := RM.out.cell 2 _ rfl
  have d3 := RM.out.cell 3 _ rfl
  have g0 := RO1.out.cell 2 _ rfl
  have g1 := RO1.out.cell 3 _ rfl
  have g2 := RO1.out.cell 4 _ rfl
  have g3 := RO1.out.cell 5 _ rfl
  have RA := Row.alloc RM.out (.cells #[.int .u64 0, .int .u64 0, .int .u64 0, .int .u64 0] 33)
  have RB := Row.alloc RO1.out (.cells #[.int .u64 0, .int .u64 0, .int .u64 0, .int .u64 0] 33)
  have i0 := RA.cell 0 _ rfl
  have i1 := RA.cell 1 _ rfl
  have i2 := RA.cell 2 _ rfl
  have i3 := RA.cell 3 _ rfl
  have j0 := RB.cell 2 _ rfl
  have j1 := RB.cell 3 _ rfl
  have j2 := RB.cell 4 _ rfl
  have j3 := RB.cell 5 _ rfl
  clear RA RB
  go_cut [5, 6] from 5 to 17 (fun c5 c6 wz => ∃ b5, c6 = .int .i64 er ∧ c5 = .pointer (some ⟨b5, 0, none⟩) ∧ w.heap.size ≤ b5 ∧ Row wz b5 [.int .u64 r0, .int .u64 r1, .int .u64 r2, .int .u64 r3] 33 ∧ Below w.heap.size w wz)
  case first =>
    rename_i J9 K9 hJ9 hK9
    go_region_law (refine stp_fn rfl 52 rfl #[.agg #[.int .u64 l0, .int .u64 l1, .int .u64 l2, .int .u64 l3], .agg #[.int .u64 k0, .int .u64 k1, .int .u64 k2, .int .u64 k3]] (by go_simp) (Calls.mono (HCN.out _) ?_); rintro e V ⟨rfl, q⟩; refine ⟨_, rfl, ?_⟩; (first | (have BV : Hid (Below w.heap.size w V) := (B1.out.drew).trans (q.mono B1.out.size)) | (have BV : Hid (Below w.heap.size w V) := (B1.out.alloc B1.out.size _).drew.trans (q.mono (by have := B1.out.size; simp; omega)); have RZ : Row V X1.heap.size (vQ (List.replicate 4 0)) 33 := Row.below (Row.drew (Row.new' (w := X1) rfl rfl)) q (by simp); have z0 := RZ.cell 0 _ rfl; have z1 := RZ.cell 1 _ rfl; have z2 := RZ.cell 2 _ rfl; have z3 := RZ.cell 3 _ rfl; have y0 := RZ.thaw 0; have y1 := RZ.thaw 1; have y2 := RZ.thaw 2; have y3 := RZ.thaw 3)); clear q)
    all_goals
      simp only [Act.put, List.setIfInBounds_toArray, List.set_cons_zero, List.set_cons_succ, List.getElem_toArray, List.getElem_cons_succ, List.getElem_cons_zero]
      refine hK9 _ _ ?_
      refine hJ9 _ _ ?_
      (first
        | exact ⟨_, _, _, _, _, _, _, _, _, _, _, _, _, ⟨X1.heap.size, rfl, rfl, B1.out.size, (((RZ.set 0 (.int .u64 r0)).set 1 (.int .u64 r1)).set 2 (.int .u64 r2)).set 3 (.int .u64 r3), (((BV.out.setCell (p := ⟨_, 0, none⟩) B1.out.size _).setCell (p := ⟨_, 1, none⟩) B1.out.size _).setCell (p := ⟨_, 2, none⟩) B1.out.size _).setCell (p := ⟨_, 3, none⟩) B1.out.size _⟩, rfl⟩
        | exact ⟨_, _, _, _, _, _, _, _, _, _, _, _, _, ⟨V.heap.size, rfl, rfl, BV.out.size, Row.new' rfl rfl, BV.out.alloc BV.out.size _⟩, rfl⟩)
  case rest =>
    clear d0 d1 d2 d3 g0 g1 g2 g3 i0 i1 i2 i3 j0 j1 j2 j3
    obtain ⟨b5, rfl, rfl, hb5, hr5, hB5⟩ := hcut
    have HB5 : Hid (w.heap.size ≤ b5) := hb5
    have R5 : Hid (Row wc b5 [.int .u64 r0, .int .u64 r1, .int .u64 r2, .int .u64 r3] 33) := hr5
    have B5 : Hid (Below w.heap.size w wc) := hB5
    clear hb5 hr5 hB5
    rcases hec with rfl | rfl
    · have VW : Hid (Vt wc p c m1 m2 s) := HV.out.be B5.out
      obtain ⟨cc, hcc⟩ : ∃ c, c = ([.int .u64 r0, .int .u64 r1, .int .u64 r2, .int .u64 r3] : List Value) := ⟨_, rfl⟩
      rw [← hcc] at R5 HWR
      clear hcc
      go_wp2_with (first
        | (refine wpList_load_w rfl 33 (.tmp 5) rfl b5 0 rfl cc _ R5.out.all Try.underlying33 rfl HWR.out.info ?_)
        | (refine wpList_storeM rfl 33 (.tmp 23) (.tmp 21) rfl p 2 cc (vcs m1 m2 s.L) tV rfl rfl VW.out.row (by rw [HWR.out.len]; simp [vcs, vQ_length, dgs_length]) HWR.out.info HWR.out.one ?_; intro X8 q1 q2; have R8 : Hid (Row X8 p (vcs m1 m2 r) tV) := (by rw [← vcs_put HWR.out m1 m2 s.L]; exact q1); have G8 : Hid (Gro (· = p) wc X8) := q2; clear q1 q2))
      go_ret
      rw [show rs = ({ s with L := r }, 0) by rw [HRS.out, sFree, HER.out, HR.out]; rfl]
      exact ⟨rfl, m1, m2, (Vt.lk VW.out G8.out R8.out HRL.out).mono (by omega), .inl rfl, .inl rfl, (Gro.of_below B5.out).trans (G8.out.mono fun g e => .inl e)⟩
    · go_wp2_with fail
      go_ret
      rw [show rs = (s, 149) by rw [HRS.out, sFree, HER.out]; rfl]
      exact VtC.same HV.out B5.out


end Go.Proofs.Ytefjonidpmpjbaa
