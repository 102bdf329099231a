/-
  The vault's calls, over its state.
-/
import Derived.Test.YtkbdnebmekhcdaaEsF

namespace Go.Proofs.Ytkbdnebmekhcdaa
open Go Go.RowKit Go.Maps
open Wd

theorem wpList_allocW {ops : Array Oper} {rest : List Oper} {op : Oper} {a : Act} {w : World} {Q : Exit → Act → World → Prop} (hgd : op.guard = none) (ho : op.op = .alloc 33) (h : ∀ X, Row X w.heap.size (vQ (List.replicate 4 0)) 33 → Below w.heap.size w X → wpList Try.prog ops Q rest (a.put op.dst (.pointer (some ⟨w.heap.size, 0, none⟩))) X) : wpList Try.prog ops Q (op :: rest) a w :=
  wpList_plain hgd fun _ hK => by
    unfold Oper.wp execOp
    simp only [ho]
    go_simp
    exact hK _ _ (h _ (Row.new' (cs := vQ (List.replicate 4 0)) rfl rfl) ((Below.refl _ _).alloc (Nat.le_refl _) _))
theorem zw_len : (vQ (List.replicate 4 0)).length = 4 := rfl

theorem vcs_rng {w : World} {p : Nat} {m1 m2 : Value} {L : Nat} {t : TypeId} {cc : List Value} (h : Row w p (vcs m1 m2 L) t) (hc : Wc cc L) : w.rangeAt p 2 cc := by
  rw [hc]
  exact h.range 2 _ (fun j v hv => by rw [Nat.add_comm]; exact hv)
theorem vcs_put {cc : List Value} {r : Nat} (h : Wc cc r) (m1 m2 : Value) (L : Nat) : (vcs m1 m2 L).take 2 ++ cc ++ (vcs m1 m2 L).drop (2 + cc.length) = vcs m1 m2 r := by
  rw [h.len, h]
  rfl
set_option maxRecDepth 100000 in
set_option maxHeartbeats 4000000 in
theorem listed_any {w : World} {p c : Nat} {m1 m2 : Value} {s : St} (hV : Vt w p c m1 m2 s) (x : Int) (s1 : Bool) (h1 : Nat) (E : Int) (hf : fnd s.T x = (s1, h1, E)) :
    Calls Try.prog 30 #[.pointer (some ⟨p, 0, none⟩), .int .i64 x] w fun e w' => e = .returned (.tuple #[.bool (E == 0), .bool s1]) ∧ Below w.heap.size w w' := by
  have HV : Hid (Vt w p c m1 m2 s) := hV
  have HF : Hid (fnd s.T x = (s1, h1, E)) := hf
  clear hV hf
  go_enter Try.func30, Try.ntmps30
  go_upto_region 2 with (first
    | (go_at_call 47; refine Calls.mono (find_any HV.out x s1 h1 E HF.out) ?_; rintro e X2 ⟨rfl, q⟩; have B2 : Hid (Below w.heap.size w X2) := q; clear q)
    | (refine wpList_allocH rfl rfl ?_; intro X3 q1 q2; have R3 : Hid (Row X3 X2.heap.size (hcs false 0) tH) := q1; have B3 : Hid (Below w.heap.size w X3) := B2.out.trans (q2.mono B2.out.size); clear q1 q2)
    | (refine wpList_storeL rfl tH (.tmp 6) (.tmp 12) rfl X2.heap.size (hcs s1 h1) (hcs false 0) tH rfl rfl R3.out ((hcs_len _ _).trans (hcs_len _ _).symm) (hcs_info _ _) (hcs_all _ _) ?_; intro X4 q1 q2; have R4 : Hid (Row X4 X2.heap.size (hcs s1 h1) tH) := q1; have B4 : Hid (Below w.heap.size w X4) := gro_new B3.out B2.out.size q2; clear q1 q2))
  obtain ⟨bh, hbh⟩ : ∃ b, b = X2.heap.size := ⟨_, rfl⟩
  rw [← hbh] at R4 ⊢
  have HBbh : Hid (w.heap.size ≤ bh) := by show _ ≤ _; rw [hbh]; exact B2.out.size
  clear hbh B2 B3 R3
  have c0 := R4.out.cell 0 _ rfl
  go_quiet (fail)
  go_wp2_with fail
  go_ret2
  exact ⟨rfl, below_drewN B4.out _⟩

set_option maxRecDepth 100000 in
set_option maxHeartbeats 4000000 in
theorem held_any {w : World} {p c : Nat} {m1 m2 : Value} {s : St} (hV : Vt w p c m1 m2 s) (x : Int) (s1 : Bool) (h1 : Nat) (E : Int) (hf : fnd s.T x = (s1, h1, E)) :
    Calls Try.prog 20 #[.pointer (some ⟨p, 0, none⟩), .int .i64 x] w fun e w' => e = .returned (.agg (vQ (dgs h1 4)).toArray) ∧ Below w.heap.size w w' := by
  have HV : Hid (Vt w p c m1 m2 s) := hV
  have HF : Hid (fnd s.T x = (s1, h1, E)) := hf
  obtain ⟨ch, hch⟩ : ∃ c, c = vQ (dgs h1 4) := ⟨_, rfl⟩
  have HWH : Hid (Wc ch h1) := hch
  rw [← hch]
  clear hV hf hch
  go_enter Try.func20, Try.ntmps20
  go_upto_region 1 with (refine wpList_allocW rfl rfl ?_; intro X1 q1 q2; have RW : Hid (Row X1 w.heap.size (vQ (List.replicate 4 0)) 33) := q1; have B1 : Hid (Below w.heap.size w X1) := q2; clear q1 q2)
  obtain ⟨bw, hbw⟩ : ∃ b, b = w.heap.size := ⟨_, rfl⟩
  rw [← hbw] at RW ⊢
  have HBW : Hid (w.heap.size ≤ bw) := by show _ ≤ _; omega
  clear hbw
  have V1 : Hid (Vt X1 p c m1 m2 s) := HV.out.be B1.out
  go_upto_region 2 with (first
    | (go_at_call 47; refine Calls.mono (find_any V1.out x s1 h1 E HF.out) ?_; rintro e X2 ⟨rfl, q⟩; have B2 : Hid (Below X1.heap.size X1 X2) := q; clear q)
    | (refine wpList_allocH rfl rfl ?_; intro X3 q1 q2; have R3 : Hid (Row X3 X2.heap.size (hcs false 0) tH) := q1; have B3 : Hid (Below X1.heap.size X1 X3) := B2.out.trans (q2.mono B2.out.size); clear q1 q2)
    | (refine wpList_storeL rfl tH (.tmp 5) (.tmp 11) rfl X2.heap.size (hcs s1 h1) (hcs false 0) tH rfl rfl R3.out ((hcs_len _ _).trans (hcs_len _ _).symm) (hcs_info _ _) (hcs_all _ _) ?_; intro X4 q1 q2; have R4 : Hid (Row X4 X2.heap.size (hcs s1 h1) tH) := q1; have B4 : Hid (Below X1.heap.size X1 X4) := gro_new B3.out B2.out.size q2; clear q1 q2))
  obtain ⟨bh, hbh⟩ : ∃ b, b = X2.heap.size := ⟨_, rfl⟩
  rw [← hbh] at R4 ⊢
  have HBbh : Hid (X1.heap.size ≤ bh) := by show _ ≤ _; rw [hbh]; exact B2.out.size
  clear hbh B2 B3 R3
  have RW4 : Hid (Row X4 bw (vQ (List.replicate 4 0)) 33) := Row.below RW.out B4.out RW.out.lt
  have B5 : Hid (Below w.heap.size w X4) := B1.out.trans (B4.out.mono B1.out.size)
  go_wp2_with (first
    | (refine wpList_load_w rfl 33 (.tmp 13) rfl bh 1 rfl ch _ (hcs_rng R4.out HWH.out) Try.underlying33 rfl HWH.out.info ?_)
    | (refine wpList_storeL rfl 33 (.tmp 4) (.tmp 14) rfl bw ch (vQ (List.replicate 4 0)) 33 rfl rfl RW4.out (HWH.out.len.trans zw_len.symm) HWH.out.info HWH.out.one ?_; intro X6 q1 q2; have R6 : Hid (Row X6 bw ch 33) := q1; have B6 : Hid (Below w.heap.size w X6) := gro_new B5.out HBW.out q2; clear q1 q2))
  exact bodyPost_ret (results_row Try.results20 _ _ bw 33 ch rfl R6.out Try.underlying33 info_w4 HWH.out.len) rfl ⟨rfl, B6.out⟩

set_option maxRecDepth 100000 in
set_option maxHeartbeats 4000000 in
theorem paid_any {w : World} {p c : Nat} {m1 m2 : Value} {s : St} (hV : Vt w p c m1 m2 s) (i : Int) (hi : I64 i) :
    Calls Try.prog 21 #[.pointer (some ⟨p, 0, none⟩), .int .i64 i] w fun e w' => e = .returned (.bool (paid s.U i)) ∧ Below w.heap.size w w' := by
  have HV : Hid (Vt w p c m1 m2 s) := hV
  have HI : Hid (I64 i) := hi
  have RV : Hid (w.rangeAt p 1 [m2]) := hV.row.range 1 [m2] (fun j v hv => by rcases j with _ | j; exact hv; simp at hv)
  obtain ⟨b, hb⟩ : ∃ b, b = paid s.U i := ⟨_, rfl⟩
  have HP : Hid (∀ X, Vt X p c m1 m2 s → Calls Try.prog 48 #[.agg #[m2], .int .i64 i] X fun e w' => e = .returned (.bool b) ∧ Below X.heap.size X w') := fun X h => by rw [hb]; exact has_any h i hi
  rw [← hb]
  clear hV hi hb
  go_enter Try.func21, Try.ntmps21
  go_wp2_with (first
    | (refine wpList_load_w rfl tSt (.tmp 10) rfl p 1 rfl [m2] _ RV.out Try.underlying70 rfl info_St ?_)
    | (go_at_call 48; refine Calls.mono (HP.out w HV.out) ?_; rintro e X6 ⟨rfl, q⟩; have B6 : Hid (Below w.heap.size w X6) := q; clear q))
  go_ret
  exact ⟨rfl, B6.out⟩

set_option maxRecDepth 100000 in
set_option maxHeartbeats 4000000 in
theorem locked_any {w : World} {p c : Nat} {m1 m2 : Value} {s : St} (hV : Vt w p c m1 m2 s)  :
    Calls Try.prog 19 #[.pointer (some ⟨p, 0, none⟩)] w fun e w' => e = .returned (.agg (vQ (dgs s.L 4)).toArray) ∧ Below w.heap.size w w' := by
  have HV : Hid (Vt w p c m1 m2 s) := hV
  obtain ⟨ch, hch⟩ : ∃ c, c = vQ (dgs s.L 4) := ⟨_, rfl⟩
  have HWH : Hid (Wc ch s.L) := hch
  rw [← hch]
  clear hV hch
  go_enter Try.func19, Try.ntmps19
  go_upto_region 1 with (refine wpList_allocW rfl rfl ?_; intro X1 q1 q2; have RW : Hid (Row X1 w.heap.size (vQ (List.replicate 4 0)) 33) := q1; have B1 : Hid (Below w.heap.size w X1) := q2; clear q1 q2)
  obtain ⟨bw, hbw⟩ : ∃ b, b = w.heap.size := ⟨_, rfl⟩
  rw [← hbw] at RW ⊢
  have HBW : Hid (w.heap.size ≤ bw) := by show _ ≤ _; omega
  clear hbw
  have RV : Hid (X1.rangeAt p 2 ch) := vcs_rng (HV.out.be B1.out).row HWH.out
  go_wp2_with (first
    | (refine wpList_load_w rfl 33 (.tmp 8) rfl p 2 rfl ch _ RV.out Try.underlying33 rfl HWH.out.info ?_)
    | (refine wpList_storeL rfl 33 (.tmp 2) (.tmp 9) rfl bw ch (vQ (List.replicate 4 0)) 33 rfl rfl RW.out (HWH.out.len.trans zw_len.symm) HWH.out.info HWH.out.one ?_; intro X6 q1 q2; have R6 : Hid (Row X6 bw ch 33) := q1; have B6 : Hid (Below w.heap.size w X6) := gro_new B1.out HBW.out q2; clear q1 q2))
  exact bodyPost_ret (results_row Try.results19 _ _ bw 33 ch rfl R6.out Try.underlying33 info_w4 HWH.out.len) rfl ⟨rfl, B6.out⟩

set_option maxRecDepth 100000 in
set_option maxHeartbeats 4000000 in
/-- A new vault. -/
theorem new_any (w : World) : Calls Try.prog 9 #[] w fun e w' => ∃ p, e = .returned (.pointer (some ⟨p, 0, none⟩)) ∧ w.heap.size ≤ p ∧ Vt w' p 0 (.map none) (.map none) ⟨fun _ => none, fun _ => 0, 0⟩ ∧ Below w.heap.size w w' := by
  go_enter Try.func9, Try.ntmps9
  go_wp2_with (refine wpList_boxG tV rfl (.tmp 1) rfl (vcs (.map none) (.map none) 0) rfl ?_; intro X1 q1 q2; have R1 : Hid (Row X1 w.heap.size (vcs (.map none) (.map none) 0) tV) := q1; have B1 : Hid (Below w.heap.size w X1) := q2; clear q1 q2)
  go_ret
  exact ⟨w.heap.size, rfl, Nat.le_refl _, ⟨R1.out, .inl ⟨rfl, fun _ => rfl⟩, ⟨fun _ => none, .inl ⟨rfl, fun _ => rfl⟩, fun _ _ => rfl⟩, fun g h => (nomatch h), ⟨fun x p h => (nomatch h), by decide⟩⟩, B1.out⟩


end Go.Proofs.Ytkbdnebmekhcdaa

namespace Go.Proofs.Ytkbdnebmekhcdaa
open Go Go.RowKit Go.Maps
open Wd

theorem Vt.lk {w w' : World} {p c : Nat} {m1 m2 : Value} {s : St} {r : Nat} (h : Vt w p c m1 m2 s) (g : Gro (· = p) w w') (hr : Row w' p (vcs m1 m2 r) tV) (hl : r < 2 ^ 256) : Vt w' p c m1 m2 { s with L := r } := by
  obtain ⟨g2, p1, p2⟩ := h.pd
  have hrow := h.row
  exact ⟨hr, h.tk.keep fun b hb hlt => g.block b hlt (fun e => h.tk.notrow hrow (e ▸ hb)), ⟨g2, p1.keep fun b hb hlt => g.block b hlt (fun e => p1.notrow hrow (e ▸ hb)), p2⟩, h.ap, ⟨h.ok.t, hl⟩⟩

set_option maxRecDepth 100000 in
set_option maxHeartbeats 4000000 in
theorem lock_any {w : World} {p c : Nat} {m1 m2 : Value} {s : St} (hV : Vt w p c m1 m2 s) (m : Nat) (hm : m < 2 ^ 256) :
    Calls Try.prog 28 #[.pointer (some ⟨p, 0, none⟩), .agg (vQ (dgs m 4)).toArray] w (VtC w p c m1 m2 (sLock s m)) := by
  have HV : Hid (Vt w p c m1 m2 s) := hV
  have HM : Hid (m < 2 ^ 256) := hm
  have HL : Hid (s.L < 2 ^ 256) := hV.ok.l
  have HRW : Hid (Row w p (vcs m1 m2 s.L) tV) := hV.row
  obtain ⟨k0, k1, k2, k3, hk⟩ : ∃ a0 a1 a2 a3 : Int, vQ (dgs m 4) = [.int .u64 a0, .int .u64 a1, .int .u64 a2, .int .u64 a3] := ⟨_, _, _, _, rfl⟩
  obtain ⟨l0, l1, l2, l3, hl⟩ : ∃ a0 a1 a2 a3 : Int, vQ (dgs s.L 4) = [.int .u64 a0, .int .u64 a1, .int .u64 a2, .int .u64 a3] := ⟨_, _, _, _, rfl⟩
  have HWM : Hid (Wc [.int .u64 k0, .int .u64 k1, .int .u64 k2, .int .u64 k3] m) := hk.symm
  have HWL : Hid (Wc [.int .u64 l0, .int .u64 l1, .int .u64 l2, .int .u64 l3] s.L) := hl.symm
  obtain ⟨rs, hrs⟩ : ∃ r, r = sLock s m := ⟨_, rfl⟩
  have HRS : Hid (rs = sLock s m) := hrs
  obtain ⟨r, hr⟩ : ∃ r, addR s.L m = r := ⟨_, rfl⟩
  obtain ⟨er, her⟩ : ∃ r, addE s.L m = r := ⟨_, rfl⟩
  have HR : Hid (addR s.L m = r) := hr
  have HER : Hid (addE s.L m = er) := her
  have hec : er = 0 ∨ er = 22 := her ▸ addE_cases s.L m
  have HRL : Hid (r < 2 ^ 256) := hr ▸ addR_lt' s.L m
  obtain ⟨r0, r1, r2, r3, hq⟩ : ∃ a0 a1 a2 a3 : Int, vQ (dgs r 4) = [.int .u64 a0, .int .u64 a1, .int .u64 a2, .int .u64 a3] := ⟨_, _, _, _, rfl⟩
  have HWR : Hid (Wc [.int .u64 r0, .int .u64 r1, .int .u64 r2, .int .u64 r3] r) := hq.symm
  have HCN : Hid (∀ X, Calls Try.prog 51 #[.agg #[.int .u64 l0, .int .u64 l1, .int .u64 l2, .int .u64 l3], .agg #[.int .u64 k0, .int .u64 k1, .int .u64 k2, .int .u64 k3]] X fun e w' => e = .returned (.tuple #[.agg #[.int .u64 r0, .int .u64 r1, .int .u64 r2, .int .u64 r3], .int .i64 er]) ∧ Below X.heap.size X w') := fun X => (add_c HWL.out HWM.out HL.out HM.out hr her X).mono fun e w' ⟨cr, h1, h2, h3⟩ => ⟨by rw [h2, h1, hq], h3⟩
  rw [← hrs, hk]
  have HRO : Hid (Row w p [m1, m2, .int .u64 l0, .int .u64 l1, .int .u64 l2, .int .u64 l3] tV) := by
    have := HRW.out
    unfold vcs at this
    rw [hl] at this
    exact this
  clear hV hk hl hm hrs hr her hq
  go_enter Try.func28, Try.ntmps28
  go_upto_region 1 with (refine wpList_boxG 33 rfl (.tmp 1) rfl [.int .u64 k0, .int .u64 k1, .int .u64 k2, .int .u64 k3] rfl ?_; intro X1 q1 q2; have RM : Hid (Row X1 w.heap.size [.int .u64 k0, .int .u64 k1, .int .u64 k2, .int .u64 k3] 33) := q1; have B1 : Hid (Below w.heap.size w X1) := q2; clear q1 q2)
  obtain ⟨bm, hbm⟩ : ∃ b, b = w.heap.size := ⟨_, rfl⟩
  rw [← hbm] at RM ⊢
  clear hbm
  have RO1 : Hid (Row X1 p [m1, m2, .int .u64 l0, .int .u64 l1, .int .u64 l2, .int .u64 l3] tV) := Row.below HRO.out B1.out HRO.out.lt
  go_upto_region 3 with fail
  have d0 := RM.out.cell 0 _ rfl
  have d1 := RM.out.cell 1 _ rfl
  have d2 := RM.out.cell 2 _ rfl
  have d3 := RM.out.cell 3 _ rfl
  have g0 := RO1.out.cell 2 _ rfl
  have g1 := RO1.out.cell 3 _ rfl
  have g2 := RO1.out.cell 4 _ rfl
  have g3 := RO1.out.cell 5 _ rfl
  have RA := Row.alloc RM.out (.cells #[.int .u64 0, .int .u64 0, .int .u64 0, .int .u64 0] 33)
  have RB := Row.alloc RO1.out (.cells #[.int .u64 0, .int .u64 0, .int .u64 0, .int .u64 0] 33)
  have i0 := RA.cell 0 _ rfl
  have i1 := RA.cell 1 _ rfl
  have i2 := RA.cell 2 _ rfl
  have i3 := RA.cell 3 _ rfl
  have j0 := RB.cell 2 _ rfl
  have j1 := RB.cell 3 _ rfl
  have j2 := RB.cell 4 _ rfl
  have j3 := RB.cell 5 _ rfl
  clear RA RB
  go_cut [5, 6] from 5 to 17 (fun c5 c6 wz => ∃ b5, c6 = .int .i64 er ∧ c5 = .pointer (some ⟨b5, 0, none⟩) ∧ w.heap.size ≤ b5 ∧ Row wz b5 [.int .u64 r0, .int .u64 r1, .int .u64 r2, .int .u64 r3] 33 ∧ Below w.heap.size w wz)
  case first =>
    rename_i J9 K9 hJ9 hK9
    go_region_law (refine stp_fn rfl 51 rfl #[.agg #[.int .u64 l0, .int .u64 l1, .int .u64 l2, .int .u64 l3], .agg #[.int .u64 k0, .int .u64 k1, .int .u64 k2, .int .u64 k3]] (by go_simp) (Calls.mono (HCN.out _) ?_); rintro e V ⟨rfl, q⟩; refine ⟨_, rfl, ?_⟩; (first | (have BV : Hid (Below w.heap.size w V) := (B1.out.drew).trans (q.mono B1.out.size)) | (have BV : Hid (Below w.heap.size w V) := (B1.out.alloc B1.out.size _).drew.trans (q.mono (by have := B1.out.size; simp; omega)); have RZ : Row V X1.heap.size (vQ (List.replicate 4 0)) 33 := Row.below (Row.drew (Row.new' (w := X1) rfl rfl)) q (by simp); have z0 := RZ.cell 0 _ rfl; have z1 := RZ.cell 1 _ rfl; have z2 := RZ.cell 2 _ rfl; have z3 := RZ.cell 3 _ rfl; have y0 := RZ.thaw 0; have y1 := RZ.thaw 1; have y2 := RZ.thaw 2; have y3 := RZ.thaw 3)); clear q)
    all_goals
      simp only [Act.put, List.setIfInBounds_toArray, List.set_cons_zero, List.set_cons_succ, List.getElem_toArray, List.getElem_cons_succ, List.getElem_cons_zero]
      refine hK9 _ _ ?_
      refine hJ9 _ _ ?_
      (first
        | exact ⟨_, _, _, _, _, _, _, _, _, _, _, _, _, ⟨X1.heap.size, rfl, rfl, B1.out.size, (((RZ.set 0 (.int .u64 r0)).set 1 (.int .u64 r1)).set 2 (.int .u64 r2)).set 3 (.int .u64 r3), (((BV.out.setCell (p := ⟨_, 0, none⟩) B1.out.size _).setCell (p := ⟨_, 1, none⟩) B1.out.size _).setCell (p := ⟨_, 2, none⟩) B1.out.size _).setCell (p := ⟨_, 3, none⟩) B1.out.size _⟩, rfl⟩
        | exact ⟨_, _, _, _, _, _, _, _, _, _, _, _, _, ⟨V.heap.size, rfl, rfl, BV.out.size, Row.new' rfl rfl, BV.out.alloc BV.out.size _⟩, rfl⟩)
  case rest =>
    clear d0 d1 d2 d3 g0 g1 g2 g3 i0 i1 i2 i3 j0 j1 j2 j3
    obtain ⟨b5, rfl, rfl, hb5, hr5, hB5⟩ := hcut
    have HB5 : Hid (w.heap.size ≤ b5) := hb5
    have R5 : Hid (Row wc b5 [.int .u64 r0, .int .u64 r1, .int .u64 r2, .int .u64 r3] 33) := hr5
    have B5 : Hid (Below w.heap.size w wc) := hB5
    clear hb5 hr5 hB5
    rcases hec with rfl | rfl
    · have VW : Hid (Vt wc p c m1 m2 s) := HV.out.be B5.out
      obtain ⟨cc, hcc⟩ : ∃ c, c = ([.int .u64 r0, .int .u64 r1, .int .u64 r2, .int .u64 r3] : List Value) := ⟨_, rfl⟩
      rw [← hcc] at R5 HWR
      clear hcc
      go_wp2_with (first
        | (refine wpList_load_w rfl 33 (.tmp 5) rfl b5 0 rfl cc _ R5.out.all Try.underlying33 rfl HWR.out.info ?_)
        | (refine wpList_storeM rfl 33 (.tmp 23) (.tmp 21) rfl p 2 cc (vcs m1 m2 s.L) tV rfl rfl VW.out.row (by rw [HWR.out.len]; simp [vcs, vQ_length, dgs_length]) HWR.out.info HWR.out.one ?_; intro X8 q1 q2; have R8 : Hid (Row X8 p (vcs m1 m2 r) tV) := (by rw [← vcs_put HWR.out m1 m2 s.L]; exact q1); have G8 : Hid (Gro (· = p) wc X8) := q2; clear q1 q2))
      go_ret
      rw [show rs = ({ s with L := r }, 0) by rw [HRS.out, sLock, HER.out, HR.out]; rfl]
      exact ⟨rfl, m1, m2, (Vt.lk VW.out G8.out R8.out HRL.out).mono (by omega), .inl rfl, .inl rfl, (Gro.of_below B5.out).trans (G8.out.mono fun g e => .inl e)⟩
    · go_wp2_with fail
      go_ret
      rw [show rs = (s, 145) by rw [HRS.out, sLock, HER.out]; rfl]
      exact VtC.same HV.out B5.out

set_option maxRecDepth 100000 in
set_option maxHeartbeats 4000000 in
theorem free_any {w : World} {p c : Nat} {m1 m2 : Value} {s : St} (hV : Vt w p c m1 m2 s) (m : Nat) (hm : m < 2 ^ 256) :
    Calls Try.prog 29 #[.pointer (some ⟨p, 0, none⟩), .agg (vQ (dgs m 4)).toArray] w (VtC w p c m1 m2 (sFree s m)) := by
  have HV : Hid (Vt w p c m1 m2 s) := hV
  have HM : Hid (m < 2 ^ 256) := hm
  have HL : Hid (s.L < 2 ^ 256) := hV.ok.l
  have HRW : Hid (Row w p (vcs m1 m2 s.L) tV) := hV.row
  obtain ⟨k0, k1, k2, k3, hk⟩ : ∃ a0 a1 a2 a3 : Int, vQ (dgs m 4) = [.int .u64 a0, .int .u64 a1, .int .u64 a2, .int .u64 a3] := ⟨_, _, _, _, rfl⟩
  obtain ⟨l0, l1, l2, l3, hl⟩ : ∃ a0 a1 a2 a3 : Int, vQ (dgs s.L 4) = [.int .u64 a0, .int .u64 a1, .int .u64 a2, .int .u64 a3] := ⟨_, _, _, _, rfl⟩
  have HWM : Hid (Wc [.int .u64 k0, .int .u64 k1, .int .u64 k2, .int .u64 k3] m) := hk.symm
  have HWL : Hid (Wc [.int .u64 l0, .int .u64 l1, .int .u64 l2, .int .u64 l3] s.L) := hl.symm
  obtain ⟨rs, hrs⟩ : ∃ r, r = sFree s m := ⟨_, rfl⟩
  have HRS : Hid (rs = sFree s m) := hrs
  obtain ⟨r, hr⟩ : ∃ r, subR s.L m = r := ⟨_, rfl⟩
  obtain ⟨er, her⟩ : ∃ r, subE s.L m = r := ⟨_, rfl⟩
  have HR : Hid (subR s.L m = r) := hr
  have HER : Hid (subE s.L m = er) := her
  have hec : er = 0 ∨ er = 23 := her ▸ subE_cases s.L m
  have HRL : Hid (r < 2 ^ 256) := hr ▸ subR_lt' s.L m hV.ok.l
  obtain ⟨r0, r1, r2, r3, hq⟩ : ∃ a0 a1 a2 a3 : Int, vQ (dgs r 4) = [.int .u64 a0, .int .u64 a1, .int .u64 a2, .int .u64 a3] := ⟨_, _, _, _, rfl⟩
  have HWR : Hid (Wc [.int .u64 r0, .int .u64 r1, .int .u64 r2, .int .u64 r3] r) := hq.symm
  have HCN : Hid (∀ X, Calls Try.prog 52 #[.agg #[.int .u64 l0, .int .u64 l1, .int .u64 l2, .int .u64 l3], .agg #[.int .u64 k0, .int .u64 k1, .int .u64 k2, .int .u64 k3]] X fun e w' => e = .returned (.tuple #[.agg #[.int .u64 r0, .int .u64 r1, .int .u64 r2, .int .u64 r3], .int .i64 er]) ∧ Below X.heap.size X w') := fun X => (sub_c HWL.out HWM.out HL.out HM.out hr her X).mono fun e w' ⟨cr, h1, h2, h3⟩ => ⟨by rw [h2, h1, hq], h3⟩
  rw [← hrs, hk]
  have HRO : Hid (Row w p [m1, m2, .int .u64 l0, .int .u64 l1, .int .u64 l2, .int .u64 l3] tV) := by
    have := HRW.out
    unfold vcs at this
    rw [hl] at this
    exact this
  clear hV hk hl hm hrs hr her hq
  go_enter Try.func29, Try.ntmps29
  go_upto_region 1 with (refine wpList_boxG 33 rfl (.tmp 1) rfl [.int .u64 k0, .int .u64 k1, .int .u64 k2, .int .u64 k3] rfl ?_; intro X1 q1 q2; have RM : Hid (Row X1 w.heap.size [.int .u64 k0, .int .u64 k1, .int .u64 k2, .int .u64 k3] 33) := q1; have B1 : Hid (Below w.heap.size w X1) := q2; clear q1 q2)
  obtain ⟨bm, hbm⟩ : ∃ b, b = w.heap.size := ⟨_, rfl⟩
  rw [← hbm] at RM ⊢
  clear hbm
  have RO1 : Hid (Row X1 p [m1, m2, .int .u64 l0, .int .u64 l1, .int .u64 l2, .int .u64 l3] tV) := Row.below HRO.out B1.out HRO.out.lt
  go_upto_region 3 with fail
  have d0 := RM.out.cell 0 _ rfl
  have d1 := RM.out.cell 1 _ rfl
  have d2 := RM.out.cell 2 _ rfl
  have d3 := RM.out.cell 3 _ rfl
  have g0 := RO1.out.cell 2 _ rfl
  have g1 := RO1.out.cell 3 _ rfl
  have g2 := RO1.out.cell 4 _ rfl
  have g3 := RO1.out.cell 5 _ rfl
  have RA := Row.alloc RM.out (.cells #[.int .u64 0, .int .u64 0, .int .u64 0, .int .u64 0] 33)
  have RB := Row.alloc RO1.out (.cells #[.int .u64 0, .int .u64 0, .int .u64 0, .int .u64 0] 33)
  have i0 := RA.cell 0 _ rfl
  have i1 := RA.cell 1 _ rfl
  have i2 := RA.cell 2 _ rfl
  have i3 := RA.cell 3 _ rfl
  have j0 := RB.cell 2 _ rfl
  have j1 := RB.cell 3 _ rfl
  have j2 := RB.cell 4 _ rfl
  have j3 := RB.cell 5 _ rfl
  clear RA RB
  go_cut [5, 6] from 5 to 17 (fun c5 c6 wz => ∃ b5, c6 = .int .i64 er ∧ c5 = .pointer (some ⟨b5, 0, none⟩) ∧ w.heap.size ≤ b5 ∧ Row wz b5 [.int .u64 r0, .int .u64 r1, .int .u64 r2, .int .u64 r3] 33 ∧ Below w.heap.size w wz)
  case first =>
    rename_i J9 K9 hJ9 hK9
    go_region_law (refine stp_fn rfl 52 rfl #[.agg #[.int .u64 l0, .int .u64 l1, .int .u64 l2, .int .u64 l3], .agg #[.int .u64 k0, .int .u64 k1, .int .u64 k2, .int .u64 k3]] (by go_simp) (Calls.mono (HCN.out _) ?_); rintro e V ⟨rfl, q⟩; refine ⟨_, rfl, ?_⟩; (first | (have BV : Hid (Below w.heap.size w V) := (B1.out.drew).trans (q.mono B1.out.size)) | (have BV : Hid (Below w.heap.size w V) := (B1.out.alloc B1.out.size _).drew.trans (q.mono (by have := B1.out.size; simp; omega)); have RZ : Row V X1.heap.size (vQ (List.replicate 4 0)) 33 := Row.below (Row.drew (Row.new' (w := X1) rfl rfl)) q (by simp); have z0 := RZ.cell 0 _ rfl; have z1 := RZ.cell 1 _ rfl; have z2 := RZ.cell 2 _ rfl; have z3 := RZ.cell 3 _ rfl; have y0 := RZ.thaw 0; have y1 := RZ.thaw 1; have y2 := RZ.thaw 2; have y3 := RZ.thaw 3)); clear q)
    all_goals
      simp only [Act.put, List.setIfInBounds_toArray, List.set_cons_zero, List.set_cons_succ, List.getElem_toArray, List.getElem_cons_succ, List.getElem_cons_zero]
      refine hK9 _ _ ?_
      refine hJ9 _ _ ?_
      (first
        | exact ⟨_, _, _, _, _, _, _, _, _, _, _, _, _, ⟨X1.heap.size, rfl, rfl, B1.out.size, (((RZ.set 0 (.int .u64 r0)).set 1 (.int .u64 r1)).set 2 (.int .u64 r2)).set 3 (.int .u64 r3), (((BV.out.setCell (p := ⟨_, 0, none⟩) B1.out.size _).setCell (p := ⟨_, 1, none⟩) B1.out.size _).setCell (p := ⟨_, 2, none⟩) B1.out.size _).setCell (p := ⟨_, 3, none⟩) B1.out.size _⟩, rfl⟩
        | exact ⟨_, _, _, _, _, _, _, _, _, _, _, _, _, ⟨V.heap.size, rfl, rfl, BV.out.size, Row.new' rfl rfl, BV.out.alloc BV.out.size _⟩, rfl⟩)
  case rest =>
    clear d0 d1 d2 d3 g0 g1 g2 g3 i0 i1 i2 i3 j0 j1 j2 j3
    obtain ⟨b5, rfl, rfl, hb5, hr5, hB5⟩ := hcut
    have HB5 : Hid (w.heap.size ≤ b5) := hb5
    have R5 : Hid (Row wc b5 [.int .u64 r0, .int .u64 r1, .int .u64 r2, .int .u64 r3] 33) := hr5
    have B5 : Hid (Below w.heap.size w wc) := hB5
    clear hb5 hr5 hB5
    rcases hec with rfl | rfl
    · have VW : Hid (Vt wc p c m1 m2 s) := HV.out.be B5.out
      obtain ⟨cc, hcc⟩ : ∃ c, c = ([.int .u64 r0, .int .u64 r1, .int .u64 r2, .int .u64 r3] : List Value) := ⟨_, rfl⟩
      rw [← hcc] at R5 HWR
      clear hcc
      go_wp2_with (first
        | (refine wpList_load_w rfl 33 (.tmp 5) rfl b5 0 rfl cc _ R5.out.all Try.underlying33 rfl HWR.out.info ?_)
        | (refine wpList_storeM rfl 33 (.tmp 23) (.tmp 21) rfl p 2 cc (vcs m1 m2 s.L) tV rfl rfl VW.out.row (by rw [HWR.out.len]; simp [vcs, vQ_length, dgs_length]) HWR.out.info HWR.out.one ?_; intro X8 q1 q2; have R8 : Hid (Row X8 p (vcs m1 m2 r) tV) := (by rw [← vcs_put HWR.out m1 m2 s.L]; exact q1); have G8 : Hid (Gro (· = p) wc X8) := q2; clear q1 q2))
      go_ret
      rw [show rs = ({ s with L := r }, 0) by rw [HRS.out, sFree, HER.out, HR.out]; rfl]
      exact ⟨rfl, m1, m2, (Vt.lk VW.out G8.out R8.out HRL.out).mono (by omega), .inl rfl, .inl rfl, (Gro.of_below B5.out).trans (G8.out.mono fun g e => .inl e)⟩
    · go_wp2_with fail
      go_ret
      rw [show rs = (s, 149) by rw [HRS.out, sFree, HER.out]; rfl]
      exact VtC.same HV.out B5.out


end Go.Proofs.Ytkbdnebmekhcdaa
