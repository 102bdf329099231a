/-
  arg, needs.
-/
import Derived.Test.YtclbiophgnkggaaGreatDoorMkN

namespace Go.Proofs.YtclbiophgnkggaaGreatDoor
open Go Go.RowKit
open Sha
open Wd

theorem results_rowAA {P : Program} {fn : Func} {p q : Tmp} {ty ty2 e e2 : TypeId} {k k2 : Nat} (h : fn.results = #[.cell p ty, .cell q ty2]) (tmps : Array Value) (w : World) (g g2 : Nat) (t t2 : TypeId) (cs ds : List Value)
    (hp : tmps.getD p undef = .pointer (some ⟨g, 0, none⟩)) (hq : tmps.getD q undef = .pointer (some ⟨g2, 0, none⟩)) (hg : Row w g cs t) (hg2 : Row w g2 ds t2) (hu : P.underlying ty = some (.array k e)) (hu2 : P.underlying ty2 = some (.array k2 e2)) (hi : (P.info? ty).map (·.size) = some cs.length) (hi2 : (P.info? ty2).map (·.size) = some ds.length) :
    (results fn tmps).run P w = .ok (.tuple #[.agg cs.toArray, .agg ds.toArray]) w := by
  have hp' : tmps[p]?.getD undef = .pointer (some ⟨g, 0, none⟩) := by simpa using hp
  have hq' : tmps[q]?.getD undef = .pointer (some ⟨g2, 0, none⟩) := by simpa using hq
  have hr := run_loadVar_row (P := P) w g t ty cs.toArray (0, 0) (.array k e) hg hu rfl (by simp [hi])
  have hr2 := run_loadVar_row (P := P) w g2 t2 ty2 ds.toArray (0, 0) (.array k2 e2) hg2 hu2 rfl (by simp [hi2])
  simp [results, h, hp', hq', asAddr, hr, hr2]
set_option maxRecDepth 100000 in
set_option maxHeartbeats 4000000 in
theorem takeTwo_any (r T gs n : Nat) (pl : Value) (C : List Value) (h av stk : Value) (ss : List Nat) (l nx : Nat) (an : List Value) (ls : List Ins) (ags : List Nat) (x y : Nat) (k0 w0 w : World) (H : Rn k0 w0 w r T gs n pl C h av stk (ss ++ [x] ++ [y]) l nx an ls ags) (hss : ss.length ≤ 900) : Calls Tryz.prog 69 #[.pointer (some ⟨r, 0, none⟩)] w fun e w' => e = .returned (.tuple #[.agg (wq x).toArray, .agg (wq y).toArray]) ∧ w.heap.size ≤ w'.heap.size ∧ (∀ {b : Nat} {cs : List Value} {t : TypeId}, Row w b cs t → b ≠ r → Row w' b cs t) ∧ ∃ stk', Rn k0 w0 w' r T gs n pl C h av stk' ss l nx an ls ags := by
  have HH : Hid (Rn k0 w0 w r T gs n pl C h av stk (ss ++ [x] ++ [y]) l nx an ls ags) := H
  have HSS : Hid (ss.length ≤ 900) := hss
  clear H hss
  obtain ⟨x0, hx0⟩ : ∃ a, a = ((lim x 0 : Nat) : Int) := ⟨_, rfl⟩
  obtain ⟨x1, hx1⟩ : ∃ a, a = ((lim x 1 : Nat) : Int) := ⟨_, rfl⟩
  obtain ⟨x2, hx2⟩ : ∃ a, a = ((lim x 2 : Nat) : Int) := ⟨_, rfl⟩
  obtain ⟨x3, hx3⟩ : ∃ a, a = ((lim x 3 : Nat) : Int) := ⟨_, rfl⟩
  obtain ⟨y0, hy0⟩ : ∃ a, a = ((lim y 0 : Nat) : Int) := ⟨_, rfl⟩
  obtain ⟨y1, hy1⟩ : ∃ a, a = ((lim y 1 : Nat) : Int) := ⟨_, rfl⟩
  obtain ⟨y2, hy2⟩ : ∃ a, a = ((lim y 2 : Nat) : Int) := ⟨_, rfl⟩
  obtain ⟨y3, hy3⟩ : ∃ a, a = ((lim y 3 : Nat) : Int) := ⟨_, rfl⟩
  have HX : Hid (wq x = [.int .u64 x0, .int .u64 x1, .int .u64 x2, .int .u64 x3]) := by show _ = _; rw [wq_cells, hx0, hx1, hx2, hx3]
  have HY : Hid (wq y = [.int .u64 y0, .int .u64 y1, .int .u64 y2, .int .u64 y3]) := by show _ = _; rw [wq_cells, hy0, hy1, hy2, hy3]
  clear hx0 hx1 hx2 hx3 hy0 hy1 hy2 hy3
  rw [HX.out, HY.out]
  go_enter Tryz.func69, Tryz.ntmps69
  go_upto_region 1 with (first
    | (refine wpList_allocW rfl rfl ?_; intro X1 q1 q2 q3; have R1 : Hid (Row X1 w.heap.size zW 37) := q1; have B1 : Hid (Below w.heap.size w X1) := q2; have S1 : Hid (X1.heap.size = w.heap.size + 1) := q3; clear q1 q2 q3; simp only [Act.put, List.setIfInBounds_toArray, List.set_cons_zero, List.set_cons_succ])
    | (refine wpList_allocW rfl rfl ?_; intro X2 q1 q2 q3; have R2 : Hid (Row X2 X1.heap.size zW 37) := q1; have B2 : Hid (Below X1.heap.size X1 X2) := q2; clear q1 q2 q3; simp only [Act.put, List.setIfInBounds_toArray, List.set_cons_zero, List.set_cons_succ]))
  obtain ⟨b2, hb2⟩ : ∃ b, b = w.heap.size := ⟨_, rfl⟩
  obtain ⟨b3, hb3⟩ : ∃ b, b = X1.heap.size := ⟨_, rfl⟩
  have HB2 : Hid (b2 = w.heap.size) := hb2
  have HB3 : Hid (b3 = b2 + 1) := by show _ = _; rw [hb3, hb2]; exact S1.out
  have R12 : Hid (Row X2 b2 zW 37) := by rw [hb2]; exact Row.below R1.out B2.out R1.out.lt
  have R22 : Hid (Row X2 b3 zW 37) := by rw [hb3]; exact R2.out
  have BX2 : Hid (Below w.heap.size w X2) := B1.out.trans (B2.out.mono B1.out.size)
  rw [← hb2, ← hb3]
  have HR2 : Hid (Rn k0 w0 X2 r T gs n pl C h av stk (ss ++ [x] ++ [y]) l nx an ls ags) := HH.out.keep BX2.out
  have HNR : Hid (b2 ≠ r ∧ b3 ≠ r) := ⟨row_ne2 R12.out HR2.out.row (by decide), row_ne2 R22.out HR2.out.row (by decide)⟩
  have HT1 : Hid _ := take_any r T gs n pl C h av stk (ss ++ [x]) l nx an ls ags y k0 w0 X2 HR2.out (by rw [List.length_append, List.length_singleton]; have := HSS.out; omega)
  rw [HY.out] at HT1
  clear hb2 hb3 R1 B1 S1 R2 B2
  go_upto_region 2 with (first
    | (go_at_call 65; refine Calls.mono HT1.out ?_; rintro e X3 ⟨rfl, qs, qr, stk3, qo, qn⟩; have S3 : Hid (X2.heap.size ≤ X3.heap.size) := qs; have K3 : Hid (∀ {b : Nat} {cs : List Value} {t : TypeId}, Row X2 b cs t → b ≠ r → Row X3 b cs t) := (fun {b cs t} => qr); have O3 : Hid (stk3.ownBlock = stk.ownBlock) := qo; have HR3 : Hid (Rn k0 w0 X3 r T gs n pl C h av stk3 (ss ++ [x]) l nx an ls ags) := qn; have R13 : Hid (Row X3 b2 zW 37) := qr R12.out HNR.out.1; have R23 : Hid (Row X3 b3 zW 37) := qr R22.out HNR.out.2; clear qs qr qo qn HT1)
    | (refine wpList_storeL rfl 37 (.tmp 3) (.tmp 5) rfl b3 [.int .u64 y0, .int .u64 y1, .int .u64 y2, .int .u64 y3] zW 37 rfl rfl R23.out rfl info_W (by rw [← HY.out]; exact wq_one y) ?_; intro X4 q1 q2; have E4 : Hid (X4 = _) := q1; have R24 : Hid (Row X4 b3 [.int .u64 y0, .int .u64 y1, .int .u64 y2, .int .u64 y3] 37) := q2; clear q1 q2; simp only [Act.put]))
  have G4 : Hid (Gro (· = b3) X3 X4) := by rw [E4.out]; exact gro_over (Gro.refl _ _) b3 0 _ rfl
  have HFR : Hid ((∀ g, stk.ownBlock = some g → g < b2) ∧ ∀ g, av.ownBlock = some g → g < b2) := by rw [HB2.out]; exact HH.out.fresh
  have HR4 : Hid (Rn k0 w0 X4 r T gs n pl C h av stk3 (ss ++ [x]) l nx an ls ags) := HR3.out.aside R23.out (by rw [HB3.out, HB2.out]; have := HH.out.be.size; omega) (fun g e => by have := HFR.out.1 g (by rw [← O3.out]; exact e); rw [HB3.out]; omega) (fun g e => by have := HFR.out.2 g e; rw [HB3.out]; omega) G4.out
  have R14 : Hid (Row X4 b2 zW 37) := G4.out.row R13.out (by rw [HB3.out]; omega)
  have HT2 : Hid (∀ W, Rn k0 w0 W r T gs n pl C h av stk3 (ss ++ [x]) l nx an ls ags → Calls Tryz.prog 65 #[.pointer (some ⟨r, 0, none⟩)] W fun e w' => e = .returned (.agg (wq x).toArray) ∧ W.heap.size ≤ w'.heap.size ∧ (∀ {b : Nat} {cs : List Value} {t : TypeId}, Row W b cs t → b ≠ r → Row w' b cs t) ∧ ∃ stk', stk'.ownBlock = stk3.ownBlock ∧ Rn k0 w0 w' r T gs n pl C h av stk' ss l nx an ls ags) := fun W hW => take_any r T gs n pl C h av stk3 ss l nx an ls ags x k0 w0 W hW (by have := HSS.out; omega)
  rw [HX.out] at HT2
  have e0 := R24.out.cell 0 _ rfl
  have e1 := R24.out.cell 1 _ rfl
  have e2 := R24.out.cell 2 _ rfl
  have e3 := R24.out.cell 3 _ rfl
  have nb1 : b3 ≠ b2 := by rw [HB3.out]; omega
  have nb2 : b2 ≠ b3 := by rw [HB3.out]; omega
  clear E4 R23 R13 R12 R22 HR3
  go_region_law (refine stp_fn rfl 65 rfl #[.pointer (some ⟨r, 0, none⟩)] (by go_simp) (Calls.mono (HT2.out _ (HR4.out.drewN 1)) ?_); rintro e X5 ⟨rfl, qs, qr, stk5, qo, qn⟩; refine ⟨_, rfl, ?_⟩; have S5 : Hid (X4.heap.size ≤ X5.heap.size) := qs; have K5 : Hid (∀ {b : Nat} {cs : List Value} {t : TypeId}, Row X4 b cs t → b ≠ r → Row X5 b cs t) := (fun {b cs t} r => qr r); have O5 : Hid (stk5.ownBlock = stk3.ownBlock) := qo; have HR5 : Hid (Rn k0 w0 X5 r T gs n pl C h av stk5 ss l nx an ls ags) := qn; have hr1 : Row X5 b2 zW 37 := qr R14.out HNR.out.1; have hr2 : Row X5 b3 [.int .u64 y0, .int .u64 y1, .int .u64 y2, .int .u64 y3] 37 := qr R24.out HNR.out.2; have R15 : Hid (Row X5 b2 zW 37) := hr1; have R25 : Hid (Row X5 b3 [.int .u64 y0, .int .u64 y1, .int .u64 y2, .int .u64 y3] 37) := hr2; have m0 := hr1.cell 0 _ rfl; have m1 := hr1.cell 1 _ rfl; have m2 := hr1.cell 2 _ rfl; have m3 := hr1.cell 3 _ rfl; have mf0 := hr1.thaw 0; have mf1 := hr1.thaw 1; have mf2 := hr1.thaw 2; have mf3 := hr1.thaw 3; have k0 := hr2.cell 0 _ rfl; have k1 := hr2.cell 1 _ rfl; have k2 := hr2.cell 2 _ rfl; have k3 := hr2.cell 3 _ rfl; have kf0 := hr2.thaw 0; have kf1 := hr2.thaw 1; have kf2 := hr2.thaw 2; have kf3 := hr2.thaw 3;  clear qs qr qo qn hr1 hr2)
  all_goals
    have Rb2 := (((R15.out.set 0 (.int .u64 x0)).set 1 (.int .u64 x1)).set 2 (.int .u64 x2)).set 3 (.int .u64 x3)
    have Gb2 : Gro (· = b2) X5 _ := ((((Gro.refl (· = b2) X5).set b2 0 (.int .u64 x0) rfl).set b2 1 (.int .u64 x1) rfl).set b2 2 (.int .u64 x2) rfl).set b2 3 (.int .u64 x3) rfl
    have Rb3 := Gb2.row R25.out nb1
    have Gb3 : Gro (· = b3) _ _ := ((((Gro.refl (· = b3) ((((X5.setCell ⟨b2, 0, none⟩ (.int .u64 x0)).setCell ⟨b2, 1, none⟩ (.int .u64 x1)).setCell ⟨b2, 2, none⟩ (.int .u64 x2)).setCell ⟨b2, 3, none⟩ (.int .u64 x3))).set b3 0 (.int .u64 y0) rfl).set b3 1 (.int .u64 y1) rfl).set b3 2 (.int .u64 y2) rfl).set b3 3 (.int .u64 y3) rfl
    have Rb3' := (((Rb3.set 0 (.int .u64 y0)).set 1 (.int .u64 y1)).set 2 (.int .u64 y2)).set 3 (.int .u64 y3)
    have Rb2' := Gb3.row Rb2 nb2
    have lo2 : w0.heap.size ≤ b2 := by rw [HB2.out]; exact HH.out.be.size
    have f1 : ∀ g, stk5.ownBlock = some g → g < b2 := fun g e => HFR.out.1 g (by rw [← O3.out, ← O5.out]; exact e)
    have RN1 := HR5.out.aside R15.out lo2 (fun g e => Nat.ne_of_lt (f1 g e)) (fun g e => Nat.ne_of_lt (HFR.out.2 g e)) Gb2
    have RN2 := RN1.aside Rb3 (by rw [HB3.out]; omega) (fun g e => by have := f1 g e; rw [HB3.out]; omega) (fun g e => by have := HFR.out.2 g e; rw [HB3.out]; omega) Gb3
    have SS := Gb3.size
    have SS2 := Gb2.size
    go_wp2
    refine bodyPost_ret (results_rowAA Tryz.results69 _ _ b2 b3 37 37 [.int .u64 x0, .int .u64 x1, .int .u64 x2, .int .u64 x3] [.int .u64 y0, .int .u64 y1, .int .u64 y2, .int .u64 y3] rfl rfl Rb2' Rb3' Tryz.underlying37 Tryz.underlying37 info_W info_W) rfl ⟨rfl, ?_, ?_, stk5, RN2⟩
    · have h1 := BX2.out.size
      have h2 := S3.out
      have h3 := G4.out.size
      have h4 := S5.out
      omega
    · intro b cs t rr hb
      have hlt := rr.lt
      have h1 := K3.out (Row.below rr BX2.out rr.lt) hb
      have h2 := K5.out (G4.out.row h1 (by rw [HB3.out, HB2.out]; omega)) hb
      exact Gb3.row (Gb2.row h2 (by rw [HB2.out]; omega)) (by rw [HB3.out, HB2.out]; omega)

end Go.Proofs.YtclbiophgnkggaaGreatDoor

namespace Go.Proofs.YtclbiophgnkggaaGreatDoor
open Go Go.RowKit
open Sha
open Wd
set_option maxRecDepth 100000 in
set_option maxHeartbeats 4000000 in
theorem leaveResult_ok (r T gs n : Nat) (pl : Value) (C : List Value) (h av stk : Value) (ss : List Nat) (l nx : Nat) (an : List Value) (ls : List Ins) (ags : List Nat) (x : Nat) (k0 w0 w : World) (H : Rn k0 w0 w r T gs n pl C h av stk ss l nx an ls ags) (hss : ss.length ≤ 1000) : Calls Tryz.prog 67 #[.pointer (some ⟨r, 0, none⟩), .agg (wq x).toArray, .int .i64 0] w fun e w' => e = .returned (.int .i64 0) ∧ ∃ stk', Rn k0 w0 w' r T gs n pl C h av stk' (ss ++ [x]) l nx an ls ags := by
  obtain ⟨L, hL⟩ : ∃ L, L = wq x := ⟨_, rfl⟩
  have HI : Hid ((Tryz.prog.info? 37).map (·.size) = some L.length) := by show _ = _; rw [hL]; exact info_Wq _
  have HLV : Hid (∀ W, Rn k0 w0 W r T gs n pl C h av stk ss l nx an ls ags → Calls Tryz.prog 66 #[.pointer (some ⟨r, 0, none⟩), .agg L.toArray] W fun e w' => e = .returned (.int .i64 0) ∧ ∃ stk', Rn k0 w0 w' r T gs n pl C h av stk' (ss ++ [x]) l nx an ls ags) := fun W hW => by rw [hL]; exact leave_any r T gs n pl C h av stk ss l nx an ls ags x k0 w0 W hW hss
  have HH : Hid (Rn k0 w0 w r T gs n pl C h av stk ss l nx an ls ags) := H
  rw [← hL]
  clear H hss hL
  go_enter Tryz.func67, Tryz.ntmps67
  go_wp2_with (first
    | (refine wpList_boxG 37 rfl (.tmp 1) rfl L rfl ?_; intro X q1 q2 q3; have R1 : Hid (Row X w.heap.size L 37) := q1; have HR : Hid (Rn k0 w0 X r T gs n pl C h av stk ss l nx an ls ags) := HH.out.keep q2; clear q1 q2 q3; simp only [Act.put, List.setIfInBounds_toArray, List.set_cons_zero, List.set_cons_succ])
    | (refine wpList_load_w rfl 37 (.tmp 4) rfl w.heap.size 0 rfl L _ R1.out.all Tryz.underlying37 rfl HI.out ?_; simp only [Act.put, List.setIfInBounds_toArray, List.set_cons_zero, List.set_cons_succ])
    | (go_at_call 66; refine Calls.mono (HLV.out X HR.out) ?_; rintro e Y ⟨rfl, stk', q⟩; have HQ : Hid (Rn k0 w0 Y r T gs n pl C h av stk' (ss ++ [x]) l nx an ls ags) := q; clear q))
  go_ret
  exact ⟨rfl, _, HQ.out⟩
set_option maxRecDepth 100000 in
set_option maxHeartbeats 4000000 in
theorem leaveResult_no (r T gs n : Nat) (pl : Value) (C : List Value) (h av stk : Value) (ss : List Nat) (l nx : Nat) (an : List Value) (ls : List Ins) (ags : List Nat) (x : Nat) (E : Int) (hE : (E != 0) = true) (k0 w0 w : World) (H : Rn k0 w0 w r T gs n pl C h av stk ss l nx an ls ags) : Calls Tryz.prog 67 #[.pointer (some ⟨r, 0, none⟩), .agg (wq x).toArray, .int .i64 E] w fun e w' => e = .returned (.int .i64 104) ∧ Rn k0 w0 w' r T gs n pl C h av stk ss l nx an ls ags := by
  obtain ⟨L, hL⟩ : ∃ L, L = wq x := ⟨_, rfl⟩
  have HH : Hid (Rn k0 w0 w r T gs n pl C h av stk ss l nx an ls ags) := H
  rw [← hL]
  clear H hL
  go_enter Tryz.func67, Tryz.ntmps67
  go_wp2_with (refine wpList_boxG 37 rfl (.tmp 1) rfl L rfl ?_; intro X q1 q2 q3; have HR : Hid (Rn k0 w0 X r T gs n pl C h av stk ss l nx an ls ags) := HH.out.keep q2; clear q1 q2 q3; simp only [Act.put, List.setIfInBounds_toArray, List.set_cons_zero, List.set_cons_succ])
  go_ret
  exact ⟨rfl, HR.out⟩
set_option maxRecDepth 100000 in
set_option maxHeartbeats 4000000 in
theorem add_ok (r T gs n : Nat) (pl : Value) (C : List Value) (h av stk : Value) (ss : List Nat) (l nx : Nat) (an : List Value) (ls : List Ins) (ags : List Nat) (I : List Value) (x y : Nat) (hx : x < 2 ^ 256) (hy : y < 2 ^ 256) (h3 : x + y < 2 ^ 256) (k0 w0 w : World) (H : Rn k0 w0 w r T gs n pl C h av stk (ss ++ [x] ++ [y]) l nx an ls ags) (hss : ss.length ≤ 900) : Calls Tryz.prog 35 #[.pointer (some ⟨r, 0, none⟩), .agg I.toArray] w fun e w' => e = .returned (.int .i64 0) ∧ ∃ stk', Rn k0 w0 w' r T gs n pl C h av stk' (ss ++ [x + y]) l nx an ls ags := by
  obtain ⟨LX, hLX⟩ : ∃ L, L = wq x := ⟨_, rfl⟩
  obtain ⟨LY, hLY⟩ : ∃ L, L = wq y := ⟨_, rfl⟩
  obtain ⟨LZ, hLZ⟩ : ∃ L, L = wq (x + y) := ⟨_, rfl⟩
  have HTT : Hid (∀ W, Rn k0 w0 W r T gs n pl C h av stk (ss ++ [x] ++ [y]) l nx an ls ags → Calls Tryz.prog 69 #[.pointer (some ⟨r, 0, none⟩)] W fun e w' => e = .returned (.tuple #[.agg LX.toArray, .agg LY.toArray]) ∧ W.heap.size ≤ w'.heap.size ∧ (∀ {b : Nat} {cs : List Value} {t : TypeId}, Row W b cs t → b ≠ r → Row w' b cs t) ∧ ∃ stk', Rn k0 w0 w' r T gs n pl C h av stk' ss l nx an ls ags) := fun W hW => by rw [hLX, hLY]; exact takeTwo_any r T gs n pl C h av stk ss l nx an ls ags x y k0 w0 W hW hss
  have HOP : Hid (∀ W, Calls Tryz.prog 68 #[.agg LX.toArray, .agg LY.toArray] W fun e w' => e = .returned (.tuple #[.agg LZ.toArray, .int .i64 0]) ∧ Below W.heap.size W w') := fun W => by
    rw [hLX, hLY, hLZ]
    have q := add_any x y hx hy W
    unfold addR addE at q
    rw [if_pos h3, if_pos h3] at q
    exact q
  have HLR : Hid (∀ stk' W, Rn k0 w0 W r T gs n pl C h av stk' ss l nx an ls ags → Calls Tryz.prog 67 #[.pointer (some ⟨r, 0, none⟩), .agg LZ.toArray, .int .i64 0] W fun e w' => e = .returned (.int .i64 0) ∧ ∃ stk'', Rn k0 w0 w' r T gs n pl C h av stk'' (ss ++ [x + y]) l nx an ls ags) := fun stk' W hW => by rw [hLZ]; exact leaveResult_ok r T gs n pl C h av stk' ss l nx an ls ags _ k0 w0 W hW (by omega)
  have HH : Hid (Rn k0 w0 w r T gs n pl C h av stk (ss ++ [x] ++ [y]) l nx an ls ags) := H
  clear H hss hLX hLY hLZ hx hy h3
  go_enter Tryz.func35, Tryz.ntmps35
  go_wp2_with (first
    | (refine wpList_boxG 53 rfl (.tmp 1) rfl I rfl ?_; intro X1 q1 q2 q3; have HR : Hid (Rn k0 w0 X1 r T gs n pl C h av stk (ss ++ [x] ++ [y]) l nx an ls ags) := HH.out.keep q2; clear q1 q2 q3; simp only [Act.put, List.setIfInBounds_toArray, List.set_cons_zero, List.set_cons_succ])
    | (go_at_call 69; refine Calls.mono (HTT.out X1 HR.out) ?_; rintro e X2 ⟨rfl, _, _, stk2, q⟩; have HR2 : Hid (Rn k0 w0 X2 r T gs n pl C h av stk2 ss l nx an ls ags) := q; clear q)
    | (go_at_call 68; refine Calls.mono (HOP.out X2) ?_; rintro e X3 ⟨rfl, q⟩; have HR3 : Hid (Rn k0 w0 X3 r T gs n pl C h av stk2 ss l nx an ls ags) := HR2.out.keep q; clear q)
    | (go_at_call 67; refine Calls.mono (HLR.out stk2 X3 HR3.out) ?_; rintro e X4 ⟨rfl, stk4, q⟩; have HR4 : Hid (Rn k0 w0 X4 r T gs n pl C h av stk4 (ss ++ [x + y]) l nx an ls ags) := q; clear q))
  go_ret
  exact ⟨rfl, _, HR4.out⟩
set_option maxRecDepth 100000 in
set_option maxHeartbeats 4000000 in
theorem done_any (r T gs n : Nat) (pl : Value) (C : List Value) (h av stk : Value) (ss : List Nat) (l nx : Nat) (an : List Value) (ls : List Ins) (ags : List Nat) (I : List Value) (x : Nat) (k0 w0 w : World) (H : Rn k0 w0 w r T gs n pl C h av stk (ss ++ [x]) l nx an ls ags) (hss : ss.length ≤ 1000) : Calls Tryz.prog 30 #[.pointer (some ⟨r, 0, none⟩), .agg I.toArray] w fun e w' => e = .returned (.int .i64 0) ∧ ∃ stk', Rn k0 w0 w' r T gs n pl C h av stk' ss l nx (wq x) ls ags := by
  obtain ⟨L, hL⟩ : ∃ L, L = wq x := ⟨_, rfl⟩
  have HTK : Hid (∀ W, Rn k0 w0 W r T gs n pl C h av stk (ss ++ [x]) l nx an ls ags → Calls Tryz.prog 65 #[.pointer (some ⟨r, 0, none⟩)] W fun e w' => e = .returned (.agg L.toArray) ∧ W.heap.size ≤ w'.heap.size ∧ (∀ {b : Nat} {cs : List Value} {t : TypeId}, Row W b cs t → b ≠ r → Row w' b cs t) ∧ ∃ stk', stk'.ownBlock = stk.ownBlock ∧ Rn k0 w0 w' r T gs n pl C h av stk' ss l nx an ls ags) := fun W hW => by rw [hL]; exact take_any r T gs n pl C h av stk ss l nx an ls ags x k0 w0 W hW hss
  have HH : Hid (Rn k0 w0 w r T gs n pl C h av stk (ss ++ [x]) l nx an ls ags) := H
  have HI : Hid ((Tryz.prog.info? 37).map (·.size) = some L.toArray.size) := by show _ = _; rw [hL, List.size_toArray]; exact info_Wq _
  have HO : Hid (L.toArray.all (·.oneCell') = true) := by show _ = _; rw [hL]; exact wq_one _
  have HL4 : Hid (L.length = 4) := by show _ = _; rw [hL]; exact wq_len _
  rw [← hL]
  clear H hss hL
  go_enter Tryz.func30, Tryz.ntmps30
  go_wp2_with (first
    | (refine wpList_boxG 53 rfl (.tmp 1) rfl I rfl ?_; intro X1 q1 q2 q3; have HR : Hid (Rn k0 w0 X1 r T gs n pl C h av stk (ss ++ [x]) l nx an ls ags) := HH.out.keep q2; clear q1 q2 q3; simp only [Act.put, List.setIfInBounds_toArray, List.set_cons_zero, List.set_cons_succ])
    | (go_at_call 65; refine Calls.mono (HTK.out X1 HR.out) ?_; rintro e X2 ⟨rfl, _, _, stk2, _, q⟩; have HR2 : Hid (Rn k0 w0 X2 r T gs n pl C h av stk2 ss l nx an ls ags) := q; clear q)
    | (refine wpList_store_mid rfl 37 (.tmp 9) (.tmp 7) rfl r 55 L.toArray rfl rfl (HR2.out.row.there 55 _ (by rw [List.size_toArray, HL4.out, rc_len HR2.out.clen HR2.out.alen]; decide)) HI.out HO.out ?_; obtain ⟨Y, hY⟩ : ∃ Y, Y = X2.setCells r 55 L.toArray.toList := ⟨_, rfl⟩; rw [← hY]; have EY : Hid (Y = X2.setCells r 55 L) := hY; clear hY; simp only [Act.put]))
  go_ret
  refine ⟨rfl, stk2, HR2.out.over (by rw [EY.out]; exact gro_over (Gro.refl _ _) r 55 _ rfl) HL4.out ?_⟩
  have q := Row.setCells 55 L HR2.out.row (by rw [HL4.out, rc_len HR2.out.clen HR2.out.alen]; decide)
  rw [rc_ans HR2.out.clen HR2.out.alen L HL4.out, ← EY.out] at q
  exact q

end Go.Proofs.YtclbiophgnkggaaGreatDoor

namespace Go.Proofs.YtclbiophgnkggaaGreatDoor
open Go Go.RowKit
open Sha
open Wd
set_option maxRecDepth 100000 in
set_option maxHeartbeats 4000000 in
theorem arg_in (r T gs n : Nat) (pl : Value) (C : List Value) (h av stk : Value) (ss : List Nat) (l nx : Nat) (an : List Value) (ls : List Ins) (ags : List Nat) (ci pi ai ni x : Nat) (hx : ags[ni]? = some x) (hl : ags.length ≤ 8) (k0 w0 w : World) (H : Rn k0 w0 w r T gs n pl C h av stk ss l nx an ls ags) (hss : ss.length ≤ 1000) : Calls Tryz.prog 45 #[.pointer (some ⟨r, 0, none⟩), .agg (ic ci pi ai ni).toArray] w fun e w' => e = .returned (.int .i64 0) ∧ ∃ stk', Rn k0 w0 w' r T gs n pl C h av stk' (ss ++ [x]) l nx an ls ags := by
  have hni : ni < ags.length := (List.getElem?_eq_some_iff.1 hx).1
  obtain ⟨ga, ca, hav, hca⟩ := Lw.open H.arg (by omega)
  subst hav
  have HH : Hid (Rn k0 w0 w r T gs n pl C h (.slice (some ⟨ga, 0, none⟩) ags.length ca) stk ss l nx an ls ags) := H
  obtain ⟨L, hL⟩ : ∃ L, L = ic ci pi ai ni := ⟨_, rfl⟩
  have HIC : Hid (L = ic ci pi ai ni) := hL
  rw [← hL]
  obtain ⟨k, hk⟩ : ∃ k, k = ags.length := ⟨_, rfl⟩
  have HK : Hid (k = ags.length) := hk
  rw [← hk] at hni hl
  obtain ⟨x0, hx0⟩ : ∃ a, a = ((lim x 0 : Nat) : Int) := ⟨_, rfl⟩
  obtain ⟨x1, hx1⟩ : ∃ a, a = ((lim x 1 : Nat) : Int) := ⟨_, rfl⟩
  obtain ⟨x2, hx2⟩ : ∃ a, a = ((lim x 2 : Nat) : Int) := ⟨_, rfl⟩
  obtain ⟨x3, hx3⟩ : ∃ a, a = ((lim x 3 : Nat) : Int) := ⟨_, rfl⟩
  have hX : wq x = [.int .u64 x0, .int .u64 x1, .int .u64 x2, .int .u64 x3] := by rw [wq_cells, hx0, hx1, hx2, hx3]
  have HXX : Hid (ags[ni]? = some x) := hx
  have HX : Hid (wq x = [.int .u64 x0, .int .u64 x1, .int .u64 x2, .int .u64 x3]) := hX
  have HLV : Hid (∀ W, Rn k0 w0 W r T gs n pl C h (.slice (some ⟨ga, 0, none⟩) ags.length ca) stk ss l nx an ls ags → Calls Tryz.prog 66 #[.pointer (some ⟨r, 0, none⟩), .agg #[.int .u64 x0, .int .u64 x1, .int .u64 x2, .int .u64 x3]] W fun e w' => e = .returned (.int .i64 0) ∧ ∃ stk', Rn k0 w0 w' r T gs n pl C h (.slice (some ⟨ga, 0, none⟩) ags.length ca) stk' (ss ++ [x]) l nx an ls ags) := fun W hW => by
    have q := leave_any r T gs n pl C h _ stk ss l nx an ls ags x k0 w0 W hW hss
    rw [hX] at q
    exact q
  clear H hss hL hx0 hx1 hx2 hx3 hX hx hk hca
  go_enter Tryz.func45, Tryz.ntmps45
  go_upto_region 1 with (refine wpList_boxG 53 rfl (.tmp 1) rfl L rfl ?_; intro X q1 q2 q3; have R1 : Hid (Row X w.heap.size L 53) := q1; have HR : Hid (Rn k0 w0 X r T gs n pl C h (.slice (some ⟨ga, 0, none⟩) ags.length ca) stk ss l nx an ls ags) := HH.out.keep q2; clear q1 q2 q3; simp only [Act.put, List.setIfInBounds_toArray, List.set_cons_zero, List.set_cons_succ])
  have c6 : X.cell? ⟨w.heap.size, 6, none⟩ = some (.int .i64 (ni : Int)) := R1.out.cell 6 _ (by rw [HIC.out]; exact ic_6 _ _ _ _)
  have c48 : X.cell? ⟨r, 48, none⟩ = some (.slice (some ⟨ga, 0, none⟩) k ca) := by
    rw [HK.out]
    exact HR.out.row.cell 48 _ ((rc_low HR.out.clen 45 (by decide)).trans HR.out.cargs)
  obtain ⟨b3, hb3⟩ : ∃ b, b = w.heap.size := ⟨_, rfl⟩
  rw [← hb3] at c6
  rw [← hb3]
  have RG : X.rangeAt ga (ni * 4) [.int .u64 x0, .int .u64 x1, .int .u64 x2, .int .u64 x3] := by
    rw [← HX.out]
    exact fw_at (Lw.range HR.out.arg) ni x HXX.out
  have a0 : X.cell? ⟨ga, ni * 4, none⟩ = some (.int .u64 x0) := RG 0 _ rfl
  have a1 : X.cell? ⟨ga, ni * 4 + 1, none⟩ = some (.int .u64 x1) := RG 1 _ rfl
  have a2 : X.cell? ⟨ga, ni * 4 + 2, none⟩ = some (.int .u64 x2) := RG 2 _ rfl
  have a3 : X.cell? ⟨ga, ni * 4 + 3, none⟩ = some (.int .u64 x3) := RG 3 _ rfl
  clear hb3 RG R1 HIC
  go_quiet (fail)
  go_upto_region 3 with fail
  go_region_law (refine stp_fn rfl 66 rfl #[.pointer (some ⟨r, 0, none⟩), .agg #[.int .u64 x0, .int .u64 x1, .int .u64 x2, .int .u64 x3]] (by go_simp) (Calls.mono (HLV.out _ (HR.out.drewN _)) ?_); rintro e Y ⟨rfl, stk', q⟩; refine ⟨_, rfl, ?_⟩; have HQ : Hid (Rn k0 w0 Y r T gs n pl C h (.slice (some ⟨ga, 0, none⟩) ags.length ca) stk' (ss ++ [x]) l nx an ls ags) := q; clear q)
  all_goals
    clear a0 a1 a2 a3 c6 c48
    go_wp2
    go_ret
    exact ⟨rfl, _, HQ.out⟩
set_option maxRecDepth 100000 in
set_option maxHeartbeats 4000000 in
theorem needs_any (nm f : Value) (k g t lv : Nat) (hk2 : ((k : Int) == 2) = false) (hk3 : ((k : Int) == 3) = false) (I : List Value) (w : World) : Calls Tryz.prog 117 #[.agg #[nm, .int .i64 (k : Int), .int .i64 (g : Int), .int .i64 (t : Int), .int .i64 (lv : Int), f], .agg I.toArray] w fun e w' => e = .returned (.tuple #[.int .i64 (t : Int), .int .i64 (lv : Int)]) ∧ Below w.heap.size w w' := by
  go_enter Tryz.func117, Tryz.ntmps117
  go_upto_region 1 with (first
    | (refine wpList_boxG 84 rfl (.tmp 0) rfl [nm, .int .i64 (k : Int), .int .i64 (g : Int), .int .i64 (t : Int), .int .i64 (lv : Int), f] rfl ?_; intro X q1 q2 q3; have R1 : Hid (Row X w.heap.size [nm, .int .i64 (k : Int), .int .i64 (g : Int), .int .i64 (t : Int), .int .i64 (lv : Int), f] 84) := q1; have B1 : Hid (Below w.heap.size w X) := q2; clear q1 q2 q3; simp only [Act.put, List.setIfInBounds_toArray, List.set_cons_zero, List.set_cons_succ])
    | (refine wpList_boxG 53 rfl (.tmp 1) rfl I rfl ?_; intro Y q1 q2 q3; have B2 : Hid (Below X.heap.size X Y) := q2; clear q1 q2 q3; simp only [Act.put, List.setIfInBounds_toArray, List.set_cons_zero, List.set_cons_succ]))
  have R2 := Row.below R1.out B2.out R1.out.lt
  have c1 := R2.cell 1 _ rfl
  have c3 := R2.cell 3 _ rfl
  have c4 := R2.cell 4 _ rfl
  have BB : Hid (Below w.heap.size w Y) := B1.out.trans (B2.out.mono B1.out.size)
  clear R2 R1 B1 B2
  go_upto_region 5 with fail
  go_quiet (fail)
  go_wp2
  go_ret2
  exact ⟨rfl, below_drewN BB.out _⟩

end Go.Proofs.YtclbiophgnkggaaGreatDoor
