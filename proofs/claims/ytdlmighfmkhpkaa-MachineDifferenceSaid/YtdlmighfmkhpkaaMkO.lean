/-
  takeTwo.
-/
import Derived.Test.YtdlmighfmkhpkaaMkN
namespace Go.Proofs.Ytdlmighfmkhpkaa
open Go Go.RowKit
open Sha
open Wd

theorem results_rowAA {P : Program} {fn : Func} {p q : Tmp} {ty ty2 e e2 : TypeId} {k k2 : Nat} (h : fn.results = #[.cell p ty, .cell q ty2]) (tmps : Array Value) (w : World) (g g2 : Nat) (t t2 : TypeId) (cs ds : List Value)
    (hp : tmps.getD p undef = .pointer (some ⟨g, 0, none⟩)) (hq : tmps.getD q undef = .pointer (some ⟨g2, 0, none⟩)) (hg : Row w g cs t) (hg2 : Row w g2 ds t2) (hu : P.underlying ty = some (.array k e)) (hu2 : P.underlying ty2 = some (.array k2 e2)) (hi : (P.info? ty).map (·.size) = some cs.length) (hi2 : (P.info? ty2).map (·.size) = some ds.length) :
    (results fn tmps).run P w = .ok (.tuple #[.agg cs.toArray, .agg ds.toArray]) w := by
  have hp' : tmps[p]?.getD undef = .pointer (some ⟨g, 0, none⟩) := by simpa using hp
  have hq' : tmps[q]?.getD undef = .pointer (some ⟨g2, 0, none⟩) := by simpa using hq
  have hr := run_loadVar_row (P := P) w g t ty cs.toArray (0, 0) (.array k e) hg hu rfl (by simp [hi])
  have hr2 := run_loadVar_row (P := P) w g2 t2 ty2 ds.toArray (0, 0) (.array k2 e2) hg2 hu2 rfl (by simp [hi2])
  simp [results, h, hp', hq', asAddr, hr, hr2]
set_option maxRecDepth 100000 in
set_option maxHeartbeats 4000000 in
theorem takeTwo_any (r T gs n : Nat) (pl : Value) (C : List Value) (h av stk : Value) (ss : List Nat) (l nx : Nat) (an : List Value) (ls : List Ins) (ags : List Nat) (x y : Nat) (k0 w0 w : World) (H : Rn k0 w0 w r T gs n pl C h av stk (ss ++ [x] ++ [y]) l nx an ls ags) (hss : ss.length ≤ 900) : Calls Try.prog 58 #[.pointer (some ⟨r, 0, none⟩)] w fun e w' => e = .returned (.tuple #[.agg (wq x).toArray, .agg (wq y).toArray]) ∧ w.heap.size ≤ w'.heap.size ∧ (∀ {b : Nat} {cs : List Value} {t : TypeId}, Row w b cs t → b ≠ r → Row w' b cs t) ∧ ∃ stk', Rn k0 w0 w' r T gs n pl C h av stk' ss l nx an ls ags := by
  have HH : Hid (Rn k0 w0 w r T gs n pl C h av stk (ss ++ [x] ++ [y]) l nx an ls ags) := H
  have HSS : Hid (ss.length ≤ 900) := hss
  clear H hss
  obtain ⟨x0, hx0⟩ : ∃ a, a = ((lim x 0 : Nat) : Int) := ⟨_, rfl⟩
  obtain ⟨x1, hx1⟩ : ∃ a, a = ((lim x 1 : Nat) : Int) := ⟨_, rfl⟩
  obtain ⟨x2, hx2⟩ : ∃ a, a = ((lim x 2 : Nat) : Int) := ⟨_, rfl⟩
  obtain ⟨x3, hx3⟩ : ∃ a, a = ((lim x 3 : Nat) : Int) := ⟨_, rfl⟩
  obtain ⟨y0, hy0⟩ : ∃ a, a = ((lim y 0 : Nat) : Int) := ⟨_, rfl⟩
  obtain ⟨y1, hy1⟩ : ∃ a, a = ((lim y 1 : Nat) : Int) := ⟨_, rfl⟩
  obtain ⟨y2, hy2⟩ : ∃ a, a = ((lim y 2 : Nat) : Int) := ⟨_, rfl⟩
  obtain ⟨y3, hy3⟩ : ∃ a, a = ((lim y 3 : Nat) : Int) := ⟨_, rfl⟩
  have HX : Hid (wq x = [.int .u64 x0, .int .u64 x1, .int .u64 x2, .int .u64 x3]) := by show _ = _; rw [wq_cells, hx0, hx1, hx2, hx3]
  have HY : Hid (wq y = [.int .u64 y0, .int .u64 y1, .int .u64 y2, .int .u64 y3]) := by show _ = _; rw [wq_cells, hy0, hy1, hy2, hy3]
  clear hx0 hx1 hx2 hx3 hy0 hy1 hy2 hy3
  rw [HX.out, HY.out]
  go_enter Try.func58, Try.ntmps58
  go_upto_region 1 with (first
    | (refine wpList_allocW rfl rfl ?_; intro X1 q1 q2 q3; have R1 : Hid (Row X1 w.heap.size zW 29) := q1; have B1 : Hid (Below w.heap.size w X1) := q2; have S1 : Hid (X1.heap.size = w.heap.size + 1) := q3; clear q1 q2 q3; simp only [Act.put, List.setIfInBounds_toArray, List.set_cons_zero, List.set_cons_succ])
    | (refine wpList_allocW rfl rfl ?_; intro X2 q1 q2 q3; have R2 : Hid (Row X2 X1.heap.size zW 29) := q1; have B2 : Hid (Below X1.heap.size X1 X2) := q2; clear q1 q2 q3; simp only [Act.put, List.setIfInBounds_toArray, List.set_cons_zero, List.set_cons_succ]))
  obtain ⟨b2, hb2⟩ : ∃ b, b = w.heap.size := ⟨_, rfl⟩
  obtain ⟨b3, hb3⟩ : ∃ b, b = X1.heap.size := ⟨_, rfl⟩
  have HB2 : Hid (b2 = w.heap.size) := hb2
  have HB3 : Hid (b3 = b2 + 1) := by show _ = _; rw [hb3, hb2]; exact S1.out
  have R12 : Hid (Row X2 b2 zW 29) := by rw [hb2]; exact Row.below R1.out B2.out R1.out.lt
  have R22 : Hid (Row X2 b3 zW 29) := by rw [hb3]; exact R2.out
  have BX2 : Hid (Below w.heap.size w X2) := B1.out.trans (B2.out.mono B1.out.size)
  rw [← hb2, ← hb3]
  have HR2 : Hid (Rn k0 w0 X2 r T gs n pl C h av stk (ss ++ [x] ++ [y]) l nx an ls ags) := HH.out.keep BX2.out
  have HNR : Hid (b2 ≠ r ∧ b3 ≠ r) := ⟨row_ne2 R12.out HR2.out.row (by decide), row_ne2 R22.out HR2.out.row (by decide)⟩
  have HT1 : Hid _ := take_any r T gs n pl C h av stk (ss ++ [x]) l nx an ls ags y k0 w0 X2 HR2.out (by rw [List.length_append, List.length_singleton]; have := HSS.out; omega)
  rw [HY.out] at HT1
  clear hb2 hb3 R1 B1 S1 R2 B2
  go_upto_region 2 with (first
    | (go_at_call 54; refine Calls.mono HT1.out ?_; rintro e X3 ⟨rfl, qs, qr, stk3, qo, qn⟩; have S3 : Hid (X2.heap.size ≤ X3.heap.size) := qs; have K3 : Hid (∀ {b : Nat} {cs : List Value} {t : TypeId}, Row X2 b cs t → b ≠ r → Row X3 b cs t) := (fun {b cs t} => qr); have O3 : Hid (stk3.ownBlock = stk.ownBlock) := qo; have HR3 : Hid (Rn k0 w0 X3 r T gs n pl C h av stk3 (ss ++ [x]) l nx an ls ags) := qn; have R13 : Hid (Row X3 b2 zW 29) := qr R12.out HNR.out.1; have R23 : Hid (Row X3 b3 zW 29) := qr R22.out HNR.out.2; clear qs qr qo qn HT1)
    | (refine wpList_storeL rfl 29 (.tmp 3) (.tmp 5) rfl b3 [.int .u64 y0, .int .u64 y1, .int .u64 y2, .int .u64 y3] zW 29 rfl rfl R23.out rfl info_W (by rw [← HY.out]; exact wq_one y) ?_; intro X4 q1 q2; have E4 : Hid (X4 = _) := q1; have R24 : Hid (Row X4 b3 [.int .u64 y0, .int .u64 y1, .int .u64 y2, .int .u64 y3] 29) := q2; clear q1 q2; simp only [Act.put]))
  have G4 : Hid (Gro (· = b3) X3 X4) := by rw [E4.out]; exact gro_over (Gro.refl _ _) b3 0 _ rfl
  have HFR : Hid ((∀ g, stk.ownBlock = some g → g < b2) ∧ ∀ g, av.ownBlock = some g → g < b2) := by rw [HB2.out]; exact HH.out.fresh
  have HR4 : Hid (Rn k0 w0 X4 r T gs n pl C h av stk3 (ss ++ [x]) l nx an ls ags) := HR3.out.aside R23.out (by rw [HB3.out, HB2.out]; have := HH.out.be.size; omega) (fun g e => by have := HFR.out.1 g (by rw [← O3.out]; exact e); rw [HB3.out]; omega) (fun g e => by have := HFR.out.2 g e; rw [HB3.out]; omega) G4.out
  have R14 : Hid (Row X4 b2 zW 29) := G4.out.row R13.out (by rw [HB3.out]; omega)
  have HT2 : Hid (∀ W, Rn k0 w0 W r T gs n pl C h av stk3 (ss ++ [x]) l nx an ls ags → Calls Try.prog 54 #[.pointer (some ⟨r, 0, none⟩)] W fun e w' => e = .returned (.agg (wq x).toArray) ∧ W.heap.size ≤ w'.heap.size ∧ (∀ {b : Nat} {cs : List Value} {t : TypeId}, Row W b cs t → b ≠ r → Row w' b cs t) ∧ ∃ stk', stk'.ownBlock = stk3.ownBlock ∧ Rn k0 w0 w' r T gs n pl C h av stk' ss l nx an ls ags) := fun W hW => take_any r T gs n pl C h av stk3 ss l nx an ls ags x k0 w0 W hW (by have := HSS.out; omega)
  rw [HX.out] at HT2
  have e0 := R24.out.cell 0 _ rfl
  have e1 := R24.out.cell 1 _ rfl
  have e2 := R24.out.cell 2 _ rfl
  have e3 := R24.out.cell 3 _ rfl
  have nb1 : b3 ≠ b2 := by rw [HB3.out]; omega
  have nb2 : b2 ≠ b3 := by rw [HB3.out]; omega
  clear E4 R23 R13 R12 R22 HR3
  go_region_law (refine stp_fn rfl 54 rfl #[.pointer (some ⟨r, 0, none⟩)] (by go_simp) (Calls.mono (HT2.out _ (HR4.out.drewN 1)) ?_); rintro e X5 ⟨rfl, qs, qr, stk5, qo, qn⟩; refine ⟨_, rfl, ?_⟩; have S5 : Hid (X4.heap.size ≤ X5.heap.size) := qs; have K5 : Hid (∀ {b : Nat} {cs : List Value} {t : TypeId}, Row X4 b cs t → b ≠ r → Row X5 b cs t) := (fun {b cs t} r => qr r); have O5 : Hid (stk5.ownBlock = stk3.ownBlock) := qo; have HR5 : Hid (Rn k0 w0 X5 r T gs n pl C h av stk5 ss l nx an ls ags) := qn; have hr1 : Row X5 b2 zW 29 := qr R14.out HNR.out.1; have hr2 : Row X5 b3 [.int .u64 y0, .int .u64 y1, .int .u64 y2, .int .u64 y3] 29 := qr R24.out HNR.out.2; have R15 : Hid (Row X5 b2 zW 29) := hr1; have R25 : Hid (Row X5 b3 [.int .u64 y0, .int .u64 y1, .int .u64 y2, .int .u64 y3] 29) := hr2; have m0 := hr1.cell 0 _ rfl; have m1 := hr1.cell 1 _ rfl; have m2 := hr1.cell 2 _ rfl; have m3 := hr1.cell 3 _ rfl; have mf0 := hr1.thaw 0; have mf1 := hr1.thaw 1; have mf2 := hr1.thaw 2; have mf3 := hr1.thaw 3; have k0 := hr2.cell 0 _ rfl; have k1 := hr2.cell 1 _ rfl; have k2 := hr2.cell 2 _ rfl; have k3 := hr2.cell 3 _ rfl; have kf0 := hr2.thaw 0; have kf1 := hr2.thaw 1; have kf2 := hr2.thaw 2; have kf3 := hr2.thaw 3;  clear qs qr qo qn hr1 hr2)
  all_goals
    have Rb2 := (((R15.out.set 0 (.int .u64 x0)).set 1 (.int .u64 x1)).set 2 (.int .u64 x2)).set 3 (.int .u64 x3)
    have Gb2 : Gro (· = b2) X5 _ := ((((Gro.refl (· = b2) X5).set b2 0 (.int .u64 x0) rfl).set b2 1 (.int .u64 x1) rfl).set b2 2 (.int .u64 x2) rfl).set b2 3 (.int .u64 x3) rfl
    have Rb3 := Gb2.row R25.out nb1
    have Gb3 : Gro (· = b3) _ _ := ((((Gro.refl (· = b3) ((((X5.setCell ⟨b2, 0, none⟩ (.int .u64 x0)).setCell ⟨b2, 1, none⟩ (.int .u64 x1)).setCell ⟨b2, 2, none⟩ (.int .u64 x2)).setCell ⟨b2, 3, none⟩ (.int .u64 x3))).set b3 0 (.int .u64 y0) rfl).set b3 1 (.int .u64 y1) rfl).set b3 2 (.int .u64 y2) rfl).set b3 3 (.int .u64 y3) rfl
    have Rb3' := (((Rb3.set 0 (.int .u64 y0)).set 1 (.int .u64 y1)).set 2 (.int .u64 y2)).set 3 (.int .u64 y3)
    have Rb2' := Gb3.row Rb2 nb2
    have lo2 : w0.heap.size ≤ b2 := by rw [HB2.out]; exact HH.out.be.size
    have f1 : ∀ g, stk5.ownBlock = some g → g < b2 := fun g e => HFR.out.1 g (by rw [← O3.out, ← O5.out]; exact e)
    have RN1 := HR5.out.aside R15.out lo2 (fun g e => Nat.ne_of_lt (f1 g e)) (fun g e => Nat.ne_of_lt (HFR.out.2 g e)) Gb2
    have RN2 := RN1.aside Rb3 (by rw [HB3.out]; omega) (fun g e => by have := f1 g e; rw [HB3.out]; omega) (fun g e => by have := HFR.out.2 g e; rw [HB3.out]; omega) Gb3
    have SS := Gb3.size
    have SS2 := Gb2.size
    go_wp2
    refine bodyPost_ret (results_rowAA Try.results58 _ _ b2 b3 29 29 [.int .u64 x0, .int .u64 x1, .int .u64 x2, .int .u64 x3] [.int .u64 y0, .int .u64 y1, .int .u64 y2, .int .u64 y3] rfl rfl Rb2' Rb3' Try.underlying29 Try.underlying29 info_W info_W) rfl ⟨rfl, ?_, ?_, stk5, RN2⟩
    · have h1 := BX2.out.size
      have h2 := S3.out
      have h3 := G4.out.size
      have h4 := S5.out
      omega
    · intro b cs t rr hb
      have hlt := rr.lt
      have h1 := K3.out (Row.below rr BX2.out rr.lt) hb
      have h2 := K5.out (G4.out.row h1 (by rw [HB3.out, HB2.out]; omega)) hb
      exact Gb3.row (Gb2.row h2 (by rw [HB2.out]; omega)) (by rw [HB3.out, HB2.out]; omega)

end Go.Proofs.Ytdlmighfmkhpkaa
