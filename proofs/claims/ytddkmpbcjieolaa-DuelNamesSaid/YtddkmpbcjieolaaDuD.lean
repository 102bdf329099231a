/-
  the duel: Open, Split, Pick, Expire, View, where they are done.
-/
import Derived.Test.YtddkmpbcjieolaaDuC
namespace Go.Proofs.Ytddkmpbcjieolaa
open Go Go.RowKit
open Sha

theorem Dt.trans {w X Y : World} {p : Nat} {d e : Du} (h : Dt w X p d) (k : Dt X Y p e) : Dt w Y p e := ⟨k.1, h.2.trans k.2⟩
theorem Dt.of {w X Y : World} {p : Nat} {e : Du} (h : Below w.heap.size w X) (k : Dt X Y p e) : Dt w Y p e := ⟨k.1, (Gro.of_below h).trans k.2⟩
theorem drew_be (w : World) (n : Nat) : Below w.heap.size w (w.drewN n) := below_drewN (Below.refl _ _) n
def zDu : Du := ⟨0, zA, zA, 0, zC, zC, zC, 0, 0, 0, 0, .nilFunc⟩
theorem zDu_wf : zDu.Wf := ⟨by decide, by decide, zC_wf, zC_wf, zC_wf, rfl⟩
theorem Du.vinfo {d : Du} (h : d.Wf) : (Try.prog.info? tDv).map (·.size) = some d.vw.length := by rw [Du.vlen h]; exact info_Dv
section
variable {ops : Array Oper} {rest : List Oper} {op : Oper} {a : Act} {w : World} {Q : Exit → Act → World → Prop}
set_option maxRecDepth 100000 in
theorem wpList_alV (hgd : op.guard = none) (ho : op.op = .alloc tDv) (h : ∀ X, Row X w.heap.size zDu.vw tDv → Below w.heap.size w X → X.heap.size = w.heap.size + 1 → wpList Try.prog ops Q rest (a.put op.dst (.pointer (some ⟨w.heap.size, 0, none⟩))) X) : wpList Try.prog ops Q (op :: rest) a w :=
  wpList_plain hgd fun _ hK => by
    unfold Oper.wp execOp
    simp only [ho]
    go_simp
    exact hK _ _ (h _ (Row.new' (cs := zDu.vw) rfl rfl) ((Below.refl _ _).alloc (Nat.le_refl _) _) (by simp))
end
set_option maxRecDepth 100000 in
set_option maxHeartbeats 4000000 in
theorem view_any {w : World} {p : Nat} {d : Du} (h : Dm w p d) : Calls Try.prog 8 #[.pointer (some ⟨p, 0, none⟩)] w fun e w' => e = .returned (.agg d.vw.toArray) ∧ Below w.heap.size w w' := by
  have HV : Hid (∀ X, Below w.heap.size w X → X.rangeAt p 0 d.vw) := fun X k => (h.be k).vw
  have HI : Hid ((Try.prog.info? tDv).map (·.size) = some d.vw.length) := Du.vinfo h.wf
  have HL : Hid (d.vw.length = zDu.vw.length) := (Du.vlen h.wf).trans (Du.vlen zDu_wf).symm
  clear h
  go_enter Try.func8, Try.ntmps8
  go_wp2_with (first
    | (refine wpList_alV rfl rfl ?_; intro X1 q1 q2 q3; have R1 : Hid (Row X1 w.heap.size zDu.vw tDv) := q1; have B1 : Hid (Below w.heap.size w X1) := q2; clear q1 q2 q3; simp only [Act.put, List.setIfInBounds_toArray, List.set_cons_zero, List.set_cons_succ])
    | (refine wpList_ldS rfl tDv (.tmp 8) rfl p 0 rfl d.vw _ (HV.out _ B1.out) Try.underlying36 rfl HI.out ?_; simp only [Act.put, List.setIfInBounds_toArray, List.set_cons_zero, List.set_cons_succ])
    | (refine wpList_stL rfl tDv (.tmp 2) (.tmp 9) rfl w.heap.size d.vw zDu.vw tDv rfl rfl R1.out HL.out HI.out (all_one (Du.vone _)) ?_; intro X2 q1 q2; have R2 : Hid (Row X2 w.heap.size d.vw tDv) := q1; have B2 : Hid (Below w.heap.size w X2) := gro_newL B1.out (Nat.le_refl _) q2; clear q1 q2))
  exact bodyPost_ret (results_rS rfl _ _ w.heap.size tDv d.vw rfl R2.out Try.underlying36 HI.out) rfl ⟨rfl, B2.out⟩
def Du.splits (d : Du) (c : Cm) (now : Int) : Du := Du.awaits { d with mid := c } 2 lapL now
set_option maxRecDepth 100000 in
set_option maxHeartbeats 4000000 in
theorem split_ok {w : World} {p : Nat} {d : Du} (h : Dm w p d) (by_ : List (BitVec 8)) (c : Cm) (hc : c.Wf) (L : List Value) (hL : L = c.cells) (now : Int) (h1 : isTmB now = true) (h2 : d.last ≤ now) (h3 : d.st = 1) (h4 : by_ = d.df) (h5 : now ≤ d.unt)
    (a0 : 0 ≤ d.low.n) (a1 : d.low.n ≤ 1099511627776) (b0 : 0 ≤ d.high.n) (b1 : d.high.n ≤ 1099511627776) (lh : d.low.n ≤ d.high.n) (hn : c.n = d.low.n + (d.high.n - d.low.n).tdiv 2) (t0 : 0 ≤ d.turn) (t1 : d.turn ≤ 1099511627776) (d' : Du) (hd : d' = d.splits c now) :
    Calls Try.prog 6 #[.pointer (some ⟨p, 0, none⟩), .agg (vB by_).toArray, .agg L.toArray, .int .i64 now] w fun e w' => e = .returned (.int .i64 0) ∧ Dt w w' p d' := by
  have tm : 0 ≤ now ∧ now ≤ 4611686018427387904 := by unfold isTmB at h1; simp only [Bool.and_eq_true, decide_eq_true_eq] at h1; exact h1
  have HD : Hid (∀ X, Below w.heap.size w X → Dm X p d) := fun X k => h.be k
  have HLB : Hid (by_.length = 20) := by show _ = _; rw [h4]; exact h.wf.f
  have HREF : Hid (∀ X, Below w.heap.size w X → Calls Try.prog 15 #[.pointer (some ⟨p, 0, none⟩), .int .i64 1, .agg (vB by_).toArray, .int .i64 now] X fun e w' => e = .returned (.int .i64 0) ∧ Below X.heap.size X w') := fun X k => refuses_ok (h.be k) 1 by_ now h1 h2 h3 (by rw [h4, Du.mover, if_pos h3]) h5
  have HIC : Hid ((Try.prog.info? tC).map (·.size) = some L.length) := by show _ = _; rw [hL]; exact Cm.info hc
  have HLL : Hid (L.length = 66) := by show _ = _; rw [hL]; exact Cm.len hc
  have HLO : Hid (L.toArray.all (·.oneCell') = true) := by show _ = _; rw [hL]; exact all_one (Cm.one c)
  obtain ⟨cn, hcn⟩ : ∃ n, n = c.n := ⟨_, rfl⟩
  have HL0 : Hid (L[0]? = some (.int .i64 cn)) := by show _ = _; rw [hL, hcn]; rfl
  obtain ⟨ln, hln⟩ : ∃ n, n = d.low.n := ⟨_, rfl⟩
  obtain ⟨hgh, hhn⟩ : ∃ n, n = d.high.n := ⟨_, rfl⟩
  rw [← hln] at a0 a1
  rw [← hhn] at b0 b1
  rw [← hcn, ← hln, ← hhn] at hn
  rw [← hln, ← hhn] at lh
  have HCL : Hid (∀ X, Below w.heap.size w X → X.cell? ⟨p, 42, none⟩ = some (.int .i64 ln)) := fun X k => by rw [hln]; exact (h.be k).c_ln
  have HSP : Hid (∀ X, Below w.heap.size w X → Calls Try.prog 16 #[.pointer (some ⟨p, 0, none⟩)] X fun e w' => e = .returned (.int .i64 (hgh - ln)) ∧ ∃ n, w' = X.drewN n) := fun X k => span_any X p ln hgh (by rw [hln]; exact (h.be k).c_ln) (by rw [hhn]; exact (h.be k).c_hn) a0 a1 b0 b1
  have HAW : Hid (∀ X, Dm X p { d with mid := c } → Calls Try.prog 13 #[.pointer (some ⟨p, 0, none⟩), .int .i64 2, lapL, .int .i64 now] X fun e w' => e = .returned (.tuple #[]) ∧ Dt X w' p d') := fun X k => await_any k 2 lapL rfl rfl now tm.1 tm.2 t0 t1 d' hd
  have HPM : Hid (∀ X, Row X p (d.cells.take 174 ++ L ++ d.cells.drop (174 + L.length)) tDl → Dm X p { d with mid := c }) := fun X r => ⟨by rw [hL, Du.put_mid h.wf hc] at r; exact r, ⟨h.wf.c, h.wf.f, h.wf.l, h.wf.h, hc, h.wf.o⟩⟩
  have HWF : Hid (d.cells.length = 245) := Du.len h.wf
  obtain ⟨q, hq⟩ : ∃ q, q = (hgh - ln).tdiv 2 := ⟨_, rfl⟩
  rw [← hq] at hn
  have HQ : Hid (q = (hgh - ln).tdiv 2) := hq
  clear h h1 h2 h3 h4 h5 hL hd tm hcn hln hhn hq hc
  go_enter Try.func6, Try.ntmps6
  go_upto_region 4 with (first
    | (refine wpList_bxG tAd rfl (.tmp 1) rfl (vB by_) rfl ?_; intro X1 q1 q2 q3; have R1 : Hid (Row X1 w.heap.size (vB by_) tAd) := q1; have B1 : Hid (Below w.heap.size w X1) := q2; clear q1 q2 q3; simp only [Act.put, List.setIfInBounds_toArray, List.set_cons_zero, List.set_cons_succ])
    | (refine wpList_bxG tC rfl (.tmp 2) rfl L rfl ?_; intro X2 q1 q2 q3; have R2 : Hid (Row X2 X1.heap.size L tC) := q1; have B2 : Hid (Below w.heap.size w X2) := B1.out.trans (q2.mono B1.out.size); have RA : Hid (Row X2 w.heap.size (vB by_) tAd) := Row.below R1.out q2 R1.out.lt; clear q1 q2 q3; simp only [Act.put, List.setIfInBounds_toArray, List.set_cons_zero, List.set_cons_succ])
    | (refine wpList_ldS rfl tAd (.tmp 5) rfl w.heap.size 0 rfl (vB by_) _ RA.out.all Try.underlying24 rfl (info_vA HLB.out) ?_; simp only [Act.put, List.setIfInBounds_toArray, List.set_cons_zero, List.set_cons_succ])
    | (go_at_call 15; refine Calls.mono (HREF.out _ B2.out) ?_; rintro e V ⟨rfl, q⟩; have B3 : Hid (Below w.heap.size w V) := B2.out.trans (q.mono B2.out.size); have R3 : Hid (Row V X1.heap.size L tC) := Row.below R2.out q R2.out.lt; have c0 := R3.out.cell 0 _ HL0.out; have cl := HCL.out V B3.out; clear q))
  obtain ⟨bC, hbC⟩ : ∃ b, b = X1.heap.size := ⟨_, rfl⟩
  have HSP2 : Hid (∀ m, Calls Try.prog 16 #[.pointer (some ⟨p, 0, none⟩)] (V.drewN m) fun e w' => e = .returned (.int .i64 (hgh - ln)) ∧ ∃ n, w' = (V.drewN m).drewN n) := fun m => HSP.out _ (below_drewN B3.out m)
  go_quiet (first | (go_at_call 16; exact Calls.quiet_of (HSP2.out _)))
  rw [show (hgh - ln) / 2 = q by rw [HQ.out, Int.tdiv_eq_ediv_of_nonneg (by omega)], bne_self_eq_false]
  generalize hV2 : V.drewN _ = V2
  have q2 : Below V.heap.size V V2 := by rw [← hV2]; exact drew_be _ _
  have B4 : Hid (Below w.heap.size w V2) := B3.out.trans (q2.mono B3.out.size)
  have R4 : Hid (Row V2 X1.heap.size L tC) := Row.below R3.out q2 R3.out.lt
  clear q2 hV2 c0 cl
  go_wp2_with (first
    | (refine wpList_ldS rfl tC (.tmp 6) rfl X1.heap.size 0 rfl L _ R4.out.all Try.underlying32 rfl HIC.out ?_; simp only [Act.put, List.setIfInBounds_toArray, List.set_cons_zero, List.set_cons_succ])
    | (refine wpList_stM rfl tC (.tmp 34) (.tmp 31) rfl p 174 L d.cells tDl rfl rfl (HD.out _ B4.out).row (by { rw [HWF.out, HLL.out]; decide }) HIC.out HLO.out ?_; intro X3 q1 q2; have D3 : Hid (Dm X3 p { d with mid := c }) := HPM.out _ q1; have G3 : Hid (Gro (· = p) w X3) := (Gro.of_below B4.out).trans q2; clear q1 q2)
    | (go_at_call 13; refine Calls.mono (HAW.out _ D3.out) ?_; rintro e X4 ⟨rfl, q⟩; have D4 : Hid (Dt w X4 p d') := ⟨q.1, G3.out.trans q.2⟩; clear q))
  go_ret
  exact ⟨rfl, D4.out⟩
def Du.picksU (d : Du) (now : Int) : Du := Du.awaits { d with low := d.mid, mid := zC, rds := d.rds + 1 } 1 lapW now
set_option maxRecDepth 100000 in
set_option maxHeartbeats 4000000 in
theorem pick_up {w : World} {p : Nat} {d : Du} (h : Dm w p d) (by_ : List (BitVec 8)) (now : Int) (h1 : isTmB now = true) (h2 : d.last ≤ now) (h3 : d.st = 2) (h4 : by_ = d.ch) (h5 : now ≤ d.unt)
    (a0 : 0 ≤ d.mid.n) (a1 : d.mid.n ≤ 1099511627776) (b0 : 0 ≤ d.high.n) (b1 : d.high.n ≤ 1099511627776) (hn : d.high.n - d.mid.n ≠ 1) (r0 : 0 ≤ d.rds) (r1 : d.rds ≤ 1099511627776) (t0 : 0 ≤ d.turn) (t1 : d.turn ≤ 1099511627776) (d' : Du) (hd : d' = d.picksU now) :
    Calls Try.prog 7 #[.pointer (some ⟨p, 0, none⟩), .agg (vB by_).toArray, .bool true, .int .i64 now] w fun e w' => e = .returned (.int .i64 0) ∧ Dt w w' p d' := by
  have tm : 0 ≤ now ∧ now ≤ 4611686018427387904 := by unfold isTmB at h1; simp only [Bool.and_eq_true, decide_eq_true_eq] at h1; exact h1
  have HLB : Hid (by_.length = 20) := by show _ = _; rw [h4]; exact h.wf.c
  have HREF : Hid (∀ X, Below w.heap.size w X → Calls Try.prog 15 #[.pointer (some ⟨p, 0, none⟩), .int .i64 2, .agg (vB by_).toArray, .int .i64 now] X fun e w' => e = .returned (.int .i64 0) ∧ Below X.heap.size X w') := fun X k => refuses_ok (h.be k) 2 by_ now h1 h2 h3 (by rw [h4, Du.mover, if_neg (by omega)]) h5
  obtain ⟨d1, hd1⟩ : ∃ x : Du, x = { d with low := d.mid } := ⟨_, rfl⟩
  obtain ⟨d2, hd2⟩ : ∃ x : Du, x = { d1 with mid := zC } := ⟨_, rfl⟩
  obtain ⟨d3, hd3⟩ : ∃ x : Du, x = { d2 with rds := d.rds + 1 } := ⟨_, rfl⟩
  have w1 : d1.Wf := by rw [hd1]; exact ⟨h.wf.c, h.wf.f, h.wf.m, h.wf.h, h.wf.m, h.wf.o⟩
  have w2 : d2.Wf := by rw [hd2]; exact ⟨w1.c, w1.f, w1.l, w1.h, zC_wf, w1.o⟩
  have w3 : d3.Wf := by rw [hd3]; exact ⟨w2.c, w2.f, w2.l, w2.h, w2.m, w2.o⟩
  obtain ⟨M, hM⟩ : ∃ L, L = d.mid.cells := ⟨_, rfl⟩
  obtain ⟨Z, hZ⟩ : ∃ Z, Z = zC.cells := ⟨_, rfl⟩
  obtain ⟨rn, hrn⟩ : ∃ n, n = d.rds := ⟨_, rfl⟩
  obtain ⟨ln, hln⟩ : ∃ n, n = d.mid.n := ⟨_, rfl⟩
  obtain ⟨hgh, hhn⟩ : ∃ n, n = d.high.n := ⟨_, rfl⟩
  have HB0 : Hid (Try.prog.built tC [] = some Z.toArray) := by show _ = _; rw [hZ]; exact built_c0
  have HZI : Hid ((Try.prog.info? tC).map (·.size) = some Z.length) := by show _ = _; rw [hZ]; exact Cm.info zC_wf
  have HZL : Hid (Z.length = 66) := by show _ = _; rw [hZ]; exact Cm.len zC_wf
  have HZO : Hid (Z.toArray.all (·.oneCell') = true) := by show _ = _; rw [hZ]; exact all_one (Cm.one zC)
  have HMI : Hid ((Try.prog.info? tC).map (·.size) = some M.length) := by show _ = _; rw [hM]; exact Cm.info h.wf.m
  have HML : Hid (M.length = 66) := by show _ = _; rw [hM]; exact Cm.len h.wf.m
  have HMO : Hid (M.toArray.all (·.oneCell') = true) := by show _ = _; rw [hM]; exact all_one (Cm.one _)
  have HMR : Hid (∀ X, Dm X p d → X.rangeAt p 174 M) := fun X k => by rw [hM]; exact k.mid
  have HD : Hid (∀ X, Below w.heap.size w X → Dm X p d) := fun X k => h.be k
  have HP1 : Hid (∀ X, Row X p (d.cells.take 42 ++ M ++ d.cells.drop (42 + M.length)) tDl → Dm X p d1) := fun X r => ⟨by rw [hM, Du.put_low h.wf h.wf.m] at r; rw [hd1]; exact r, w1⟩
  have HP2 : Hid (∀ X, Row X p (d1.cells.take 174 ++ Z ++ d1.cells.drop (174 + Z.length)) tDl → Dm X p d2) := fun X r => ⟨by rw [hZ, Du.put_mid w1 zC_wf] at r; rw [hd2]; exact r, w2⟩
  have HP3 : Hid (∀ X, Row X p (d2.cells.set 241 (.int .i64 (rn + 1))) tDl → Dm X p d3) := fun X r => ⟨by rw [hrn, Du.set_rds w2] at r; rw [hd3]; exact r, w3⟩
  have HR2 : Hid (∀ X, Dm X p d2 → X.cell? ⟨p, 241, none⟩ = some (.int .i64 rn)) := fun X k => by rw [hrn, show d.rds = d2.rds by rw [hd2, hd1]]; exact k.c_rds
  have HL0 : Hid (d.cells.length = 245) := Du.len h.wf
  have HL1 : Hid (d1.cells.length = 245) := Du.len w1
  have HL2 : Hid (d2.cells.length = 245) := Du.len w2
  rw [← hrn] at r0 r1
  rw [← hln] at a0 a1 hn
  rw [← hhn] at b0 b1 hn
  have HSP : Hid (∀ X, Dm X p d3 → Calls Try.prog 16 #[.pointer (some ⟨p, 0, none⟩)] X fun e w' => e = .returned (.int .i64 (hgh - ln)) ∧ ∃ n, w' = X.drewN n) := fun X k => span_any X p ln hgh (by rw [hln, show d.mid.n = d3.low.n by rw [hd3, hd2, hd1]]; exact k.c_ln) (by rw [hhn, show d.high.n = d3.high.n by rw [hd3, hd2, hd1]]; exact k.c_hn) a0 a1 b0 b1
  have HAW : Hid (∀ X, Dm X p d3 → Calls Try.prog 13 #[.pointer (some ⟨p, 0, none⟩), .int .i64 1, lapW, .int .i64 now] X fun e w' => e = .returned (.tuple #[]) ∧ Dt X w' p d') := fun X k => await_any k 1 lapW rfl rfl now tm.1 tm.2 (by rw [hd3, hd2, hd1]; exact t0) (by rw [hd3, hd2, hd1]; exact t1) d' (by rw [hd, hd3, hd2, hd1]; rfl)
  clear h h1 h2 h3 h4 h5 hd tm hln hhn hrn w1 w2 w3 hM hZ hd1 hd2 hd3 t0 t1
  go_enter Try.func7, Try.ntmps7
  go_wp2_with (first
    | (refine wpList_bxG tAd rfl (.tmp 1) rfl (vB by_) rfl ?_; intro X1 q1 q2 q3; have R1 : Hid (Row X1 w.heap.size (vB by_) tAd) := q1; have B1 : Hid (Below w.heap.size w X1) := q2; clear q1 q2 q3; simp only [Act.put, List.setIfInBounds_toArray, List.set_cons_zero, List.set_cons_succ])
    | (refine wpList_ldS rfl tAd (.tmp 5) rfl w.heap.size 0 rfl (vB by_) _ R1.out.all Try.underlying24 rfl (info_vA HLB.out) ?_; simp only [Act.put, List.setIfInBounds_toArray, List.set_cons_zero, List.set_cons_succ])
    | (go_at_call 15; refine Calls.mono (HREF.out _ B1.out) ?_; rintro e V ⟨rfl, q⟩; have B3 : Hid (Below w.heap.size w V) := B1.out.trans (q.mono B1.out.size); clear q)
    | (refine wpList_ldS rfl tC (.tmp 22) rfl p 174 rfl M _ (HMR.out _ (HD.out _ B3.out)) Try.underlying32 rfl HMI.out ?_; simp only [Act.put, List.setIfInBounds_toArray, List.set_cons_zero, List.set_cons_succ])
    | (refine wpList_stM rfl tC (.tmp 26) (.tmp 23) rfl p 42 M d.cells tDl rfl rfl (HD.out _ B3.out).row (by { rw [HL0.out, HML.out]; decide }) HMI.out HMO.out ?_; intro X3 q1 q2; have D3 : Hid (Dm X3 p d1) := HP1.out _ q1; have G3 : Hid (Gro (· = p) w X3) := (Gro.of_below B3.out).trans q2; clear q1 q2)
    | (refine wpList_blt rfl tC _ rfl [] rfl Z HB0.out ?_; simp only [Act.put, List.setIfInBounds_toArray, List.set_cons_zero, List.set_cons_succ])
    | (refine wpList_stM rfl tC (.tmp 40) (.tmp 37) rfl p 174 Z d1.cells tDl rfl rfl D3.out.row (by { rw [HL1.out, HZL.out]; decide }) HZI.out HZO.out ?_; intro X4 q1 q2; have D4 : Hid (Dm X4 p d2) := HP2.out _ q1; have G4 : Hid (Gro (· = p) w X4) := G3.out.trans q2; have cr := HR2.out _ D4.out; clear q1 q2)
    | (refine wpList_st1 rfl 3 (.tmp 49) (.tmp 46) rfl p 241 (.int .i64 (rn + 1)) d2.cells tDl rfl rfl rfl D4.out.row (by { rw [HL2.out]; decide }) info_int rfl ?_; intro X5 q1 q2; have D5 : Hid (Dm X5 p d3) := HP3.out _ q1; have G5 : Hid (Gro (· = p) w X5) := G4.out.trans q2; clear q1 q2 cr)
    | (go_at_call 16; refine Calls.mono (HSP.out _ D5.out) ?_; rintro e X6 ⟨rfl, q⟩; have D6 : Hid (Dm X6 p d3) := by { obtain ⟨n, rfl⟩ := q; exact D5.out.be (drew_be _ _) }; have G6 : Hid (Gro (· = p) w X6) := by { obtain ⟨n, rfl⟩ := q; exact G5.out.below (drew_be _ _) }; clear q)
    | (go_at_call 13; refine Calls.mono (HAW.out _ D6.out) ?_; rintro e X7 ⟨rfl, q⟩; have D7 : Hid (Dt w X7 p d') := ⟨q.1, G6.out.trans q.2⟩; clear q))
  go_ret
  exact ⟨rfl, D7.out⟩
theorem run_fnil (w : World) (f : Nat) : (binOp .eql 41 (.func (.func f) #[] #[]) .nilFunc).run Try.prog w = .ok (.bool false) w := by kernel_rfl
theorem wpList_fnil {ops : Array Oper} {rest : List Oper} {op : Oper} {a : Act} {w : World} {Q : Exit → Act → World → Prop} (hgd : op.guard = none) (x : Operand) (yt : TypeId) (ho : op.op = .binOp .eql 41 x (.const .nilFunc) yt) (f : Nat) (hx : a.eval x = .func (.func f) #[] #[]) (h : wpList Try.prog ops Q rest (a.put op.dst (.bool false)) w) : wpList Try.prog ops Q (op :: rest) a w :=
  wpList_plain hgd fun _ hK => by
    unfold Oper.wp execOp
    simp only [ho, hx]
    go_simp
    rw [run_fnil]
    exact hK _ _ h
set_option maxRecDepth 100000 in
set_option maxHeartbeats 4000000 in
theorem expire_early {w : World} {p : Nat} {d : Du} (h : Dm w p d) (now : Int) (h1 : isTmB now = true) (h2 : d.last ≤ now) (h3 : d.lap = lapW) (h5 : now ≤ d.unt) :
    Calls Try.prog 9 #[.pointer (some ⟨p, 0, none⟩), .int .i64 now] w fun e w' => e = .returned (.int .i64 174) ∧ w' = w := by
  have HGO : Hid (Calls Try.prog 18 #[.pointer (some ⟨p, 0, none⟩), .int .i64 now] w fun e w' => e = .returned (.bool true) ∧ w' = w) := goes_ok w p d.last now h.c_last h1 h2
  obtain ⟨u, hu⟩ : ∃ u, u = d.unt := ⟨_, rfl⟩
  have c1 := h.c_unt
  have c2 := h.c_lap
  rw [← hu] at c1 h5
  rw [h3] at c2
  unfold lapW at c2
  clear h h1 h2 h3 hu
  go_enter Try.func9, Try.ntmps9
  go_wp2_with (first
    | (go_at_call 18; refine Calls.mono HGO.out ?_; rintro e X ⟨rfl, rfl⟩)
    | (refine wpList_fnil rfl (.tmp 17) _ rfl _ rfl ?_; simp only [Act.put, List.setIfInBounds_toArray, List.set_cons_zero, List.set_cons_succ]))
  go_ret
  exact ⟨rfl, rfl⟩
set_option maxRecDepth 100000 in
set_option maxHeartbeats 4000000 in
theorem expire_won {w : World} {p : Nat} {d : Du} (h : Dm w p d) (now : Int) (h1 : isTmB now = true) (h2 : d.last ≤ now) (h3 : d.lap = lapW) (h5 : d.unt < now) (d' : Du) (hd : d' = Du.ends { d with last := now } 4) :
    Calls Try.prog 9 #[.pointer (some ⟨p, 0, none⟩), .int .i64 now] w fun e w' => e = .returned (.int .i64 0) ∧ Dt w w' p d' := by
  have HGO : Hid (Calls Try.prog 18 #[.pointer (some ⟨p, 0, none⟩), .int .i64 now] w fun e w' => e = .returned (.bool true) ∧ w' = w) := goes_ok w p d.last now h.c_last h1 h2
  obtain ⟨u, hu⟩ : ∃ u, u = d.unt := ⟨_, rfl⟩
  have c1 := h.c_unt
  have c2 := h.c_lap
  rw [← hu] at c1 h5
  rw [h3] at c2
  unfold lapW at c2
  obtain ⟨d1, hd1⟩ : ∃ x : Du, x = { d with last := now } := ⟨_, rfl⟩
  have w1 : d1.Wf := by rw [hd1]; exact ⟨h.wf.c, h.wf.f, h.wf.l, h.wf.h, h.wf.m, h.wf.o⟩
  have HR : Hid (Row w p d.cells tDl) := h.row
  have HL0 : Hid (d.cells.length = 245) := Du.len h.wf
  have HP1 : Hid (∀ X, Row X p (d.cells.set 243 (.int .i64 now)) tDl → Dm X p d1) := fun X r => ⟨by rw [Du.set_last h.wf] at r; rw [hd1]; exact r, w1⟩
  have HCL : Hid (∀ X, Dm X p d1 → X.cell? ⟨p, 244, none⟩ = some (.func (.func 14) #[] #[])) := fun X k => by have := k.c_lap; rw [hd1] at this; exact this.trans (by show some d.lap = _; rw [h3]; rfl)
  have HWN : Hid (∀ X, Dm X p d1 → Calls Try.prog 14 #[.pointer (some ⟨p, 0, none⟩)] X fun e w' => e = .returned (.tuple #[]) ∧ Dt X w' p d') := fun X k => win_any k d' (by rw [hd, hd1])
  clear h h1 h2 h3 hu hd hd1 w1
  go_enter Try.func9, Try.ntmps9
  go_wp2_with (first
    | (go_at_call 18; refine Calls.mono HGO.out ?_; rintro e w ⟨rfl, rfl⟩)
    | (refine wpList_fnil rfl (.tmp 17) _ rfl _ rfl ?_; simp only [Act.put, List.setIfInBounds_toArray, List.set_cons_zero, List.set_cons_succ])
    | (refine wpList_st1 rfl 3 (.tmp 30) (.tmp 28) rfl p 243 (.int .i64 now) d.cells tDl rfl rfl rfl HR.out (by { rw [HL0.out]; decide }) info_int rfl ?_; intro X5 q1 q2; have D5 : Hid (Dm X5 p d1) := HP1.out _ q1; have G5 : Hid (Gro (· = p) w X5) := q2; have c3 := HCL.out _ D5.out; clear q1 q2)
    | (go_at_call 14; refine Calls.mono (HWN.out _ D5.out) ?_; rintro e X6 ⟨rfl, q⟩; have D6 : Hid (Dt w X6 p d') := ⟨q.1, G5.out.trans q.2⟩; clear q))
  go_ret
  exact ⟨rfl, D6.out⟩

end Go.Proofs.Ytddkmpbcjieolaa
