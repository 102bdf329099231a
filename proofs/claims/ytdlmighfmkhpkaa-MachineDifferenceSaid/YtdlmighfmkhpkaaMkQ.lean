/-
  arg, needs.
-/
import Derived.Test.YtdlmighfmkhpkaaMkO

namespace Go.Proofs.Ytdlmighfmkhpkaa
open Go Go.RowKit
open Sha
open Wd
set_option maxRecDepth 100000 in
set_option maxHeartbeats 4000000 in
theorem leaveResult_ok (r T gs n : Nat) (pl : Value) (C : List Value) (h av stk : Value) (ss : List Nat) (l nx : Nat) (an : List Value) (ls : List Ins) (ags : List Nat) (x : Nat) (k0 w0 w : World) (H : Rn k0 w0 w r T gs n pl C h av stk ss l nx an ls ags) (hss : ss.length ≤ 1000) : Calls Try.prog 56 #[.pointer (some ⟨r, 0, none⟩), .agg (wq x).toArray, .int .i64 0] w fun e w' => e = .returned (.int .i64 0) ∧ ∃ stk', Rn k0 w0 w' r T gs n pl C h av stk' (ss ++ [x]) l nx an ls ags := by
  obtain ⟨L, hL⟩ : ∃ L, L = wq x := ⟨_, rfl⟩
  have HI : Hid ((Try.prog.info? 29).map (·.size) = some L.length) := by show _ = _; rw [hL]; exact info_Wq _
  have HLV : Hid (∀ W, Rn k0 w0 W r T gs n pl C h av stk ss l nx an ls ags → Calls Try.prog 55 #[.pointer (some ⟨r, 0, none⟩), .agg L.toArray] W fun e w' => e = .returned (.int .i64 0) ∧ ∃ stk', Rn k0 w0 w' r T gs n pl C h av stk' (ss ++ [x]) l nx an ls ags) := fun W hW => by rw [hL]; exact leave_any r T gs n pl C h av stk ss l nx an ls ags x k0 w0 W hW hss
  have HH : Hid (Rn k0 w0 w r T gs n pl C h av stk ss l nx an ls ags) := H
  rw [← hL]
  clear H hss hL
  go_enter Try.func56, Try.ntmps56
  go_wp2_with (first
    | (refine wpList_boxG 29 rfl (.tmp 1) rfl L rfl ?_; intro X q1 q2 q3; have R1 : Hid (Row X w.heap.size L 29) := q1; have HR : Hid (Rn k0 w0 X r T gs n pl C h av stk ss l nx an ls ags) := HH.out.keep q2; clear q1 q2 q3; simp only [Act.put, List.setIfInBounds_toArray, List.set_cons_zero, List.set_cons_succ])
    | (refine wpList_load_w rfl 29 (.tmp 4) rfl w.heap.size 0 rfl L _ R1.out.all Try.underlying29 rfl HI.out ?_; simp only [Act.put, List.setIfInBounds_toArray, List.set_cons_zero, List.set_cons_succ])
    | (go_at_call 55; refine Calls.mono (HLV.out X HR.out) ?_; rintro e Y ⟨rfl, stk', q⟩; have HQ : Hid (Rn k0 w0 Y r T gs n pl C h av stk' (ss ++ [x]) l nx an ls ags) := q; clear q))
  go_ret
  exact ⟨rfl, _, HQ.out⟩
set_option maxRecDepth 100000 in
set_option maxHeartbeats 4000000 in
theorem leaveResult_no (r T gs n : Nat) (pl : Value) (C : List Value) (h av stk : Value) (ss : List Nat) (l nx : Nat) (an : List Value) (ls : List Ins) (ags : List Nat) (x : Nat) (E : Int) (hE : (E != 0) = true) (k0 w0 w : World) (H : Rn k0 w0 w r T gs n pl C h av stk ss l nx an ls ags) : Calls Try.prog 56 #[.pointer (some ⟨r, 0, none⟩), .agg (wq x).toArray, .int .i64 E] w fun e w' => e = .returned (.int .i64 104) ∧ Rn k0 w0 w' r T gs n pl C h av stk ss l nx an ls ags := by
  obtain ⟨L, hL⟩ : ∃ L, L = wq x := ⟨_, rfl⟩
  have HH : Hid (Rn k0 w0 w r T gs n pl C h av stk ss l nx an ls ags) := H
  rw [← hL]
  clear H hL
  go_enter Try.func56, Try.ntmps56
  go_wp2_with (refine wpList_boxG 29 rfl (.tmp 1) rfl L rfl ?_; intro X q1 q2 q3; have HR : Hid (Rn k0 w0 X r T gs n pl C h av stk ss l nx an ls ags) := HH.out.keep q2; clear q1 q2 q3; simp only [Act.put, List.setIfInBounds_toArray, List.set_cons_zero, List.set_cons_succ])
  go_ret
  exact ⟨rfl, HR.out⟩
set_option maxRecDepth 100000 in
set_option maxHeartbeats 4000000 in
theorem add_ok (r T gs n : Nat) (pl : Value) (C : List Value) (h av stk : Value) (ss : List Nat) (l nx : Nat) (an : List Value) (ls : List Ins) (ags : List Nat) (I : List Value) (x y : Nat) (hx : x < 2 ^ 256) (hy : y < 2 ^ 256) (h3 : x + y < 2 ^ 256) (k0 w0 w : World) (H : Rn k0 w0 w r T gs n pl C h av stk (ss ++ [x] ++ [y]) l nx an ls ags) (hss : ss.length ≤ 900) : Calls Try.prog 25 #[.pointer (some ⟨r, 0, none⟩), .agg I.toArray] w fun e w' => e = .returned (.int .i64 0) ∧ ∃ stk', Rn k0 w0 w' r T gs n pl C h av stk' (ss ++ [x + y]) l nx an ls ags := by
  obtain ⟨LX, hLX⟩ : ∃ L, L = wq x := ⟨_, rfl⟩
  obtain ⟨LY, hLY⟩ : ∃ L, L = wq y := ⟨_, rfl⟩
  obtain ⟨LZ, hLZ⟩ : ∃ L, L = wq (x + y) := ⟨_, rfl⟩
  have HTT : Hid (∀ W, Rn k0 w0 W r T gs n pl C h av stk (ss ++ [x] ++ [y]) l nx an ls ags → Calls Try.prog 58 #[.pointer (some ⟨r, 0, none⟩)] W fun e w' => e = .returned (.tuple #[.agg LX.toArray, .agg LY.toArray]) ∧ W.heap.size ≤ w'.heap.size ∧ (∀ {b : Nat} {cs : List Value} {t : TypeId}, Row W b cs t → b ≠ r → Row w' b cs t) ∧ ∃ stk', Rn k0 w0 w' r T gs n pl C h av stk' ss l nx an ls ags) := fun W hW => by rw [hLX, hLY]; exact takeTwo_any r T gs n pl C h av stk ss l nx an ls ags x y k0 w0 W hW hss
  have HOP : Hid (∀ W, Calls Try.prog 57 #[.agg LX.toArray, .agg LY.toArray] W fun e w' => e = .returned (.tuple #[.agg LZ.toArray, .int .i64 0]) ∧ Below W.heap.size W w') := fun W => by
    rw [hLX, hLY, hLZ]
    have q := add_any x y hx hy W
    unfold addR addE at q
    rw [if_pos h3, if_pos h3] at q
    exact q
  have HLR : Hid (∀ stk' W, Rn k0 w0 W r T gs n pl C h av stk' ss l nx an ls ags → Calls Try.prog 56 #[.pointer (some ⟨r, 0, none⟩), .agg LZ.toArray, .int .i64 0] W fun e w' => e = .returned (.int .i64 0) ∧ ∃ stk'', Rn k0 w0 w' r T gs n pl C h av stk'' (ss ++ [x + y]) l nx an ls ags) := fun stk' W hW => by rw [hLZ]; exact leaveResult_ok r T gs n pl C h av stk' ss l nx an ls ags _ k0 w0 W hW (by omega)
  have HH : Hid (Rn k0 w0 w r T gs n pl C h av stk (ss ++ [x] ++ [y]) l nx an ls ags) := H
  clear H hss hLX hLY hLZ hx hy h3
  go_enter Try.func25, Try.ntmps25
  go_wp2_with (first
    | (refine wpList_boxG 64 rfl (.tmp 1) rfl I rfl ?_; intro X1 q1 q2 q3; have HR : Hid (Rn k0 w0 X1 r T gs n pl C h av stk (ss ++ [x] ++ [y]) l nx an ls ags) := HH.out.keep q2; clear q1 q2 q3; simp only [Act.put, List.setIfInBounds_toArray, List.set_cons_zero, List.set_cons_succ])
    | (go_at_call 58; refine Calls.mono (HTT.out X1 HR.out) ?_; rintro e X2 ⟨rfl, _, _, stk2, q⟩; have HR2 : Hid (Rn k0 w0 X2 r T gs n pl C h av stk2 ss l nx an ls ags) := q; clear q)
    | (go_at_call 57; refine Calls.mono (HOP.out X2) ?_; rintro e X3 ⟨rfl, q⟩; have HR3 : Hid (Rn k0 w0 X3 r T gs n pl C h av stk2 ss l nx an ls ags) := HR2.out.keep q; clear q)
    | (go_at_call 56; refine Calls.mono (HLR.out stk2 X3 HR3.out) ?_; rintro e X4 ⟨rfl, stk4, q⟩; have HR4 : Hid (Rn k0 w0 X4 r T gs n pl C h av stk4 (ss ++ [x + y]) l nx an ls ags) := q; clear q))
  go_ret
  exact ⟨rfl, _, HR4.out⟩
set_option maxRecDepth 100000 in
set_option maxHeartbeats 4000000 in
theorem done_any (r T gs n : Nat) (pl : Value) (C : List Value) (h av stk : Value) (ss : List Nat) (l nx : Nat) (an : List Value) (ls : List Ins) (ags : List Nat) (I : List Value) (x : Nat) (k0 w0 w : World) (H : Rn k0 w0 w r T gs n pl C h av stk (ss ++ [x]) l nx an ls ags) (hss : ss.length ≤ 1000) : Calls Try.prog 20 #[.pointer (some ⟨r, 0, none⟩), .agg I.toArray] w fun e w' => e = .returned (.int .i64 0) ∧ ∃ stk', Rn k0 w0 w' r T gs n pl C h av stk' ss l nx (wq x) ls ags := by
  obtain ⟨L, hL⟩ : ∃ L, L = wq x := ⟨_, rfl⟩
  have HTK : Hid (∀ W, Rn k0 w0 W r T gs n pl C h av stk (ss ++ [x]) l nx an ls ags → Calls Try.prog 54 #[.pointer (some ⟨r, 0, none⟩)] W fun e w' => e = .returned (.agg L.toArray) ∧ W.heap.size ≤ w'.heap.size ∧ (∀ {b : Nat} {cs : List Value} {t : TypeId}, Row W b cs t → b ≠ r → Row w' b cs t) ∧ ∃ stk', stk'.ownBlock = stk.ownBlock ∧ Rn k0 w0 w' r T gs n pl C h av stk' ss l nx an ls ags) := fun W hW => by rw [hL]; exact take_any r T gs n pl C h av stk ss l nx an ls ags x k0 w0 W hW hss
  have HH : Hid (Rn k0 w0 w r T gs n pl C h av stk (ss ++ [x]) l nx an ls ags) := H
  have HI : Hid ((Try.prog.info? 29).map (·.size) = some L.toArray.size) := by show _ = _; rw [hL, List.size_toArray]; exact info_Wq _
  have HO : Hid (L.toArray.all (·.oneCell') = true) := by show _ = _; rw [hL]; exact wq_one _
  have HL4 : Hid (L.length = 4) := by show _ = _; rw [hL]; exact wq_len _
  rw [← hL]
  clear H hss hL
  go_enter Try.func20, Try.ntmps20
  go_wp2_with (first
    | (refine wpList_boxG 64 rfl (.tmp 1) rfl I rfl ?_; intro X1 q1 q2 q3; have HR : Hid (Rn k0 w0 X1 r T gs n pl C h av stk (ss ++ [x]) l nx an ls ags) := HH.out.keep q2; clear q1 q2 q3; simp only [Act.put, List.setIfInBounds_toArray, List.set_cons_zero, List.set_cons_succ])
    | (go_at_call 54; refine Calls.mono (HTK.out X1 HR.out) ?_; rintro e X2 ⟨rfl, _, _, stk2, _, q⟩; have HR2 : Hid (Rn k0 w0 X2 r T gs n pl C h av stk2 ss l nx an ls ags) := q; clear q)
    | (refine wpList_store_mid rfl 29 (.tmp 9) (.tmp 7) rfl r 55 L.toArray rfl rfl (HR2.out.row.there 55 _ (by rw [List.size_toArray, HL4.out, rc_len HR2.out.clen HR2.out.alen]; decide)) HI.out HO.out ?_; obtain ⟨Y, hY⟩ : ∃ Y, Y = X2.setCells r 55 L.toArray.toList := ⟨_, rfl⟩; rw [← hY]; have EY : Hid (Y = X2.setCells r 55 L) := hY; clear hY; simp only [Act.put]))
  go_ret
  refine ⟨rfl, stk2, HR2.out.over (by rw [EY.out]; exact gro_over (Gro.refl _ _) r 55 _ rfl) HL4.out ?_⟩
  have q := Row.setCells 55 L HR2.out.row (by rw [HL4.out, rc_len HR2.out.clen HR2.out.alen]; decide)
  rw [rc_ans HR2.out.clen HR2.out.alen L HL4.out, ← EY.out] at q
  exact q

end Go.Proofs.Ytdlmighfmkhpkaa

namespace Go.Proofs.Ytdlmighfmkhpkaa
open Go Go.RowKit
open Sha
open Wd
set_option maxRecDepth 100000 in
set_option maxHeartbeats 4000000 in
theorem arg_in (r T gs n : Nat) (pl : Value) (C : List Value) (h av stk : Value) (ss : List Nat) (l nx : Nat) (an : List Value) (ls : List Ins) (ags : List Nat) (ci pi ai ni x : Nat) (hx : ags[ni]? = some x) (hl : ags.length ≤ 8) (k0 w0 w : World) (H : Rn k0 w0 w r T gs n pl C h av stk ss l nx an ls ags) (hss : ss.length ≤ 1000) : Calls Try.prog 35 #[.pointer (some ⟨r, 0, none⟩), .agg (ic ci pi ai ni).toArray] w fun e w' => e = .returned (.int .i64 0) ∧ ∃ stk', Rn k0 w0 w' r T gs n pl C h av stk' (ss ++ [x]) l nx an ls ags := by
  have hni : ni < ags.length := (List.getElem?_eq_some_iff.1 hx).1
  obtain ⟨ga, ca, hav, hca⟩ := Lw.open H.arg (by omega)
  subst hav
  have HH : Hid (Rn k0 w0 w r T gs n pl C h (.slice (some ⟨ga, 0, none⟩) ags.length ca) stk ss l nx an ls ags) := H
  obtain ⟨L, hL⟩ : ∃ L, L = ic ci pi ai ni := ⟨_, rfl⟩
  have HIC : Hid (L = ic ci pi ai ni) := hL
  rw [← hL]
  obtain ⟨k, hk⟩ : ∃ k, k = ags.length := ⟨_, rfl⟩
  have HK : Hid (k = ags.length) := hk
  rw [← hk] at hni hl
  obtain ⟨x0, hx0⟩ : ∃ a, a = ((lim x 0 : Nat) : Int) := ⟨_, rfl⟩
  obtain ⟨x1, hx1⟩ : ∃ a, a = ((lim x 1 : Nat) : Int) := ⟨_, rfl⟩
  obtain ⟨x2, hx2⟩ : ∃ a, a = ((lim x 2 : Nat) : Int) := ⟨_, rfl⟩
  obtain ⟨x3, hx3⟩ : ∃ a, a = ((lim x 3 : Nat) : Int) := ⟨_, rfl⟩
  have hX : wq x = [.int .u64 x0, .int .u64 x1, .int .u64 x2, .int .u64 x3] := by rw [wq_cells, hx0, hx1, hx2, hx3]
  have HXX : Hid (ags[ni]? = some x) := hx
  have HX : Hid (wq x = [.int .u64 x0, .int .u64 x1, .int .u64 x2, .int .u64 x3]) := hX
  have HLV : Hid (∀ W, Rn k0 w0 W r T gs n pl C h (.slice (some ⟨ga, 0, none⟩) ags.length ca) stk ss l nx an ls ags → Calls Try.prog 55 #[.pointer (some ⟨r, 0, none⟩), .agg #[.int .u64 x0, .int .u64 x1, .int .u64 x2, .int .u64 x3]] W fun e w' => e = .returned (.int .i64 0) ∧ ∃ stk', Rn k0 w0 w' r T gs n pl C h (.slice (some ⟨ga, 0, none⟩) ags.length ca) stk' (ss ++ [x]) l nx an ls ags) := fun W hW => by
    have q := leave_any r T gs n pl C h _ stk ss l nx an ls ags x k0 w0 W hW hss
    rw [hX] at q
    exact q
  clear H hss hL hx0 hx1 hx2 hx3 hX hx hk hca
  go_enter Try.func35, Try.ntmps35
  go_upto_region 1 with (refine wpList_boxG 64 rfl (.tmp 1) rfl L rfl ?_; intro X q1 q2 q3; have R1 : Hid (Row X w.heap.size L 64) := q1; have HR : Hid (Rn k0 w0 X r T gs n pl C h (.slice (some ⟨ga, 0, none⟩) ags.length ca) stk ss l nx an ls ags) := HH.out.keep q2; clear q1 q2 q3; simp only [Act.put, List.setIfInBounds_toArray, List.set_cons_zero, List.set_cons_succ])
  have c6 : X.cell? ⟨w.heap.size, 6, none⟩ = some (.int .i64 (ni : Int)) := R1.out.cell 6 _ (by rw [HIC.out]; exact ic_6 _ _ _ _)
  have c48 : X.cell? ⟨r, 48, none⟩ = some (.slice (some ⟨ga, 0, none⟩) k ca) := by
    rw [HK.out]
    exact HR.out.row.cell 48 _ ((rc_low HR.out.clen 45 (by decide)).trans HR.out.cargs)
  obtain ⟨b3, hb3⟩ : ∃ b, b = w.heap.size := ⟨_, rfl⟩
  rw [← hb3] at c6
  rw [← hb3]
  have RG : X.rangeAt ga (ni * 4) [.int .u64 x0, .int .u64 x1, .int .u64 x2, .int .u64 x3] := by
    rw [← HX.out]
    exact fw_at (Lw.range HR.out.arg) ni x HXX.out
  have a0 : X.cell? ⟨ga, ni * 4, none⟩ = some (.int .u64 x0) := RG 0 _ rfl
  have a1 : X.cell? ⟨ga, ni * 4 + 1, none⟩ = some (.int .u64 x1) := RG 1 _ rfl
  have a2 : X.cell? ⟨ga, ni * 4 + 2, none⟩ = some (.int .u64 x2) := RG 2 _ rfl
  have a3 : X.cell? ⟨ga, ni * 4 + 3, none⟩ = some (.int .u64 x3) := RG 3 _ rfl
  clear hb3 RG R1 HIC
  go_quiet (fail)
  go_upto_region 3 with fail
  go_region_law (refine stp_fn rfl 55 rfl #[.pointer (some ⟨r, 0, none⟩), .agg #[.int .u64 x0, .int .u64 x1, .int .u64 x2, .int .u64 x3]] (by go_simp) (Calls.mono (HLV.out _ (HR.out.drewN _)) ?_); rintro e Y ⟨rfl, stk', q⟩; refine ⟨_, rfl, ?_⟩; have HQ : Hid (Rn k0 w0 Y r T gs n pl C h (.slice (some ⟨ga, 0, none⟩) ags.length ca) stk' (ss ++ [x]) l nx an ls ags) := q; clear q)
  all_goals
    clear a0 a1 a2 a3 c6 c48
    go_wp2
    go_ret
    exact ⟨rfl, _, HQ.out⟩
set_option maxRecDepth 100000 in
set_option maxHeartbeats 4000000 in
theorem needs_any (nm f : Value) (k g t lv : Nat) (hk2 : ((k : Int) == 2) = false) (hk3 : ((k : Int) == 3) = false) (I : List Value) (w : World) : Calls Try.prog 82 #[.agg #[nm, .int .i64 (k : Int), .int .i64 (g : Int), .int .i64 (t : Int), .int .i64 (lv : Int), f], .agg I.toArray] w fun e w' => e = .returned (.tuple #[.int .i64 (t : Int), .int .i64 (lv : Int)]) ∧ Below w.heap.size w w' := by
  go_enter Try.func82, Try.ntmps82
  go_upto_region 1 with (first
    | (refine wpList_boxG 72 rfl (.tmp 0) rfl [nm, .int .i64 (k : Int), .int .i64 (g : Int), .int .i64 (t : Int), .int .i64 (lv : Int), f] rfl ?_; intro X q1 q2 q3; have R1 : Hid (Row X w.heap.size [nm, .int .i64 (k : Int), .int .i64 (g : Int), .int .i64 (t : Int), .int .i64 (lv : Int), f] 72) := q1; have B1 : Hid (Below w.heap.size w X) := q2; clear q1 q2 q3; simp only [Act.put, List.setIfInBounds_toArray, List.set_cons_zero, List.set_cons_succ])
    | (refine wpList_boxG 64 rfl (.tmp 1) rfl I rfl ?_; intro Y q1 q2 q3; have B2 : Hid (Below X.heap.size X Y) := q2; clear q1 q2 q3; simp only [Act.put, List.setIfInBounds_toArray, List.set_cons_zero, List.set_cons_succ]))
  have R2 := Row.below R1.out B2.out R1.out.lt
  have c1 := R2.cell 1 _ rfl
  have c3 := R2.cell 3 _ rfl
  have c4 := R2.cell 4 _ rfl
  have BB : Hid (Below w.heap.size w Y) := B1.out.trans (B2.out.mono B1.out.size)
  clear R2 R1 B1 B2
  go_upto_region 5 with fail
  go_quiet (fail)
  go_wp2
  go_ret2
  exact ⟨rfl, below_drewN BB.out _⟩

end Go.Proofs.Ytdlmighfmkhpkaa
