/-
  laws for the law's run.
-/
import Derived.Test.YtabcglakdlkdcaaMkR
import Derived.WalkMore
import Derived.ArgAppend

namespace Go.Proofs.Ytabcglakdlkdcaa
open Go Go.RowKit
open Sha
open Wd
theorem cf_arg (args : Array Value) (W : World) : (callFunc 33 args).run Try.prog W = .ok (.enter 33 args) W := by
  go_simp
theorem cf_add (args : Array Value) (W : World) : (callFunc 23 args).run Try.prog W = .ok (.enter 23 args) W := by
  go_simp
theorem cf_done (args : Array Value) (W : World) : (callFunc 18 args).run Try.prog W = .ok (.enter 18 args) W := by
  go_simp
theorem stp_arg (r T gs n : Nat) (pl : Value) (C : List Value) (h av stk : Value) (ss : List Nat) (l nx : Nat) (an : List Value) (ls : List Ins) (ags : List Nat) (pi ni x : Nat) (hx : ags[ni]? = some x) (h8 : ags.length ≤ 8) (hs : ss.length ≤ 60) (hg : 2 ≤ l) (hl : l ≤ 10000) (hnx : nx ≤ 1024) (k0 w0 w : World) (H : Rn k0 w0 w r T gs n pl C h av stk (ss) l nx an ls ags) : Calls Try.prog 47 #[.pointer (some ⟨r, 0, none⟩), .agg (ic 16 pi 0 ni).toArray] w fun e w' => ∃ v, e = .returned (.int .i64 v) ∧ (v = 0 ∧ ∃ stk', Rn k0 w0 w' r T gs n pl C h av stk' (ss ++ [x]) (l - 2) (nx + 1) (an) ls ags) := by
  refine step_any r T gs n pl C h av stk (ss) l nx an ls ags 16 pi 0 ni _ 4 2 0 1 33 (by decide) rfl rfl rfl hg hl (by simp) (by simp; omega) (by decide) hnx k0 w0 w H _ cf_arg ?_
  intro W hW
  refine Calls.mono (arg_in r T gs n pl C h av stk ss _ _ an ls ags 16 pi 0 ni x hx h8 k0 w0 W hW (by omega)) ?_
  rintro e w' ⟨rfl, q⟩
  exact ⟨0, rfl, rfl, q⟩
theorem stp_add (r T gs n : Nat) (pl : Value) (C : List Value) (h av stk : Value) (ss : List Nat) (l nx : Nat) (an : List Value) (ls : List Ins) (ags : List Nat) (pi ni x y : Nat) (hx : x < 2 ^ 256) (hy : y < 2 ^ 256) (h3 : x + y < 2 ^ 256) (hs : ss.length ≤ 60) (hg : 2 ≤ l) (hl : l ≤ 10000) (hnx : nx ≤ 1024) (k0 w0 w : World) (H : Rn k0 w0 w r T gs n pl C h av stk (ss ++ [x] ++ [y]) l nx an ls ags) : Calls Try.prog 47 #[.pointer (some ⟨r, 0, none⟩), .agg (ic 6 pi 0 ni).toArray] w fun e w' => ∃ v, e = .returned (.int .i64 v) ∧ (v = 0 ∧ ∃ stk', Rn k0 w0 w' r T gs n pl C h av stk' (ss ++ [x + y]) (l - 2) (nx + 1) (an) ls ags) := by
  refine step_any r T gs n pl C h av stk (ss ++ [x] ++ [y]) l nx an ls ags 6 pi 0 ni _ 0 2 2 1 23 (by decide) rfl rfl rfl hg hl (by simp) (by simp; omega) (by decide) hnx k0 w0 w H _ cf_add ?_
  intro W hW
  refine Calls.mono (add_ok r T gs n pl C h av stk ss _ _ an ls ags _ x y hx hy h3 k0 w0 W hW (by omega)) ?_
  rintro e w' ⟨rfl, q⟩
  exact ⟨0, rfl, rfl, q⟩
theorem stp_done (r T gs n : Nat) (pl : Value) (C : List Value) (h av stk : Value) (ss : List Nat) (l nx : Nat) (an : List Value) (ls : List Ins) (ags : List Nat) (pi ni x : Nat)  (hs : ss.length ≤ 60) (hg : 1 ≤ l) (hl : l ≤ 10000) (hnx : nx ≤ 1024) (k0 w0 w : World) (H : Rn k0 w0 w r T gs n pl C h av stk (ss ++ [x]) l nx an ls ags) : Calls Try.prog 47 #[.pointer (some ⟨r, 0, none⟩), .agg (ic 1 pi 0 ni).toArray] w fun e w' => ∃ v, e = .returned (.int .i64 v) ∧ (v = 0 ∧ ∃ stk', Rn k0 w0 w' r T gs n pl C h av stk' (ss) (l - 1) (nx + 1) (wq x) ls ags) := by
  refine step_any r T gs n pl C h av stk (ss ++ [x]) l nx an ls ags 1 pi 0 ni _ 0 1 1 0 18 (by decide) rfl rfl rfl hg hl (by simp) (by simp; omega) (by decide) hnx k0 w0 w H _ cf_done ?_
  intro W hW
  refine Calls.mono (done_any r T gs n pl C h av stk ss _ _ an ls ags _ x k0 w0 W hW (by omega)) ?_
  rintro e w' ⟨rfl, q⟩
  exact ⟨0, rfl, rfl, q⟩

end Go.Proofs.Ytabcglakdlkdcaa

namespace Go.Proofs.Ytabcglakdlkdcaa
open Go Go.RowKit
open Sha
open Wd

abbrev zR : List Value := [.int .u64 0, .int .u64 0, .int .u64 0, .int .u64 0, .int .i64 0]
section
variable {ops : Array Oper} {rest : List Oper} {op : Oper} {a : Act} {w : World} {Q : Exit → Act → World → Prop}
theorem wpList_allocR (hgd : op.guard = none) (ho : op.op = .alloc 35) (h : ∀ X, Row X w.heap.size zR 35 → Below w.heap.size w X → X.heap.size = w.heap.size + 1 → wpList Try.prog ops Q rest (a.put op.dst (.pointer (some ⟨w.heap.size, 0, none⟩))) X) : wpList Try.prog ops Q (op :: rest) a w :=
  wpList_plain hgd fun _ hK => by
    unfold Oper.wp execOp
    simp only [ho]
    go_simp
    exact hK _ _ (h _ (Row.new' (cs := zR) rfl rfl) ((Below.refl _ _).alloc (Nat.le_refl _) _) (by simp))
end
theorem info_Ran : (Try.prog.info? 35).map (·.size) = some 5 := by kernel_rfl
/-- The program of the law's `alive`. -/
def alv : List Ins := [⟨16, 0, 0, 0⟩, ⟨16, 2, 0, 1⟩, ⟨6, 4, 0, 0⟩, ⟨1, 5, 0, 0⟩]
set_option maxRecDepth 100000 in
set_option maxHeartbeats 4000000 in
theorem all_alive (r T gs : Nat) (pl : Value) (C : List Value) (h av stk0 : Value) (an : List Value) (hgas : C[47]? = some (.int .i64 100)) (k0 w0 w : World) (H : Rn k0 w0 w r T gs 6 pl C h av stk0 [] 100 0 an alv [5, 7]) : Calls Try.prog 16 #[.pointer (some ⟨r, 0, none⟩)] w fun e w' => e = .returned (.tuple #[.agg #[.int .u64 12, .int .u64 0, .int .u64 0, .int .u64 0, .int .i64 7], .int .i64 0]) ∧ Below w0.heap.size w0 w' := by
  obtain ⟨g, cp, hpl, hcp⟩ := Lw.open H.prg (by decide)
  subst hpl
  have HH : Hid (Rn k0 w0 w r T gs 6 (.slice (some ⟨g, 0, none⟩) 4 cp) C h av stk0 [] 100 0 an alv [5, 7]) := H
  have HG : Hid (C[47]? = some (.int .i64 100)) := hgas
  clear H hgas hcp
  go_enter Try.func16, Try.ntmps16
  go_upto_region 1 with (refine wpList_allocR rfl rfl ?_; intro X0 q1 q2 q3; have RB0 : Hid (Row X0 w.heap.size zR 35) := q1; have HR0 : Hid (Rn X0 w0 X0 r T gs 6 (.slice (some ⟨g, 0, none⟩) 4 cp) C h av stk0 [] 100 0 an alv [5, 7]) := (HH.out.keep q2).rebase; clear q1 q2 q3; simp only [Act.put, List.setIfInBounds_toArray, List.set_cons_zero, List.set_cons_succ])
  obtain ⟨b2, hb2⟩ : ∃ b, b = w.heap.size := ⟨_, rfl⟩
  rw [← hb2] at RB0
  rw [← hb2]
  have HB2 : Hid (w0.heap.size ≤ b2) := by show _ ≤ _; rw [hb2]; exact HH.out.be.size
  clear hb2 HH
  have c1 : X0.cell? ⟨r, 1, none⟩ = some (.slice (some ⟨g, 0, none⟩) 4 cp) := HR0.out.row.cell 1 _ rfl
  go_step3
  go_wp2_with fail
  go_step3
  go_wp2_with fail
  refine wp_loop_rounds 5 ?_
  clear c1
  rw [rounds_succ]
  have c54 : X0.cell? ⟨r, 54, none⟩ = some (.int .i64 0) := HR0.out.row.cell 54 _ (rc_hi HR0.out.clen 3)
  obtain ⟨L, hL⟩ : ∃ L, L = ic 16 0 0 0 := ⟨_, rfl⟩
  have HL : Hid (L = ic 16 0 0 0) := hL
  have RG : Hid (X0.rangeAt g 0 L) := by rw [hL]; exact fl_at (Lw.range HR0.out.prg) 0 ⟨16, 0, 0, 0⟩ rfl
  have HI : Hid ((Try.prog.info? 77).map (·.size) = some L.length) := by show _ = _; rw [hL]; exact info_Ic _ _ _ _
  have HN7 : Hid (L.length = zI.length) := by show _ = _; rw [hL]; exact ic_len _ _ _ _
  have HO : Hid (L.toArray.all (·.oneCell') = true) := by show _ = _; rw [hL]; exact ic_one _ _ _ _
  clear hL
  go_upto_region 5 with (first
    | (refine wpList_load_w rfl 77 (.tmp 25) rfl g 0 rfl L _ RG.out Try.underlying77 rfl HI.out ?_; simp only [Act.put, List.setIfInBounds_toArray, List.set_cons_zero, List.set_cons_succ])
    | (refine wpList_allocI rfl rfl ?_; intro Y1 q1 q2 q3; have R2 : Hid (Row Y1 X0.heap.size zI 77) := q1; have B2 : Hid (Below X0.heap.size X0 Y1) := q2; clear q1 q2 q3; simp only [Act.put, List.setIfInBounds_toArray, List.set_cons_zero, List.set_cons_succ])
    | (refine wpList_storeL rfl 77 (.tmp 5) (.tmp 26) rfl X0.heap.size L zI 77 rfl rfl R2.out HN7.out HI.out HO.out ?_; intro Y2 q1 q2; have E2 : Hid (Y2 = _) := q1; have R3 : Hid (Row Y2 X0.heap.size L 77) := q2; clear q1 q2; simp only [Act.put]))
  have BY : Below X0.heap.size X0 Y2 := by rw [E2.out]; exact below_setCells B2.out (Nat.le_refl _) _
  have HRY : Hid (Rn Y2 w0 Y2 r T gs 6 (.slice (some ⟨g, 0, none⟩) 4 cp) C h av stk0 ([]) 100 0 an alv [5, 7]) := (HR0.out.keep BY).rebase
  have RBY : Hid (Row Y2 b2 zR 35) := Row.below RB0.out BY RB0.out.lt
  obtain ⟨pl, hpl⟩ : ∃ pl, pl = Value.slice (some ⟨g, 0, none⟩) 4 cp := ⟨_, rfl⟩
  have HS : Hid (Calls Try.prog 47 #[.pointer (some ⟨r, 0, none⟩), .agg L.toArray] Y2 fun e w' => ∃ v, e = .returned (.int .i64 v) ∧ (v = 0 ∧ ∃ stk', Rn Y2 w0 w' r T gs 6 (.slice (some ⟨g, 0, none⟩) 4 cp) C h av stk' ([] ++ [5]) 98 1 an alv [5, 7])) := by
    rw [HL.out, ← hpl]
    have q := HRY.out
    rw [← hpl] at q
    exact stp_arg r T gs 6 pl C h av stk0 [] 100 0 an alv [5, 7] 0 0 5 rfl (by decide) (by decide) (by decide) (by decide) (by decide) Y2 w0 Y2 q
  obtain ⟨b5, hb5⟩ : ∃ b, b = X0.heap.size := ⟨_, rfl⟩
  rw [← hb5] at R3
  rw [← hb5]
  clear hb5 hpl c54 E2 R2 B2 BY RG HN7 HO HR0 RB0
  go_upto_region 6 with (first
    | (refine wpList_load_w rfl 77 (.tmp 5) rfl b5 0 rfl L _ R3.out.all Try.underlying77 rfl HI.out ?_; simp only [Act.put, List.setIfInBounds_toArray, List.set_cons_zero, List.set_cons_succ])
    | (go_at_call 47; refine Calls.mono HS.out ?_; rintro e X1 ⟨v, rfl, rfl, stk1, q⟩; have HR1 : Hid (Rn X1 w0 X1 r T gs 6 (.slice (some ⟨g, 0, none⟩) 4 cp) C h av stk1 ([] ++ [5]) 98 1 an alv [5, 7]) := q.rebase; have RB1 : Hid (Row X1 b2 zR 35) := q.kp (by decide) (by decide) RBY.out; have R5 : Hid (Row X1 b5 L 77) := q.kp (by decide) (by decide) R3.out; clear q))
  have ci0 : X1.cell? ⟨b5, 0, none⟩ = some (.int .i64 16) := R5.out.cell 0 _ (by rw [HL.out]; rfl)
  clear HS HRY RBY R3 R5 HL HI
  go_wp2_with fail
  clear ci0
  rw [rounds_succ]
  have c54 : X1.cell? ⟨r, 54, none⟩ = some (.int .i64 1) := HR1.out.row.cell 54 _ (rc_hi HR1.out.clen 3)
  obtain ⟨L, hL⟩ : ∃ L, L = ic 16 2 0 1 := ⟨_, rfl⟩
  have HL : Hid (L = ic 16 2 0 1) := hL
  have RG : Hid (X1.rangeAt g 7 L) := by rw [hL]; exact fl_at (Lw.range HR1.out.prg) 1 ⟨16, 2, 0, 1⟩ rfl
  have HI : Hid ((Try.prog.info? 77).map (·.size) = some L.length) := by show _ = _; rw [hL]; exact info_Ic _ _ _ _
  have HN7 : Hid (L.length = zI.length) := by show _ = _; rw [hL]; exact ic_len _ _ _ _
  have HO : Hid (L.toArray.all (·.oneCell') = true) := by show _ = _; rw [hL]; exact ic_one _ _ _ _
  clear hL
  go_upto_region 5 with (first
    | (refine wpList_load_w rfl 77 (.tmp 25) rfl g 7 rfl L _ RG.out Try.underlying77 rfl HI.out ?_; simp only [Act.put, List.setIfInBounds_toArray, List.set_cons_zero, List.set_cons_succ])
    | (refine wpList_allocI rfl rfl ?_; intro Y1 q1 q2 q3; have R2 : Hid (Row Y1 X1.heap.size zI 77) := q1; have B2 : Hid (Below X1.heap.size X1 Y1) := q2; clear q1 q2 q3; simp only [Act.put, List.setIfInBounds_toArray, List.set_cons_zero, List.set_cons_succ])
    | (refine wpList_storeL rfl 77 (.tmp 5) (.tmp 26) rfl X1.heap.size L zI 77 rfl rfl R2.out HN7.out HI.out HO.out ?_; intro Y2 q1 q2; have E2 : Hid (Y2 = _) := q1; have R3 : Hid (Row Y2 X1.heap.size L 77) := q2; clear q1 q2; simp only [Act.put]))
  have BY : Below X1.heap.size X1 Y2 := by rw [E2.out]; exact below_setCells B2.out (Nat.le_refl _) _
  have HRY : Hid (Rn Y2 w0 Y2 r T gs 6 (.slice (some ⟨g, 0, none⟩) 4 cp) C h av stk1 ([] ++ [5]) 98 1 an alv [5, 7]) := (HR1.out.keep BY).rebase
  have RBY : Hid (Row Y2 b2 zR 35) := Row.below RB1.out BY RB1.out.lt
  obtain ⟨pl, hpl⟩ : ∃ pl, pl = Value.slice (some ⟨g, 0, none⟩) 4 cp := ⟨_, rfl⟩
  have HS : Hid (Calls Try.prog 47 #[.pointer (some ⟨r, 0, none⟩), .agg L.toArray] Y2 fun e w' => ∃ v, e = .returned (.int .i64 v) ∧ (v = 0 ∧ ∃ stk', Rn Y2 w0 w' r T gs 6 (.slice (some ⟨g, 0, none⟩) 4 cp) C h av stk' ([] ++ [5] ++ [7]) 96 2 an alv [5, 7])) := by
    rw [HL.out, ← hpl]
    have q := HRY.out
    rw [← hpl] at q
    exact stp_arg r T gs 6 pl C h av stk1 ([] ++ [5]) 98 1 an alv [5, 7] 2 1 7 rfl (by decide) (by decide) (by decide) (by decide) (by decide) Y2 w0 Y2 q
  obtain ⟨b5, hb5⟩ : ∃ b, b = X1.heap.size := ⟨_, rfl⟩
  rw [← hb5] at R3
  rw [← hb5]
  clear hb5 hpl c54 E2 R2 B2 BY RG HN7 HO HR1 RB1
  go_upto_region 6 with (first
    | (refine wpList_load_w rfl 77 (.tmp 5) rfl b5 0 rfl L _ R3.out.all Try.underlying77 rfl HI.out ?_; simp only [Act.put, List.setIfInBounds_toArray, List.set_cons_zero, List.set_cons_succ])
    | (go_at_call 47; refine Calls.mono HS.out ?_; rintro e X2 ⟨v, rfl, rfl, stk2, q⟩; have HR2 : Hid (Rn X2 w0 X2 r T gs 6 (.slice (some ⟨g, 0, none⟩) 4 cp) C h av stk2 ([] ++ [5] ++ [7]) 96 2 an alv [5, 7]) := q.rebase; have RB2 : Hid (Row X2 b2 zR 35) := q.kp (by decide) (by decide) RBY.out; have R5 : Hid (Row X2 b5 L 77) := q.kp (by decide) (by decide) R3.out; clear q))
  have ci0 : X2.cell? ⟨b5, 0, none⟩ = some (.int .i64 16) := R5.out.cell 0 _ (by rw [HL.out]; rfl)
  clear HS HRY RBY R3 R5 HL HI
  go_wp2_with fail
  clear ci0
  rw [rounds_succ]
  have c54 : X2.cell? ⟨r, 54, none⟩ = some (.int .i64 2) := HR2.out.row.cell 54 _ (rc_hi HR2.out.clen 3)
  obtain ⟨L, hL⟩ : ∃ L, L = ic 6 4 0 0 := ⟨_, rfl⟩
  have HL : Hid (L = ic 6 4 0 0) := hL
  have RG : Hid (X2.rangeAt g 14 L) := by rw [hL]; exact fl_at (Lw.range HR2.out.prg) 2 ⟨6, 4, 0, 0⟩ rfl
  have HI : Hid ((Try.prog.info? 77).map (·.size) = some L.length) := by show _ = _; rw [hL]; exact info_Ic _ _ _ _
  have HN7 : Hid (L.length = zI.length) := by show _ = _; rw [hL]; exact ic_len _ _ _ _
  have HO : Hid (L.toArray.all (·.oneCell') = true) := by show _ = _; rw [hL]; exact ic_one _ _ _ _
  clear hL
  go_upto_region 5 with (first
    | (refine wpList_load_w rfl 77 (.tmp 25) rfl g 14 rfl L _ RG.out Try.underlying77 rfl HI.out ?_; simp only [Act.put, List.setIfInBounds_toArray, List.set_cons_zero, List.set_cons_succ])
    | (refine wpList_allocI rfl rfl ?_; intro Y1 q1 q2 q3; have R2 : Hid (Row Y1 X2.heap.size zI 77) := q1; have B2 : Hid (Below X2.heap.size X2 Y1) := q2; clear q1 q2 q3; simp only [Act.put, List.setIfInBounds_toArray, List.set_cons_zero, List.set_cons_succ])
    | (refine wpList_storeL rfl 77 (.tmp 5) (.tmp 26) rfl X2.heap.size L zI 77 rfl rfl R2.out HN7.out HI.out HO.out ?_; intro Y2 q1 q2; have E2 : Hid (Y2 = _) := q1; have R3 : Hid (Row Y2 X2.heap.size L 77) := q2; clear q1 q2; simp only [Act.put]))
  have BY : Below X2.heap.size X2 Y2 := by rw [E2.out]; exact below_setCells B2.out (Nat.le_refl _) _
  have HRY : Hid (Rn Y2 w0 Y2 r T gs 6 (.slice (some ⟨g, 0, none⟩) 4 cp) C h av stk2 ([] ++ [5] ++ [7]) 96 2 an alv [5, 7]) := (HR2.out.keep BY).rebase
  have RBY : Hid (Row Y2 b2 zR 35) := Row.below RB2.out BY RB2.out.lt
  obtain ⟨pl, hpl⟩ : ∃ pl, pl = Value.slice (some ⟨g, 0, none⟩) 4 cp := ⟨_, rfl⟩
  have HS : Hid (Calls Try.prog 47 #[.pointer (some ⟨r, 0, none⟩), .agg L.toArray] Y2 fun e w' => ∃ v, e = .returned (.int .i64 v) ∧ (v = 0 ∧ ∃ stk', Rn Y2 w0 w' r T gs 6 (.slice (some ⟨g, 0, none⟩) 4 cp) C h av stk' ([] ++ [5 + 7]) 94 3 an alv [5, 7])) := by
    rw [HL.out, ← hpl]
    have q := HRY.out
    rw [← hpl] at q
    exact stp_add r T gs 6 pl C h av stk2 [] 96 2 an alv [5, 7] 4 0 5 7 (Nat.lt_of_lt_of_le (by decide : 5 < 2 ^ 8) (Nat.pow_le_pow_right (by decide) (by decide))) (Nat.lt_of_lt_of_le (by decide : 7 < 2 ^ 8) (Nat.pow_le_pow_right (by decide) (by decide))) (Nat.lt_of_lt_of_le (by decide : 5 + 7 < 2 ^ 8) (Nat.pow_le_pow_right (by decide) (by decide))) (by decide) (by decide) (by decide) (by decide) Y2 w0 Y2 q
  obtain ⟨b5, hb5⟩ : ∃ b, b = X2.heap.size := ⟨_, rfl⟩
  rw [← hb5] at R3
  rw [← hb5]
  clear hb5 hpl c54 E2 R2 B2 BY RG HN7 HO HR2 RB2
  go_upto_region 6 with (first
    | (refine wpList_load_w rfl 77 (.tmp 5) rfl b5 0 rfl L _ R3.out.all Try.underlying77 rfl HI.out ?_; simp only [Act.put, List.setIfInBounds_toArray, List.set_cons_zero, List.set_cons_succ])
    | (go_at_call 47; refine Calls.mono HS.out ?_; rintro e X3 ⟨v, rfl, rfl, stk3, q⟩; have HR3 : Hid (Rn X3 w0 X3 r T gs 6 (.slice (some ⟨g, 0, none⟩) 4 cp) C h av stk3 ([] ++ [5 + 7]) 94 3 an alv [5, 7]) := q.rebase; have RB3 : Hid (Row X3 b2 zR 35) := q.kp (by decide) (by decide) RBY.out; have R5 : Hid (Row X3 b5 L 77) := q.kp (by decide) (by decide) R3.out; clear q))
  have ci0 : X3.cell? ⟨b5, 0, none⟩ = some (.int .i64 6) := R5.out.cell 0 _ (by rw [HL.out]; rfl)
  clear HS HRY RBY R3 R5 HL HI
  go_wp2_with fail
  clear ci0
  rw [rounds_succ]
  have c54 : X3.cell? ⟨r, 54, none⟩ = some (.int .i64 3) := HR3.out.row.cell 54 _ (rc_hi HR3.out.clen 3)
  obtain ⟨L, hL⟩ : ∃ L, L = ic 1 5 0 0 := ⟨_, rfl⟩
  have HL : Hid (L = ic 1 5 0 0) := hL
  have RG : Hid (X3.rangeAt g 21 L) := by rw [hL]; exact fl_at (Lw.range HR3.out.prg) 3 ⟨1, 5, 0, 0⟩ rfl
  have HI : Hid ((Try.prog.info? 77).map (·.size) = some L.length) := by show _ = _; rw [hL]; exact info_Ic _ _ _ _
  have HN7 : Hid (L.length = zI.length) := by show _ = _; rw [hL]; exact ic_len _ _ _ _
  have HO : Hid (L.toArray.all (·.oneCell') = true) := by show _ = _; rw [hL]; exact ic_one _ _ _ _
  clear hL
  go_upto_region 5 with (first
    | (refine wpList_load_w rfl 77 (.tmp 25) rfl g 21 rfl L _ RG.out Try.underlying77 rfl HI.out ?_; simp only [Act.put, List.setIfInBounds_toArray, List.set_cons_zero, List.set_cons_succ])
    | (refine wpList_allocI rfl rfl ?_; intro Y1 q1 q2 q3; have R2 : Hid (Row Y1 X3.heap.size zI 77) := q1; have B2 : Hid (Below X3.heap.size X3 Y1) := q2; clear q1 q2 q3; simp only [Act.put, List.setIfInBounds_toArray, List.set_cons_zero, List.set_cons_succ])
    | (refine wpList_storeL rfl 77 (.tmp 5) (.tmp 26) rfl X3.heap.size L zI 77 rfl rfl R2.out HN7.out HI.out HO.out ?_; intro Y2 q1 q2; have E2 : Hid (Y2 = _) := q1; have R3 : Hid (Row Y2 X3.heap.size L 77) := q2; clear q1 q2; simp only [Act.put]))
  have BY : Below X3.heap.size X3 Y2 := by rw [E2.out]; exact below_setCells B2.out (Nat.le_refl _) _
  have HRY : Hid (Rn Y2 w0 Y2 r T gs 6 (.slice (some ⟨g, 0, none⟩) 4 cp) C h av stk3 ([] ++ [5 + 7]) 94 3 an alv [5, 7]) := (HR3.out.keep BY).rebase
  have RBY : Hid (Row Y2 b2 zR 35) := Row.below RB3.out BY RB3.out.lt
  obtain ⟨pl, hpl⟩ : ∃ pl, pl = Value.slice (some ⟨g, 0, none⟩) 4 cp := ⟨_, rfl⟩
  have HS : Hid (Calls Try.prog 47 #[.pointer (some ⟨r, 0, none⟩), .agg L.toArray] Y2 fun e w' => ∃ v, e = .returned (.int .i64 v) ∧ (v = 0 ∧ ∃ stk', Rn Y2 w0 w' r T gs 6 (.slice (some ⟨g, 0, none⟩) 4 cp) C h av stk' ([]) 93 4 (wq (5 + 7)) alv [5, 7])) := by
    rw [HL.out, ← hpl]
    have q := HRY.out
    rw [← hpl] at q
    exact stp_done r T gs 6 pl C h av stk3 [] 94 3 an alv [5, 7] 5 0 (5 + 7) (by decide) (by decide) (by decide) (by decide) Y2 w0 Y2 q
  obtain ⟨b5, hb5⟩ : ∃ b, b = X3.heap.size := ⟨_, rfl⟩
  rw [← hb5] at R3
  rw [← hb5]
  clear hb5 hpl c54 E2 R2 B2 BY RG HN7 HO HR3 RB3
  go_upto_region 6 with (first
    | (refine wpList_load_w rfl 77 (.tmp 5) rfl b5 0 rfl L _ R3.out.all Try.underlying77 rfl HI.out ?_; simp only [Act.put, List.setIfInBounds_toArray, List.set_cons_zero, List.set_cons_succ])
    | (go_at_call 47; refine Calls.mono HS.out ?_; rintro e X4 ⟨v, rfl, rfl, stk4, q⟩; have HR4 : Hid (Rn X4 w0 X4 r T gs 6 (.slice (some ⟨g, 0, none⟩) 4 cp) C h av stk4 ([]) 93 4 (wq (5 + 7)) alv [5, 7]) := q.rebase; have RB4 : Hid (Row X4 b2 zR 35) := q.kp (by decide) (by decide) RBY.out; have R5 : Hid (Row X4 b5 L 77) := q.kp (by decide) (by decide) R3.out; clear q))
  have ci0 : X4.cell? ⟨b5, 0, none⟩ = some (.int .i64 1) := R5.out.cell 0 _ (by rw [HL.out]; rfl)
  clear HS HRY RBY R3 R5 HL HI
  have r55 : ∀ j v, (wq (5 + 7))[j]? = some v → X4.cell? ⟨r, j + 55, none⟩ = some v := fun j v hj => HR4.out.row.cell (j + 55) _ ((rc_hi HR4.out.clen (j + 4)).trans hj)
  have w12 : wq (5 + 7) = [.int .u64 12, .int .u64 0, .int .u64 0, .int .u64 0] := by rw [wq_cells, show lim (5 + 7) 0 = 12 by decide +kernel, show lim (5 + 7) 1 = 0 by decide +kernel, show lim (5 + 7) 2 = 0 by decide +kernel, show lim (5 + 7) 3 = 0 by decide +kernel]; rfl
  rw [w12] at r55
  have d0 : X4.cell? ⟨r, 55, none⟩ = some (.int .u64 12) := r55 0 _ rfl
  have d1 : X4.cell? ⟨r, 56, none⟩ = some (.int .u64 0) := r55 1 _ rfl
  have d2 : X4.cell? ⟨r, 57, none⟩ = some (.int .u64 0) := r55 2 _ rfl
  have d3 : X4.cell? ⟨r, 58, none⟩ = some (.int .u64 0) := r55 3 _ rfl
  have d4 : X4.cell? ⟨r, 50, none⟩ = some (.int .i64 100) := HR4.out.row.cell 50 _ ((rc_low HR4.out.clen 47 (by decide)).trans HG.out)
  have d5 : X4.cell? ⟨r, 53, none⟩ = some (.int .i64 93) := HR4.out.row.cell 53 _ (rc_hi HR4.out.clen 2)
  have e0 := RB4.out.cell 0 _ rfl
  have f0 := RB4.out.thaw 0
  have e1 := RB4.out.cell 1 _ rfl
  have f1 := RB4.out.thaw 1
  have e2 := RB4.out.cell 2 _ rfl
  have f2 := RB4.out.thaw 2
  have e3 := RB4.out.cell 3 _ rfl
  have f3 := RB4.out.thaw 3
  have e4 := RB4.out.cell 4 _ rfl
  have f4 := RB4.out.thaw 4
  clear r55 w12
  go_upto_region 9 with fail
  go_region
  have RF := ((((RB4.out.set 0 (.int .u64 12)).set 1 (.int .u64 0)).set 2 (.int .u64 0)).set 3 (.int .u64 0)).set 4 (.int .i64 7)
  have GF : Gro (· = b2) X4 _ := (((((Gro.refl (· = b2) X4).set b2 0 (.int .u64 12) rfl).set b2 1 (.int .u64 0) rfl).set b2 2 (.int .u64 0) rfl).set b2 3 (.int .u64 0) rfl).set b2 4 (.int .i64 7) rfl
  have BF := (HR4.out.be.trans (GF.to_below HR4.out.be.size (fun k e => by rw [e]; exact HB2.out))).drew
  have RFD := RF.drew
  clear d0 d1 d2 d3 d4 d5 e0 e1 e2 e3 e4 f0 f1 f2 f3 f4 ci0
  go_wp2_with fail
  rw [Exit.noGoto_ret]
  exact bodyPost_ret (results_rowS_tmp Try.results16 _ _ b2 35 [.int .u64 12, .int .u64 0, .int .u64 0, .int .u64 0, .int .i64 7] (.int .i64 0) rfl rfl RFD Try.underlying35 info_Ran) rfl ⟨rfl, BF⟩

end Go.Proofs.Ytabcglakdlkdcaa

namespace Go.Proofs.Ytabcglakdlkdcaa
open Go Go.RowKit
open Sha
open Wd

section
variable {ops : Array Oper} {rest : List Oper} {op : Oper} {a : Act} {w : World} {Q : Exit → Act → World → Prop}
/-- append of a list onto one that is owned. -/
theorem wpList_appN (t e : TypeId) (sz bt : Nat) (hu : Try.prog.underlying t = some (.slice e)) (hi : ∃ ie z, Try.prog.info? e = some ie ∧ ie.zero = some z ∧ ie.size = sz ∧ ie.bytes = bt ∧ z.cells.size = sz) (h0 : 0 < sz) (hgd : op.guard = none) (s x : Operand) (ho : op.op = .call { callee := .builtin .append, args := #[s, x], argTypes := #[t, t] }) (v : Value) (n : Nat) (l news : List Value) (hs : a.eval s = v) (hown : Lw w e sz v n l)
    (g2 m cap : Nat) (hm : news.length = m * sz) (hx : a.eval x = .slice (some ⟨g2, 0, none⟩) m cap) (hX : w.rangeAt g2 0 news) (h1 : ∀ v ∈ news, v.oneCell' = true) (hk : n + m ≤ maxLen) (hb : (n + m) * bt ≤ 140737488355328)
    (h : ∀ v' w', Lw w' e sz v' (n + m) (l ++ news) → w.grownBy w' v.ownBlock → (v'.ownBlock = v.ownBlock ∨ v'.ownBlock = some w.heap.size) → wpList Try.prog ops Q rest (a.put op.dst v') w') : wpList Try.prog ops Q (op :: rest) a w := by
  obtain ⟨ie, z, i1, i2, i3, i5, i4⟩ := hi
  obtain ⟨v', w', hr, q2, q3, _, q5⟩ := run_append_own_at (P := Try.prog) w 0 t op.type e ie z sz bt hu i1 i2 i3 i5 i4 h0 v n l hown ⟨g2, 0, none⟩ m cap news hm (fun j u hj => by rw [Addr.add_mid]; exact hX j u hj) h1 hk hb (Nat.zero_le _)
  refine wpList_plain hgd fun K hK => ?_
  unfold Oper.wp execOp
  simp only [ho, resolve, invoke, builtin, Sem.run_bind, Sem.run_pure, Result.andThen_ok, List.map_toArray, List.map_cons, List.map_nil, hs, hx, hr]
  exact hK _ _ (h v' w' q2 q3 q5)
end
theorem lw_empty (w : World) (e : TypeId) (s : Nat) : Lw (w.alloc (Obj.cells #[] e)) e s (.slice (some ⟨w.heap.size, 0, none⟩) 0 0) 0 [] :=
  ⟨by simp, .inr ⟨w.heap.size, 0, #[], rfl, Nat.zero_le _, (Row.new' rfl rfl : Row _ _ [] _), Nat.le_refl _, by unfold maxLen; omega, by simp, by simp⟩⟩
theorem wsome_eq (a : Addr) (n c : Nat) (w : World) : (binOp .eql 28 (.slice (some a) n c) (.slice none 0 0)).run Try.prog w = .ok (.bool false) w := by
  have h1 : ∀ d, (Op.equalIn (d + 1) 28 (.slice (some a) n c) (.slice none 0 0)).run Try.prog w = .ok false w := fun d => by simp [Op.equalIn, run_underlying Try.underlying28]
  have h2 : (Op.equal 28 (.slice (some a) n c) (.slice none 0 0)).run Try.prog w = .ok false w := h1 9999
  simp only [binOp]
  simp [h2]
theorem hostsome_eq (t : TypeId) (v : Value) (w : World) : (binOp .eql 57 (.iface t v) .nilIface).run Try.prog w = .ok (.bool false) w := by
  have h1 : ∀ d, (Op.equalIn (d + 1) 57 (.iface t v) .nilIface).run Try.prog w = .ok false w := fun d => by simp [Op.equalIn, run_underlying Try.underlying57]
  have h2 : (Op.equal 57 (.iface t v) .nilIface).run Try.prog w = .ok false w := h1 9999
  simp only [binOp]
  simp [h2]
theorem fw_one (ss : List Nat) : ∀ u ∈ fw ss, u.oneCell' = true := fun u hu => by
  obtain ⟨x, _, h⟩ := List.mem_flatMap.1 hu
  exact wq_mem x u h
theorem be_grown {w W W' : World} {o : Option Nat} (h : Below w.heap.size w W) (k : W.grownBy W' o) (ho : ∀ g, o = some g → w.heap.size ≤ g) : Below w.heap.size w W' := below_gb h k ho
set_option maxRecDepth 100000 in
set_option maxHeartbeats 4000000 in
theorem wclone_any (ss : List Nat) (hn : ss.length ≤ 100) (g cap : Nat) (w : World) (h : w.rangeAt g 0 (fw ss)) :
    Calls Try.prog 15 #[.slice (some ⟨g, 0, none⟩) ss.length cap] w fun e w' => ∃ A c, e = .returned (.slice A ss.length c) ∧ Lw w' 27 4 (.slice A ss.length c) ss.length (fw ss) ∧ (∀ k, (Value.slice A ss.length c).ownBlock = some k → w.heap.size ≤ k) ∧ Below w.heap.size w w' := by
  obtain ⟨n, hn'⟩ : ∃ n, n = ss.length := ⟨_, rfl⟩
  have hq := wsome_eq ⟨g, 0, none⟩ n cap
  have hB : Below w.heap.size w (w.alloc (Obj.cells #[] 27)) := (Below.refl _ _).alloc (Nat.le_refl _) _
  have HR : Hid ((w.alloc (Obj.cells #[] 27)).rangeAt g 0 (fw ss)) := range_be h hB
  have HL : Hid ((fw ss).length = n * 4) := by show _ = _; rw [hn', fw_len]
  have HK : Hid ((0 + n) * 32 ≤ 140737488355328) := by show _ ≤ _; omega
  have HM : Hid (0 + n ≤ maxLen) := by show _ ≤ _; unfold maxLen; omega
  have HB : Hid (Below w.heap.size w (w.alloc (Obj.cells #[] 27))) := hB
  rw [← hn']
  clear h hB hn hn'
  go_enter Try.func15, Try.ntmps15
  go_wp2_with (refine wpList_appN 28 27 4 32 Try.underlying28 info_W_open (by decide) rfl _ (.tmp 6) rfl (.slice (some ⟨w.heap.size, 0, none⟩) 0 0) 0 [] (fw ss) rfl (lw_empty w 27 4) g n cap HL.out rfl HR.out (fw_one ss) HM.out HK.out ?_; intro v' w' q1 q2 q3; rw [Nat.zero_add, List.nil_append] at q1; obtain ⟨Ax, cx, ex, _, _⟩ := Lw.form q1; subst ex; have Q1 : Hid (Lw w' 27 4 (.slice Ax n cx) n (fw ss)) := q1; have Q2 : Hid _ := q2; have Q3 : Hid _ := q3; clear q1 q2 q3; simp only [Act.put, List.setIfInBounds_toArray, List.set_cons_zero, List.set_cons_succ])
  go_ret
  refine ⟨Ax, cx, rfl, Q1.out, fun k e => ?_, be_grown HB.out Q2.out (fun k hk => by simp [Value.ownBlock] at hk; omega)⟩
  rcases Q3.out with q | q
  · rw [e] at q; simp [Value.ownBlock] at q; omega
  · rw [e] at q; simp at q; omega
set_option maxRecDepth 100000 in
set_option maxHeartbeats 4000000 in
theorem mayBe_ok (C : List Value) (A : Option Addr) (c : Nat) (h0 : C[40]? = some (.int .i64 0)) (h1 : C[45]? = some (.slice A 2 c)) (h2 : C[46]? = some (.int .i64 0)) (h3 : C[47]? = some (.int .i64 100)) (w : World) : Calls Try.prog 14 #[.agg C.toArray] w fun e w' => e = .returned (.bool true) ∧ Below w.heap.size w w' := by
  have H0 : Hid (C[40]? = some (.int .i64 0)) := h0
  have H1 : Hid (C[45]? = some (.slice A 2 c)) := h1
  have H2 : Hid (C[46]? = some (.int .i64 0)) := h2
  have H3 : Hid (C[47]? = some (.int .i64 100)) := h3
  clear h0 h1 h2 h3
  go_enter Try.func14, Try.ntmps14
  go_upto_region 1 with (refine wpList_boxG 30 rfl (.tmp 0) rfl C rfl ?_; intro X q1 q2 q3; have c0 := q1.cell 40 _ H0.out; have c1 := q1.cell 45 _ H1.out; have c2 := q1.cell 46 _ H2.out; have c3 := q1.cell 47 _ H3.out; have B1 : Hid (Below w.heap.size w X) := q2; clear q1 q2 q3; simp only [Act.put, List.setIfInBounds_toArray, List.set_cons_zero, List.set_cons_succ])
  go_wp2
  go_ret
  exact ⟨rfl, B1.out⟩

end Go.Proofs.Ytabcglakdlkdcaa

namespace Go.Proofs.Ytabcglakdlkdcaa
open Go Go.RowKit
open Sha
open Wd

/-- The cells of the law's call: 100 gas, these arguments. -/
def callC (v : Value) : List Value := List.replicate 40 (.int .u8 0) ++ [.int .i64 0, .int .u64 0, .int .u64 0, .int .u64 0, .int .u64 0, v, .int .i64 0, .int .i64 100]
theorem callC_len (v : Value) : (callC v).length = 48 := rfl
theorem callC_set (v u : Value) : (callC v).set 45 u = callC u := rfl
theorem callC_one (A : Option Addr) (n c : Nat) : (callC (.slice A n c)).toArray.all (·.oneCell') = true := by rw [← Array.all_toList]; rfl
theorem info_C : (Try.prog.info? 30).map (·.size) = some 48 := by kernel_rfl
theorem built_run (T : Nat) (A1 : Option Addr) (n1 c1 gs n : Nat) (Aa : Option Addr) (na ca : Nat) (ht : TypeId) (hb : Nat) : Try.prog.built 70 [(0, .slice (some ⟨T, 0, none⟩) 28 28), (1, .agg #[.slice A1 n1 c1, .slice (some ⟨gs, 0, none⟩) n n]), (2, .agg (callC (.slice Aa na ca)).toArray), (3, .iface ht (.pointer (some ⟨hb, 0, none⟩))), (5, .int .i64 100)] = some (rc T (.slice A1 n1 c1) (.slice (some ⟨gs, 0, none⟩) n n) (callC (.slice Aa na ca)) (.iface ht (.pointer (some ⟨hb, 0, none⟩))) (.slice none 0 0) 100 0 zW).toArray := by kernel_rfl
section
variable {ops : Array Oper} {rest : List Oper} {op : Oper} {a : Act} {w : World} {Q : Exit → Act → World → Prop}
theorem wpList_buildRun (hgd : op.guard = none) (x0 x1 x2 x3 x5 : Operand) (ho : op.op = .build 70 #[(0, x0), (1, x1), (2, x2), (3, x3), (5, x5)]) (T : Nat) (A1 : Option Addr) (n1 c1 gs n : Nat) (Aa : Option Addr) (na ca : Nat) (ht : TypeId) (hb : Nat) (L M : List Value) (hL : L = callC (.slice Aa na ca)) (hM : M = rc T (.slice A1 n1 c1) (.slice (some ⟨gs, 0, none⟩) n n) L (.iface ht (.pointer (some ⟨hb, 0, none⟩))) (.slice none 0 0) 100 0 zW)
    (h0 : a.eval x0 = .slice (some ⟨T, 0, none⟩) 28 28) (h1 : a.eval x1 = .agg #[.slice A1 n1 c1, .slice (some ⟨gs, 0, none⟩) n n]) (h2 : a.eval x2 = .agg L.toArray) (h3 : a.eval x3 = .iface ht (.pointer (some ⟨hb, 0, none⟩))) (h5 : a.eval x5 = .int .i64 100)
    (h : wpList Try.prog ops Q rest (a.put op.dst (.agg M.toArray)) w) : wpList Try.prog ops Q (op :: rest) a w :=
  wpList_plain hgd fun _ hK => by
    subst hL hM
    have hr := run_build (P := Try.prog) w 70 #[(0, .slice (some ⟨T, 0, none⟩) 28 28), (1, .agg #[.slice A1 n1 c1, .slice (some ⟨gs, 0, none⟩) n n]), (2, .agg (callC (.slice Aa na ca)).toArray), (3, .iface ht (.pointer (some ⟨hb, 0, none⟩))), (5, .int .i64 100)] _ (built_run T A1 n1 c1 gs n Aa na ca ht hb)
    unfold Oper.wp execOp
    simp only [ho, List.map_toArray, List.map_cons, List.map_nil, h0, h1, h2, h3, h5, Sem.run_bind, hr, Result.andThen_ok, Sem.run_pure, Oper.upon_value]
    exact hK _ _ h
end
/-- The law's small program. -/
def dA : List (BitVec 8) := [16#8, 0#8, 16#8, 1#8, 6#8, 1#8]
theorem chk_dA : chk dA = some alv := rfl
theorem read_dA (T g cg : Nat) (hcg : 6 ≤ cg) (w : World) (hT : Row w T mtab 75) (hr : w.rangeAt g 0 (vB dA)) : Calls Try.prog 13 #[.slice (some ⟨T, 0, none⟩) 28 28, .slice (some ⟨g, 0, none⟩) 6 cg] w fun e w' => ∃ A1 c1 gs, e = .returned (.tuple #[.agg #[.slice A1 4 c1, .slice (some ⟨gs, 0, none⟩) 6 6], .int .i64 0]) ∧ Lw w' 77 7 (.slice A1 4 c1) 4 (fl alv) ∧ Row w' gs (vI (sts alv 6)) 3 ∧ Below w.heap.size w w' := by
  refine Calls.mono (read_any T g 6 cg dA rfl (by decide) (by decide) hcg w hT hr) ?_
  rintro e w' ⟨h | h, hB⟩
  · obtain ⟨ls, v, gs, q1, _, rfl, q3, q4, _, _⟩ := h
    rw [chk_dA] at q1
    obtain rfl := Option.some.inj q1
    obtain ⟨A1, c1, rfl, _, _⟩ := Lw.form q3
    exact ⟨A1, c1, gs, rfl, q3, q4, hB⟩
  · rw [chk_dA] at h
    cases h.1
set_option maxRecDepth 100000 in
set_option maxHeartbeats 4000000 in
theorem run_alive (g cg ga ca hb : Nat) (hcg : 6 ≤ cg) (ht : TypeId) (L : List Value) (hL : L = callC (.slice (some ⟨ga, 0, none⟩) 2 ca)) (w : World) (hr : w.rangeAt g 0 (vB dA)) (hga : w.rangeAt ga 0 (fw [5, 7])) : Calls Try.prog 10 #[.slice (some ⟨g, 0, none⟩) 6 cg, .agg L.toArray, .iface ht (.pointer (some ⟨hb, 0, none⟩))] w fun e w' => e = .returned (.tuple #[.agg #[.int .u64 12, .int .u64 0, .int .u64 0, .int .u64 0, .int .i64 7], .int .i64 0]) ∧ Below w.heap.size w w' := by
  have HR : Hid (w.rangeAt g 0 (vB dA)) := hr
  have HGA : Hid (w.rangeAt ga 0 (fw [5, 7])) := hga
  have HL : Hid (L = callC (.slice (some ⟨ga, 0, none⟩) 2 ca)) := hL
  have HLI : Hid ((Try.prog.info? 30).map (·.size) = some L.length) := by show _ = _; rw [hL, callC_len]; exact info_C
  have hq := hostsome_eq ht (.pointer (some ⟨hb, 0, none⟩))
  have HCG : Hid (6 ≤ cg) := hcg
  clear hr hga hL hcg
  go_enter Try.func10, Try.ntmps10
  go_upto_region 3 with (first
    | (refine wpList_boxG 30 rfl (.tmp 1) rfl L rfl ?_; intro X1 q1 q2 q3; have R4 : Hid (Row X1 w.heap.size L 30) := q1; have B1 : Hid (Below w.heap.size w X1) := q2; have S1 : Hid (X1.heap.size = w.heap.size + 1) := q3; clear q1 q2 q3; simp only [Act.put, List.setIfInBounds_toArray, List.set_cons_zero, List.set_cons_succ])
    | (refine wpList_allocR rfl rfl ?_; intro X2 q1 q2 q3; have R6 : Hid (Row X2 X1.heap.size zR 35) := q1; have B2 : Hid (Below X1.heap.size X1 X2) := q2; clear q1 q2 q3; simp only [Act.put, List.setIfInBounds_toArray, List.set_cons_zero, List.set_cons_succ]))
  obtain ⟨b4, hb4⟩ : ∃ b, b = w.heap.size := ⟨_, rfl⟩
  obtain ⟨b6, hb6⟩ : ∃ b, b = X1.heap.size := ⟨_, rfl⟩
  have HB4 : Hid (b4 = w.heap.size ∧ w.heap.size ≤ b6) := ⟨hb4, by rw [hb6]; exact B1.out.size⟩
  have BB : Hid (Below w.heap.size w X2) := B1.out.trans (B2.out.mono B1.out.size)
  replace R4 : Hid (Row X2 b4 L 30) := by rw [hb4]; exact Row.below R4.out B2.out R4.out.lt
  replace R6 : Hid (Row X2 b6 zR 35) := by rw [hb6]; exact R6.out
  rw [← hb4, ← hb6]
  clear hb4 hb6 B1 B2 S1 hq
  go_upto_region 4 with (go_at_call 12; refine Calls.mono (table_any X2) ?_; rintro e X3 ⟨rfl, qt, q2⟩; have RT : Hid (Row X3 X2.heap.size mtab 75) := qt; have B3 : Hid (Below w.heap.size w X3) := BB.out.trans (q2.mono BB.out.size); have R43 : Hid (Row X3 b4 L 30) := Row.below R4.out q2 R4.out.lt; have R63 : Hid (Row X3 b6 zR 35) := Row.below R6.out q2 R6.out.lt; clear qt q2 R4 R6 BB)
  obtain ⟨T, hT⟩ : ∃ T, T = X2.heap.size := ⟨_, rfl⟩
  rw [← hT] at RT
  rw [← hT]
  clear hT
  have HRD : Hid _ := read_dA T g cg HCG.out X3 RT.out (range_be HR.out B3.out)
  go_upto_region 5 with (first
    | (go_at_call 13; refine Calls.mono HRD.out ?_; rintro e X4 ⟨A1, c1, gs, rfl, q3, q4, q2⟩; have LP : Hid (Lw X4 77 7 (.slice A1 4 c1) 4 (fl alv)) := q3; have RS : Hid (Row X4 gs (vI (sts alv 6)) 3) := q4; have B4 : Hid (Below w.heap.size w X4) := B3.out.trans (q2.mono B3.out.size); have RT4 : Hid (Row X4 T mtab 75) := Row.below RT.out q2 RT.out.lt; have R44 : Hid (Row X4 b4 L 30) := Row.below R43.out q2 R43.out.lt; have R64 : Hid (Row X4 b6 zR 35) := Row.below R63.out q2 R63.out.lt; clear q2 q3 q4)
    | (refine wpList_allocP rfl rfl ?_; intro X5 q1 q2 q3; have R9 : Hid (Row X5 X4.heap.size zP 63) := q1; have B5 : Hid (Below X4.heap.size X4 X5) := q2; clear q1 q2 q3; simp only [Act.put, List.setIfInBounds_toArray, List.set_cons_zero, List.set_cons_succ])
    | (refine wpList_storeL rfl 63 (.tmp 9) (.tmp 20) rfl X4.heap.size [.slice A1 4 c1, .slice (some ⟨gs, 0, none⟩) 6 6] zP 63 rfl rfl R9.out rfl info_P (pp_one A1 _ _ _ 6) ?_; intro X6 q1 q2; have E6 : Hid (X6 = _) := q1; have R96 : Hid (Row X6 X4.heap.size [.slice A1 4 c1, .slice (some ⟨gs, 0, none⟩) 6 6] 63) := q2; clear q1 q2; simp only [Act.put]))
  have BY : Below X4.heap.size X4 X6 := by rw [E6.out]; exact below_setCells B5.out (Nat.le_refl _) _
  obtain ⟨b9, hb9⟩ : ∃ b, b = X4.heap.size := ⟨_, rfl⟩
  rw [← hb9] at R96
  rw [← hb9]
  have LP6 : Hid (Lw X6 77 7 (.slice A1 4 c1) 4 (fl alv)) := Lw.be LP.out BY
  have RS6 : Hid (Row X6 gs (vI (sts alv 6)) 3) := Row.below RS.out BY RS.out.lt
  have B6 : Hid (Below w.heap.size w X6) := B4.out.trans (BY.mono B4.out.size)
  have RT6 : Hid (Row X6 T mtab 75) := Row.below RT4.out BY RT4.out.lt
  have R46 : Hid (Row X6 b4 L 30) := Row.below R44.out BY R44.out.lt
  have R66 : Hid (Row X6 b6 zR 35) := Row.below R64.out BY R64.out.lt
  have HMB : Hid _ := mayBe_ok L (some ⟨ga, 0, none⟩) ca (by rw [HL.out]; rfl) (by rw [HL.out]; rfl) (by rw [HL.out]; rfl) (by rw [HL.out]; rfl) X6
  clear BY hb9 E6 R9 B5 LP RS B4 RT4 R44 R64 R43 R63 B3 RT HRD
  go_upto_region 9 with (first
    | (refine wpList_load_w rfl 30 (.tmp 4) rfl b4 0 rfl L _ R46.out.all Try.underlying30 rfl HLI.out ?_; simp only [Act.put, List.setIfInBounds_toArray, List.set_cons_zero, List.set_cons_succ])
    | (go_at_call 14; refine Calls.mono HMB.out ?_; rintro e X7 ⟨rfl, q2⟩; have LP7 : Hid (Lw X7 77 7 (.slice A1 4 c1) 4 (fl alv)) := Lw.be LP6.out q2; have RS7 : Hid (Row X7 gs (vI (sts alv 6)) 3) := Row.below RS6.out q2 RS6.out.lt; have B7 : Hid (Below w.heap.size w X7) := B6.out.trans (q2.mono B6.out.size); have RT7 : Hid (Row X7 T mtab 75) := Row.below RT6.out q2 RT6.out.lt; have R47 : Hid (Row X7 b4 L 30) := Row.below R46.out q2 R46.out.lt; have R67 : Hid (Row X7 b6 zR 35) := Row.below R66.out q2 R66.out.lt; have R97 : Hid (Row X7 b9 [.slice A1 4 c1, .slice (some ⟨gs, 0, none⟩) 6 6] 63) := Row.below R96.out q2 R96.out.lt; clear q2))
  have c45 : X7.cell? ⟨b4, 45, none⟩ = some (.slice (some ⟨ga, 0, none⟩) 2 ca) := R47.out.cell 45 _ (by rw [HL.out]; rfl)
  have HCL : Hid _ := wclone_any [5, 7] (by decide) ga ca X7 (range_be HGA.out B7.out)
  have HL45 : Hid (45 < L.length) := by show _ < _; rw [HL.out, callC_len]; decide
  clear HMB LP6 RS6 B6 RT6 R46 R66 R96
  go_upto_region 10 with (first
    | (go_at_call 15; refine Calls.mono HCL.out ?_; rintro e X8 ⟨Aa, cc, rfl, qa, qf, q2⟩; have LA8 : Hid (Lw X8 27 4 (.slice Aa 2 cc) 2 (fw [5, 7])) := qa; have LP8 : Hid (Lw X8 77 7 (.slice A1 4 c1) 4 (fl alv)) := Lw.be LP7.out q2; have RS8 : Hid (Row X8 gs (vI (sts alv 6)) 3) := Row.below RS7.out q2 RS7.out.lt; have B8 : Hid (Below w.heap.size w X8) := B7.out.trans (q2.mono B7.out.size); have RT8 : Hid (Row X8 T mtab 75) := Row.below RT7.out q2 RT7.out.lt; have R48 : Hid (Row X8 b4 L 30) := Row.below R47.out q2 R47.out.lt; have R68 : Hid (Row X8 b6 zR 35) := Row.below R67.out q2 R67.out.lt; have R98 : Hid (Row X8 b9 [.slice A1 4 c1, .slice (some ⟨gs, 0, none⟩) 6 6] 63) := Row.below R97.out q2 R97.out.lt; clear qa qf q2)
    | (refine wpList_set1 rfl 28 (.tmp 35) (.tmp 34) rfl b4 45 (.slice Aa 2 cc) L 30 rfl rfl rfl R48.out HL45.out info_Ws rfl ?_; intro X9 q1 q2 q3; have R49 : Hid (Row X9 b4 (L.set 45 (.slice Aa 2 cc)) 30) := q1; have G9 : Hid (Gro (· = b4) X8 X9) := q2; clear q1 q2 q3; simp only [Act.put]))
  obtain ⟨M, hM⟩ : ∃ M, M = callC (.slice Aa 2 cc) := ⟨_, rfl⟩
  have HM : Hid (M = callC (.slice Aa 2 cc)) := hM
  have R4M : Hid (Row X9 b4 M 30) := by rw [hM, ← callC_set (.slice (some ⟨ga, 0, none⟩) 2 ca), ← HL.out]; exact R49.out
  have HMI : Hid ((Try.prog.info? 30).map (·.size) = some M.length) := by show _ = _; rw [hM, callC_len]; exact info_C
  have LA9 : Hid (Lw X9 27 4 (.slice Aa 2 cc) 2 (fw [5, 7])) := Lw.gro LA8.out G9.out (Lw.ne LA8.out R48.out (by decide))
  have LP9 : Hid (Lw X9 77 7 (.slice A1 4 c1) 4 (fl alv)) := Lw.gro LP8.out G9.out (Lw.ne LP8.out R48.out (by decide))
  have RS9 : Hid (Row X9 gs (vI (sts alv 6)) 3) := G9.out.row RS8.out (row_ne2 RS8.out R48.out (by decide))
  have RT9 : Hid (Row X9 T mtab 75) := G9.out.row RT8.out (row_ne2 RT8.out R48.out (by decide))
  have R69 : Hid (Row X9 b6 zR 35) := G9.out.row R68.out (row_ne2 R68.out R48.out (by decide))
  have R99 : Hid (Row X9 b9 [.slice A1 4 c1, .slice (some ⟨gs, 0, none⟩) 6 6] 63) := G9.out.row R98.out (row_ne2 R98.out R48.out (by decide))
  have B9 : Hid (Below w.heap.size w X9) := B8.out.trans (G9.out.to_below B8.out.size (fun k e => by rw [e, HB4.out.1]; exact Nat.le_refl _))
  have c47 : X9.cell? ⟨b4, 47, none⟩ = some (.int .i64 100) := R4M.out.cell 47 _ (by rw [hM]; rfl)
  obtain ⟨RC, hRC⟩ : ∃ RC, RC = rc T (.slice A1 4 c1) (.slice (some ⟨gs, 0, none⟩) 6 6) M (.iface ht (.pointer (some ⟨hb, 0, none⟩))) (.slice none 0 0) 100 0 zW := ⟨_, rfl⟩
  have HRC : Hid (RC = rc T (.slice A1 4 c1) (.slice (some ⟨gs, 0, none⟩) 6 6) M (.iface ht (.pointer (some ⟨hb, 0, none⟩))) (.slice none 0 0) 100 0 zW) := hRC
  clear hM hRC c45 R49 G9 LA8 LP8 RS8 B8 RT8 R48 R68 R98 HCL LP7 RS7 B7 RT7 R47 R67 R97 HL45 HL
  go_upto_region 11 with (first
    | (refine wpList_load_w rfl 63 (.tmp 9) rfl b9 0 rfl [.slice A1 4 c1, .slice (some ⟨gs, 0, none⟩) 6 6] _ R99.out.all Try.underlying63 rfl info_P ?_; simp only [Act.put, List.setIfInBounds_toArray, List.set_cons_zero, List.set_cons_succ])
    | (refine wpList_load_w rfl 30 (.tmp 4) rfl b4 0 rfl M _ R4M.out.all Try.underlying30 rfl HMI.out ?_; simp only [Act.put, List.setIfInBounds_toArray, List.set_cons_zero, List.set_cons_succ])
    | (refine wpList_buildRun rfl (.tmp 36) (.tmp 37) (.tmp 38) (.tmp 39) (.tmp 41) rfl T A1 4 c1 gs 6 Aa 2 cc ht hb M RC HM.out HRC.out rfl rfl rfl rfl rfl ?_; simp only [Act.put, List.setIfInBounds_toArray, List.set_cons_zero, List.set_cons_succ])
    | (refine wpList_boxG 70 rfl (.tmp 42) rfl RC rfl ?_; intro Y q1 q2 q3; have RR : Hid (Row Y X9.heap.size RC 70) := q1; have BY : Hid (Below X9.heap.size X9 Y) := q2; clear q1 q2 q3; simp only [Act.put, List.setIfInBounds_toArray, List.set_cons_zero, List.set_cons_succ]))
  have HRN : Hid (Rn Y X9 Y X9.heap.size T gs 6 (.slice A1 4 c1) M (.iface ht (.pointer (some ⟨hb, 0, none⟩))) (.slice Aa 2 cc) (.slice none 0 0) [] 100 0 zW alv [5, 7]) :=
    ⟨by rw [← HRC.out]; exact RR.out, by rw [HM.out]; rfl, rfl, Lw.nil _ _ _, Row.below RT9.out BY.out RT9.out.lt, Lw.be LP9.out BY.out, Row.below RS9.out BY.out RS9.out.lt, by rw [HM.out]; rfl, Lw.be LA9.out BY.out, (fun g e => by cases e), BY.out, Nat.le_refl _, (fun g e => by cases e), (fun _ _ q => q)⟩
  have HAL : Hid _ := all_alive X9.heap.size T gs (.slice A1 4 c1) M (.iface ht (.pointer (some ⟨hb, 0, none⟩))) (.slice Aa 2 cc) (.slice none 0 0) zW (by rw [HM.out]; rfl) Y X9 Y HRN.out
  clear c47 HRN RR
  go_wp2_with (first
    | (go_at_call 16; refine Calls.mono HAL.out ?_; rintro e Z ⟨rfl, q2⟩; have RZ : Hid (Row Z b6 zR 35) := Row.below R69.out q2 R69.out.lt; have BZ : Hid (Below w.heap.size w Z) := B9.out.trans (q2.mono B9.out.size); clear q2)
    | (refine wpList_storeL rfl 35 (.tmp 6) (.tmp 46) rfl b6 [.int .u64 12, .int .u64 0, .int .u64 0, .int .u64 0, .int .i64 7] zR 35 rfl rfl RZ.out rfl info_Ran (by rw [← Array.all_toList]; rfl) ?_; intro Z2 q1 q2; have EZ : Hid (Z2 = _) := q1; have RZ2 : Hid (Row Z2 b6 [.int .u64 12, .int .u64 0, .int .u64 0, .int .u64 0, .int .i64 7] 35) := q2; clear q1 q2; simp only [Act.put]))
  have BF : Below w.heap.size w Z2 := by rw [EZ.out]; exact below_setCells BZ.out HB4.out.2 _
  exact bodyPost_ret (results_rowS_tmp Try.results10 _ _ b6 35 [.int .u64 12, .int .u64 0, .int .u64 0, .int .u64 0, .int .i64 7] (.int .i64 0) rfl rfl RZ2.out Try.underlying35 info_Ran) rfl ⟨rfl, BF⟩

end Go.Proofs.Ytabcglakdlkdcaa

namespace Go.Proofs.Ytabcglakdlkdcaa
open Go Go.RowKit
open Sha
open Wd

theorem vB_app (a b : List (BitVec 8)) : vB (a ++ b) = vB a ++ vB b := by simp [vB]
theorem sl_nil {w : World} {A : Option Addr} {n cap : Nat} {d : List (BitVec 8)} (h : Bw w (.slice A n cap) d) : A = none → n = 0 ∧ cap = 0 := fun e => by
  subst e
  rcases h.2 with ⟨h2, h0⟩ | ⟨g, c2, cur, hvv, _⟩
  · simp only [Value.slice.injEq] at h2
    exact ⟨h2.2.1, h2.2.2⟩
  · cases hvv
def SP.byd (n : Nat) (d : List (BitVec 8)) : SP := ⟨fun W v => ∃ N c, v = .slice (some ⟨N, 0, none⟩) n c ∧ n ≤ c ∧ W.rangeAt N 0 (vB d), fun _ _ _ hB ⟨N, c, e, h, r⟩ => ⟨N, c, e, h, range_be r hB⟩⟩
section
variable {o : Oper} {a : Act} {w : World} {K : Act → World → Prop} {Q : Exit → Act → World → Prop}
theorem wp_appb (s x : Operand) (ho : o.op = .call { callee := .builtin .append, args := #[s, x], argTypes := #[22, 22] }) (g g2 k m t : Nat) (d news : List (BitVec 8)) (hd : d.length = k) (hm : news.length = m) (ht : k + m = t) (h0 : 0 < m) (hk : t ≤ 1000) (hs : a.eval s = .slice (some ⟨g, 0, none⟩) k k) (hr : Row w g (vB d) 5) (hx : a.eval x = .slice (some ⟨g2, 0, none⟩) m m) (hr2 : Row w g2 (vB news) 5)
    (h : ∀ A c w', Bw w' (.slice A t c) (d ++ news) → (A = none → False) → Below w.heap.size w w' → K (a.put o.dst (.slice A t c)) w') : Oper.wp Try.prog o a w K Q := by
  obtain ⟨ie, z, h1, h2, h3, h5, h4⟩ := info_u8open
  obtain ⟨v', w', hrun, r1, r2⟩ := run_append_arg_grows (P := Try.prog) w 22 o.type 5 ie z 1 1 Try.underlying22 h1 h2 h3 h5 h4 (by decide) ⟨g, 0, none⟩ k k (vB d) (by rw [vB_length, hd, Nat.mul_one]) (fun j u hj => by rw [Addr.add_mid]; exact hr.all j u hj) ⟨g2, 0, none⟩ m m (vB news) (by rw [vB_length, hm, Nat.mul_one]) (fun j u hj => by rw [Addr.add_mid]; exact hr2.all j u hj) (by omega) (by unfold maxLen; omega) (by omega)
  have hbw : Bw w' v' (d ++ news) := by
    obtain ⟨q1, q2⟩ := r1
    refine ⟨by rw [List.length_append, hd, hm]; simp [vB_length, hd, hm], ?_⟩
    rcases q2 with ⟨_, q3⟩ | ⟨g', cap', cur, q3, _, q4, q5, q6, q7, q8⟩
    · omega
    · refine .inr ⟨g', cap', cur, by rw [List.length_append, hd, hm]; exact q3, Nat.zero_le _, q4, by rw [List.length_append, hd, hm]; exact q5, q6, q7, ?_⟩
      rw [List.length_append, hd, hm, vB_app]
      exact q8
  obtain ⟨A, c, hv, _, _⟩ := Bw.form hbw
  rw [List.length_append, hd, hm, ht] at hv
  subst hv
  have hB : Below w.heap.size w w' := (Below.refl _ _).grown r2 (Nat.le_refl _) (fun k e => by cases e)
  unfold Oper.wp
  simp [execOp, ho, resolve, invoke, builtin, hs, hx, hrun, Result.andThen]
  exact h A c w' hbw (fun e => by have := sl_nil hbw e; omega) hB
theorem wp_build0 (ho : o.op = .buildSlice 22 0 #[]) (h : ∀ W2, Row W2 w.heap.size [] 5 → Below w.heap.size w W2 → K (a.put o.dst (.slice (some ⟨w.heap.size, 0, none⟩) 0 0)) W2) : Oper.wp Try.prog o a w K Q := by
  unfold Oper.wp execOp
  simp only [ho]
  go_simp
  exact h _ (Row.new' rfl rfl) ((Below.refl _ _).alloc (Nat.le_refl _) _)
theorem wp_fP0 {x : Operand} (b : Nat) (ho : o.op = .fieldAddr 33 x 0) (hx : a.eval x = .pointer (some ⟨b, 0, none⟩)) (h : K (a.put o.dst (.pointer (some ⟨b, 0, none⟩))) w) : Oper.wp Try.prog o a w K Q := by
  unfold Oper.wp execOp
  simp only [ho, hx]
  go_simp
  exact h
theorem wp_loadb {x : Operand} (ho : o.op = .load 22 x) (b f : Nat) (hx : a.eval x = .pointer (some ⟨b, f, none⟩)) (A : Option Addr) (n c : Nat) (hc : w.cell? ⟨b, f, none⟩ = some (.slice A n c)) (h : K (a.put o.dst (.slice A n c)) w) : Oper.wp Try.prog o a w K Q := by
  unfold Oper.wp execOp
  simp only [ho, hx]
  go_simp
  exact h
theorem wp_mkif {x : Operand} (ho : o.op = .makeInterface 48 x) (v : Value) (hx : a.eval x = v) (h : K (a.put o.dst (.iface 48 v)) w) : Oper.wp Try.prog o a w K Q := by
  unfold Oper.wp execOp
  simp only [ho, hx]
  go_simp
  exact h
theorem wp_allocRn (ho : o.op = .alloc 35) (h : K (a.put o.dst (.pointer (some ⟨w.heap.size, 0, none⟩))) (w.alloc (Obj.cells zR.toArray 35))) : Oper.wp Try.prog o a w K Q := by
  unfold Oper.wp execOp
  simp only [ho]
  go_simp
  exact h
end
abbrev R12 : List Value := [.int .u64 12, .int .u64 0, .int .u64 0, .int .u64 0, .int .i64 7]

end Go.Proofs.Ytabcglakdlkdcaa
