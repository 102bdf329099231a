/-
  steps.
-/
import Derived.Test.YtclbiophgnkggaaGreatDoorMkQ

namespace Go.Proofs.YtclbiophgnkggaaGreatDoor
open Go Go.RowKit
open Sha
open Wd

theorem mtab_cut (c : Nat) (h : c < 28) : (mtab.drop (c * 6)).take 6 = rw c := by
  match c, h with
  | 0, _ => exact rfl
  | 1, _ => exact rfl
  | 2, _ => exact rfl
  | 3, _ => exact rfl
  | 4, _ => exact rfl
  | 5, _ => exact rfl
  | 6, _ => exact rfl
  | 7, _ => exact rfl
  | 8, _ => exact rfl
  | 9, _ => exact rfl
  | 10, _ => exact rfl
  | 11, _ => exact rfl
  | 12, _ => exact rfl
  | 13, _ => exact rfl
  | 14, _ => exact rfl
  | 15, _ => exact rfl
  | 16, _ => exact rfl
  | 17, _ => exact rfl
  | 18, _ => exact rfl
  | 19, _ => exact rfl
  | 20, _ => exact rfl
  | 21, _ => exact rfl
  | 22, _ => exact rfl
  | 23, _ => exact rfl
  | 24, _ => exact rfl
  | 25, _ => exact rfl
  | 26, _ => exact rfl
  | 27, _ => exact rfl
  | n + 28, h => exact absurd h (by omega)
theorem mtab_at (c : Nat) (h : c < 28) (j : Nat) (hj : j < 6) : mtab[c * 6 + j]? = (rw c)[j]? := by
  rw [← mtab_cut c h, List.getElem?_take, if_pos hj, List.getElem?_drop]
theorem info_B : (Tryz.prog.info? 84).map (·.size) = some 6 := info_row
set_option maxRecDepth 100000 in
set_option maxHeartbeats 4000000 in
theorem step_any (r T gs n : Nat) (pl : Value) (C : List Value) (h av stk : Value) (ss : List Nat) (l nx : Nat) (an : List Value) (ls : List Ins) (ags : List Nat) (ci pi ai ni : Nat) (s : ByteArray) (k g t lv : Nat) (FF : FuncId) (hc : ci < 28) (hrow : rw ci = [.string s, .int .i64 (k : Int), .int .i64 (g : Int), .int .i64 (t : Int), .int .i64 (lv : Int), .func (.func FF) #[] #[]]) (hk2 : ((k : Int) == 2) = false) (hk3 : ((k : Int) == 3) = false) (hg : g ≤ l) (hl : l ≤ 10000) (ht : t ≤ ss.length) (hm : ss.length - t + lv ≤ 64) (hlv : lv ≤ 3) (hnx : nx ≤ 1024) (k0 w0 w : World) (H : Rn k0 w0 w r T gs n pl C h av stk ss l nx an ls ags) (QQ : Int → World → Prop) (hcf : ∀ args W, (callFunc FF args).run Tryz.prog W = .ok (.enter FF args) W) (hdo : ∀ W, Rn k0 w0 W r T gs n pl C h av stk ss (l - g) (nx + 1) an ls ags → Calls Tryz.prog FF #[.pointer (some ⟨r, 0, none⟩), .agg (ic ci pi ai ni).toArray] W fun e w' => ∃ v, e = .returned (.int .i64 v) ∧ QQ v w') : Calls Tryz.prog 105 #[.pointer (some ⟨r, 0, none⟩), .agg (ic ci pi ai ni).toArray] w fun e w' => ∃ v, e = .returned (.int .i64 v) ∧ QQ v w' := by
  obtain ⟨A, cp, hst, _, _⟩ := Lw.form H.st
  subst hst
  have HH : Hid (Rn k0 w0 w r T gs n pl C h av (.slice A ss.length cp) ss l nx an ls ags) := H
  obtain ⟨L, hL⟩ : ∃ L, L = ic ci pi ai ni := ⟨_, rfl⟩
  have HIC : Hid (L = ic ci pi ai ni) := hL
  have HI : Hid ((Tryz.prog.info? 53).map (·.size) = some L.length) := by show _ = _; rw [hL]; exact info_Ic _ _ _ _
  rw [← hL]
  rw [← hL] at hdo
  have HDO : Hid (∀ W, Rn k0 w0 W r T gs n pl C h av (.slice A ss.length cp) ss (l - g) (nx + 1) an ls ags → Calls Tryz.prog FF #[.pointer (some ⟨r, 0, none⟩), .agg L.toArray] W fun e w' => ∃ v, e = .returned (.int .i64 v) ∧ QQ v w') := hdo
  have HCFN : Hid (∀ args W, (callFunc FF args).run Tryz.prog W = .ok (.enter FF args) W) := hcf
  have HT6 : Hid (∀ j v, [Value.string s, .int .i64 (k : Int), .int .i64 (g : Int), .int .i64 (t : Int), .int .i64 (lv : Int), .func (.func FF) #[] #[]][j]? = some v → mtab[ci * 6 + j]? = some v) := fun j v hj => by
    have hlt : j < 6 := (List.getElem?_eq_some_iff.1 hj).1
    rw [mtab_at ci hc j hlt, hrow]
    exact hj
  have HND : Hid (∀ W, Calls Tryz.prog 117 #[.agg #[.string s, .int .i64 (k : Int), .int .i64 (g : Int), .int .i64 (t : Int), .int .i64 (lv : Int), .func (.func FF) #[] #[]], .agg L.toArray] W fun e w' => e = .returned (.tuple #[.int .i64 (t : Int), .int .i64 (lv : Int)]) ∧ Below W.heap.size W w') := fun W => needs_any _ _ k g t lv hk2 hk3 L W
  clear H hL hdo hrow hk2 hk3 hcf
  go_enter Tryz.func105, Tryz.ntmps105
  go_upto_region 1 with (refine wpList_boxG 53 rfl (.tmp 1) rfl L rfl ?_; intro X q1 q2 q3; have R1 : Hid (Row X w.heap.size L 53) := q1; have HR : Hid (Rn k0 w0 X r T gs n pl C h av (.slice A ss.length cp) ss l nx an ls ags) := HH.out.keep q2; clear q1 q2 q3; simp only [Act.put, List.setIfInBounds_toArray, List.set_cons_zero, List.set_cons_succ])
  obtain ⟨b3, hb3⟩ : ∃ b, b = w.heap.size := ⟨_, rfl⟩
  rw [← hb3] at R1
  rw [← hb3]
  clear hb3
  have r0 : X.cell? ⟨r, 0, none⟩ = some (.slice (some ⟨T, 0, none⟩) 28 28) := HR.out.row.cell 0 _ rfl
  have i0 : X.cell? ⟨b3, 0, none⟩ = some (.int .i64 (ci : Int)) := R1.out.cell 0 _ (by rw [HIC.out]; rfl)
  have t0 : X.cell? ⟨T, ci * 6, none⟩ = some (.string s) := HR.out.tab.cell _ _ (HT6.out 0 _ rfl)
  have t1 : X.cell? ⟨T, ci * 6 + 1, none⟩ = some (.int .i64 (k : Int)) := HR.out.tab.cell _ _ (HT6.out 1 _ rfl)
  have t2 : X.cell? ⟨T, ci * 6 + 2, none⟩ = some (.int .i64 (g : Int)) := HR.out.tab.cell _ _ (HT6.out 2 _ rfl)
  have t3 : X.cell? ⟨T, ci * 6 + 3, none⟩ = some (.int .i64 (t : Int)) := HR.out.tab.cell _ _ (HT6.out 3 _ rfl)
  have t4 : X.cell? ⟨T, ci * 6 + 4, none⟩ = some (.int .i64 (lv : Int)) := HR.out.tab.cell _ _ (HT6.out 4 _ rfl)
  have t5 : X.cell? ⟨T, ci * 6 + 5, none⟩ = some (.func (.func FF) #[] #[]) := HR.out.tab.cell _ _ (HT6.out 5 _ rfl)
  have r0' : (X.alloc (Obj.cells #[Value.string ⟨#[]⟩, .int .i64 0, .int .i64 0, .int .i64 0, .int .i64 0, .nilFunc] 84)).cell? ⟨r, 0, none⟩ = some (.slice (some ⟨T, 0, none⟩) 28 28) := (Row.alloc HR.out.row _).cell 0 _ rfl
  have i0' : (X.alloc (Obj.cells #[Value.string ⟨#[]⟩, .int .i64 0, .int .i64 0, .int .i64 0, .int .i64 0, .nilFunc] 84)).cell? ⟨b3, 0, none⟩ = some (.int .i64 (ci : Int)) := (Row.alloc R1.out _).cell 0 _ (by rw [HIC.out]; rfl)
  have t0' : (X.alloc (Obj.cells #[Value.string ⟨#[]⟩, .int .i64 0, .int .i64 0, .int .i64 0, .int .i64 0, .nilFunc] 84)).cell? ⟨T, ci * 6, none⟩ = some (.string s) := (Row.alloc HR.out.tab _).cell _ _ (HT6.out 0 _ rfl)
  have t1' : (X.alloc (Obj.cells #[Value.string ⟨#[]⟩, .int .i64 0, .int .i64 0, .int .i64 0, .int .i64 0, .nilFunc] 84)).cell? ⟨T, ci * 6 + 1, none⟩ = some (.int .i64 (k : Int)) := (Row.alloc HR.out.tab _).cell _ _ (HT6.out 1 _ rfl)
  have t2' : (X.alloc (Obj.cells #[Value.string ⟨#[]⟩, .int .i64 0, .int .i64 0, .int .i64 0, .int .i64 0, .nilFunc] 84)).cell? ⟨T, ci * 6 + 2, none⟩ = some (.int .i64 (g : Int)) := (Row.alloc HR.out.tab _).cell _ _ (HT6.out 2 _ rfl)
  have t3' : (X.alloc (Obj.cells #[Value.string ⟨#[]⟩, .int .i64 0, .int .i64 0, .int .i64 0, .int .i64 0, .nilFunc] 84)).cell? ⟨T, ci * 6 + 3, none⟩ = some (.int .i64 (t : Int)) := (Row.alloc HR.out.tab _).cell _ _ (HT6.out 3 _ rfl)
  have t4' : (X.alloc (Obj.cells #[Value.string ⟨#[]⟩, .int .i64 0, .int .i64 0, .int .i64 0, .int .i64 0, .nilFunc] 84)).cell? ⟨T, ci * 6 + 4, none⟩ = some (.int .i64 (lv : Int)) := (Row.alloc HR.out.tab _).cell _ _ (HT6.out 4 _ rfl)
  have t5' : (X.alloc (Obj.cells #[Value.string ⟨#[]⟩, .int .i64 0, .int .i64 0, .int .i64 0, .int .i64 0, .nilFunc] 84)).cell? ⟨T, ci * 6 + 5, none⟩ = some (.func (.func FF) #[] #[]) := (Row.alloc HR.out.tab _).cell _ _ (HT6.out 5 _ rfl)
  have hci : (ci : Int) < 28 := by omega
  have RZ : Row (X.alloc (Obj.cells #[Value.string ⟨#[]⟩, .int .i64 0, .int .i64 0, .int .i64 0, .int .i64 0, .nilFunc] 84)) X.heap.size [Value.string ⟨#[]⟩, .int .i64 0, .int .i64 0, .int .i64 0, .int .i64 0, .nilFunc] 84 := Row.new' rfl rfl
  have RZZ : Hid (Row (X.alloc (Obj.cells #[Value.string ⟨#[]⟩, .int .i64 0, .int .i64 0, .int .i64 0, .int .i64 0, .nilFunc] 84)) X.heap.size [Value.string ⟨#[]⟩, .int .i64 0, .int .i64 0, .int .i64 0, .int .i64 0, .nilFunc] 84) := RZ
  have z0 := RZ.cell 0 _ rfl
  have zf0 := RZ.thaw 0
  have z1 := RZ.cell 1 _ rfl
  have zf1 := RZ.thaw 1
  have z2 := RZ.cell 2 _ rfl
  have zf2 := RZ.thaw 2
  have z3 := RZ.cell 3 _ rfl
  have zf3 := RZ.thaw 3
  have z4 := RZ.cell 4 _ rfl
  have zf4 := RZ.thaw 4
  have z5 := RZ.cell 5 _ rfl
  have zf5 := RZ.thaw 5
  clear RZ
  have hst : Sem.run Tryz.prog (store ⟨X.heap.size, 5, none⟩ (Value.func (.func FF) #[] #[])) (X.alloc (Obj.cells #[Value.string s, .int .i64 (k : Int), .int .i64 (g : Int), .int .i64 (t : Int), .int .i64 (lv : Int), .nilFunc] 84)).drew = .ok () (X.alloc (Obj.cells #[Value.string s, .int .i64 (k : Int), .int .i64 (g : Int), .int .i64 (t : Int), .int .i64 (lv : Int), .func (.func FF) #[] #[]] 84)).drew := by
    rw [run_store _ _ _ _ _ rfl]
    go_simp
  go_region
  obtain ⟨Y, hY⟩ : ∃ Y, Y = (X.alloc (Obj.cells #[Value.string s, .int .i64 (k : Int), .int .i64 (g : Int), .int .i64 (t : Int), .int .i64 (lv : Int), .func (.func FF) #[] #[]] 84)).drew := ⟨_, rfl⟩
  rw [← hY]
  have R5 : Hid (Row Y X.heap.size [Value.string s, .int .i64 (k : Int), .int .i64 (g : Int), .int .i64 (t : Int), .int .i64 (lv : Int), .func (.func FF) #[] #[]] 84) := by rw [hY]; exact Row.new' rfl rfl
  have BY : Below X.heap.size X Y := by rw [hY]; exact ((Below.refl X.heap.size X).alloc (Nat.le_refl _) _).drew
  have HRY : Hid (Rn k0 w0 Y r T gs n pl C h av (.slice A ss.length cp) ss l nx an ls ags) := HR.out.keep BY
  have R3 : Hid (Row Y b3 L 53) := Row.below R1.out BY R1.out.lt
  obtain ⟨b5, hb5⟩ : ∃ b, b = X.heap.size := ⟨_, rfl⟩
  rw [← hb5] at R5
  rw [← hb5]
  clear hY hb5 BY hst RZZ r0 i0 t0 t1 t2 t3 t4 t5 r0' i0' t0' t1' t2' t3' t4' t5' z0 z1 z2 z3 z4 z5 zf0 zf1 zf2 zf3 zf4 zf5 HR R1 HH hci HT6
  have y2 := R5.out.cell 2 _ rfl
  have y53 : Y.cell? ⟨r, 53, none⟩ = some (.int .i64 (l : Int)) := HRY.out.row.cell 53 _ (rc_hi HRY.out.clen 2)
  have hgl : ¬ ((l : Int) < (g : Int)) := by omega
  go_upto_region 2 with fail
  go_quiet (fail)
  obtain ⟨Z, hZ⟩ : ∃ Z, Z = Y.drewN nq := ⟨_, rfl⟩
  rw [← hZ]
  replace R5 : Hid (Row Z b5 [Value.string s, .int .i64 (k : Int), .int .i64 (g : Int), .int .i64 (t : Int), .int .i64 (lv : Int), .func (.func FF) #[] #[]] 84) := by rw [hZ]; exact R5.out.drewN _
  replace R3 : Hid (Row Z b3 L 53) := by rw [hZ]; exact R3.out.drewN _
  have HRZ : Hid (Rn k0 w0 Z r T gs n pl C h av (.slice A ss.length cp) ss l nx an ls ags) := by rw [hZ]; exact HRY.out.drewN _
  clear hZ y2 y53 HRY
  have y2 := R5.out.cell 2 _ rfl
  have y53 : Z.cell? ⟨r, 53, none⟩ = some (.int .i64 (l : Int)) := HRZ.out.row.cell 53 _ (rc_hi HRZ.out.clen 2)
  have f53 := HRZ.out.row.thaw 53
  have elg : (l : Int) - (g : Int) = ((l - g : Nat) : Int) := by omega
  go_upto_region 4 with fail
  go_region
  obtain ⟨V, hV⟩ : ∃ V, V = (Z.setCell ⟨r, 53, none⟩ (.int .i64 ((l - g : Nat) : Int))).drew := ⟨_, rfl⟩
  rw [← hV]
  have GV : Gro (· = r) Z V := by
    rw [hV]
    exact (((Gro.refl (· = r) Z).set r 53 _ rfl).below ((Below.refl _ _).drew))
  have HRV : Hid (Rn k0 w0 V r T gs n pl C h av (.slice A ss.length cp) ss (l - g) nx an ls ags) := HRZ.out.over GV HRZ.out.alen (by
    have q := HRZ.out.row.set 53 (.int .i64 ((l - g : Nat) : Int))
    rw [rc_set53 HRZ.out.clen] at q
    rw [hV]
    exact q.drew)
  replace R5 : Hid (Row V b5 [Value.string s, .int .i64 (k : Int), .int .i64 (g : Int), .int .i64 (t : Int), .int .i64 (lv : Int), .func (.func FF) #[] #[]] 84) := GV.row R5.out (row_ne2 R5.out HRZ.out.row (by decide))
  replace R3 : Hid (Row V b3 L 53) := GV.row R3.out (row_ne2 R3.out HRZ.out.row (by decide))
  clear hV GV y2 y53 f53 elg HRZ hgl
  go_upto_region 6 with (first
    | (refine wpList_load_w rfl 84 (.tmp 5) rfl b5 0 rfl [Value.string s, .int .i64 (k : Int), .int .i64 (g : Int), .int .i64 (t : Int), .int .i64 (lv : Int), .func (.func FF) #[] #[]] _ R5.out.all Tryz.underlying84 rfl info_B ?_; simp only [Act.put, List.setIfInBounds_toArray, List.set_cons_zero, List.set_cons_succ])
    | (refine wpList_load_w rfl 53 (.tmp 3) rfl b3 0 rfl L _ R3.out.all Tryz.underlying53 rfl HI.out ?_; simp only [Act.put, List.setIfInBounds_toArray, List.set_cons_zero, List.set_cons_succ])
    | (go_at_call 117; refine Calls.mono (HND.out V) ?_; rintro e U ⟨rfl, q⟩; have HRU : Hid (Rn k0 w0 U r T gs n pl C h av (.slice A ss.length cp) ss (l - g) nx an ls ags) := HRV.out.keep q; have R5U : Hid (Row U b5 [Value.string s, .int .i64 (k : Int), .int .i64 (g : Int), .int .i64 (t : Int), .int .i64 (lv : Int), .func (.func FF) #[] #[]] 84) := Row.below R5.out q R5.out.lt; have R3U : Hid (Row U b3 L 53) := Row.below R3.out q R3.out.lt; clear q))
  have u52 : U.cell? ⟨r, 52, none⟩ = some (.slice A ss.length cp) := HRU.out.row.cell 52 _ (rc_hi HRU.out.clen 1)
  have u54 : U.cell? ⟨r, 54, none⟩ = some (.int .i64 (nx : Int)) := HRU.out.row.cell 54 _ (rc_hi HRU.out.clen 3)
  obtain ⟨m, hm'⟩ : ∃ m, m = ss.length := ⟨_, rfl⟩
  rw [← hm'] at u52 ht hm
  have htl : ¬ ((m : Int) < (t : Int)) := by omega
  have e1 : (m : Int) - (t : Int) = ((m - t : Nat) : Int) := by omega
  have hsz : ¬ ((64 : Int) < ((m - t : Nat) : Int) + (lv : Int)) := by omega
  have hmt : m - t ≤ 64 := by omega
  have HMM : Hid (m = ss.length) := hm'
  have HL54 : Hid (54 < (rc T pl (.slice (some ⟨gs, 0, none⟩) n n) C h (.slice A ss.length cp) (l - g) nx an).length) := by show _ < _; rw [rc_len HRU.out.clen HRU.out.alen]; decide
  obtain ⟨N1, hN1⟩ : ∃ N, N = nx + 1 := ⟨_, rfl⟩
  have en : (nx : Int) + 1 = (N1 : Int) := by omega
  have HN1 : Hid (N1 = nx + 1) := hN1
  rw [← hN1] at HDO
  clear hm' R5 R3 HRV hN1
  go_upto_region 9 with (first
    | (refine wpList_set1 rfl 3 (.tmp 63) (.tmp 61) rfl r 54 (.int .i64 (N1 : Int)) (rc T pl (.slice (some ⟨gs, 0, none⟩) n n) C h (.slice A ss.length cp) (l - g) nx an) 100 rfl rfl rfl HRU.out.row HL54.out info_int1 rfl ?_; intro Z2 q1 q2 q3; have RZ2 : Hid (Row Z2 r ((rc T pl (.slice (some ⟨gs, 0, none⟩) n n) C h (.slice A ss.length cp) (l - g) nx an).set 54 (.int .i64 (N1 : Int))) 100) := q1; have GZ : Hid (Gro (· = r) U Z2) := q2; clear q1 q2 q3; simp only [Act.put]))
  have HRZ2 : Hid (Rn k0 w0 Z2 r T gs n pl C h av (.slice A ss.length cp) ss (l - g) N1 an ls ags) := HRU.out.over GZ.out HRU.out.alen (by
    have q := RZ2.out
    rw [rc_set54 HRU.out.clen] at q
    exact q)
  have R52 := GZ.out.row R5U.out (row_ne2 R5U.out HRU.out.row (by decide))
  have R32 : Hid (Row Z2 b3 L 53) := GZ.out.row R3U.out (row_ne2 R3U.out HRU.out.row (by decide))
  have y5 := R52.cell 5 _ rfl
  have HCF : Hid _ := HDO.out Z2 HRZ2.out
  clear R52 RZ2 GZ u52 u54 en htl e1 hsz hmt HRU R5U R3U HL54
  have hcf := HCFN.out #[.pointer (some ⟨r, 0, none⟩), .agg L.toArray] Z2
  go_wp2_with (refine wpList_load_w rfl 53 (.tmp 3) rfl b3 0 rfl L _ R32.out.all Tryz.underlying53 rfl HI.out ?_; simp only [Act.put, List.setIfInBounds_toArray, List.set_cons_zero, List.set_cons_succ])
  refine Calls.mono HCF.out ?_
  rintro e Z3 ⟨v, rfl, q⟩
  clear hcf
  go_wp2
  go_ret
  exact ⟨v, rfl, q⟩

end Go.Proofs.YtclbiophgnkggaaGreatDoor

namespace Go.Proofs.YtclbiophgnkggaaGreatDoor
open Go Go.RowKit
open Sha
open Wd
theorem cf_arg (args : Array Value) (W : World) : (callFunc 45 args).run Tryz.prog W = .ok (.enter 45 args) W := by
  go_simp
theorem cf_add (args : Array Value) (W : World) : (callFunc 35 args).run Tryz.prog W = .ok (.enter 35 args) W := by
  go_simp
theorem cf_done (args : Array Value) (W : World) : (callFunc 30 args).run Tryz.prog W = .ok (.enter 30 args) W := by
  go_simp
theorem cf_sub (args : Array Value) (W : World) : (callFunc 36 args).run Tryz.prog W = .ok (.enter 36 args) W := by
  go_simp
theorem cf_mul (args : Array Value) (W : World) : (callFunc 37 args).run Tryz.prog W = .ok (.enter 37 args) W := by
  go_simp
theorem cf_div (args : Array Value) (W : World) : (callFunc 38 args).run Tryz.prog W = .ok (.enter 38 args) W := by
  go_simp
theorem cf_mod (args : Array Value) (W : World) : (callFunc 39 args).run Tryz.prog W = .ok (.enter 39 args) W := by
  go_simp
theorem cf_less (args : Array Value) (W : World) : (callFunc 40 args).run Tryz.prog W = .ok (.enter 40 args) W := by
  go_simp
theorem stp_arg (r T gs n : Nat) (pl : Value) (C : List Value) (h av stk : Value) (ss : List Nat) (l nx : Nat) (an : List Value) (ls : List Ins) (ags : List Nat) (pi ni x : Nat) (hx : ags[ni]? = some x) (h8 : ags.length ≤ 8) (hs : ss.length ≤ 60) (hg : 2 ≤ l) (hl : l ≤ 10000) (hnx : nx ≤ 1024) (k0 w0 w : World) (H : Rn k0 w0 w r T gs n pl C h av stk (ss) l nx an ls ags) : Calls Tryz.prog 105 #[.pointer (some ⟨r, 0, none⟩), .agg (ic 16 pi 0 ni).toArray] w fun e w' => ∃ v, e = .returned (.int .i64 v) ∧ (v = 0 ∧ ∃ stk', Rn k0 w0 w' r T gs n pl C h av stk' (ss ++ [x]) (l - 2) (nx + 1) (an) ls ags) := by
  refine step_any r T gs n pl C h av stk (ss) l nx an ls ags 16 pi 0 ni _ 4 2 0 1 45 (by decide) rfl rfl rfl hg hl (by simp) (by simp; omega) (by decide) hnx k0 w0 w H _ cf_arg ?_
  intro W hW
  refine Calls.mono (arg_in r T gs n pl C h av stk ss _ _ an ls ags 16 pi 0 ni x hx h8 k0 w0 W hW (by omega)) ?_
  rintro e w' ⟨rfl, q⟩
  exact ⟨0, rfl, rfl, q⟩
theorem stp_add (r T gs n : Nat) (pl : Value) (C : List Value) (h av stk : Value) (ss : List Nat) (l nx : Nat) (an : List Value) (ls : List Ins) (ags : List Nat) (pi ni x y : Nat) (hx : x < 2 ^ 256) (hy : y < 2 ^ 256) (h3 : x + y < 2 ^ 256) (hs : ss.length ≤ 60) (hg : 2 ≤ l) (hl : l ≤ 10000) (hnx : nx ≤ 1024) (k0 w0 w : World) (H : Rn k0 w0 w r T gs n pl C h av stk (ss ++ [x] ++ [y]) l nx an ls ags) : Calls Tryz.prog 105 #[.pointer (some ⟨r, 0, none⟩), .agg (ic 6 pi 0 ni).toArray] w fun e w' => ∃ v, e = .returned (.int .i64 v) ∧ (v = 0 ∧ ∃ stk', Rn k0 w0 w' r T gs n pl C h av stk' (ss ++ [x + y]) (l - 2) (nx + 1) (an) ls ags) := by
  refine step_any r T gs n pl C h av stk (ss ++ [x] ++ [y]) l nx an ls ags 6 pi 0 ni _ 0 2 2 1 35 (by decide) rfl rfl rfl hg hl (by simp) (by simp; omega) (by decide) hnx k0 w0 w H _ cf_add ?_
  intro W hW
  refine Calls.mono (add_ok r T gs n pl C h av stk ss _ _ an ls ags _ x y hx hy h3 k0 w0 W hW (by omega)) ?_
  rintro e w' ⟨rfl, q⟩
  exact ⟨0, rfl, rfl, q⟩
theorem stp_done (r T gs n : Nat) (pl : Value) (C : List Value) (h av stk : Value) (ss : List Nat) (l nx : Nat) (an : List Value) (ls : List Ins) (ags : List Nat) (pi ni x : Nat)  (hs : ss.length ≤ 60) (hg : 1 ≤ l) (hl : l ≤ 10000) (hnx : nx ≤ 1024) (k0 w0 w : World) (H : Rn k0 w0 w r T gs n pl C h av stk (ss ++ [x]) l nx an ls ags) : Calls Tryz.prog 105 #[.pointer (some ⟨r, 0, none⟩), .agg (ic 1 pi 0 ni).toArray] w fun e w' => ∃ v, e = .returned (.int .i64 v) ∧ (v = 0 ∧ ∃ stk', Rn k0 w0 w' r T gs n pl C h av stk' (ss) (l - 1) (nx + 1) (wq x) ls ags) := by
  refine step_any r T gs n pl C h av stk (ss ++ [x]) l nx an ls ags 1 pi 0 ni _ 0 1 1 0 30 (by decide) rfl rfl rfl hg hl (by simp) (by simp; omega) (by decide) hnx k0 w0 w H _ cf_done ?_
  intro W hW
  refine Calls.mono (done_any r T gs n pl C h av stk ss _ _ an ls ags _ x k0 w0 W hW (by omega)) ?_
  rintro e w' ⟨rfl, q⟩
  exact ⟨0, rfl, rfl, q⟩

end Go.Proofs.YtclbiophgnkggaaGreatDoor
