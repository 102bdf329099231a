/-
  one step of the host's four.
-/
import Derived.Test.YtabcglakdlkdcaaMkEq
import Derived.Test.YtabcglakdlkdcaaMkEp
import Derived.Test.YtabcglakdlkdcaaMkEj

namespace Go.Proofs.Ytabcglakdlkdcaa
open Go Go.RowKit
open Sha
open Wd
set_option maxRecDepth 100000 in
set_option maxHeartbeats 4000000 in
theorem do_send_no (r T gs n : Nat) (pl : Value) (C : List Value) (hb : Nat) (av stk : Value) (ss : List Nat) (l nx : Nat) (an : List Value) (ls : List Ins) (ags : List Nat) (I : List Value) (x y z : Nat) (hx : x < 2 ^ 256) (h6 : ¬ x < 64) (k0 w0 w : World) (H : Rn k0 w0 w r T gs n pl C (.iface 48 (.pointer (some ⟨hb, 0, none⟩))) av stk (ss ++ [x] ++ [y] ++ [z]) l nx an ls ags) (hss : ss.length ≤ 900) : Calls Try.prog 44 #[.pointer (some ⟨r, 0, none⟩), .agg I.toArray] w fun e w' => e = .returned (.int .i64 104) ∧ ∃ stk', Rn k0 w0 w' r T gs n pl C (.iface 48 (.pointer (some ⟨hb, 0, none⟩))) av stk' (ss) l nx an ls ags := by
  obtain ⟨LX, hLX⟩ : ∃ L, L = wq x := ⟨_, rfl⟩
  obtain ⟨y0, hy0⟩ : ∃ a, a = ((lim y 0 : Nat) : Int) := ⟨_, rfl⟩
  obtain ⟨y1, hy1⟩ : ∃ a, a = ((lim y 1 : Nat) : Int) := ⟨_, rfl⟩
  obtain ⟨y2, hy2⟩ : ∃ a, a = ((lim y 2 : Nat) : Int) := ⟨_, rfl⟩
  obtain ⟨y3, hy3⟩ : ∃ a, a = ((lim y 3 : Nat) : Int) := ⟨_, rfl⟩
  obtain ⟨z0, hz0⟩ : ∃ a, a = ((lim z 0 : Nat) : Int) := ⟨_, rfl⟩
  obtain ⟨z1, hz1⟩ : ∃ a, a = ((lim z 1 : Nat) : Int) := ⟨_, rfl⟩
  obtain ⟨z2, hz2⟩ : ∃ a, a = ((lim z 2 : Nat) : Int) := ⟨_, rfl⟩
  obtain ⟨z3, hz3⟩ : ∃ a, a = ((lim z 3 : Nat) : Int) := ⟨_, rfl⟩
  have hY : wq y = [.int .u64 y0, .int .u64 y1, .int .u64 y2, .int .u64 y3] := by rw [wq_cells, hy0, hy1, hy2, hy3]
  have hZ : wq z = [.int .u64 z0, .int .u64 z1, .int .u64 z2, .int .u64 z3] := by rw [wq_cells, hz0, hz1, hz2, hz3]
  have HTK : Hid (∀ W, Rn k0 w0 W r T gs n pl C (.iface 48 (.pointer (some ⟨hb, 0, none⟩))) av stk (ss ++ [x] ++ [y] ++ [z]) l nx an ls ags → Calls Try.prog 48 #[.pointer (some ⟨r, 0, none⟩)] W fun e w' => e = .returned (.agg #[.int .u64 z0, .int .u64 z1, .int .u64 z2, .int .u64 z3]) ∧ ∃ stk', Rn k0 w0 w' r T gs n pl C (.iface 48 (.pointer (some ⟨hb, 0, none⟩))) av stk' (ss ++ [x] ++ [y]) l nx an ls ags) := fun W hW => by
    have q0 := take_any r T gs n pl C _ av stk (ss ++ [x] ++ [y]) l nx an ls ags z k0 w0 W hW (by simp only [List.length_append, List.length_singleton]; omega)
    rw [hZ] at q0
    refine Calls.mono q0 ?_
    rintro e w' ⟨q1, _, _, stk2, _, q⟩
    exact ⟨q1, stk2, q⟩
  have HTT : Hid (∀ stk' W, Rn k0 w0 W r T gs n pl C (.iface 48 (.pointer (some ⟨hb, 0, none⟩))) av stk' (ss ++ [x] ++ [y]) l nx an ls ags → Calls Try.prog 52 #[.pointer (some ⟨r, 0, none⟩)] W fun e w' => e = .returned (.tuple #[.agg LX.toArray, .agg #[.int .u64 y0, .int .u64 y1, .int .u64 y2, .int .u64 y3]]) ∧ (∀ {b : Nat} {cs : List Value} {t : TypeId}, Row W b cs t → b ≠ r → Row w' b cs t) ∧ ∃ stk2, Rn k0 w0 w' r T gs n pl C (.iface 48 (.pointer (some ⟨hb, 0, none⟩))) av stk2 (ss) l nx an ls ags) := fun stk' W hW => by
    have q0 := takeTwo_any r T gs n pl C _ av stk' ss l nx an ls ags x y k0 w0 W hW (by omega)
    rw [hY, ← hLX] at q0
    refine Calls.mono q0 ?_
    rintro e w' ⟨q1, _, q3, stk2, q⟩
    exact ⟨q1, q3, stk2, q⟩
  have HIX : Hid ((Try.prog.info? 27).map (·.size) = some (LX : List Value).length ∧ (LX : List Value).length = zW.length ∧ (LX : List Value).toArray.all (·.oneCell') = true) := by rw [hLX]; exact ⟨info_Wq _, wq_len _, wq_one _⟩
  have HIY : Hid ((Try.prog.info? 27).map (·.size) = some ([.int .u64 y0, .int .u64 y1, .int .u64 y2, .int .u64 y3] : List Value).length ∧ ([.int .u64 y0, .int .u64 y1, .int .u64 y2, .int .u64 y3] : List Value).length = zW.length ∧ ([.int .u64 y0, .int .u64 y1, .int .u64 y2, .int .u64 y3] : List Value).toArray.all (·.oneCell') = true) := by rw [← hY]; exact ⟨info_Wq _, wq_len _, wq_one _⟩
  have HIZ : Hid ((Try.prog.info? 27).map (·.size) = some ([.int .u64 z0, .int .u64 z1, .int .u64 z2, .int .u64 z3] : List Value).length ∧ ([.int .u64 z0, .int .u64 z1, .int .u64 z2, .int .u64 z3] : List Value).length = zW.length ∧ ([.int .u64 z0, .int .u64 z1, .int .u64 z2, .int .u64 z3] : List Value).toArray.all (·.oneCell') = true) := by rw [← hZ]; exact ⟨info_Wq _, wq_len _, wq_one _⟩
  have HTO : Hid (∀ W, Calls Try.prog 63 #[.agg LX.toArray] W fun e w' => e = .returned (.tuple #[.int .i64 0, .bool false]) ∧ Below W.heap.size W w') := fun W => by rw [hLX]; exact token_no x hx h6 W
  have HH : Hid (Rn k0 w0 w r T gs n pl C (.iface 48 (.pointer (some ⟨hb, 0, none⟩))) av stk (ss ++ [x] ++ [y] ++ [z]) l nx an ls ags) := H
  clear H hss hLX hY hZ hx h6 hy0 hy1 hy2 hy3 hz0 hz1 hz2 hz3
  go_enter Try.func44, Try.ntmps44
  go_upto_region 2 with (first
    | (refine wpList_boxG 77 rfl (.tmp 1) rfl I rfl ?_; intro X1 q1 q2 q3; have HR : Hid (Rn k0 w0 X1 r T gs n pl C (.iface 48 (.pointer (some ⟨hb, 0, none⟩))) av stk (ss ++ [x] ++ [y] ++ [z]) l nx an ls ags) := HH.out.keep q2; clear q1 q2 q3; simp only [Act.put, List.setIfInBounds_toArray, List.set_cons_zero, List.set_cons_succ])
    | (go_at_call 48; refine Calls.mono (HTK.out X1 HR.out) ?_; rintro e V1 ⟨rfl, stkA, q⟩; have HRA : Hid (Rn k0 w0 V1 r T gs n pl C (.iface 48 (.pointer (some ⟨hb, 0, none⟩))) av stkA (ss ++ [x] ++ [y]) l nx an ls ags) := q; clear q)
    | (refine wpList_allocW rfl (by rfl : _ = Op.alloc 27) ?_; intro V2 q1 q2 q3; have RV2 : Hid (Row V2 V1.heap.size zW 27) := q1; have BV2 : Hid (Below V1.heap.size V1 V2) := q2; clear q1 q2 q3; simp only [Act.put, List.setIfInBounds_toArray, List.set_cons_zero, List.set_cons_succ])
    | (refine wpList_storeL rfl 27 (.tmp 5) (.tmp 11) rfl V1.heap.size [.int .u64 z0, .int .u64 z1, .int .u64 z2, .int .u64 z3] zW 27 rfl rfl RV2.out HIZ.out.2.1 HIZ.out.1 HIZ.out.2.2 ?_; intro V3 q1 q2; have EV3 : Hid (V3 = _) := q1; have RV3 : Hid (Row V3 V1.heap.size [.int .u64 z0, .int .u64 z1, .int .u64 z2, .int .u64 z3] 27) := q2; clear q1 q2; simp only [Act.put]))
  have DV3 : Below V1.heap.size V1 V3 := by rw [EV3.out]; exact below_setCells BV2.out (Nat.le_refl _) _
  have HRA3 : Hid (Rn k0 w0 V3 r T gs n pl C (.iface 48 (.pointer (some ⟨hb, 0, none⟩))) av stkA (ss ++ [x] ++ [y]) l nx an ls ags) := HRA.out.keep DV3
  obtain ⟨bz, hbz⟩ : ∃ b, b = V1.heap.size := ⟨_, rfl⟩
  rw [← hbz] at RV3 ⊢
  have HNR : Hid (bz ≠ r) := row_ne2 RV3.out HRA3.out.row (by decide)
  clear hbz DV3 EV3 RV2 BV2 HRA HR
  go_upto_region 3 with (first
    | (go_at_call 52; refine Calls.mono (HTT.out stkA V3 HRA3.out) ?_; rintro e X2 ⟨rfl, qr, stk2, q⟩; have HR2 : Hid (Rn k0 w0 X2 r T gs n pl C (.iface 48 (.pointer (some ⟨hb, 0, none⟩))) av stk2 (ss) l nx an ls ags) := q; have RZ2 : Hid (Row X2 bz [.int .u64 z0, .int .u64 z1, .int .u64 z2, .int .u64 z3] 27) := qr RV3.out HNR.out; clear q qr)
    | (refine wpList_allocW rfl (by rfl : _ = Op.alloc 27) ?_; intro X3 q1 q2 q3; have R3 : Hid (Row X3 X2.heap.size zW 27) := q1; have B3 : Hid (Below X2.heap.size X2 X3) := q2; have S3 : Hid (X3.heap.size = X2.heap.size + 1) := q3; clear q1 q2 q3; refine wpList_allocW rfl (by rfl : _ = Op.alloc 27) ?_; intro X4 q1 q2 q3; have R4 : Hid (Row X4 X3.heap.size zW 27) := q1; have B4 : Hid (Below X3.heap.size X3 X4) := q2; clear q1 q2 q3; simp only [Act.put, List.setIfInBounds_toArray, List.set_cons_zero, List.set_cons_succ])
    | (refine wpList_storeL rfl 27 (.tmp 6) (.tmp 15) rfl X2.heap.size LX zW 27 rfl rfl (Row.below R3.out B4.out R3.out.lt) HIX.out.2.1 HIX.out.1 HIX.out.2.2 ?_; intro X5 q1 q2; have E5 : Hid (X5 = _) := q1; have R5 : Hid (Row X5 X2.heap.size LX 27) := q2; clear q1 q2; simp only [Act.put])
    | (refine wpList_storeL rfl 27 (.tmp 7) (.tmp 16) rfl X3.heap.size [.int .u64 y0, .int .u64 y1, .int .u64 y2, .int .u64 y3] zW 27 rfl rfl (by rw [E5.out]; exact Row.setCells_other R4.out _ _ _ (by have := S3.out; omega)) HIY.out.2.1 HIY.out.1 HIY.out.2.2 ?_; intro X6 q1 q2; have E6 : Hid (X6 = _) := q1; have R6 : Hid (Row X6 X3.heap.size [.int .u64 y0, .int .u64 y1, .int .u64 y2, .int .u64 y3] 27) := q2; clear q1 q2; simp only [Act.put]))
  have D6 : Below X2.heap.size X2 X6 := by
    rw [E6.out, E5.out]
    exact below_setCells (below_setCells (B3.out.trans (B4.out.mono (by rw [S3.out]; omega))) (Nat.le_refl _) _) (by rw [S3.out]; omega) _
  have R56 : Hid (Row X6 X2.heap.size LX 27) := by rw [E6.out]; exact Row.setCells_other R5.out _ _ _ (by have := S3.out; omega)
  have RZ6 : Hid (Row X6 bz [.int .u64 z0, .int .u64 z1, .int .u64 z2, .int .u64 z3] 27) := Row.below RZ2.out D6 RZ2.out.lt
  have HR6 : Hid (Rn k0 w0 X6 r T gs n pl C (.iface 48 (.pointer (some ⟨hb, 0, none⟩))) av stk2 (ss) l nx an ls ags) := HR2.out.keep D6
  obtain ⟨b5, hb5⟩ : ∃ b, b = X2.heap.size := ⟨_, rfl⟩
  obtain ⟨b6, hb6⟩ : ∃ b, b = X3.heap.size := ⟨_, rfl⟩
  rw [← hb6] at R6 ⊢
  rw [← hb5] at R56 ⊢
  clear hb5 hb6 D6 E6 E5 R5 R4 B4 R3 B3 S3 HR2 HRA3 RZ2 RV3
  go_wp2_with (first
    | (refine wpList_load_w rfl 27 (.tmp 6) rfl b5 0 rfl LX _ R56.out.all Try.underlying27 rfl HIX.out.1 ?_; simp only [Act.put, List.setIfInBounds_toArray, List.set_cons_zero, List.set_cons_succ])
    | (go_at_call 63; refine Calls.mono (HTO.out X6) ?_; rintro e X7 ⟨rfl, q⟩; have HR7 : Hid (Rn k0 w0 X7 r T gs n pl C (.iface 48 (.pointer (some ⟨hb, 0, none⟩))) av stk2 (ss) l nx an ls ags) := HR6.out.keep q; have R7 : Hid (Row X7 b6 [.int .u64 y0, .int .u64 y1, .int .u64 y2, .int .u64 y3] 27) := Row.below R6.out q R6.out.lt; have RZ7 : Hid (Row X7 bz [.int .u64 z0, .int .u64 z1, .int .u64 z2, .int .u64 z3] 27) := Row.below RZ6.out q RZ6.out.lt; clear q))
  go_ret
  exact ⟨rfl, stk2, HR7.out⟩
set_option maxRecDepth 100000 in
set_option maxHeartbeats 4000000 in
theorem do_send (r T gs n : Nat) (pl : Value) (C : List Value) (hb : Nat) (av stk : Value) (ss : List Nat) (l nx : Nat) (an : List Value) (ls : List Ins) (ags : List Nat) (I : List Value) (x y z : Nat) (hx : x < 2 ^ 256) (h6 : x < 64) (P : Int → World → World → Prop) (k0 w0 w : World) (H : Rn k0 w0 w r T gs n pl C (.iface 48 (.pointer (some ⟨hb, 0, none⟩))) av stk (ss ++ [x] ++ [y] ++ [z]) l nx an ls ags) (hss : ss.length ≤ 900)
    (hh : ∀ stk' W, Rn k0 w0 W r T gs n pl C (.iface 48 (.pointer (some ⟨hb, 0, none⟩))) av stk' (ss) l nx an ls ags → Calls Try.prog 108 #[.pointer (some ⟨hb, 0, none⟩), .int .i64 (x : Int), .agg (adr y).toArray, .agg (wq z).toArray] W fun e w' => ∃ E, e = .returned (.int .i64 E) ∧ ∃ w1, P E w' w1 ∧ Rn w' w1 w' r T gs n pl C (.iface 48 (.pointer (some ⟨hb, 0, none⟩))) av stk' (ss) l nx an ls ags) : Calls Try.prog 44 #[.pointer (some ⟨r, 0, none⟩), .agg I.toArray] w fun e w' => ∃ E w1, e = .returned (.int .i64 E) ∧ P E w' w1 ∧ ∃ stk', Rn w' w1 w' r T gs n pl C (.iface 48 (.pointer (some ⟨hb, 0, none⟩))) av stk' (ss) l nx an ls ags := by
  obtain ⟨LA, hLA⟩ : ∃ L, L = adr y := ⟨_, rfl⟩
  obtain ⟨LX, hLX⟩ : ∃ L, L = wq x := ⟨_, rfl⟩
  obtain ⟨y0, hy0⟩ : ∃ a, a = ((lim y 0 : Nat) : Int) := ⟨_, rfl⟩
  obtain ⟨y1, hy1⟩ : ∃ a, a = ((lim y 1 : Nat) : Int) := ⟨_, rfl⟩
  obtain ⟨y2, hy2⟩ : ∃ a, a = ((lim y 2 : Nat) : Int) := ⟨_, rfl⟩
  obtain ⟨y3, hy3⟩ : ∃ a, a = ((lim y 3 : Nat) : Int) := ⟨_, rfl⟩
  obtain ⟨z0, hz0⟩ : ∃ a, a = ((lim z 0 : Nat) : Int) := ⟨_, rfl⟩
  obtain ⟨z1, hz1⟩ : ∃ a, a = ((lim z 1 : Nat) : Int) := ⟨_, rfl⟩
  obtain ⟨z2, hz2⟩ : ∃ a, a = ((lim z 2 : Nat) : Int) := ⟨_, rfl⟩
  obtain ⟨z3, hz3⟩ : ∃ a, a = ((lim z 3 : Nat) : Int) := ⟨_, rfl⟩
  have hY : wq y = [.int .u64 y0, .int .u64 y1, .int .u64 y2, .int .u64 y3] := by rw [wq_cells, hy0, hy1, hy2, hy3]
  have hZ : wq z = [.int .u64 z0, .int .u64 z1, .int .u64 z2, .int .u64 z3] := by rw [wq_cells, hz0, hz1, hz2, hz3]
  have HTK : Hid (∀ W, Rn k0 w0 W r T gs n pl C (.iface 48 (.pointer (some ⟨hb, 0, none⟩))) av stk (ss ++ [x] ++ [y] ++ [z]) l nx an ls ags → Calls Try.prog 48 #[.pointer (some ⟨r, 0, none⟩)] W fun e w' => e = .returned (.agg #[.int .u64 z0, .int .u64 z1, .int .u64 z2, .int .u64 z3]) ∧ ∃ stk', Rn k0 w0 w' r T gs n pl C (.iface 48 (.pointer (some ⟨hb, 0, none⟩))) av stk' (ss ++ [x] ++ [y]) l nx an ls ags) := fun W hW => by
    have q0 := take_any r T gs n pl C _ av stk (ss ++ [x] ++ [y]) l nx an ls ags z k0 w0 W hW (by simp only [List.length_append, List.length_singleton]; omega)
    rw [hZ] at q0
    refine Calls.mono q0 ?_
    rintro e w' ⟨q1, _, _, stk2, _, q⟩
    exact ⟨q1, stk2, q⟩
  have HTT : Hid (∀ stk' W, Rn k0 w0 W r T gs n pl C (.iface 48 (.pointer (some ⟨hb, 0, none⟩))) av stk' (ss ++ [x] ++ [y]) l nx an ls ags → Calls Try.prog 52 #[.pointer (some ⟨r, 0, none⟩)] W fun e w' => e = .returned (.tuple #[.agg LX.toArray, .agg #[.int .u64 y0, .int .u64 y1, .int .u64 y2, .int .u64 y3]]) ∧ (∀ {b : Nat} {cs : List Value} {t : TypeId}, Row W b cs t → b ≠ r → Row w' b cs t) ∧ ∃ stk2, Rn k0 w0 w' r T gs n pl C (.iface 48 (.pointer (some ⟨hb, 0, none⟩))) av stk2 (ss) l nx an ls ags) := fun stk' W hW => by
    have q0 := takeTwo_any r T gs n pl C _ av stk' ss l nx an ls ags x y k0 w0 W hW (by omega)
    rw [hY, ← hLX] at q0
    refine Calls.mono q0 ?_
    rintro e w' ⟨q1, _, q3, stk2, q⟩
    exact ⟨q1, q3, stk2, q⟩
  have HIX : Hid ((Try.prog.info? 27).map (·.size) = some (LX : List Value).length ∧ (LX : List Value).length = zW.length ∧ (LX : List Value).toArray.all (·.oneCell') = true) := by rw [hLX]; exact ⟨info_Wq _, wq_len _, wq_one _⟩
  have HIY : Hid ((Try.prog.info? 27).map (·.size) = some ([.int .u64 y0, .int .u64 y1, .int .u64 y2, .int .u64 y3] : List Value).length ∧ ([.int .u64 y0, .int .u64 y1, .int .u64 y2, .int .u64 y3] : List Value).length = zW.length ∧ ([.int .u64 y0, .int .u64 y1, .int .u64 y2, .int .u64 y3] : List Value).toArray.all (·.oneCell') = true) := by rw [← hY]; exact ⟨info_Wq _, wq_len _, wq_one _⟩
  have HIZ : Hid ((Try.prog.info? 27).map (·.size) = some ([.int .u64 z0, .int .u64 z1, .int .u64 z2, .int .u64 z3] : List Value).length ∧ ([.int .u64 z0, .int .u64 z1, .int .u64 z2, .int .u64 z3] : List Value).length = zW.length ∧ ([.int .u64 z0, .int .u64 z1, .int .u64 z2, .int .u64 z3] : List Value).toArray.all (·.oneCell') = true) := by rw [← hZ]; exact ⟨info_Wq _, wq_len _, wq_one _⟩
  have HTO : Hid (∀ W, Calls Try.prog 63 #[.agg LX.toArray] W fun e w' => e = .returned (.tuple #[.int .i64 (x : Int), .bool true]) ∧ Below W.heap.size W w') := fun W => by rw [hLX]; exact token_in x hx h6 W
  have HAD : Hid (∀ W, Calls Try.prog 64 #[.agg #[.int .u64 y0, .int .u64 y1, .int .u64 y2, .int .u64 y3]] W fun e w' => e = .returned (.agg LA.toArray) ∧ Below W.heap.size W w') := fun W => by
    have q := addressOf_any y W
    rw [hY, ← hLA] at q
    exact q
  have HHO : Hid (∀ stk' W, Rn k0 w0 W r T gs n pl C (.iface 48 (.pointer (some ⟨hb, 0, none⟩))) av stk' (ss) l nx an ls ags → Calls Try.prog 108 #[.pointer (some ⟨hb, 0, none⟩), .int .i64 (x : Int), .agg LA.toArray, .agg #[.int .u64 z0, .int .u64 z1, .int .u64 z2, .int .u64 z3]] W fun e w' => ∃ E, e = .returned (.int .i64 E) ∧ ∃ w1, P E w' w1 ∧ Rn w' w1 w' r T gs n pl C (.iface 48 (.pointer (some ⟨hb, 0, none⟩))) av stk' (ss) l nx an ls ags) := fun stk' W hW => by
    have q := hh stk' W hW
    rw [← hLA, hZ] at q
    exact q
  have HH : Hid (Rn k0 w0 w r T gs n pl C (.iface 48 (.pointer (some ⟨hb, 0, none⟩))) av stk (ss ++ [x] ++ [y] ++ [z]) l nx an ls ags) := H
  clear H hss hLA hh hLX hY hZ hx h6 hy0 hy1 hy2 hy3 hz0 hz1 hz2 hz3
  go_enter Try.func44, Try.ntmps44
  go_upto_region 2 with (first
    | (refine wpList_boxG 77 rfl (.tmp 1) rfl I rfl ?_; intro X1 q1 q2 q3; have HR : Hid (Rn k0 w0 X1 r T gs n pl C (.iface 48 (.pointer (some ⟨hb, 0, none⟩))) av stk (ss ++ [x] ++ [y] ++ [z]) l nx an ls ags) := HH.out.keep q2; clear q1 q2 q3; simp only [Act.put, List.setIfInBounds_toArray, List.set_cons_zero, List.set_cons_succ])
    | (go_at_call 48; refine Calls.mono (HTK.out X1 HR.out) ?_; rintro e V1 ⟨rfl, stkA, q⟩; have HRA : Hid (Rn k0 w0 V1 r T gs n pl C (.iface 48 (.pointer (some ⟨hb, 0, none⟩))) av stkA (ss ++ [x] ++ [y]) l nx an ls ags) := q; clear q)
    | (refine wpList_allocW rfl (by rfl : _ = Op.alloc 27) ?_; intro V2 q1 q2 q3; have RV2 : Hid (Row V2 V1.heap.size zW 27) := q1; have BV2 : Hid (Below V1.heap.size V1 V2) := q2; clear q1 q2 q3; simp only [Act.put, List.setIfInBounds_toArray, List.set_cons_zero, List.set_cons_succ])
    | (refine wpList_storeL rfl 27 (.tmp 5) (.tmp 11) rfl V1.heap.size [.int .u64 z0, .int .u64 z1, .int .u64 z2, .int .u64 z3] zW 27 rfl rfl RV2.out HIZ.out.2.1 HIZ.out.1 HIZ.out.2.2 ?_; intro V3 q1 q2; have EV3 : Hid (V3 = _) := q1; have RV3 : Hid (Row V3 V1.heap.size [.int .u64 z0, .int .u64 z1, .int .u64 z2, .int .u64 z3] 27) := q2; clear q1 q2; simp only [Act.put]))
  have DV3 : Below V1.heap.size V1 V3 := by rw [EV3.out]; exact below_setCells BV2.out (Nat.le_refl _) _
  have HRA3 : Hid (Rn k0 w0 V3 r T gs n pl C (.iface 48 (.pointer (some ⟨hb, 0, none⟩))) av stkA (ss ++ [x] ++ [y]) l nx an ls ags) := HRA.out.keep DV3
  obtain ⟨bz, hbz⟩ : ∃ b, b = V1.heap.size := ⟨_, rfl⟩
  rw [← hbz] at RV3 ⊢
  have HNR : Hid (bz ≠ r) := row_ne2 RV3.out HRA3.out.row (by decide)
  clear hbz DV3 EV3 RV2 BV2 HRA HR
  go_upto_region 3 with (first
    | (go_at_call 52; refine Calls.mono (HTT.out stkA V3 HRA3.out) ?_; rintro e X2 ⟨rfl, qr, stk2, q⟩; have HR2 : Hid (Rn k0 w0 X2 r T gs n pl C (.iface 48 (.pointer (some ⟨hb, 0, none⟩))) av stk2 (ss) l nx an ls ags) := q; have RZ2 : Hid (Row X2 bz [.int .u64 z0, .int .u64 z1, .int .u64 z2, .int .u64 z3] 27) := qr RV3.out HNR.out; clear q qr)
    | (refine wpList_allocW rfl (by rfl : _ = Op.alloc 27) ?_; intro X3 q1 q2 q3; have R3 : Hid (Row X3 X2.heap.size zW 27) := q1; have B3 : Hid (Below X2.heap.size X2 X3) := q2; have S3 : Hid (X3.heap.size = X2.heap.size + 1) := q3; clear q1 q2 q3; refine wpList_allocW rfl (by rfl : _ = Op.alloc 27) ?_; intro X4 q1 q2 q3; have R4 : Hid (Row X4 X3.heap.size zW 27) := q1; have B4 : Hid (Below X3.heap.size X3 X4) := q2; clear q1 q2 q3; simp only [Act.put, List.setIfInBounds_toArray, List.set_cons_zero, List.set_cons_succ])
    | (refine wpList_storeL rfl 27 (.tmp 6) (.tmp 15) rfl X2.heap.size LX zW 27 rfl rfl (Row.below R3.out B4.out R3.out.lt) HIX.out.2.1 HIX.out.1 HIX.out.2.2 ?_; intro X5 q1 q2; have E5 : Hid (X5 = _) := q1; have R5 : Hid (Row X5 X2.heap.size LX 27) := q2; clear q1 q2; simp only [Act.put])
    | (refine wpList_storeL rfl 27 (.tmp 7) (.tmp 16) rfl X3.heap.size [.int .u64 y0, .int .u64 y1, .int .u64 y2, .int .u64 y3] zW 27 rfl rfl (by rw [E5.out]; exact Row.setCells_other R4.out _ _ _ (by have := S3.out; omega)) HIY.out.2.1 HIY.out.1 HIY.out.2.2 ?_; intro X6 q1 q2; have E6 : Hid (X6 = _) := q1; have R6 : Hid (Row X6 X3.heap.size [.int .u64 y0, .int .u64 y1, .int .u64 y2, .int .u64 y3] 27) := q2; clear q1 q2; simp only [Act.put]))
  have D6 : Below X2.heap.size X2 X6 := by
    rw [E6.out, E5.out]
    exact below_setCells (below_setCells (B3.out.trans (B4.out.mono (by rw [S3.out]; omega))) (Nat.le_refl _) _) (by rw [S3.out]; omega) _
  have R56 : Hid (Row X6 X2.heap.size LX 27) := by rw [E6.out]; exact Row.setCells_other R5.out _ _ _ (by have := S3.out; omega)
  have RZ6 : Hid (Row X6 bz [.int .u64 z0, .int .u64 z1, .int .u64 z2, .int .u64 z3] 27) := Row.below RZ2.out D6 RZ2.out.lt
  have HR6 : Hid (Rn k0 w0 X6 r T gs n pl C (.iface 48 (.pointer (some ⟨hb, 0, none⟩))) av stk2 (ss) l nx an ls ags) := HR2.out.keep D6
  obtain ⟨b5, hb5⟩ : ∃ b, b = X2.heap.size := ⟨_, rfl⟩
  obtain ⟨b6, hb6⟩ : ∃ b, b = X3.heap.size := ⟨_, rfl⟩
  rw [← hb6] at R6 ⊢
  rw [← hb5] at R56 ⊢
  clear hb5 hb6 D6 E6 E5 R5 R4 B4 R3 B3 S3 HR2 HRA3 RZ2 RV3
  go_upto_region 6 with (first
    | (refine wpList_load_w rfl 27 (.tmp 6) rfl b5 0 rfl LX _ R56.out.all Try.underlying27 rfl HIX.out.1 ?_; simp only [Act.put, List.setIfInBounds_toArray, List.set_cons_zero, List.set_cons_succ])
    | (go_at_call 63; refine Calls.mono (HTO.out X6) ?_; rintro e X7 ⟨rfl, q⟩; have HR7 : Hid (Rn k0 w0 X7 r T gs n pl C (.iface 48 (.pointer (some ⟨hb, 0, none⟩))) av stk2 (ss) l nx an ls ags) := HR6.out.keep q; have R7 : Hid (Row X7 b6 [.int .u64 y0, .int .u64 y1, .int .u64 y2, .int .u64 y3] 27) := Row.below R6.out q R6.out.lt; have RZ7 : Hid (Row X7 bz [.int .u64 z0, .int .u64 z1, .int .u64 z2, .int .u64 z3] 27) := Row.below RZ6.out q RZ6.out.lt; clear q))
  have c51 : X7.cell? ⟨r, 51, none⟩ = some (.iface 48 (.pointer (some ⟨hb, 0, none⟩))) := HR7.out.row.cell 51 _ (rc_hi HR7.out.clen 0)
  have a0 := R7.out.cell 0 _ rfl
  have a1 := R7.out.cell 1 _ rfl
  have a2 := R7.out.cell 2 _ rfl
  have a3 := R7.out.cell 3 _ rfl
  have p0 := RZ7.out.cell 0 _ rfl
  have p1 := RZ7.out.cell 1 _ rfl
  have p2 := RZ7.out.cell 2 _ rfl
  have p3 := RZ7.out.cell 3 _ rfl
  go_region_law (first
    | (refine stp_fn rfl 64 rfl #[.agg #[.int .u64 y0, .int .u64 y1, .int .u64 y2, .int .u64 y3]] (by go_simp) (Calls.mono (HAD.out _) ?_); rintro e X8 ⟨rfl, q⟩; refine ⟨_, rfl, ?_⟩; have HR8 : Hid (Rn k0 w0 X8 r T gs n pl C (.iface 48 (.pointer (some ⟨hb, 0, none⟩))) av stk2 (ss) l nx an ls ags) := (HR7.out.drewN 1).keep q; have d51 : X8.cell? ⟨r, 51, none⟩ = some (.iface 48 (.pointer (some ⟨hb, 0, none⟩))) := HR8.out.row.cell 51 _ (rc_hi HR8.out.clen 0); have rz8 : Row X8 bz [.int .u64 z0, .int .u64 z1, .int .u64 z2, .int .u64 z3] 27 := Row.below (RZ7.out.drewN 1) q (RZ7.out.drewN 1).lt; have s0 := rz8.cell 0 _ rfl; have s1 := rz8.cell 1 _ rfl; have s2 := rz8.cell 2 _ rfl; have s3 := rz8.cell 3 _ rfl; clear q rz8)
    | (refine stp_iv rfl 108 rfl #[.pointer (some ⟨hb, 0, none⟩), .int .i64 (x : Int), .agg LA.toArray, .agg #[.int .u64 z0, .int .u64 z1, .int .u64 z2, .int .u64 z3]] (by go_simp; kernel_rfl) (Calls.mono (HHO.out stk2 X8 HR8.out) ?_); rintro e X9 ⟨E, rfl, w1, qP, q⟩; refine ⟨_, rfl, ?_⟩; have HP : Hid (P E X9 w1) := qP; have HR9 : Hid (Rn X9 w1 X9 r T gs n pl C (.iface 48 (.pointer (some ⟨hb, 0, none⟩))) av stk2 (ss) l nx an ls ags) := q; clear q qP))
  all_goals
    clear c51 d51 a0 a1 a2 a3 p0 p1 p2 p3 s0 s1 s2 s3
    go_wp2
    go_ret
    exact ⟨E, w1, rfl, HP.out, stk2, HR9.out⟩

end Go.Proofs.Ytabcglakdlkdcaa

namespace Go.Proofs.Ytabcglakdlkdcaa
open Go Go.RowKit
open Sha
open Wd
set_option maxRecDepth 100000 in
set_option maxHeartbeats 4000000 in
theorem do_have_no (r T gs n : Nat) (pl : Value) (C : List Value) (hb : Nat) (av stk : Value) (ss : List Nat) (l nx : Nat) (an : List Value) (ls : List Ins) (ags : List Nat) (I : List Value) (x y : Nat) (hx : x < 2 ^ 256) (h6 : ¬ x < 64) (k0 w0 w : World) (H : Rn k0 w0 w r T gs n pl C (.iface 48 (.pointer (some ⟨hb, 0, none⟩))) av stk (ss ++ [x] ++ [y]) l nx an ls ags) (hss : ss.length ≤ 900) : Calls Try.prog 43 #[.pointer (some ⟨r, 0, none⟩), .agg I.toArray] w fun e w' => e = .returned (.int .i64 104) ∧ ∃ stk', Rn k0 w0 w' r T gs n pl C (.iface 48 (.pointer (some ⟨hb, 0, none⟩))) av stk' (ss) l nx an ls ags := by
  obtain ⟨LX, hLX⟩ : ∃ L, L = wq x := ⟨_, rfl⟩
  obtain ⟨y0, hy0⟩ : ∃ a, a = ((lim y 0 : Nat) : Int) := ⟨_, rfl⟩
  obtain ⟨y1, hy1⟩ : ∃ a, a = ((lim y 1 : Nat) : Int) := ⟨_, rfl⟩
  obtain ⟨y2, hy2⟩ : ∃ a, a = ((lim y 2 : Nat) : Int) := ⟨_, rfl⟩
  obtain ⟨y3, hy3⟩ : ∃ a, a = ((lim y 3 : Nat) : Int) := ⟨_, rfl⟩
  have hY : wq y = [.int .u64 y0, .int .u64 y1, .int .u64 y2, .int .u64 y3] := by rw [wq_cells, hy0, hy1, hy2, hy3]
  have HTT : Hid (∀ W, Rn k0 w0 W r T gs n pl C (.iface 48 (.pointer (some ⟨hb, 0, none⟩))) av stk (ss ++ [x] ++ [y]) l nx an ls ags → Calls Try.prog 52 #[.pointer (some ⟨r, 0, none⟩)] W fun e w' => e = .returned (.tuple #[.agg LX.toArray, .agg #[.int .u64 y0, .int .u64 y1, .int .u64 y2, .int .u64 y3]]) ∧ ∃ stk', Rn k0 w0 w' r T gs n pl C (.iface 48 (.pointer (some ⟨hb, 0, none⟩))) av stk' (ss) l nx an ls ags) := fun W hW => by
    have q0 := takeTwo_any r T gs n pl C _ av stk ss l nx an ls ags x y k0 w0 W hW (by omega)
    rw [hY, ← hLX] at q0
    refine Calls.mono q0 ?_
    rintro e w' ⟨q1, _, _, stk2, q⟩
    exact ⟨q1, stk2, q⟩
  have HIX : Hid ((Try.prog.info? 27).map (·.size) = some LX.length ∧ LX.length = zW.length ∧ LX.toArray.all (·.oneCell') = true) := by rw [hLX]; exact ⟨info_Wq _, wq_len _, wq_one _⟩
  have HIY : Hid ((Try.prog.info? 27).map (·.size) = some ([.int .u64 y0, .int .u64 y1, .int .u64 y2, .int .u64 y3] : List Value).length ∧ ([.int .u64 y0, .int .u64 y1, .int .u64 y2, .int .u64 y3] : List Value).length = zW.length ∧ ([.int .u64 y0, .int .u64 y1, .int .u64 y2, .int .u64 y3] : List Value).toArray.all (·.oneCell') = true) := by rw [← hY]; exact ⟨info_Wq _, wq_len _, wq_one _⟩
  have HTO : Hid (∀ W, Calls Try.prog 63 #[.agg LX.toArray] W fun e w' => e = .returned (.tuple #[.int .i64 0, .bool false]) ∧ Below W.heap.size W w') := fun W => by rw [hLX]; exact token_no x hx h6 W
  have HH : Hid (Rn k0 w0 w r T gs n pl C (.iface 48 (.pointer (some ⟨hb, 0, none⟩))) av stk (ss ++ [x] ++ [y]) l nx an ls ags) := H
  clear H hss hLX hY hx h6 hy0 hy1 hy2 hy3
  go_enter Try.func43, Try.ntmps43
  go_upto_region 2 with (first
    | (refine wpList_boxG 77 rfl (.tmp 1) rfl I rfl ?_; intro X1 q1 q2 q3; have HR : Hid (Rn k0 w0 X1 r T gs n pl C (.iface 48 (.pointer (some ⟨hb, 0, none⟩))) av stk (ss ++ [x] ++ [y]) l nx an ls ags) := HH.out.keep q2; clear q1 q2 q3; simp only [Act.put, List.setIfInBounds_toArray, List.set_cons_zero, List.set_cons_succ])
    | (go_at_call 52; refine Calls.mono (HTT.out X1 HR.out) ?_; rintro e X2 ⟨rfl, stk2, q⟩; have HR2 : Hid (Rn k0 w0 X2 r T gs n pl C (.iface 48 (.pointer (some ⟨hb, 0, none⟩))) av stk2 (ss) l nx an ls ags) := q; clear q)
    | (refine wpList_allocW rfl (by rfl : _ = Op.alloc 27) ?_; intro X3 q1 q2 q3; have R3 : Hid (Row X3 X2.heap.size zW 27) := q1; have B3 : Hid (Below X2.heap.size X2 X3) := q2; have S3 : Hid (X3.heap.size = X2.heap.size + 1) := q3; clear q1 q2 q3; refine wpList_allocW rfl (by rfl : _ = Op.alloc 27) ?_; intro X4 q1 q2 q3; have R4 : Hid (Row X4 X3.heap.size zW 27) := q1; have B4 : Hid (Below X3.heap.size X3 X4) := q2; clear q1 q2 q3; simp only [Act.put, List.setIfInBounds_toArray, List.set_cons_zero, List.set_cons_succ])
    | (refine wpList_storeL rfl 27 (.tmp 5) (.tmp 12) rfl X2.heap.size LX zW 27 rfl rfl (Row.below R3.out B4.out R3.out.lt) HIX.out.2.1 HIX.out.1 HIX.out.2.2 ?_; intro X5 q1 q2; have E5 : Hid (X5 = _) := q1; have R5 : Hid (Row X5 X2.heap.size LX 27) := q2; clear q1 q2; simp only [Act.put])
    | (refine wpList_storeL rfl 27 (.tmp 6) (.tmp 13) rfl X3.heap.size [.int .u64 y0, .int .u64 y1, .int .u64 y2, .int .u64 y3] zW 27 rfl rfl (by rw [E5.out]; exact Row.setCells_other R4.out _ _ _ (by have := S3.out; omega)) HIY.out.2.1 HIY.out.1 HIY.out.2.2 ?_; intro X6 q1 q2; have E6 : Hid (X6 = _) := q1; have R6 : Hid (Row X6 X3.heap.size [.int .u64 y0, .int .u64 y1, .int .u64 y2, .int .u64 y3] 27) := q2; clear q1 q2; simp only [Act.put]))
  have D6 : Below X2.heap.size X2 X6 := by
    rw [E6.out, E5.out]
    exact below_setCells (below_setCells (B3.out.trans (B4.out.mono (by rw [S3.out]; omega))) (Nat.le_refl _) _) (by rw [S3.out]; omega) _
  have R56 : Hid (Row X6 X2.heap.size LX 27) := by rw [E6.out]; exact Row.setCells_other R5.out _ _ _ (by have := S3.out; omega)
  have HR6 : Hid (Rn k0 w0 X6 r T gs n pl C (.iface 48 (.pointer (some ⟨hb, 0, none⟩))) av stk2 (ss) l nx an ls ags) := HR2.out.keep D6
  obtain ⟨b5, hb5⟩ : ∃ b, b = X2.heap.size := ⟨_, rfl⟩
  obtain ⟨b6, hb6⟩ : ∃ b, b = X3.heap.size := ⟨_, rfl⟩
  rw [← hb6] at R6 ⊢
  rw [← hb5] at R56 ⊢
  clear hb5 hb6 D6 E6 E5 R5 R4 B4 R3 B3 S3 HR2 HR
  go_wp2_with (first
    | (refine wpList_load_w rfl 27 (.tmp 5) rfl b5 0 rfl LX _ R56.out.all Try.underlying27 rfl HIX.out.1 ?_; simp only [Act.put, List.setIfInBounds_toArray, List.set_cons_zero, List.set_cons_succ])
    | (go_at_call 63; refine Calls.mono (HTO.out X6) ?_; rintro e X7 ⟨rfl, q⟩; have HR7 : Hid (Rn k0 w0 X7 r T gs n pl C (.iface 48 (.pointer (some ⟨hb, 0, none⟩))) av stk2 (ss) l nx an ls ags) := HR6.out.keep q; have R7 : Hid (Row X7 b6 [.int .u64 y0, .int .u64 y1, .int .u64 y2, .int .u64 y3] 27) := Row.below R6.out q R6.out.lt; clear q))
  go_ret
  exact ⟨rfl, stk2, HR7.out⟩
set_option maxRecDepth 100000 in
set_option maxHeartbeats 4000000 in
theorem do_have (r T gs n : Nat) (pl : Value) (C : List Value) (hb : Nat) (av stk : Value) (ss : List Nat) (l nx : Nat) (an : List Value) (ls : List Ins) (ags : List Nat) (I : List Value) (x y : Nat) (hx : x < 2 ^ 256) (h6 : x < 64) (P : Nat → Int → World → World → Prop) (k0 w0 w : World) (H : Rn k0 w0 w r T gs n pl C (.iface 48 (.pointer (some ⟨hb, 0, none⟩))) av stk (ss ++ [x] ++ [y]) l nx an ls ags) (hss : ss.length ≤ 900)
    (hh : ∀ stk' W, Rn k0 w0 W r T gs n pl C (.iface 48 (.pointer (some ⟨hb, 0, none⟩))) av stk' (ss) l nx an ls ags → Calls Try.prog 105 #[.pointer (some ⟨hb, 0, none⟩), .int .i64 (x : Int), .agg (adr y).toArray] W fun e w' => ∃ v E, e = .returned (.tuple #[.agg (wq v).toArray, .int .i64 E]) ∧ ∃ w1, P v E w' w1 ∧ Rn w' w1 w' r T gs n pl C (.iface 48 (.pointer (some ⟨hb, 0, none⟩))) av stk' (ss) l nx an ls ags) : Calls Try.prog 43 #[.pointer (some ⟨r, 0, none⟩), .agg I.toArray] w fun e w' => ∃ v E X w1, P v E X w1 ∧ ((E = 0 ∧ e = .returned (.int .i64 0) ∧ ∃ stk', Rn X w1 w' r T gs n pl C (.iface 48 (.pointer (some ⟨hb, 0, none⟩))) av stk' (ss ++ [v]) l nx an ls ags) ∨ (E ≠ 0 ∧ e = .returned (.int .i64 E) ∧ ∃ stk', Rn X w1 w' r T gs n pl C (.iface 48 (.pointer (some ⟨hb, 0, none⟩))) av stk' (ss) l nx an ls ags)) := by
  obtain ⟨LA, hLA⟩ : ∃ L, L = adr y := ⟨_, rfl⟩
  obtain ⟨LX, hLX⟩ : ∃ L, L = wq x := ⟨_, rfl⟩
  obtain ⟨y0, hy0⟩ : ∃ a, a = ((lim y 0 : Nat) : Int) := ⟨_, rfl⟩
  obtain ⟨y1, hy1⟩ : ∃ a, a = ((lim y 1 : Nat) : Int) := ⟨_, rfl⟩
  obtain ⟨y2, hy2⟩ : ∃ a, a = ((lim y 2 : Nat) : Int) := ⟨_, rfl⟩
  obtain ⟨y3, hy3⟩ : ∃ a, a = ((lim y 3 : Nat) : Int) := ⟨_, rfl⟩
  have hY : wq y = [.int .u64 y0, .int .u64 y1, .int .u64 y2, .int .u64 y3] := by rw [wq_cells, hy0, hy1, hy2, hy3]
  have HTT : Hid (∀ W, Rn k0 w0 W r T gs n pl C (.iface 48 (.pointer (some ⟨hb, 0, none⟩))) av stk (ss ++ [x] ++ [y]) l nx an ls ags → Calls Try.prog 52 #[.pointer (some ⟨r, 0, none⟩)] W fun e w' => e = .returned (.tuple #[.agg LX.toArray, .agg #[.int .u64 y0, .int .u64 y1, .int .u64 y2, .int .u64 y3]]) ∧ ∃ stk', Rn k0 w0 w' r T gs n pl C (.iface 48 (.pointer (some ⟨hb, 0, none⟩))) av stk' (ss) l nx an ls ags) := fun W hW => by
    have q0 := takeTwo_any r T gs n pl C _ av stk ss l nx an ls ags x y k0 w0 W hW (by omega)
    rw [hY, ← hLX] at q0
    refine Calls.mono q0 ?_
    rintro e w' ⟨q1, _, _, stk2, q⟩
    exact ⟨q1, stk2, q⟩
  have HIX : Hid ((Try.prog.info? 27).map (·.size) = some LX.length ∧ LX.length = zW.length ∧ LX.toArray.all (·.oneCell') = true) := by rw [hLX]; exact ⟨info_Wq _, wq_len _, wq_one _⟩
  have HIY : Hid ((Try.prog.info? 27).map (·.size) = some ([.int .u64 y0, .int .u64 y1, .int .u64 y2, .int .u64 y3] : List Value).length ∧ ([.int .u64 y0, .int .u64 y1, .int .u64 y2, .int .u64 y3] : List Value).length = zW.length ∧ ([.int .u64 y0, .int .u64 y1, .int .u64 y2, .int .u64 y3] : List Value).toArray.all (·.oneCell') = true) := by rw [← hY]; exact ⟨info_Wq _, wq_len _, wq_one _⟩
  have HTO : Hid (∀ W, Calls Try.prog 63 #[.agg LX.toArray] W fun e w' => e = .returned (.tuple #[.int .i64 (x : Int), .bool true]) ∧ Below W.heap.size W w') := fun W => by rw [hLX]; exact token_in x hx h6 W
  have HAD : Hid (∀ W, Calls Try.prog 64 #[.agg #[.int .u64 y0, .int .u64 y1, .int .u64 y2, .int .u64 y3]] W fun e w' => e = .returned (.agg LA.toArray) ∧ Below W.heap.size W w') := fun W => by
    have q := addressOf_any y W
    rw [hY, ← hLA] at q
    exact q
  have HHO : Hid (∀ stk' W, Rn k0 w0 W r T gs n pl C (.iface 48 (.pointer (some ⟨hb, 0, none⟩))) av stk' (ss) l nx an ls ags → Calls Try.prog 105 #[.pointer (some ⟨hb, 0, none⟩), .int .i64 (x : Int), .agg LA.toArray] W fun e w' => ∃ v E LV, LV = wq v ∧ e = .returned (.tuple #[.agg LV.toArray, .int .i64 E]) ∧ ∃ w1, P v E w' w1 ∧ Rn w' w1 w' r T gs n pl C (.iface 48 (.pointer (some ⟨hb, 0, none⟩))) av stk' (ss) l nx an ls ags) := fun stk' W hW => by
    rw [hLA]
    refine Calls.mono (hh stk' W hW) ?_
    rintro e w' ⟨v, E, rfl, q⟩
    exact ⟨v, E, _, rfl, rfl, q⟩
  have HLT : Hid (∀ v E LV X w1 stk' W, LV = wq v → Rn X w1 W r T gs n pl C (.iface 48 (.pointer (some ⟨hb, 0, none⟩))) av stk' (ss) l nx an ls ags → Calls Try.prog 62 #[.pointer (some ⟨r, 0, none⟩), .agg LV.toArray, .int .i64 E] W fun e w' => ∃ u, e = .returned (.int .i64 u) ∧ ((E = 0 ∧ u = 0 ∧ ∃ stk', Rn X w1 w' r T gs n pl C (.iface 48 (.pointer (some ⟨hb, 0, none⟩))) av stk' (ss ++ [v]) l nx an ls ags) ∨ (E ≠ 0 ∧ u = E ∧ ∃ stk', Rn X w1 w' r T gs n pl C (.iface 48 (.pointer (some ⟨hb, 0, none⟩))) av stk' (ss) l nx an ls ags))) := fun v E LV X w1 stk' W hLV hW => by
    rw [hLV]
    by_cases hE : E = 0
    · subst hE
      refine Calls.mono (told_ok r T gs n pl C _ av stk' ss l nx an ls ags v X w1 W hW (by omega)) ?_
      rintro e w' ⟨rfl, q⟩
      exact ⟨0, rfl, .inl ⟨rfl, rfl, q⟩⟩
    · refine Calls.mono (told_no r T gs n pl C _ av stk' ss l nx an ls ags v E (by simpa using hE) X w1 W hW) ?_
      rintro e w' ⟨rfl, q⟩
      exact ⟨E, rfl, .inr ⟨hE, rfl, _, q⟩⟩
  have HH : Hid (Rn k0 w0 w r T gs n pl C (.iface 48 (.pointer (some ⟨hb, 0, none⟩))) av stk (ss ++ [x] ++ [y]) l nx an ls ags) := H
  clear H hss hLX hY hLA hx h6 hy0 hy1 hy2 hy3 hh
  go_enter Try.func43, Try.ntmps43
  go_upto_region 2 with (first
    | (refine wpList_boxG 77 rfl (.tmp 1) rfl I rfl ?_; intro X1 q1 q2 q3; have HR : Hid (Rn k0 w0 X1 r T gs n pl C (.iface 48 (.pointer (some ⟨hb, 0, none⟩))) av stk (ss ++ [x] ++ [y]) l nx an ls ags) := HH.out.keep q2; clear q1 q2 q3; simp only [Act.put, List.setIfInBounds_toArray, List.set_cons_zero, List.set_cons_succ])
    | (go_at_call 52; refine Calls.mono (HTT.out X1 HR.out) ?_; rintro e X2 ⟨rfl, stk2, q⟩; have HR2 : Hid (Rn k0 w0 X2 r T gs n pl C (.iface 48 (.pointer (some ⟨hb, 0, none⟩))) av stk2 (ss) l nx an ls ags) := q; clear q)
    | (refine wpList_allocW rfl (by rfl : _ = Op.alloc 27) ?_; intro X3 q1 q2 q3; have R3 : Hid (Row X3 X2.heap.size zW 27) := q1; have B3 : Hid (Below X2.heap.size X2 X3) := q2; have S3 : Hid (X3.heap.size = X2.heap.size + 1) := q3; clear q1 q2 q3; refine wpList_allocW rfl (by rfl : _ = Op.alloc 27) ?_; intro X4 q1 q2 q3; have R4 : Hid (Row X4 X3.heap.size zW 27) := q1; have B4 : Hid (Below X3.heap.size X3 X4) := q2; clear q1 q2 q3; simp only [Act.put, List.setIfInBounds_toArray, List.set_cons_zero, List.set_cons_succ])
    | (refine wpList_storeL rfl 27 (.tmp 5) (.tmp 12) rfl X2.heap.size LX zW 27 rfl rfl (Row.below R3.out B4.out R3.out.lt) HIX.out.2.1 HIX.out.1 HIX.out.2.2 ?_; intro X5 q1 q2; have E5 : Hid (X5 = _) := q1; have R5 : Hid (Row X5 X2.heap.size LX 27) := q2; clear q1 q2; simp only [Act.put])
    | (refine wpList_storeL rfl 27 (.tmp 6) (.tmp 13) rfl X3.heap.size [.int .u64 y0, .int .u64 y1, .int .u64 y2, .int .u64 y3] zW 27 rfl rfl (by rw [E5.out]; exact Row.setCells_other R4.out _ _ _ (by have := S3.out; omega)) HIY.out.2.1 HIY.out.1 HIY.out.2.2 ?_; intro X6 q1 q2; have E6 : Hid (X6 = _) := q1; have R6 : Hid (Row X6 X3.heap.size [.int .u64 y0, .int .u64 y1, .int .u64 y2, .int .u64 y3] 27) := q2; clear q1 q2; simp only [Act.put]))
  have D6 : Below X2.heap.size X2 X6 := by
    rw [E6.out, E5.out]
    exact below_setCells (below_setCells (B3.out.trans (B4.out.mono (by rw [S3.out]; omega))) (Nat.le_refl _) _) (by rw [S3.out]; omega) _
  have R56 : Hid (Row X6 X2.heap.size LX 27) := by rw [E6.out]; exact Row.setCells_other R5.out _ _ _ (by have := S3.out; omega)
  have HR6 : Hid (Rn k0 w0 X6 r T gs n pl C (.iface 48 (.pointer (some ⟨hb, 0, none⟩))) av stk2 (ss) l nx an ls ags) := HR2.out.keep D6
  obtain ⟨b5, hb5⟩ : ∃ b, b = X2.heap.size := ⟨_, rfl⟩
  obtain ⟨b6, hb6⟩ : ∃ b, b = X3.heap.size := ⟨_, rfl⟩
  rw [← hb6] at R6 ⊢
  rw [← hb5] at R56 ⊢
  clear hb5 hb6 D6 E6 E5 R5 R4 B4 R3 B3 S3 HR2 HR
  go_upto_region 5 with (first
    | (refine wpList_load_w rfl 27 (.tmp 5) rfl b5 0 rfl LX _ R56.out.all Try.underlying27 rfl HIX.out.1 ?_; simp only [Act.put, List.setIfInBounds_toArray, List.set_cons_zero, List.set_cons_succ])
    | (go_at_call 63; refine Calls.mono (HTO.out X6) ?_; rintro e X7 ⟨rfl, q⟩; have HR7 : Hid (Rn k0 w0 X7 r T gs n pl C (.iface 48 (.pointer (some ⟨hb, 0, none⟩))) av stk2 (ss) l nx an ls ags) := HR6.out.keep q; have R7 : Hid (Row X7 b6 [.int .u64 y0, .int .u64 y1, .int .u64 y2, .int .u64 y3] 27) := Row.below R6.out q R6.out.lt; clear q))
  have c51 : X7.cell? ⟨r, 51, none⟩ = some (.iface 48 (.pointer (some ⟨hb, 0, none⟩))) := HR7.out.row.cell 51 _ (rc_hi HR7.out.clen 0)
  have a0 := R7.out.cell 0 _ rfl
  have a1 := R7.out.cell 1 _ rfl
  have a2 := R7.out.cell 2 _ rfl
  have a3 := R7.out.cell 3 _ rfl
  go_region_law (first
    | (refine stp_fn rfl 64 rfl #[.agg #[.int .u64 y0, .int .u64 y1, .int .u64 y2, .int .u64 y3]] (by go_simp) (Calls.mono (HAD.out _) ?_); rintro e X8 ⟨rfl, q⟩; refine ⟨_, rfl, ?_⟩; have HR8 : Hid (Rn k0 w0 X8 r T gs n pl C (.iface 48 (.pointer (some ⟨hb, 0, none⟩))) av stk2 (ss) l nx an ls ags) := (HR7.out.drewN 1).keep q; have d51 : X8.cell? ⟨r, 51, none⟩ = some (.iface 48 (.pointer (some ⟨hb, 0, none⟩))) := HR8.out.row.cell 51 _ (rc_hi HR8.out.clen 0); clear q)
    | (refine stp_iv rfl 105 rfl #[.pointer (some ⟨hb, 0, none⟩), .int .i64 (x : Int), .agg LA.toArray] (by go_simp; kernel_rfl) (Calls.mono (HHO.out stk2 X8 HR8.out) ?_); rintro e X9 ⟨v, E, LV, qL, rfl, w1, qP, q⟩; refine ⟨_, rfl, ?_⟩; have HLQ : Hid (LV = wq v) := qL; have HP : Hid (P v E X9 w1) := qP; have HR9 : Hid (Rn X9 w1 X9 r T gs n pl C (.iface 48 (.pointer (some ⟨hb, 0, none⟩))) av stk2 (ss) l nx an ls ags) := q; clear q qP qL)
    | (refine stp_fn rfl 62 rfl #[.pointer (some ⟨r, 0, none⟩), .agg LV.toArray, .int .i64 E] (by go_simp) (Calls.mono (HLT.out v E LV X9 w1 stk2 X9 HLQ.out HR9.out) ?_); rintro e XA ⟨u, rfl, q⟩; refine ⟨_, rfl, ?_⟩; have HQ : Hid (((E = 0 ∧ u = 0 ∧ ∃ stk', Rn X9 w1 XA r T gs n pl C (.iface 48 (.pointer (some ⟨hb, 0, none⟩))) av stk' (ss ++ [v]) l nx an ls ags) ∨ (E ≠ 0 ∧ u = E ∧ ∃ stk', Rn X9 w1 XA r T gs n pl C (.iface 48 (.pointer (some ⟨hb, 0, none⟩))) av stk' (ss) l nx an ls ags))) := q; clear q))
  all_goals
    clear c51 d51 a0 a1 a2 a3
    go_wp2
    go_ret
    refine ⟨v, E, X9, w1, HP.out, ?_⟩
    rcases HQ.out with ⟨h1, rfl, q⟩ | ⟨h1, rfl, q⟩
    · exact .inl ⟨h1, rfl, q⟩
    · exact .inr ⟨h1, rfl, q⟩

end Go.Proofs.Ytabcglakdlkdcaa

namespace Go.Proofs.Ytabcglakdlkdcaa
open Go Go.RowKit
open Sha
open Wd
set_option maxRecDepth 100000 in
set_option maxHeartbeats 4000000 in
theorem do_save (r T gs n : Nat) (pl : Value) (C : List Value) (hb : Nat) (av stk : Value) (ss : List Nat) (l nx : Nat) (an : List Value) (ls : List Ins) (ags : List Nat) (I : List Value) (x y : Nat) (P : Int → World → World → Prop) (k0 w0 w : World) (H : Rn k0 w0 w r T gs n pl C (.iface 48 (.pointer (some ⟨hb, 0, none⟩))) av stk (ss ++ [x] ++ [y]) l nx an ls ags) (hss : ss.length ≤ 900)
    (hh : ∀ stk' W, Rn k0 w0 W r T gs n pl C (.iface 48 (.pointer (some ⟨hb, 0, none⟩))) av stk' (ss) l nx an ls ags → Calls Try.prog 107 #[.pointer (some ⟨hb, 0, none⟩), .agg (wq x).toArray, .agg (wq y).toArray] W fun e w' => ∃ E, e = .returned (.int .i64 E) ∧ ∃ w1, P E w' w1 ∧ Rn w' w1 w' r T gs n pl C (.iface 48 (.pointer (some ⟨hb, 0, none⟩))) av stk' (ss) l nx an ls ags) : Calls Try.prog 42 #[.pointer (some ⟨r, 0, none⟩), .agg I.toArray] w fun e w' => ∃ E w1, e = .returned (.int .i64 E) ∧ P E w' w1 ∧ ∃ stk', Rn w' w1 w' r T gs n pl C (.iface 48 (.pointer (some ⟨hb, 0, none⟩))) av stk' (ss) l nx an ls ags := by
  obtain ⟨LX, hLX⟩ : ∃ L, L = wq x := ⟨_, rfl⟩
  obtain ⟨LY, hLY⟩ : ∃ L, L = wq y := ⟨_, rfl⟩
  have HTT : Hid (∀ W, Rn k0 w0 W r T gs n pl C (.iface 48 (.pointer (some ⟨hb, 0, none⟩))) av stk (ss ++ [x] ++ [y]) l nx an ls ags → Calls Try.prog 52 #[.pointer (some ⟨r, 0, none⟩)] W fun e w' => e = .returned (.tuple #[.agg LX.toArray, .agg LY.toArray]) ∧ ∃ stk', Rn k0 w0 w' r T gs n pl C (.iface 48 (.pointer (some ⟨hb, 0, none⟩))) av stk' (ss) l nx an ls ags) := fun W hW => by
    rw [hLX, hLY]
    refine Calls.mono (takeTwo_any r T gs n pl C _ av stk ss l nx an ls ags x y k0 w0 W hW (by omega)) ?_
    rintro e w' ⟨q1, _, _, stk2, q⟩
    exact ⟨q1, stk2, q⟩
  have HHO : Hid (∀ stk' W, Rn k0 w0 W r T gs n pl C (.iface 48 (.pointer (some ⟨hb, 0, none⟩))) av stk' (ss) l nx an ls ags → Calls Try.prog 107 #[.pointer (some ⟨hb, 0, none⟩), .agg LX.toArray, .agg LY.toArray] W fun e w' => ∃ E, e = .returned (.int .i64 E) ∧ ∃ w1, P E w' w1 ∧ Rn w' w1 w' r T gs n pl C (.iface 48 (.pointer (some ⟨hb, 0, none⟩))) av stk' (ss) l nx an ls ags) := fun stk' W hW => by
    rw [hLX, hLY]
    exact hh stk' W hW
  have HH : Hid (Rn k0 w0 w r T gs n pl C (.iface 48 (.pointer (some ⟨hb, 0, none⟩))) av stk (ss ++ [x] ++ [y]) l nx an ls ags) := H
  clear H hss hLX hLY hh
  go_enter Try.func42, Try.ntmps42
  go_upto_region 1 with (refine wpList_boxG 77 rfl (.tmp 1) rfl I rfl ?_; intro X1 q1 q2 q3; have HR : Hid (Rn k0 w0 X1 r T gs n pl C (.iface 48 (.pointer (some ⟨hb, 0, none⟩))) av stk (ss ++ [x] ++ [y]) l nx an ls ags) := HH.out.keep q2; clear q1 q2 q3; simp only [Act.put, List.setIfInBounds_toArray, List.set_cons_zero, List.set_cons_succ])
  have c51 : X1.cell? ⟨r, 51, none⟩ = some (.iface 48 (.pointer (some ⟨hb, 0, none⟩))) := HR.out.row.cell 51 _ (rc_hi HR.out.clen 0)
  go_region_law (first
    | (refine stp_fn rfl 52 rfl #[.pointer (some ⟨r, 0, none⟩)] (by go_simp) (Calls.mono (HTT.out _ (HR.out.drewN 1)) ?_); rintro e X2 ⟨rfl, stk2, q⟩; refine ⟨_, rfl, ?_⟩; have HR2 : Hid (Rn k0 w0 X2 r T gs n pl C (.iface 48 (.pointer (some ⟨hb, 0, none⟩))) av stk2 (ss) l nx an ls ags) := q; have d51 : X2.cell? ⟨r, 51, none⟩ = some (.iface 48 (.pointer (some ⟨hb, 0, none⟩))) := q.row.cell 51 _ (rc_hi q.clen 0); clear q)
    | (refine stp_iv rfl 107 rfl #[.pointer (some ⟨hb, 0, none⟩), .agg LX.toArray, .agg LY.toArray] (by go_simp; kernel_rfl) (Calls.mono (HHO.out stk2 X2 HR2.out) ?_); rintro e X3 ⟨E, rfl, w1, qP, q⟩; refine ⟨_, rfl, ?_⟩; have HP : Hid (P E X3 w1) := qP; have HR3 : Hid (Rn X3 w1 X3 r T gs n pl C (.iface 48 (.pointer (some ⟨hb, 0, none⟩))) av stk2 (ss) l nx an ls ags) := q; clear q qP))
  all_goals
    clear c51 d51
    go_wp2
    go_ret
    exact ⟨E, w1, rfl, HP.out, stk2, HR3.out⟩

end Go.Proofs.Ytabcglakdlkdcaa

namespace Go.Proofs.Ytabcglakdlkdcaa
open Go Go.RowKit
open Sha
open Wd
theorem cfe_load (args : Array Value) (W : World) : (callFunc 41 args).run Try.prog W = .ok (.enter 41 args) W := by
  go_simp
theorem sp_load (r T gs n : Nat) (pl : Value) (C : List Value) (hb : Nat) (av stk : Value) (st : List Nat) (l nx : Nat) (an : List Value) (ls : List Ins) (ags : List Nat) (pi ai ni : Nat) (P : Nat → Int → World → World → Prop) (hl : l ≤ 10000) (hsl : st.length ≤ 64) (hnx : nx ≤ 1024) (k0 w0 w : World) (H : Rn k0 w0 w r T gs n pl C (.iface 48 (.pointer (some ⟨hb, 0, none⟩))) av stk st.reverse l nx an ls ags) (hh : ∀ stk' W, Rn k0 w0 W r T gs n pl C (.iface 48 (.pointer (some ⟨hb, 0, none⟩))) av stk' ((st.drop 1).reverse) (l - 200) (nx + 1) an ls ags → Calls Try.prog 106 #[.pointer (some ⟨hb, 0, none⟩), .agg (wq (st.getD 0 0)).toArray] W fun e w' => ∃ v E, e = .returned (.tuple #[.agg (wq v).toArray, .int .i64 E]) ∧ ∃ w1, P v E w' w1 ∧ Rn w' w1 w' r T gs n pl C (.iface 48 (.pointer (some ⟨hb, 0, none⟩))) av stk' ((st.drop 1).reverse) (l - 200) (nx + 1) an ls ags) : Calls Try.prog 47 #[.pointer (some ⟨r, 0, none⟩), .agg (ic 24 pi ai ni).toArray] w fun e w' => ∃ v, e = .returned (.int .i64 v) ∧ (if l < 200 then v = 102 ∧ ∃ stk' ss' l' nx', Rn k0 w0 w' r T gs n pl C (.iface 48 (.pointer (some ⟨hb, 0, none⟩))) av stk' ss' l' nx' an ls ags else if st.length < 1 ∨ 64 < st.length - 1 + 1 then v = 103 ∧ ∃ stk' ss' l' nx', Rn k0 w0 w' r T gs n pl C (.iface 48 (.pointer (some ⟨hb, 0, none⟩))) av stk' ss' l' nx' an ls ags else ∃ u E X w1, P u E X w1 ∧ ((E = 0 ∧ v = 0 ∧ ∃ stk', Rn X w1 w' r T gs n pl C (.iface 48 (.pointer (some ⟨hb, 0, none⟩))) av stk' ((u :: st.drop 1).reverse) (l - 200) (nx + 1) an ls ags) ∨ (E ≠ 0 ∧ v = E ∧ ∃ stk', Rn X w1 w' r T gs n pl C (.iface 48 (.pointer (some ⟨hb, 0, none⟩))) av stk' ((st.drop 1).reverse) (l - 200) (nx + 1) an ls ags))) := by
  refine stp_ofD r T gs n pl C (.iface 48 (.pointer (some ⟨hb, 0, none⟩))) av stk st l nx an ls ags 24 pi ai ni _ 0 200 1 1 41 (by decide) rfl 1 1 (fun W => needs_any _ _ 0 200 1 1 rfl rfl _ W) hl (by omega) hsl hnx k0 w0 w H (fun v w' => ∃ u E X w1, P u E X w1 ∧ ((E = 0 ∧ v = 0 ∧ ∃ stk', Rn X w1 w' r T gs n pl C (.iface 48 (.pointer (some ⟨hb, 0, none⟩))) av stk' ((u :: st.drop 1).reverse) (l - 200) (nx + 1) an ls ags) ∨ (E ≠ 0 ∧ v = E ∧ ∃ stk', Rn X w1 w' r T gs n pl C (.iface 48 (.pointer (some ⟨hb, 0, none⟩))) av stk' ((st.drop 1).reverse) (l - 200) (nx + 1) an ls ags))) cfe_load ?_
  intro hg ht hm W hW
  obtain ⟨x, st', rfl⟩ : ∃ x st', st = x :: st' := by
    match st, ht with
    | x :: st', _ => exact ⟨x, st', rfl⟩
  have hsr : st'.reverse.length ≤ 900 := by rw [List.length_reverse]; simp only [List.length_cons] at hsl; omega
  simp only [List.reverse_cons] at hW
  refine Calls.mono (do_load r T gs n pl C hb av stk st'.reverse _ _ an ls ags _ x P k0 w0 W hW hsr hh) ?_
  rintro e w' ⟨u, E, X, w1, hP, q⟩
  rcases q with ⟨h1, rfl, stk', q⟩ | ⟨h1, rfl, stk', q⟩
  · exact ⟨0, rfl, ⟨u, E, X, w1, hP, .inl ⟨h1, rfl, stk', by rw [List.reverse_cons]; exact q⟩⟩⟩
  · exact ⟨E, rfl, ⟨u, E, X, w1, hP, .inr ⟨h1, rfl, stk', q⟩⟩⟩
theorem cfe_save (args : Array Value) (W : World) : (callFunc 42 args).run Try.prog W = .ok (.enter 42 args) W := by
  go_simp
theorem sp_save (r T gs n : Nat) (pl : Value) (C : List Value) (hb : Nat) (av stk : Value) (st : List Nat) (l nx : Nat) (an : List Value) (ls : List Ins) (ags : List Nat) (pi ai ni : Nat) (P : Int → World → World → Prop) (hl : l ≤ 10000) (hsl : st.length ≤ 64) (hnx : nx ≤ 1024) (k0 w0 w : World) (H : Rn k0 w0 w r T gs n pl C (.iface 48 (.pointer (some ⟨hb, 0, none⟩))) av stk st.reverse l nx an ls ags) (hh : ∀ stk' W, Rn k0 w0 W r T gs n pl C (.iface 48 (.pointer (some ⟨hb, 0, none⟩))) av stk' ((st.drop 2).reverse) (l - 200) (nx + 1) an ls ags → Calls Try.prog 107 #[.pointer (some ⟨hb, 0, none⟩), .agg (wq (st.getD 1 0)).toArray, .agg (wq (st.getD 0 0)).toArray] W fun e w' => ∃ E, e = .returned (.int .i64 E) ∧ ∃ w1, P E w' w1 ∧ Rn w' w1 w' r T gs n pl C (.iface 48 (.pointer (some ⟨hb, 0, none⟩))) av stk' ((st.drop 2).reverse) (l - 200) (nx + 1) an ls ags) : Calls Try.prog 47 #[.pointer (some ⟨r, 0, none⟩), .agg (ic 25 pi ai ni).toArray] w fun e w' => ∃ v, e = .returned (.int .i64 v) ∧ (if l < 200 then v = 102 ∧ ∃ stk' ss' l' nx', Rn k0 w0 w' r T gs n pl C (.iface 48 (.pointer (some ⟨hb, 0, none⟩))) av stk' ss' l' nx' an ls ags else if st.length < 2 ∨ 64 < st.length - 2 + 0 then v = 103 ∧ ∃ stk' ss' l' nx', Rn k0 w0 w' r T gs n pl C (.iface 48 (.pointer (some ⟨hb, 0, none⟩))) av stk' ss' l' nx' an ls ags else ∃ w1, P v w' w1 ∧ ∃ stk', Rn w' w1 w' r T gs n pl C (.iface 48 (.pointer (some ⟨hb, 0, none⟩))) av stk' ((st.drop 2).reverse) (l - 200) (nx + 1) an ls ags) := by
  refine stp_ofD r T gs n pl C (.iface 48 (.pointer (some ⟨hb, 0, none⟩))) av stk st l nx an ls ags 25 pi ai ni _ 0 200 2 0 42 (by decide) rfl 2 0 (fun W => needs_any _ _ 0 200 2 0 rfl rfl _ W) hl (by omega) hsl hnx k0 w0 w H (fun v w' => ∃ w1, P v w' w1 ∧ ∃ stk', Rn w' w1 w' r T gs n pl C (.iface 48 (.pointer (some ⟨hb, 0, none⟩))) av stk' ((st.drop 2).reverse) (l - 200) (nx + 1) an ls ags) cfe_save ?_
  intro hg ht hm W hW
  obtain ⟨y, x, st', rfl⟩ : ∃ y x st', st = y :: x :: st' := by
    match st, ht with
    | y :: x :: st', _ => exact ⟨y, x, st', rfl⟩
  have hsr : st'.reverse.length ≤ 900 := by rw [List.length_reverse]; simp only [List.length_cons] at hsl; omega
  simp only [List.reverse_cons] at hW
  refine Calls.mono (do_save r T gs n pl C hb av stk st'.reverse _ _ an ls ags _ x y P k0 w0 W hW hsr hh) ?_
  rintro e w' ⟨E, w1, rfl, hP, stk', q⟩
  exact ⟨E, rfl, w1, hP, stk', q⟩
theorem cfe_have (args : Array Value) (W : World) : (callFunc 43 args).run Try.prog W = .ok (.enter 43 args) W := by
  go_simp
theorem sp_have (r T gs n : Nat) (pl : Value) (C : List Value) (hb : Nat) (av stk : Value) (st : List Nat) (l nx : Nat) (an : List Value) (ls : List Ins) (ags : List Nat) (pi ai ni : Nat) (P : Nat → Int → World → World → Prop) (hst : ∀ a ∈ st, a < 2 ^ 256) (hl : l ≤ 10000) (hsl : st.length ≤ 64) (hnx : nx ≤ 1024) (k0 w0 w : World) (H : Rn k0 w0 w r T gs n pl C (.iface 48 (.pointer (some ⟨hb, 0, none⟩))) av stk st.reverse l nx an ls ags) (hh : ∀ stk' W, Rn k0 w0 W r T gs n pl C (.iface 48 (.pointer (some ⟨hb, 0, none⟩))) av stk' ((st.drop 2).reverse) (l - 200) (nx + 1) an ls ags → Calls Try.prog 105 #[.pointer (some ⟨hb, 0, none⟩), .int .i64 ((st.getD 1 0 : Nat) : Int), .agg (adr (st.getD 0 0)).toArray] W fun e w' => ∃ v E, e = .returned (.tuple #[.agg (wq v).toArray, .int .i64 E]) ∧ ∃ w1, P v E w' w1 ∧ Rn w' w1 w' r T gs n pl C (.iface 48 (.pointer (some ⟨hb, 0, none⟩))) av stk' ((st.drop 2).reverse) (l - 200) (nx + 1) an ls ags) : Calls Try.prog 47 #[.pointer (some ⟨r, 0, none⟩), .agg (ic 26 pi ai ni).toArray] w fun e w' => ∃ v, e = .returned (.int .i64 v) ∧ (if l < 200 then v = 102 ∧ ∃ stk' ss' l' nx', Rn k0 w0 w' r T gs n pl C (.iface 48 (.pointer (some ⟨hb, 0, none⟩))) av stk' ss' l' nx' an ls ags else if st.length < 2 ∨ 64 < st.length - 2 + 1 then v = 103 ∧ ∃ stk' ss' l' nx', Rn k0 w0 w' r T gs n pl C (.iface 48 (.pointer (some ⟨hb, 0, none⟩))) av stk' ss' l' nx' an ls ags else (¬ st.getD 1 0 < 64 ∧ v = 104 ∧ ∃ stk', Rn k0 w0 w' r T gs n pl C (.iface 48 (.pointer (some ⟨hb, 0, none⟩))) av stk' ((st.drop 2).reverse) (l - 200) (nx + 1) an ls ags) ∨ (st.getD 1 0 < 64 ∧ ∃ u E X w1, P u E X w1 ∧ ((E = 0 ∧ v = 0 ∧ ∃ stk', Rn X w1 w' r T gs n pl C (.iface 48 (.pointer (some ⟨hb, 0, none⟩))) av stk' ((u :: st.drop 2).reverse) (l - 200) (nx + 1) an ls ags) ∨ (E ≠ 0 ∧ v = E ∧ ∃ stk', Rn X w1 w' r T gs n pl C (.iface 48 (.pointer (some ⟨hb, 0, none⟩))) av stk' ((st.drop 2).reverse) (l - 200) (nx + 1) an ls ags)))) := by
  refine stp_ofD r T gs n pl C (.iface 48 (.pointer (some ⟨hb, 0, none⟩))) av stk st l nx an ls ags 26 pi ai ni _ 0 200 2 1 43 (by decide) rfl 2 1 (fun W => needs_any _ _ 0 200 2 1 rfl rfl _ W) hl (by omega) hsl hnx k0 w0 w H (fun v w' => (¬ st.getD 1 0 < 64 ∧ v = 104 ∧ ∃ stk', Rn k0 w0 w' r T gs n pl C (.iface 48 (.pointer (some ⟨hb, 0, none⟩))) av stk' ((st.drop 2).reverse) (l - 200) (nx + 1) an ls ags) ∨ (st.getD 1 0 < 64 ∧ ∃ u E X w1, P u E X w1 ∧ ((E = 0 ∧ v = 0 ∧ ∃ stk', Rn X w1 w' r T gs n pl C (.iface 48 (.pointer (some ⟨hb, 0, none⟩))) av stk' ((u :: st.drop 2).reverse) (l - 200) (nx + 1) an ls ags) ∨ (E ≠ 0 ∧ v = E ∧ ∃ stk', Rn X w1 w' r T gs n pl C (.iface 48 (.pointer (some ⟨hb, 0, none⟩))) av stk' ((st.drop 2).reverse) (l - 200) (nx + 1) an ls ags)))) cfe_have ?_
  intro hg ht hm W hW
  obtain ⟨y, x, st', rfl⟩ : ∃ y x st', st = y :: x :: st' := by
    match st, ht with
    | y :: x :: st', _ => exact ⟨y, x, st', rfl⟩
  have hsr : st'.reverse.length ≤ 900 := by rw [List.length_reverse]; simp only [List.length_cons] at hsl; omega
  simp only [List.reverse_cons] at hW
  have hx : x < 2 ^ 256 := hst x (by simp)
  by_cases h6 : x < 64
  · refine Calls.mono (do_have r T gs n pl C hb av stk st'.reverse _ _ an ls ags _ x y hx h6 P k0 w0 W hW hsr hh) ?_
    rintro e w' ⟨u, E, X, w1, hP, q⟩
    rcases q with ⟨h1, rfl, stk', q⟩ | ⟨h1, rfl, stk', q⟩
    · exact ⟨0, rfl, .inr ⟨h6, u, E, X, w1, hP, .inl ⟨h1, rfl, stk', by rw [List.reverse_cons]; exact q⟩⟩⟩
    · exact ⟨E, rfl, .inr ⟨h6, u, E, X, w1, hP, .inr ⟨h1, rfl, stk', q⟩⟩⟩
  · refine Calls.mono (do_have_no r T gs n pl C hb av stk st'.reverse _ _ an ls ags _ x y hx h6 k0 w0 W hW hsr) ?_
    rintro e w' ⟨rfl, stk', q⟩
    exact ⟨104, rfl, .inl ⟨h6, rfl, stk', q⟩⟩
theorem cfe_send (args : Array Value) (W : World) : (callFunc 44 args).run Try.prog W = .ok (.enter 44 args) W := by
  go_simp
theorem sp_send (r T gs n : Nat) (pl : Value) (C : List Value) (hb : Nat) (av stk : Value) (st : List Nat) (l nx : Nat) (an : List Value) (ls : List Ins) (ags : List Nat) (pi ai ni : Nat) (P : Int → World → World → Prop) (hst : ∀ a ∈ st, a < 2 ^ 256) (hl : l ≤ 10000) (hsl : st.length ≤ 64) (hnx : nx ≤ 1024) (k0 w0 w : World) (H : Rn k0 w0 w r T gs n pl C (.iface 48 (.pointer (some ⟨hb, 0, none⟩))) av stk st.reverse l nx an ls ags) (hh : ∀ stk' W, Rn k0 w0 W r T gs n pl C (.iface 48 (.pointer (some ⟨hb, 0, none⟩))) av stk' ((st.drop 3).reverse) (l - 500) (nx + 1) an ls ags → Calls Try.prog 108 #[.pointer (some ⟨hb, 0, none⟩), .int .i64 ((st.getD 2 0 : Nat) : Int), .agg (adr (st.getD 1 0)).toArray, .agg (wq (st.getD 0 0)).toArray] W fun e w' => ∃ E, e = .returned (.int .i64 E) ∧ ∃ w1, P E w' w1 ∧ Rn w' w1 w' r T gs n pl C (.iface 48 (.pointer (some ⟨hb, 0, none⟩))) av stk' ((st.drop 3).reverse) (l - 500) (nx + 1) an ls ags) : Calls Try.prog 47 #[.pointer (some ⟨r, 0, none⟩), .agg (ic 27 pi ai ni).toArray] w fun e w' => ∃ v, e = .returned (.int .i64 v) ∧ (if l < 500 then v = 102 ∧ ∃ stk' ss' l' nx', Rn k0 w0 w' r T gs n pl C (.iface 48 (.pointer (some ⟨hb, 0, none⟩))) av stk' ss' l' nx' an ls ags else if st.length < 3 ∨ 64 < st.length - 3 + 0 then v = 103 ∧ ∃ stk' ss' l' nx', Rn k0 w0 w' r T gs n pl C (.iface 48 (.pointer (some ⟨hb, 0, none⟩))) av stk' ss' l' nx' an ls ags else (¬ st.getD 2 0 < 64 ∧ v = 104 ∧ ∃ stk', Rn k0 w0 w' r T gs n pl C (.iface 48 (.pointer (some ⟨hb, 0, none⟩))) av stk' ((st.drop 3).reverse) (l - 500) (nx + 1) an ls ags) ∨ (st.getD 2 0 < 64 ∧ ∃ w1, P v w' w1 ∧ ∃ stk', Rn w' w1 w' r T gs n pl C (.iface 48 (.pointer (some ⟨hb, 0, none⟩))) av stk' ((st.drop 3).reverse) (l - 500) (nx + 1) an ls ags)) := by
  refine stp_ofD r T gs n pl C (.iface 48 (.pointer (some ⟨hb, 0, none⟩))) av stk st l nx an ls ags 27 pi ai ni _ 0 500 3 0 44 (by decide) rfl 3 0 (fun W => needs_any _ _ 0 500 3 0 rfl rfl _ W) hl (by omega) hsl hnx k0 w0 w H (fun v w' => (¬ st.getD 2 0 < 64 ∧ v = 104 ∧ ∃ stk', Rn k0 w0 w' r T gs n pl C (.iface 48 (.pointer (some ⟨hb, 0, none⟩))) av stk' ((st.drop 3).reverse) (l - 500) (nx + 1) an ls ags) ∨ (st.getD 2 0 < 64 ∧ ∃ w1, P v w' w1 ∧ ∃ stk', Rn w' w1 w' r T gs n pl C (.iface 48 (.pointer (some ⟨hb, 0, none⟩))) av stk' ((st.drop 3).reverse) (l - 500) (nx + 1) an ls ags)) cfe_send ?_
  intro hg ht hm W hW
  obtain ⟨z, y, x, st', rfl⟩ : ∃ z y x st', st = z :: y :: x :: st' := by
    match st, ht with
    | z :: y :: x :: st', _ => exact ⟨z, y, x, st', rfl⟩
  have hsr : st'.reverse.length ≤ 900 := by rw [List.length_reverse]; simp only [List.length_cons] at hsl; omega
  simp only [List.reverse_cons] at hW
  have hx : x < 2 ^ 256 := hst x (by simp)
  by_cases h6 : x < 64
  · refine Calls.mono (do_send r T gs n pl C hb av stk st'.reverse _ _ an ls ags _ x y z hx h6 P k0 w0 W hW hsr hh) ?_
    rintro e w' ⟨E, w1, rfl, hP, stk', q⟩
    exact ⟨E, rfl, .inr ⟨h6, w1, hP, stk', q⟩⟩
  · refine Calls.mono (do_send_no r T gs n pl C hb av stk st'.reverse _ _ an ls ags _ x y z hx h6 k0 w0 W hW hsr) ?_
    rintro e w' ⟨rfl, stk', q⟩
    exact ⟨104, rfl, .inl ⟨h6, rfl, stk', q⟩⟩

end Go.Proofs.Ytabcglakdlkdcaa
