/-
  the law LedgerGives: few addresses, too little.
-/
import Derived.Test.YtelioddogdcdoaaDoorLhN
namespace Go.Proofs.YtelioddogdcdoaaDoor
open Go Go.RowKit Go.Maps
open Sha
open Wd

set_option maxRecDepth 100000 in
set_option maxHeartbeats 4000000 in
theorem giv_few (cs : List Value) (hcl : cs.length = 10) (z0 : Int) (h1 : -9223372036854775808 ≤ z0) (h2 : z0 ≤ 9223372036854775807) (hc0 : cs[0]? = some (.int .i64 z0)) (A : Option Addr) (n cap : Nat) (hn : n < 3) (hc1 : cs[1]? = some (.slice A n cap)) (a b : Nat) (hcA : (cs.drop 2).take 4 = wq a) (hcB : (cs.drop 6).take 4 = wq b) (w : World) :
    Calls Tryd.prog 3 #[.agg cs.toArray] w fun e w' => e = .returned (.bool true) ∧ Below w.heap.size w w' := by
  obtain ⟨t, ht, hpk⟩ := pk_nat z0
  have HP : Hid (∀ W, Calls Tryd.prog 6 #[.int .i64 z0, .int .i64 64] W fun e w' => e = .returned (.int .i64 (t : Int)) ∧ w' = W) := fun W => by rw [← hpk]; exact pick8 z0 64 (by decide) h1 h2 (by decide) W
  have HC0 : Hid (cs[0]? = some (.int .i64 z0)) := hc0
  have HC1 : Hid (cs[1]? = some (.slice A n cap)) := hc1
  obtain ⟨LA, hLA⟩ : ∃ L : List Value, L = wq a := ⟨_, rfl⟩
  obtain ⟨LB, hLB⟩ : ∃ L : List Value, L = wq b := ⟨_, rfl⟩
  have HLAE : Hid (LA = wq a) := hLA
  have HLAI : Hid ((Tryd.prog.info? 25).map (·.size) = some LA.length) := by show _ = _; rw [hLA]; exact info_wq _
  have HLAJ : Hid ((Tryd.prog.info? 25).map (·.size) = some LA.toArray.size) := by show _ = _; rw [List.size_toArray, hLA]; exact info_wq _
  have HLAN : Hid (LA.length = zW.length) := by show _ = _; rw [hLA]; exact wq_len _
  have HLAO : Hid (LA.toArray.all (·.oneCell') = true) := by show _ = true; rw [hLA]; exact wq_one _
  have HLBE : Hid (LB = wq b) := hLB
  have HLBI : Hid ((Tryd.prog.info? 25).map (·.size) = some LB.length) := by show _ = _; rw [hLB]; exact info_wq _
  have HLBJ : Hid ((Tryd.prog.info? 25).map (·.size) = some LB.toArray.size) := by show _ = _; rw [List.size_toArray, hLB]; exact info_wq _
  have HLBN : Hid (LB.length = zW.length) := by show _ = _; rw [hLB]; exact wq_len _
  have HLBO : Hid (LB.toArray.all (·.oneCell') = true) := by show _ = true; rw [hLB]; exact wq_one _
  have HCA : Hid ((cs.drop 2).take 4 = LA) := by show _ = _; rw [hLA]; exact hcA
  have HCB : Hid ((cs.drop 6).take 4 = LB) := by show _ = _; rw [hLB]; exact hcB
  have HCI : Hid ((Tryd.prog.info? 27).map (·.size) = some cs.length) := by show _ = _; rw [hcl]; kernel_rfl
  have hn3 : (n : Int) < 3 := by omega
  clear ht hpk h1 h2 hc0 hc1 hcA hcB hcl hLA hLB hn
  go_enter Tryd.func3, Tryd.ntmps3
  go_wp2_with (refine wpList_boxG 27 rfl (.tmp 0) rfl cs rfl ?_; intro X1 q1 q2 q3; have R1 : Hid (Row X1 _ cs 27) := q1; have BX1 : Hid (Below _ _ X1) := q2; clear q1 q2 q3; simp only [Act.put, List.setIfInBounds_toArray, List.set_cons_zero, List.set_cons_succ])
  obtain ⟨b1, hb1⟩ : ∃ b, b = w.heap.size := ⟨_, rfl⟩
  replace R1 : Hid (Row X1 b1 cs 27) := by rw [hb1]; exact R1.out
  rw [← hb1]
  clear hb1
  refine Calls.mono (known_any X1) ?_
  rintro e U ⟨rfl, hB⟩
  replace R1 : Hid (Row U b1 cs 27) := Row.below R1.out hB R1.out.lt
  have BU : Hid (Below w.heap.size w U) := BX1.out.trans (hB.mono BX1.out.size)
  clear hB BX1
  go_wp2_with fail
  refine Calls.mono (over_nil U) ?_
  rintro e V ⟨S, rfl, hG⟩
  replace R1 : Hid (Row V b1 cs 27) := Row.below R1.out hG.bel R1.out.lt
  have HG : Hid (Lg U V S 0 (fun _ => [])) := hG
  have c0 := R1.out.cell 0 _ HC0.out
  clear hG
  go_wp2_with fail
  refine Calls.mono (HP.out V) ?_
  rintro e Vx ⟨rfl, hqq⟩
  obtain rfl := hqq.symm
  have SA1 : Hid (V.rangeAt b1 2 LA) := by show World.rangeAt _ _ _ _; rw [← HCA.out]; exact sub_range R1.out 2 4
  clear HP c0
  obtain ⟨b6, hb6⟩ : ∃ b, b = V.heap.size := ⟨_, rfl⟩
  have HBb6 : Hid (b6 = V.heap.size) := hb6
  clear hb6
  go_upto_region 5 with (first
    | (refine wpList_load_w rfl 25 (.tmp 36) rfl b1 2 rfl LA _ SA1.out Tryd.underlying25 rfl HLAI.out ?_; simp only [Act.put, List.setIfInBounds_toArray, List.set_cons_zero, List.set_cons_succ])
    | (refine wpList_allocW rfl rfl ?_; intro XA q1 q2 q3; have QA : Hid (Row XA _ zW 25) := q1; have BA : Hid (Below _ _ XA) := q2; clear q1 q2 q3; simp only [Act.put, List.setIfInBounds_toArray, List.set_cons_zero, List.set_cons_succ])
    | (refine wpList_storeL rfl 25 (.tmp 6) (.tmp 37) rfl V.heap.size LA zW 25 rfl rfl QA.out HLAN.out HLAI.out HLAO.out ?_; intro YA q1 q2; have HYA : Hid (YA = _) := q1; have RYA : Hid (Row YA V.heap.size LA 25) := q2; clear q1 q2; simp only [Act.put]))
  rw [← HBb6.out] at RYA HYA
  rw [← HBb6.out]
  have cb : Below V.heap.size V YA := by rw [HYA.out]; exact below_setCells BA.out (by rw [HBb6.out]; exact Nat.le_refl _) _
  replace R1 : Hid (Row YA b1 cs 27) := Row.below R1.out cb R1.out.lt
  replace HG : Hid (Lg U YA S 0 (fun _ => [])) := HG.out.be cb
  clear cb HYA BA HBb6
  have R6 : Hid (Row YA b6 LA 25) := RYA.out
  have SB1 : Hid (YA.rangeAt b1 6 LB) := by show World.rangeAt _ _ _ _; rw [← HCB.out]; exact sub_range R1.out 6 4
  clear RYA QA SA1
  obtain ⟨b7, hb7⟩ : ∃ b, b = YA.heap.size := ⟨_, rfl⟩
  have HBb7 : Hid (b7 = YA.heap.size) := hb7
  clear hb7
  go_upto_region 6 with (first
    | (refine wpList_load_w rfl 25 (.tmp 38) rfl b1 6 rfl LB _ SB1.out Tryd.underlying25 rfl HLBI.out ?_; simp only [Act.put, List.setIfInBounds_toArray, List.set_cons_zero, List.set_cons_succ])
    | (refine wpList_allocW rfl rfl ?_; intro XB q1 q2 q3; have QB : Hid (Row XB _ zW 25) := q1; have BB : Hid (Below _ _ XB) := q2; clear q1 q2 q3; simp only [Act.put, List.setIfInBounds_toArray, List.set_cons_zero, List.set_cons_succ])
    | (refine wpList_storeL rfl 25 (.tmp 7) (.tmp 39) rfl YA.heap.size LB zW 25 rfl rfl QB.out HLBN.out HLBI.out HLBO.out ?_; intro YB q1 q2; have HYB : Hid (YB = _) := q1; have RYB : Hid (Row YB YA.heap.size LB 25) := q2; clear q1 q2; simp only [Act.put]))
  rw [← HBb7.out] at RYB HYB
  rw [← HBb7.out]
  have cb : Below YA.heap.size YA YB := by rw [HYB.out]; exact below_setCells BB.out (by rw [HBb7.out]; exact Nat.le_refl _) _
  replace R1 : Hid (Row YB b1 cs 27) := Row.below R1.out cb R1.out.lt
  replace R6 : Hid (Row YB b6 LA 25) := Row.below R6.out cb R6.out.lt
  replace HG : Hid (Lg U YB S 0 (fun _ => [])) := HG.out.be cb
  clear cb HYB BB HBb7
  have R7 : Hid (Row YB b7 LB 25) := RYB.out
  have c1 := R1.out.cell 1 _ HC1.out
  clear RYB QB SB1
  have BZ : Hid (Below w.heap.size w YB) := BU.out.trans (HG.out.bel.mono BU.out.size)
  clear HG BU R1 R6 R7
  go_wp2_with fail
  go_ret
  exact ⟨rfl, BZ.out⟩
set_option maxRecDepth 100000 in
set_option maxHeartbeats 4000000 in
theorem giv_short (cs : List Value) (hcl : cs.length = 10) (z0 : Int) (h1 : -9223372036854775808 ≤ z0) (h2 : z0 ≤ 9223372036854775807) (hc0 : cs[0]? = some (.int .i64 z0)) (g o n cap : Nat) (hn : 3 ≤ n) (hc1 : cs[1]? = some (.slice (some ⟨g, o, none⟩) n cap)) (a b : Nat) (ha : a < 2 ^ 256) (hb : b < 2 ^ 256) (hcA : (cs.drop 2).take 4 = wq a) (hcB : (cs.drop 6).take 4 = wq b) (x y z : List (BitVec 8)) (hx : x.length = 20) (hy : y.length = 20) (hz : z.length = 20) (hab : a < b) (w : World) (hX : w.rangeAt g o (vB x)) (hY : w.rangeAt g (o + 20) (vB y)) (hZ : w.rangeAt g (o + 40) (vB z)) :
    Calls Tryd.prog 3 #[.agg cs.toArray] w fun e w' => e = .returned (.bool true) ∧ Below w.heap.size w w' := by
  obtain ⟨t, ht, hpk⟩ := pk_nat z0
  have HP : Hid (∀ W, Calls Tryd.prog 6 #[.int .i64 z0, .int .i64 64] W fun e w' => e = .returned (.int .i64 (t : Int)) ∧ w' = W) := fun W => by rw [← hpk]; exact pick8 z0 64 (by decide) h1 h2 (by decide) W
  have HC0 : Hid (cs[0]? = some (.int .i64 z0)) := hc0
  have HC1 : Hid (cs[1]? = some (.slice (some ⟨g, o, none⟩) n cap)) := hc1
  obtain ⟨LA, hLA⟩ : ∃ L : List Value, L = wq a := ⟨_, rfl⟩
  obtain ⟨LB, hLB⟩ : ∃ L : List Value, L = wq b := ⟨_, rfl⟩
  have HLAE : Hid (LA = wq a) := hLA
  have HLAI : Hid ((Tryd.prog.info? 25).map (·.size) = some LA.length) := by show _ = _; rw [hLA]; exact info_wq _
  have HLAJ : Hid ((Tryd.prog.info? 25).map (·.size) = some LA.toArray.size) := by show _ = _; rw [List.size_toArray, hLA]; exact info_wq _
  have HLAN : Hid (LA.length = zW.length) := by show _ = _; rw [hLA]; exact wq_len _
  have HLAO : Hid (LA.toArray.all (·.oneCell') = true) := by show _ = true; rw [hLA]; exact wq_one _
  have HLBE : Hid (LB = wq b) := hLB
  have HLBI : Hid ((Tryd.prog.info? 25).map (·.size) = some LB.length) := by show _ = _; rw [hLB]; exact info_wq _
  have HLBJ : Hid ((Tryd.prog.info? 25).map (·.size) = some LB.toArray.size) := by show _ = _; rw [List.size_toArray, hLB]; exact info_wq _
  have HLBN : Hid (LB.length = zW.length) := by show _ = _; rw [hLB]; exact wq_len _
  have HLBO : Hid (LB.toArray.all (·.oneCell') = true) := by show _ = true; rw [hLB]; exact wq_one _
  have HCA : Hid ((cs.drop 2).take 4 = LA) := by show _ = _; rw [hLA]; exact hcA
  have HCB : Hid ((cs.drop 6).take 4 = LB) := by show _ = _; rw [hLB]; exact hcB
  have HCI : Hid ((Tryd.prog.info? 27).map (·.size) = some cs.length) := by show _ = _; rw [hcl]; kernel_rfl
  have Hx : Hid (x.length = 20) := hx
  have HxI : Hid ((Tryd.prog.info? 33).map (·.size) = some (vB x).length) := info_adr Hx.out
  have HxN : Hid ((vB x).length = zA.length) := by show _ = _; rw [vB_length, Hx.out]; rfl
  have HxO : Hid ((vB x).toArray.all (·.oneCell') = true) := ad_one
  have Hy : Hid (y.length = 20) := hy
  have HyI : Hid ((Tryd.prog.info? 33).map (·.size) = some (vB y).length) := info_adr Hy.out
  have HyN : Hid ((vB y).length = zA.length) := by show _ = _; rw [vB_length, Hy.out]; rfl
  have HyO : Hid ((vB y).toArray.all (·.oneCell') = true) := ad_one
  have Hz : Hid (z.length = 20) := hz
  have HzI : Hid ((Tryd.prog.info? 33).map (·.size) = some (vB z).length) := info_adr Hz.out
  have HzN : Hid ((vB z).length = zA.length) := by show _ = _; rw [vB_length, Hz.out]; rfl
  have HzO : Hid ((vB z).toArray.all (·.oneCell') = true) := ad_one
  have HX0 : Hid (w.rangeAt g o (vB x)) := hX
  have HY0 : Hid (w.rangeAt g (o + 20) (vB y)) := hY
  have HZ0 : Hid (w.rangeAt g (o + 40) (vB z)) := hZ
  have hn3 : ¬ ((n : Int) < 3) := by omega
  have HN : Hid (3 ≤ n) := hn
  have HAB : Hid (a < 2 ^ 256 ∧ b < 2 ^ 256) := ⟨ha, hb⟩
  obtain ⟨A0, hA0⟩ : ∃ A : List (BitVec 8) → List (BitVec 8) → Nat, A = fun _ _ => 0 := ⟨_, rfl⟩
  obtain ⟨B0, hB0⟩ : ∃ B : List (BitVec 8) → Nat, B = fun _ => 0 := ⟨_, rfl⟩
  obtain ⟨B1, hB1⟩ : ∃ B, B = sB B0 x (B0 x + a) := ⟨_, rfl⟩
  have g0 : ∀ u, B0 u = 0 := fun u => by rw [hB0]
  have g1x : B1 x = a := by rw [hB1, sB_same, g0, Nat.zero_add]
  have KRG : Hid (∀ U S W, Lg U W S 0 (fun _ => []) → Calls Tryd.prog 7 #[.pointer (some ⟨S, 0, none⟩), .int .i64 (t : Int)] W fun e w' => e = .returned (.int .i64 0) ∧ Led U w' S 2 t 0 B0 A0 ∧ Kp W w') := fun U S W hW => by rw [hA0, hB0]; exact regL U S 0 t (by decide) ht W hW
  have KMI : Hid (∀ U S W, Led U W S 2 t 0 B0 A0 → Calls Tryd.prog 8 #[.pointer (some ⟨S, 0, none⟩), .int .i64 (t : Int), .agg (vB x).toArray, .agg LA.toArray] W fun e w' => e = .returned (.int .i64 0) ∧ Led U w' S 6 t a B1 A0 ∧ Kp W w') := fun U S W hW => by have q := mntL U S 2 t 0 B0 A0 (by decide) ht a (by decide) ha x hx (by rw [g0]; decide) (by omega) (by rw [g0]; omega) LA hLA W hW; rw [Nat.zero_add, ← hB1] at q; exact q
  have KM1 : Hid (∀ U S W, Led U W S 6 t a B1 A0 → Calls Tryd.prog 9 #[.pointer (some ⟨S, 0, none⟩), .int .i64 (t : Int), .agg (vB x).toArray, .agg (vB y).toArray, .agg LB.toArray] W fun e w' => e = .returned (.int .i64 85) ∧ Led U w' S 11 t a B1 A0 ∧ Kp W w') := fun U S W hW => movLN U S 6 t a B1 A0 (by decide) ht ha x y hx hy b hb (by rw [g1x]; exact hab) LB hLB W hW
  have HCM : Hid (∀ W, Calls Tryd.prog 10 #[.agg LA.toArray, .agg LB.toArray] W fun e w' => e = .returned (.int .i64 (-1)) ∧ Below W.heap.size W w') := fun W => by rw [hLA, hLB]; have q := refCmp_any a b ha hb W; unfold cmpR at q; rw [if_neg (by omega), if_pos hab] at q; exact q
  clear ht hpk h1 h2 hc0 hc1 hcA hcB hcl hLA hLB hn ha hb hx hy hz hX hY hZ hA0 hB0 hB1 g0 g1x hab
  go_enter Tryd.func3, Tryd.ntmps3
  go_wp2_with (refine wpList_boxG 27 rfl (.tmp 0) rfl cs rfl ?_; intro X1 q1 q2 q3; have R1 : Hid (Row X1 _ cs 27) := q1; have BX1 : Hid (Below _ _ X1) := q2; clear q1 q2 q3; simp only [Act.put, List.setIfInBounds_toArray, List.set_cons_zero, List.set_cons_succ])
  obtain ⟨b1, hb1⟩ : ∃ b, b = w.heap.size := ⟨_, rfl⟩
  replace R1 : Hid (Row X1 b1 cs 27) := by rw [hb1]; exact R1.out
  rw [← hb1]
  clear hb1
  refine Calls.mono (known_any X1) ?_
  rintro e U ⟨rfl, hB⟩
  replace R1 : Hid (Row U b1 cs 27) := Row.below R1.out hB R1.out.lt
  have BU : Hid (Below w.heap.size w U) := BX1.out.trans (hB.mono BX1.out.size)
  clear hB BX1
  go_wp2_with fail
  refine Calls.mono (over_nil U) ?_
  rintro e V ⟨S, rfl, hG⟩
  replace R1 : Hid (Row V b1 cs 27) := Row.below R1.out hG.bel R1.out.lt
  have HG : Hid (Lg U V S 0 (fun _ => [])) := hG
  have c0 := R1.out.cell 0 _ HC0.out
  clear hG
  go_wp2_with fail
  refine Calls.mono (HP.out V) ?_
  rintro e Vx ⟨rfl, hqq⟩
  obtain rfl := hqq.symm
  have SA1 : Hid (V.rangeAt b1 2 LA) := by show World.rangeAt _ _ _ _; rw [← HCA.out]; exact sub_range R1.out 2 4
  clear HP c0
  obtain ⟨b6, hb6⟩ : ∃ b, b = V.heap.size := ⟨_, rfl⟩
  have HBb6 : Hid (b6 = V.heap.size) := hb6
  clear hb6
  go_upto_region 5 with (first
    | (refine wpList_load_w rfl 25 (.tmp 36) rfl b1 2 rfl LA _ SA1.out Tryd.underlying25 rfl HLAI.out ?_; simp only [Act.put, List.setIfInBounds_toArray, List.set_cons_zero, List.set_cons_succ])
    | (refine wpList_allocW rfl rfl ?_; intro XA q1 q2 q3; have QA : Hid (Row XA _ zW 25) := q1; have BA : Hid (Below _ _ XA) := q2; clear q1 q2 q3; simp only [Act.put, List.setIfInBounds_toArray, List.set_cons_zero, List.set_cons_succ])
    | (refine wpList_storeL rfl 25 (.tmp 6) (.tmp 37) rfl V.heap.size LA zW 25 rfl rfl QA.out HLAN.out HLAI.out HLAO.out ?_; intro YA q1 q2; have HYA : Hid (YA = _) := q1; have RYA : Hid (Row YA V.heap.size LA 25) := q2; clear q1 q2; simp only [Act.put]))
  rw [← HBb6.out] at RYA HYA
  rw [← HBb6.out]
  have cb : Below V.heap.size V YA := by rw [HYA.out]; exact below_setCells BA.out (by rw [HBb6.out]; exact Nat.le_refl _) _
  replace R1 : Hid (Row YA b1 cs 27) := Row.below R1.out cb R1.out.lt
  replace HG : Hid (Lg U YA S 0 (fun _ => [])) := HG.out.be cb
  clear cb HYA BA HBb6
  have R6 : Hid (Row YA b6 LA 25) := RYA.out
  have SB1 : Hid (YA.rangeAt b1 6 LB) := by show World.rangeAt _ _ _ _; rw [← HCB.out]; exact sub_range R1.out 6 4
  clear RYA QA SA1
  obtain ⟨b7, hb7⟩ : ∃ b, b = YA.heap.size := ⟨_, rfl⟩
  have HBb7 : Hid (b7 = YA.heap.size) := hb7
  clear hb7
  go_upto_region 6 with (first
    | (refine wpList_load_w rfl 25 (.tmp 38) rfl b1 6 rfl LB _ SB1.out Tryd.underlying25 rfl HLBI.out ?_; simp only [Act.put, List.setIfInBounds_toArray, List.set_cons_zero, List.set_cons_succ])
    | (refine wpList_allocW rfl rfl ?_; intro XB q1 q2 q3; have QB : Hid (Row XB _ zW 25) := q1; have BB : Hid (Below _ _ XB) := q2; clear q1 q2 q3; simp only [Act.put, List.setIfInBounds_toArray, List.set_cons_zero, List.set_cons_succ])
    | (refine wpList_storeL rfl 25 (.tmp 7) (.tmp 39) rfl YA.heap.size LB zW 25 rfl rfl QB.out HLBN.out HLBI.out HLBO.out ?_; intro YB q1 q2; have HYB : Hid (YB = _) := q1; have RYB : Hid (Row YB YA.heap.size LB 25) := q2; clear q1 q2; simp only [Act.put]))
  rw [← HBb7.out] at RYB HYB
  rw [← HBb7.out]
  have cb : Below YA.heap.size YA YB := by rw [HYB.out]; exact below_setCells BB.out (by rw [HBb7.out]; exact Nat.le_refl _) _
  replace R1 : Hid (Row YB b1 cs 27) := Row.below R1.out cb R1.out.lt
  replace R6 : Hid (Row YB b6 LA 25) := Row.below R6.out cb R6.out.lt
  replace HG : Hid (Lg U YB S 0 (fun _ => [])) := HG.out.be cb
  clear cb HYB BB HBb7
  have R7 : Hid (Row YB b7 LB 25) := RYB.out
  have c1 := R1.out.cell 1 _ HC1.out
  clear RYB QB SB1
  have Sx : Hid (YB.rangeAt g o (vB x)) := rng_be HX0.out (BU.out.trans (HG.out.bel.mono BU.out.size)) (Nat.le_refl _)
  obtain ⟨b8, hb8⟩ : ∃ b, b = YB.heap.size := ⟨_, rfl⟩
  have HBb8 : Hid (b8 = YB.heap.size) := hb8
  clear hb8
  go_upto_region 9 with (first
    | (refine wpList_ix_a rfl (.tmp 54) (.const (.int .i64 0)) rfl g o n cap 0 o (by omega) 0 rfl rfl rfl (by have := HN.out; omega) ?_; simp only [Act.put, List.setIfInBounds_toArray, List.set_cons_zero, List.set_cons_succ])
    | (refine wpList_load_w rfl 33 (.tmp 55) rfl g o rfl (vB x) _ Sx.out Tryd.underlying33 rfl HxI.out ?_; simp only [Act.put, List.setIfInBounds_toArray, List.set_cons_zero, List.set_cons_succ])
    | (refine wpList_allocA rfl rfl ?_; intro XYX q1 q2 q3; have QYX : Hid (Row XYX _ zA 33) := q1; have BYX : Hid (Below _ _ XYX) := q2; clear q1 q2 q3; simp only [Act.put, List.setIfInBounds_toArray, List.set_cons_zero, List.set_cons_succ])
    | (refine wpList_storeL rfl 33 (.tmp 8) (.tmp 56) rfl YB.heap.size (vB x) zA 33 rfl rfl QYX.out HxN.out HxI.out HxO.out ?_; intro YX q1 q2; have HYX : Hid (YX = _) := q1; have RYX : Hid (Row YX YB.heap.size (vB x) 33) := q2; clear q1 q2; simp only [Act.put]))
  rw [← HBb8.out] at RYX HYX
  rw [← HBb8.out]
  have cb : Below YB.heap.size YB YX := by rw [HYX.out]; exact below_setCells BYX.out (by rw [HBb8.out]; exact Nat.le_refl _) _
  replace R1 : Hid (Row YX b1 cs 27) := Row.below R1.out cb R1.out.lt
  replace R6 : Hid (Row YX b6 LA 25) := Row.below R6.out cb R6.out.lt
  replace R7 : Hid (Row YX b7 LB 25) := Row.below R7.out cb R7.out.lt
  replace HG : Hid (Lg U YX S 0 (fun _ => [])) := HG.out.be cb
  clear cb HYX BYX HBb8
  have R8 : Hid (Row YX b8 (vB x) 33) := RYX.out
  clear RYX QYX Sx c1
  have c1 := R1.out.cell 1 _ HC1.out
  have Sy : Hid (YX.rangeAt g (o + 20) (vB y)) := rng_be HY0.out (BU.out.trans (HG.out.bel.mono BU.out.size)) (Nat.le_refl _)
  obtain ⟨b9, hb9⟩ : ∃ b, b = YX.heap.size := ⟨_, rfl⟩
  have HBb9 : Hid (b9 = YX.heap.size) := hb9
  clear hb9
  go_upto_region 10 with (first
    | (refine wpList_ix_a rfl (.tmp 58) (.const (.int .i64 1)) rfl g o n cap 1 (o + 20) (by omega) 1 rfl rfl rfl (by have := HN.out; omega) ?_; simp only [Act.put, List.setIfInBounds_toArray, List.set_cons_zero, List.set_cons_succ])
    | (refine wpList_load_w rfl 33 (.tmp 59) rfl g (o + 20) rfl (vB y) _ Sy.out Tryd.underlying33 rfl HyI.out ?_; simp only [Act.put, List.setIfInBounds_toArray, List.set_cons_zero, List.set_cons_succ])
    | (refine wpList_allocA rfl rfl ?_; intro XYY q1 q2 q3; have QYY : Hid (Row XYY _ zA 33) := q1; have BYY : Hid (Below _ _ XYY) := q2; clear q1 q2 q3; simp only [Act.put, List.setIfInBounds_toArray, List.set_cons_zero, List.set_cons_succ])
    | (refine wpList_storeL rfl 33 (.tmp 9) (.tmp 60) rfl YX.heap.size (vB y) zA 33 rfl rfl QYY.out HyN.out HyI.out HyO.out ?_; intro YY q1 q2; have HYY : Hid (YY = _) := q1; have RYY : Hid (Row YY YX.heap.size (vB y) 33) := q2; clear q1 q2; simp only [Act.put]))
  rw [← HBb9.out] at RYY HYY
  rw [← HBb9.out]
  have cb : Below YX.heap.size YX YY := by rw [HYY.out]; exact below_setCells BYY.out (by rw [HBb9.out]; exact Nat.le_refl _) _
  replace R1 : Hid (Row YY b1 cs 27) := Row.below R1.out cb R1.out.lt
  replace R6 : Hid (Row YY b6 LA 25) := Row.below R6.out cb R6.out.lt
  replace R7 : Hid (Row YY b7 LB 25) := Row.below R7.out cb R7.out.lt
  replace R8 : Hid (Row YY b8 (vB x) 33) := Row.below R8.out cb R8.out.lt
  replace HG : Hid (Lg U YY S 0 (fun _ => [])) := HG.out.be cb
  clear cb HYY BYY HBb9
  have R9 : Hid (Row YY b9 (vB y) 33) := RYY.out
  clear RYY QYY Sy c1
  have c1 := R1.out.cell 1 _ HC1.out
  have Sz : Hid (YY.rangeAt g (o + 40) (vB z)) := rng_be HZ0.out (BU.out.trans (HG.out.bel.mono BU.out.size)) (Nat.le_refl _)
  obtain ⟨b10, hb10⟩ : ∃ b, b = YY.heap.size := ⟨_, rfl⟩
  have HBb10 : Hid (b10 = YY.heap.size) := hb10
  clear hb10
  go_upto_region 11 with (first
    | (refine wpList_ix_a rfl (.tmp 62) (.const (.int .i64 2)) rfl g o n cap 2 (o + 40) (by omega) 2 rfl rfl rfl (by have := HN.out; omega) ?_; simp only [Act.put, List.setIfInBounds_toArray, List.set_cons_zero, List.set_cons_succ])
    | (refine wpList_load_w rfl 33 (.tmp 63) rfl g (o + 40) rfl (vB z) _ Sz.out Tryd.underlying33 rfl HzI.out ?_; simp only [Act.put, List.setIfInBounds_toArray, List.set_cons_zero, List.set_cons_succ])
    | (refine wpList_allocA rfl rfl ?_; intro XYZ q1 q2 q3; have QYZ : Hid (Row XYZ _ zA 33) := q1; have BYZ : Hid (Below _ _ XYZ) := q2; clear q1 q2 q3; simp only [Act.put, List.setIfInBounds_toArray, List.set_cons_zero, List.set_cons_succ])
    | (refine wpList_storeL rfl 33 (.tmp 10) (.tmp 64) rfl YY.heap.size (vB z) zA 33 rfl rfl QYZ.out HzN.out HzI.out HzO.out ?_; intro YZ q1 q2; have HYZ : Hid (YZ = _) := q1; have RYZ : Hid (Row YZ YY.heap.size (vB z) 33) := q2; clear q1 q2; simp only [Act.put]))
  rw [← HBb10.out] at RYZ HYZ
  rw [← HBb10.out]
  have cb : Below YY.heap.size YY YZ := by rw [HYZ.out]; exact below_setCells BYZ.out (by rw [HBb10.out]; exact Nat.le_refl _) _
  replace R1 : Hid (Row YZ b1 cs 27) := Row.below R1.out cb R1.out.lt
  replace R6 : Hid (Row YZ b6 LA 25) := Row.below R6.out cb R6.out.lt
  replace R7 : Hid (Row YZ b7 LB 25) := Row.below R7.out cb R7.out.lt
  replace R8 : Hid (Row YZ b8 (vB x) 33) := Row.below R8.out cb R8.out.lt
  replace R9 : Hid (Row YZ b9 (vB y) 33) := Row.below R9.out cb R9.out.lt
  replace HG : Hid (Lg U YZ S 0 (fun _ => [])) := HG.out.be cb
  clear cb HYZ BYZ HBb10
  have R10 : Hid (Row YZ b10 (vB z) 33) := RYZ.out
  clear RYZ QYZ Sz c1
  clear R1
  have HX : Hid _ := KRG.out U S YZ HG.out
  clear HG KRG
  go_wp2_with fail
  refine Calls.mono HX.out ?_
  rintro e V1 ⟨rfl, hG, hK⟩
  replace R6 : Hid (Row V1 b6 LA 25) := hK.row _ _ _ (by decide) R6.out
  replace R7 : Hid (Row V1 b7 LB 25) := hK.row _ _ _ (by decide) R7.out
  replace R8 : Hid (Row V1 b8 (vB x) 33) := hK.row _ _ _ (by decide) R8.out
  replace R9 : Hid (Row V1 b9 (vB y) 33) := hK.row _ _ _ (by decide) R9.out
  replace R10 : Hid (Row V1 b10 (vB z) 33) := hK.row _ _ _ (by decide) R10.out
  have HG : Hid (Led U V1 S 2 t 0 B0 A0) := hG
  clear hG hK HX 
  have HX : Hid _ := KMI.out U S V1 HG.out
  have Tx : Hid (V1.rangeAt b8 0 (vB x)) := R8.out.all
  have Ta : Hid (V1.rangeAt b6 0 LA) := R6.out.all
  clear HG KMI
  go_wp2_with (first
    | (refine wpList_load_w rfl 33 (.tmp 8) rfl b8 0 rfl (vB x) _ Tx.out Tryd.underlying33 rfl HxI.out ?_; simp only [Act.put, List.setIfInBounds_toArray, List.set_cons_zero, List.set_cons_succ])
    | (refine wpList_load_w rfl 25 (.tmp 6) rfl b6 0 rfl LA _ Ta.out Tryd.underlying25 rfl HLAI.out ?_; simp only [Act.put, List.setIfInBounds_toArray, List.set_cons_zero, List.set_cons_succ]))
  refine Calls.mono HX.out ?_
  rintro e V2 ⟨rfl, hG, hK⟩
  replace R6 : Hid (Row V2 b6 LA 25) := hK.row _ _ _ (by decide) R6.out
  replace R7 : Hid (Row V2 b7 LB 25) := hK.row _ _ _ (by decide) R7.out
  replace R8 : Hid (Row V2 b8 (vB x) 33) := hK.row _ _ _ (by decide) R8.out
  replace R9 : Hid (Row V2 b9 (vB y) 33) := hK.row _ _ _ (by decide) R9.out
  replace R10 : Hid (Row V2 b10 (vB z) 33) := hK.row _ _ _ (by decide) R10.out
  have HG : Hid (Led U V2 S 6 t a B1 A0) := hG
  clear hG hK HX Tx Ta
  have HX : Hid _ := KM1.out U S V2 HG.out
  have Tx : Hid (V2.rangeAt b8 0 (vB x)) := R8.out.all
  have Ty : Hid (V2.rangeAt b9 0 (vB y)) := R9.out.all
  have Tb : Hid (V2.rangeAt b7 0 LB) := R7.out.all
  clear HG KM1
  go_wp2_with (first
    | (refine wpList_load_w rfl 33 (.tmp 8) rfl b8 0 rfl (vB x) _ Tx.out Tryd.underlying33 rfl HxI.out ?_; simp only [Act.put, List.setIfInBounds_toArray, List.set_cons_zero, List.set_cons_succ])
    | (refine wpList_load_w rfl 33 (.tmp 9) rfl b9 0 rfl (vB y) _ Ty.out Tryd.underlying33 rfl HyI.out ?_; simp only [Act.put, List.setIfInBounds_toArray, List.set_cons_zero, List.set_cons_succ])
    | (refine wpList_load_w rfl 25 (.tmp 7) rfl b7 0 rfl LB _ Tb.out Tryd.underlying25 rfl HLBI.out ?_; simp only [Act.put, List.setIfInBounds_toArray, List.set_cons_zero, List.set_cons_succ]))
  refine Calls.mono HX.out ?_
  rintro e V3 ⟨rfl, hG, hK⟩
  replace R6 : Hid (Row V3 b6 LA 25) := hK.row _ _ _ (by decide) R6.out
  replace R7 : Hid (Row V3 b7 LB 25) := hK.row _ _ _ (by decide) R7.out
  replace R8 : Hid (Row V3 b8 (vB x) 33) := hK.row _ _ _ (by decide) R8.out
  replace R9 : Hid (Row V3 b9 (vB y) 33) := hK.row _ _ _ (by decide) R9.out
  replace R10 : Hid (Row V3 b10 (vB z) 33) := hK.row _ _ _ (by decide) R10.out
  have HG : Hid (Led U V3 S 11 t a B1 A0) := hG
  clear hG hK HX Tx Ty Tb
  have Ta : Hid (V3.rangeAt b6 0 LA) := R6.out.all
  have Tb : Hid (V3.rangeAt b7 0 LB) := R7.out.all
  go_wp2_with (first
    | (refine wpList_load_w rfl 25 (.tmp 6) rfl b6 0 rfl LA _ Ta.out Tryd.underlying25 rfl HLAI.out ?_; simp only [Act.put, List.setIfInBounds_toArray, List.set_cons_zero, List.set_cons_succ])
    | (refine wpList_load_w rfl 25 (.tmp 7) rfl b7 0 rfl LB _ Tb.out Tryd.underlying25 rfl HLBI.out ?_; simp only [Act.put, List.setIfInBounds_toArray, List.set_cons_zero, List.set_cons_succ]))
  refine Calls.mono (HCM.out V3) ?_
  rintro e V4 ⟨rfl, hB⟩
  replace R6 : Hid (Row V4 b6 LA 25) := Row.below R6.out hB R6.out.lt
  replace R7 : Hid (Row V4 b7 LB 25) := Row.below R7.out hB R7.out.lt
  replace R8 : Hid (Row V4 b8 (vB x) 33) := Row.below R8.out hB R8.out.lt
  replace R9 : Hid (Row V4 b9 (vB y) 33) := Row.below R9.out hB R9.out.lt
  replace R10 : Hid (Row V4 b10 (vB z) 33) := Row.below R10.out hB R10.out.lt
  replace HG : Hid (Led U V4 S 11 t a B1 A0) := HG.out.be hB
  clear hB Ta Tb HCM
  have BZ : Hid (Below w.heap.size w V4) := BU.out.trans (HG.out.bel.mono BU.out.size)
  clear HG BU
  go_wp2_with fail
  go_ret
  exact ⟨rfl, BZ.out⟩

end Go.Proofs.YtelioddogdcdoaaDoor
