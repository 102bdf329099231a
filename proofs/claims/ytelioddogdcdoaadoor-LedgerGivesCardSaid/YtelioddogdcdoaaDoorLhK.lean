/-
  Pull.
-/
import Derived.Test.YtelioddogdcdoaaDoorLhJ
namespace Go.Proofs.YtelioddogdcdoaaDoor
open Go Go.RowKit Go.Maps
open Sha
open Wd

set_option maxRecDepth 100000 in
set_option maxHeartbeats 4000000 in
theorem pullN (w0 : World) (S q : Nat) (f : ByteArray → List (BitVec 8)) (hq : q < 999960) (n : Nat) (hn : n < 2 ^ 256) (t : Nat) (ht : t < 64) (z x y : List (BitVec 8)) (hz : z.length = 20) (hx : x.length = 20) (hy : y.length = 20) (b l : Nat) (hb : b < 2 ^ 256) (hl : l < 2 ^ 256) (hf : f (tKt t) = 1#8 :: wB n) (hlf : f (lKt t x z) = enc l) (hlb : l < b) (LB : List Value) (hLB : LB = wq b) (w : World) (h : Lg w0 w S q f) :
    Calls Tryd.prog 12 #[.pointer (some ⟨S, 0, none⟩), .int .i64 (t : Int), .agg (vB z).toArray, .agg (vB x).toArray, .agg (vB y).toArray, .agg LB.toArray] w fun e w' => e = .returned (.int .i64 86) ∧ Lg w0 w' S (q + 1 + 1) f ∧ Kp w w' := by
  obtain ⟨LP, hLP⟩ : ∃ L : List Value, L = pgl S t := ⟨_, rfl⟩
  obtain ⟨LT, hLT⟩ : ∃ L : List Value, L = tkl true false n := ⟨_, rfl⟩
  have HLPE : Hid (LP = pgl S t) := hLP
  have HLPI : Hid ((Tryd.prog.info? 58).map (·.size) = some LP.length) := by show _ = _; rw [hLP]; exact info_pgl S t
  have HLPJ : Hid ((Tryd.prog.info? 58).map (·.size) = some LP.toArray.size) := by show _ = _; rw [List.size_toArray, hLP]; exact info_pgl S t
  have HLPN : Hid (LP.length = zP.length) := by show _ = _; rw [hLP]; exact rfl
  have HLPO : Hid (LP.toArray.all (·.oneCell') = true) := by show _ = true; rw [hLP]; exact pgl_one S t
  have HLTE : Hid (LT = tkl true false n) := hLT
  have HLTI : Hid ((Tryd.prog.info? 44).map (·.size) = some LT.length) := by show _ = _; rw [hLT]; exact info_tkl _ _ _
  have HLTJ : Hid ((Tryd.prog.info? 44).map (·.size) = some LT.toArray.size) := by show _ = _; rw [List.size_toArray, hLT]; exact info_tkl _ _ _
  have HLTN : Hid (LT.length = zK.length) := by show _ = _; rw [hLT]; exact tkl_len _ _ _
  have HLTO : Hid (LT.toArray.all (·.oneCell') = true) := by show _ = true; rw [hLT]; exact tkl_one _ _ _
  have HLBE : Hid (LB = wq b) := hLB
  have HLBI : Hid ((Tryd.prog.info? 25).map (·.size) = some LB.length) := by show _ = _; rw [hLB]; exact info_wq _
  have HLBJ : Hid ((Tryd.prog.info? 25).map (·.size) = some LB.toArray.size) := by show _ = _; rw [List.size_toArray, hLB]; exact info_wq _
  have HLBN : Hid (LB.length = zW.length) := by show _ = _; rw [hLB]; exact wq_len _
  have HLBO : Hid (LB.toArray.all (·.oneCell') = true) := by show _ = true; rw [hLB]; exact wq_one _
  obtain ⟨N0, hN0⟩ : ∃ L : List Value, L = zL := ⟨_, rfl⟩
  have HN0E : Hid (N0 = zL) := hN0
  have HN0I : Hid ((Tryd.prog.info? 65).map (·.size) = some N0.length) := by show _ = _; rw [hN0]; exact (by kernel_rfl)
  have HN0J : Hid ((Tryd.prog.info? 65).map (·.size) = some N0.toArray.size) := by show _ = _; rw [List.size_toArray, hN0]; exact (by kernel_rfl)
  have HN0N : Hid (N0.length = zL.length) := by show _ = _; rw [hN0]
  have HN0O : Hid (N0.toArray.all (·.oneCell') = true) := by show _ = true; rw [hN0]; exact (by rw [← Array.all_toList]; rfl)
  have HLE : Hid (∀ W, Lg w0 W S (q + 1) f → Calls Tryd.prog 34 #[.agg LP.toArray, .string (lKt t x z), .agg LB.toArray, .int .i64 86] W fun e w' => e = .returned (.tuple #[.agg N0.toArray, .int .i64 86]) ∧ Lg w0 w' S (q + 1 + 1) f ∧ Kp W w') := fun W hW => by rw [hN0]; exact lsn w0 S (q + 1) f (by omega) t (lKt t x z) (lKt_key t hx hz) l b hl hb hlb hlf LP LB hLP hLB 86 W hW
  have HKf : Hid (∀ W, Calls Tryd.prog 35 #[.agg LP.toArray, .agg (vB x).toArray, .agg (vB z).toArray] W fun e w' => e = .returned (.string (lKt t x z)) ∧ Below W.heap.size W w') := fun W => akeyG S t ht x z hx hz LP hLP W
  have HAR : Hid (∀ W, Lg w0 W S q f → _) := fun W hW => askRG w0 S q f (by omega) t ht n hn hf LP LT hLP hLT W hW
  have HIx : Hid ((Tryd.prog.info? 33).map (·.size) = some (vB x).length) := info_adr hx
  have HIy : Hid ((Tryd.prog.info? 33).map (·.size) = some (vB y).length) := info_adr hy
  have HIz : Hid ((Tryd.prog.info? 33).map (·.size) = some (vB z).length) := info_adr hz
  have HG : Hid (Lg w0 w S q f) := h
  clear hLP hLT hLB hN0 hx hy hz hq hn hf ht hb hl hlf hlb h
  go_enter Tryd.func12, Tryd.ntmps12
  go_wp2_with (first
    | (refine wpList_boxG 33 rfl (.tmp 2) rfl (vB z) rfl ?_; intro X0 q1 q2 q3; have Q0 : Hid (Row X0 _ (vB z) 33) := q1; have B0 : Hid (Below _ _ X0) := q2; clear q1 q2 q3; simp only [Act.put, List.setIfInBounds_toArray, List.set_cons_zero, List.set_cons_succ])
    | (refine wpList_boxG 33 rfl (.tmp 3) rfl (vB x) rfl ?_; intro X1 q1 q2 q3; have Q1 : Hid (Row X1 _ (vB x) 33) := q1; have B1 : Hid (Below _ _ X1) := q2; clear q1 q2 q3; simp only [Act.put, List.setIfInBounds_toArray, List.set_cons_zero, List.set_cons_succ])
    | (refine wpList_boxG 33 rfl (.tmp 4) rfl (vB y) rfl ?_; intro X2 q1 q2 q3; have Q2 : Hid (Row X2 _ (vB y) 33) := q1; have B2 : Hid (Below _ _ X2) := q2; clear q1 q2 q3; simp only [Act.put, List.setIfInBounds_toArray, List.set_cons_zero, List.set_cons_succ])
    | (refine wpList_boxG 25 rfl (.tmp 5) rfl LB rfl ?_; intro X3 q1 q2 q3; have Q3 : Hid (Row X3 _ LB 25) := q1; have B3 : Hid (Below _ _ X3) := q2; clear q1 q2 q3; simp only [Act.put, List.setIfInBounds_toArray, List.set_cons_zero, List.set_cons_succ]))
  obtain ⟨b8, hb8⟩ : ∃ b, b = w.heap.size := ⟨_, rfl⟩
  obtain ⟨b9, hb9⟩ : ∃ b, b = X0.heap.size := ⟨_, rfl⟩
  obtain ⟨b10, hb10⟩ : ∃ b, b = X1.heap.size := ⟨_, rfl⟩
  obtain ⟨b11, hb11⟩ : ∃ b, b = X2.heap.size := ⟨_, rfl⟩
  have c00 := B0.out
  have c01 := c00.trans (B1.out.mono c00.size)
  have c02 := c01.trans (B2.out.mono c01.size)
  have c03 := c02.trans (B3.out.mono c02.size)
  have c11 := B1.out
  have c12 := c11.trans (B2.out.mono c11.size)
  have c13 := c12.trans (B3.out.mono c12.size)
  have c22 := B2.out
  have c23 := c22.trans (B3.out.mono c22.size)
  have c33 := B3.out
  have R8 : Hid (Row X3 b8 (vB z) 33) := by rw [hb8]; exact Row.below Q0.out c13 Q0.out.lt
  have HWb8 : Hid (w.heap.size ≤ b8) := by show _ ≤ _; rw [hb8]; exact Nat.le_refl _
  have R9 : Hid (Row X3 b9 (vB x) 33) := by rw [hb9]; exact Row.below Q1.out c23 Q1.out.lt
  have HWb9 : Hid (w.heap.size ≤ b9) := by show _ ≤ _; rw [hb9]; exact c00.size
  have R10 : Hid (Row X3 b10 (vB y) 33) := by rw [hb10]; exact Row.below Q2.out c33 Q2.out.lt
  have HWb10 : Hid (w.heap.size ≤ b10) := by show _ ≤ _; rw [hb10]; exact c01.size
  have R11 : Hid (Row X3 b11 LB 25) := by rw [hb11]; exact Q3.out
  have HWb11 : Hid (w.heap.size ≤ b11) := by show _ ≤ _; rw [hb11]; exact c02.size
  have Nb8b9 : Hid (b8 ≠ b9) := by show _ ≠ _; have := Q0.out.lt; rw [hb8, hb9]; omega
  have Nb8b10 : Hid (b8 ≠ b10) := by show _ ≠ _; have := Q0.out.lt; rw [hb8, hb10]; have := c11.size; omega
  have Nb8b11 : Hid (b8 ≠ b11) := by show _ ≠ _; have := Q0.out.lt; rw [hb8, hb11]; have := c12.size; omega
  have Nb9b10 : Hid (b9 ≠ b10) := by show _ ≠ _; have := Q1.out.lt; rw [hb9, hb10]; omega
  have Nb9b11 : Hid (b9 ≠ b11) := by show _ ≠ _; have := Q1.out.lt; rw [hb9, hb11]; have := c22.size; omega
  have Nb10b11 : Hid (b10 ≠ b11) := by show _ ≠ _; have := Q2.out.lt; rw [hb10, hb11]; omega
  have BX : Hid (Below w.heap.size w X3) := c03
  rw [← hb8, ← hb9, ← hb10, ← hb11]
  clear hb8 hb9 hb10 hb11 c00 c01 c02 c03 c11 c12 c13 c22 c23 c33 Q0 B0 Q1 B1 Q2 B2 Q3 B3
  replace HG : Hid (Lg w0 X3 S q f) := HG.out.be BX.out
  have HK : Hid (Kp w X3) := Kp.of_below BX.out
  clear BX
  refine Calls.mono (HAR.out X3 HG.out) ?_
  rintro e V ⟨rfl, hG, hK⟩
  replace R8 : Hid (Row V b8 (vB z) 33) := hK.row _ _ _ (by decide) R8.out
  replace R9 : Hid (Row V b9 (vB x) 33) := hK.row _ _ _ (by decide) R9.out
  replace R10 : Hid (Row V b10 (vB y) 33) := hK.row _ _ _ (by decide) R10.out
  replace R11 : Hid (Row V b11 LB 25) := hK.row _ _ _ (by decide) R11.out
  replace HG : Hid (Lg w0 V S (q + 1) f) := hG
  replace HK : Hid (Kp w V) := HK.out.trans hK
  clear hG hK HAR
  go_upto_region 2 with (first
    | (refine wpList_allocP rfl rfl ?_; intro XP q1 q2 q3; have RP1 : Hid (Row XP V.heap.size zP 58) := q1; have BP : Hid (Below V.heap.size V XP) := q2; have NE12 : Hid (XP.heap.size ≠ V.heap.size) := (by show _ ≠ _; rw [q3]; omega); clear q1 q2 q3; simp only [Act.put, List.setIfInBounds_toArray, List.set_cons_zero, List.set_cons_succ])
    | (refine wpList_allocK rfl rfl ?_; intro XK q1 q2 q3; have RK1 : Hid (Row XK XP.heap.size zK 44) := q1; have BK : Hid (Below XP.heap.size XP XK) := q2; have RP2 : Hid (Row XK V.heap.size zP 58) := Row.below RP1.out q2 RP1.out.lt; clear q1 q2 q3; simp only [Act.put, List.setIfInBounds_toArray, List.set_cons_zero, List.set_cons_succ])
    | (refine wpList_storeL rfl 58 (.tmp 13) (.tmp 22) rfl V.heap.size LP zP 58 rfl rfl RP2.out HLPN.out HLPI.out HLPO.out ?_; intro YP q1 q2; have HYP : Hid (YP = _) := q1; have RYP : Hid (Row YP V.heap.size LP 58) := q2; have RK2 : Hid (Row YP XP.heap.size zK 44) := (by rw [q1]; exact Row.setCells_other RK1.out _ _ _ NE12.out); clear q1 q2; simp only [Act.put])
    | (refine wpList_storeL rfl 44 (.tmp 14) (.tmp 23) rfl XP.heap.size LT zK 44 rfl rfl RK2.out HLTN.out HLTI.out HLTO.out ?_; intro YK q1 q2; have HYK : Hid (YK = _) := q1; have RYK : Hid (Row YK XP.heap.size LT 44) := q2; clear q1 q2; simp only [Act.put]))
  obtain ⟨p1, hp1⟩ : ∃ p, p = V.heap.size := ⟨_, rfl⟩
  obtain ⟨p2, hp2⟩ : ∃ p, p = XP.heap.size := ⟨_, rfl⟩
  have b12 : Below V.heap.size V YK := by rw [HYK.out, HYP.out]; exact below_setCells (below_setCells (BP.out.trans (BK.out.mono BP.out.size)) (Nat.le_refl _) _) BP.out.size _
  have Rp1 : Hid (Row YK p1 LP 58) := by rw [HYK.out, hp1]; exact Row.setCells_other RYP.out _ _ _ (Ne.symm NE12.out)
  have Rp2 : Hid (Row YK p2 LT 44) := by rw [hp2]; exact RYK.out
  have Np1p2 : Hid (p1 ≠ p2) := by rw [hp1, hp2]; exact Ne.symm NE12.out
  have Nb8p1 : Hid (b8 ≠ p1) := by show _ ≠ _; have := R8.out.lt; rw [hp1]; omega
  have Nb8p2 : Hid (b8 ≠ p2) := by show _ ≠ _; have := R8.out.lt; have := BP.out.size; rw [hp2]; omega
  have Nb9p1 : Hid (b9 ≠ p1) := by show _ ≠ _; have := R9.out.lt; rw [hp1]; omega
  have Nb9p2 : Hid (b9 ≠ p2) := by show _ ≠ _; have := R9.out.lt; have := BP.out.size; rw [hp2]; omega
  have Nb10p1 : Hid (b10 ≠ p1) := by show _ ≠ _; have := R10.out.lt; rw [hp1]; omega
  have Nb10p2 : Hid (b10 ≠ p2) := by show _ ≠ _; have := R10.out.lt; have := BP.out.size; rw [hp2]; omega
  have Nb11p1 : Hid (b11 ≠ p1) := by show _ ≠ _; have := R11.out.lt; rw [hp1]; omega
  have Nb11p2 : Hid (b11 ≠ p2) := by show _ ≠ _; have := R11.out.lt; have := BP.out.size; rw [hp2]; omega
  replace R8 : Hid (Row YK b8 (vB z) 33) := Row.below R8.out b12 R8.out.lt
  replace R9 : Hid (Row YK b9 (vB x) 33) := Row.below R9.out b12 R9.out.lt
  replace R10 : Hid (Row YK b10 (vB y) 33) := Row.below R10.out b12 R10.out.lt
  replace R11 : Hid (Row YK b11 LB 25) := Row.below R11.out b12 R11.out.lt
  replace HG : Hid (Lg w0 YK S (q + 1) f) := HG.out.be b12
  replace HK : Hid (Kp w YK) := HK.out.trans (Kp.of_below b12)
  rw [← hp1, ← hp2]
  clear hp1 hp2 b12 BP BK RP1 RP2 RK1 RK2 NE12 HYP RYP HYK RYK
  go_upto_region 4 with fail
  have rp := Rp1.out
  have r8 := R8.out
  have r9 := R9.out
  have r10 := R10.out
  have rb := R11.out
  have hG := HG.out
  have hK := HK.out
  have hw0 : w0.heap.size ≤ YK.heap.size := hG.bel.size
  have hwf : w.heap.size ≤ YK.heap.size := hK.size
  have hb1 := Below.refl YK.heap.size YK
  clear Rp1 Rp2 R8 R9 R10 R11 HG HK
  refine wp_named fun a0 ha0 => ?_
  have hsz : a0.tmps.size = 62 := by rw [ha0]; rfl
  have zs13 : a0.eval (.tmp 13) = .pointer (some ⟨p1, 0, none⟩) := by rw [ha0]; rfl
  have zs8 : a0.eval (.tmp 8) = .pointer (some ⟨b8, 0, none⟩) := by rw [ha0]; rfl
  have zs9 : a0.eval (.tmp 9) = .pointer (some ⟨b9, 0, none⟩) := by rw [ha0]; rfl
  have zs10 : a0.eval (.tmp 10) = .pointer (some ⟨b10, 0, none⟩) := by rw [ha0]; rfl
  have zs11 : a0.eval (.tmp 11) = .pointer (some ⟨b11, 0, none⟩) := by rw [ha0]; rfl
  have lt_rp : p1 < YK.heap.size := rp.lt
  have lt_r8 : b8 < YK.heap.size := r8.lt
  have lt_r9 : b9 < YK.heap.size := r9.lt
  have lt_r10 : b10 < YK.heap.size := r10.lt
  have lt_rb : b11 < YK.heap.size := rb.lt
  obtain ⟨D, hD⟩ : ∃ D : List (Tmp × SP), D = [(29, SP.is (.agg LP.toArray)), (30, SP.is (.agg LP.toArray)), (31, SP.is (.agg (vB x).toArray)), (32, SP.is (.agg (vB z).toArray)), (33, SP.is (.string (lKt t x z))), (34, SP.is (.agg LB.toArray)), (35, SP.is (.tuple #[.agg N0.toArray, .int .i64 86])), (28, SP.is (.tuple #[.agg N0.toArray, .int .i64 86])), (36, SP.is (.agg N0.toArray)), (37, SP.is (.int .i64 86)), (16, SP.any), (1000, SP.any), (15, SP.is (.int .i64 86))] := ⟨_, rfl⟩
  refine wp_region_then (by kernel_rfl) 6 (by decide) (by kernel_rfl) (fun listed ac W => Fp D a0 listed ac W ∧ Below YK.heap.size YK W ∧ Row W p1 LP 58 ∧ Row W b8 ((vB z)) 33 ∧ Row W b9 ((vB x)) 33 ∧ Row W b10 ((vB y)) 33 ∧ Row W b11 LB 25 ∧ Lg w0 W S (q + 1) f ∧ Kp w W ∧ (listed.getD 10 false = true → ∃ N, ac.eval (.tmp 16) = .pointer (some ⟨N, 0, none⟩) ∧ YK.heap.size ≤ N ∧ Row W N zL 65)) (fun listed ac W => Fp D a0 listed ac W ∧ YK.heap.size ≤ W.heap.size ∧ Row W p1 LP 58 ∧ Row W b8 ((vB z)) 33 ∧ Row W b9 ((vB x)) 33 ∧ Row W b10 ((vB y)) 33 ∧ Row W b11 LB 25 ∧ Lg w0 W S (q + 1 + 1) f ∧ Kp w W ∧ (listed.getD 10 false = true → ∃ N, ac.eval (.tmp 16) = .pointer (some ⟨N, 0, none⟩) ∧ YK.heap.size ≤ N ∧ Row W N (if listed.getD 11 false = true then N0 else zL) 65)) ?_ ?_ ?_ ?_ ?_
  · exact ⟨Fp.start D a0 _ _, Below.drew hb1, Row.drew rp, Row.drew r8, Row.drew r9, Row.drew r10, Row.drew rb, hG.below (Below.drew (Below.refl _ _)), hK.below (Below.drew (Below.refl _ _)), (fun h => (start_no h).elim)⟩
  · clear ha0 hb1 rp r8 r9 r10 rb hG hK
    intro listed ac W k hl hI hdn hk hne hnl
    replace hl : listed.size = 13 := hl
    obtain ⟨hF, hb1, rp, r8, r9, r10, rb, hG, hK, al10⟩ := hI
    have hk1 : k < 13 := List.mem_range.1 (List.mem_filter.1 hk).1
    rcases (show k = 0 ∨ k = 1 ∨ k = 2 ∨ k = 3 ∨ k = 4 ∨ k = 5 ∨ k = 6 ∨ k = 7 ∨ k = 8 ∨ k = 9 ∨ k = 10 ∨ k = 11 ∨ k = 12 by omega) with rfl | rfl | rfl | rfl | rfl | rfl | rfl | rfl | rfl | rfl | rfl | rfl | rfl
    · have hk3 := hk
      exact wpOp_plain rfl rfl (wp_load_mid 58 (.tmp 13) rfl p1 0 ((hF.keep 13 (by rw [hD]; rfl)).trans zs13) LP _ rp.all Tryd.underlying58 rfl HLPI.out ⟨(hF.put 0 29 (SP.is (.agg LP.toArray)) (.agg LP.toArray) (by rw [hD]; rfl) rfl (by rw [hD]; rfl) (by rw [hsz]; decide) (by rw [hl]; decide)), hb1, rp, r8, r9, r10, rb, hG, hK, (fun h => by obtain ⟨N, e, hN, r⟩ := al10 (by rwa [getD_set _ _ _ (by decide)] at h); exact ⟨N, (eval_put_other ac _ (by decide)).trans e, hN, r⟩)⟩)
    · have hk3 := hk
      exact wpOp_plain rfl rfl (wp_load_mid 58 (.tmp 13) rfl p1 0 ((hF.keep 13 (by rw [hD]; rfl)).trans zs13) LP _ rp.all Tryd.underlying58 rfl HLPI.out ⟨(hF.put 1 30 (SP.is (.agg LP.toArray)) (.agg LP.toArray) (by rw [hD]; rfl) rfl (by rw [hD]; rfl) (by rw [hsz]; decide) (by rw [hl]; decide)), hb1, rp, r8, r9, r10, rb, hG, hK, (fun h => by obtain ⟨N, e, hN, r⟩ := al10 (by rwa [getD_set _ _ _ (by decide)] at h); exact ⟨N, (eval_put_other ac _ (by decide)).trans e, hN, r⟩)⟩)
    · have hk3 := hk
      exact wpOp_plain rfl rfl (wp_load_mid 33 (.tmp 9) rfl b9 0 ((hF.keep 9 (by rw [hD]; rfl)).trans zs9) ((vB x)) _ r9.all Tryd.underlying33 rfl HIx.out ⟨(hF.put 2 31 (SP.is (.agg (vB x).toArray)) (.agg (vB x).toArray) (by rw [hD]; rfl) rfl (by rw [hD]; rfl) (by rw [hsz]; decide) (by rw [hl]; decide)), hb1, rp, r8, r9, r10, rb, hG, hK, (fun h => by obtain ⟨N, e, hN, r⟩ := al10 (by rwa [getD_set _ _ _ (by decide)] at h); exact ⟨N, (eval_put_other ac _ (by decide)).trans e, hN, r⟩)⟩)
    · have hk3 := hk
      exact wpOp_plain rfl rfl (wp_load_mid 33 (.tmp 8) rfl b8 0 ((hF.keep 8 (by rw [hD]; rfl)).trans zs8) ((vB z)) _ r8.all Tryd.underlying33 rfl HIz.out ⟨(hF.put 3 32 (SP.is (.agg (vB z).toArray)) (.agg (vB z).toArray) (by rw [hD]; rfl) rfl (by rw [hD]; rfl) (by rw [hsz]; decide) (by rw [hl]; decide)), hb1, rp, r8, r9, r10, rb, hG, hK, (fun h => by obtain ⟨N, e, hN, r⟩ := al10 (by rwa [getD_set _ _ _ (by decide)] at h); exact ⟨N, (eval_put_other ac _ (by decide)).trans e, hN, r⟩)⟩)
    · have hk3 := hk
      have ea0 := (hF.done 1 (30, SP.is (.agg LP.toArray)) (by rw [hD]; rfl) (ready_dep hk 1 (by kernel_rfl)))
      have ea1 := (hF.done 2 (31, SP.is (.agg (vB x).toArray)) (by rw [hD]; rfl) (ready_dep hk 2 (by kernel_rfl)))
      have ea2 := (hF.done 3 (32, SP.is (.agg (vB z).toArray)) (by rw [hD]; rfl) (ready_dep hk 3 (by kernel_rfl)))
      refine wpOp_plain rfl rfl (wp_fcall_v 35 #[.agg LP.toArray, .agg (vB x).toArray, .agg (vB z).toArray] rfl rfl (by show [ac.eval (.tmp 30), ac.eval (.tmp 31), ac.eval (.tmp 32)] = _; rw [show ac.eval (.tmp 30) = .agg LP.toArray from ea0, show ac.eval (.tmp 31) = .agg (vB x).toArray from ea1, show ac.eval (.tmp 32) = .agg (vB z).toArray from ea2]) (by go_simp) (((show Calls Tryd.prog 35 #[.agg LP.toArray, .agg (vB x).toArray, .agg (vB z).toArray] W _ from HKf.out W)).mono ?_))
      rintro e W2 ⟨rfl, hB⟩
      exact ⟨_, rfl, ((hF.world hB).put 4 33 (SP.is (.string (lKt t x z))) (.string (lKt t x z)) (by rw [hD]; rfl) rfl (by rw [hD]; rfl) (by rw [hsz]; decide) (by rw [hl]; decide)), hb1.trans (hB.mono hb1.size), Row.below rp hB (Row.lt rp), Row.below r8 hB (Row.lt r8), Row.below r9 hB (Row.lt r9), Row.below r10 hB (Row.lt r10), Row.below rb hB (Row.lt rb), hG.below hB, hK.below hB, (fun h => by obtain ⟨N, e, hN, r⟩ := al10 (by rwa [getD_set _ _ _ (by decide)] at h); exact ⟨N, (eval_put_other ac _ (by decide)).trans e, hN, Row.below r hB (Row.lt r)⟩)⟩
    · have hk3 := hk
      exact wpOp_plain rfl rfl (wp_load_mid 25 (.tmp 11) rfl b11 0 ((hF.keep 11 (by rw [hD]; rfl)).trans zs11) LB _ rb.all Tryd.underlying25 rfl HLBI.out ⟨(hF.put 5 34 (SP.is (.agg LB.toArray)) (.agg LB.toArray) (by rw [hD]; rfl) rfl (by rw [hD]; rfl) (by rw [hsz]; decide) (by rw [hl]; decide)), hb1, rp, r8, r9, r10, rb, hG, hK, (fun h => by obtain ⟨N, e, hN, r⟩ := al10 (by rwa [getD_set _ _ _ (by decide)] at h); exact ⟨N, (eval_put_other ac _ (by decide)).trans e, hN, r⟩)⟩)
    · exact absurd rfl hne
    · exact absurd (ready_dep hk 6 (by kernel_rfl)) hnl
    · exact absurd (hdn 7 (ready_dep hk 7 (by kernel_rfl)) 6 (by kernel_rfl)) hnl
    · exact absurd (hdn 7 (ready_dep hk 7 (by kernel_rfl)) 6 (by kernel_rfl)) hnl
    · have hk3 := hk
      have hB : Below W.heap.size W (W.alloc (Obj.cells zL.toArray 65)) := (Below.refl _ _).alloc (Nat.le_refl _) _
      exact wpOp_plain rfl rfl (wp_allocLn rfl ⟨((hF.world hB).put 10 16 (SP.any) (.pointer (some ⟨W.heap.size, 0, none⟩)) (by rw [hD]; rfl) trivial (by rw [hD]; rfl) (by rw [hsz]; decide) (by rw [hl]; decide)), hb1.trans (hB.mono hb1.size), Row.alloc rp _, Row.alloc r8 _, Row.alloc r9 _, Row.alloc r10 _, Row.alloc rb _, hG.below hB, hK.below hB, (fun _ => ⟨W.heap.size, eval_put_same ac _ (by rw [hF.size, hsz]; decide), hb1.size, Row.new' rfl rfl⟩)⟩)
    · exact absurd (hdn 7 (hdn 8 (ready_dep hk 8 (by kernel_rfl)) 7 (by kernel_rfl)) 6 (by kernel_rfl)) hnl
    · exact absurd (hdn 7 (hdn 9 (ready_dep hk 9 (by kernel_rfl)) 7 (by kernel_rfl)) 6 (by kernel_rfl)) hnl
  · clear ha0 hb1 rp r8 r9 r10 rb hG hK
    intro listed ac W hl hI hdn hk
    replace hl : listed.size = 13 := hl
    obtain ⟨hF, hb1, rp, r8, r9, r10, rb, hG, hK, al10⟩ := hI
    have eb1 := (hF.done 0 (29, SP.is (.agg LP.toArray)) (by rw [hD]; rfl) (ready_dep hk 0 (by kernel_rfl)))
    have eb2 := (hF.done 4 (33, SP.is (.string (lKt t x z))) (by rw [hD]; rfl) (ready_dep hk 4 (by kernel_rfl)))
    have eb3 := (hF.done 5 (34, SP.is (.agg LB.toArray)) (by rw [hD]; rfl) (ready_dep hk 5 (by kernel_rfl)))
    have hns11 : ¬ listed.getD 11 false = true := fun h => not_yet hk (hdn 7 (hdn 8 (hdn 11 h 8 (by kernel_rfl)) 7 (by kernel_rfl)) 6 (by kernel_rfl))
    refine wpOp_plain rfl rfl (wp_fcall_v 34 #[.agg LP.toArray, .string (lKt t x z), .agg LB.toArray, .int .i64 86] rfl rfl (by show [ac.eval (.tmp 29), ac.eval (.tmp 33), ac.eval (.tmp 34), .int .i64 86] = _; rw [show ac.eval (.tmp 29) = .agg LP.toArray from eb1, show ac.eval (.tmp 33) = .string (lKt t x z) from eb2, show ac.eval (.tmp 34) = .agg LB.toArray from eb3]) (by go_simp) ((HLE.out W hG).mono ?_))
    rintro e W2 ⟨rfl, hG2, hK2⟩
    have hT : Fp D a0 listed ac W2 := hF.turn (by rw [hD]; simp only [List.forall_mem_cons, List.not_mem_nil, false_implies, implies_true, and_true]; exact ⟨fun _ h => h, fun _ h => h, fun _ h => h, fun _ h => h, fun _ h => h, fun _ h => h, fun _ h => h, fun _ h => h, fun _ h => h, fun _ h => h, fun _ h => h, fun _ h => h, fun _ h => h⟩)
    exact ⟨_, rfl, (hT.put 6 35 (SP.is (.tuple #[.agg N0.toArray, .int .i64 86])) (_) (by rw [hD]; rfl) rfl (by rw [hD]; rfl) (by rw [hsz]; decide) (by rw [hl]; decide)), Nat.le_trans hb1.size hK2.size, hK2.row _ _ _ (by decide) rp, hK2.row _ _ _ (by decide) r8, hK2.row _ _ _ (by decide) r9, hK2.row _ _ _ (by decide) r10, hK2.row _ _ _ (by decide) rb, hG2, hK.trans hK2, (fun h => by obtain ⟨N, e, hN, r⟩ := al10 (by rwa [getD_set _ _ _ (by decide)] at h); exact ⟨N, (eval_put_other ac _ (by decide)).trans e, hN, by rw [getD_set _ _ _ (by decide), if_neg hns11]; exact hK2.row _ _ _ (by decide) r⟩)⟩
  · clear ha0 hb1 rp r8 r9 r10 rb hG hK
    intro listed ac W k hl hJ hdn hk hne hyl
    replace hl : listed.size = 13 := hl
    obtain ⟨hF, hS, rp, r8, r9, r10, rb, hG, hK, al10⟩ := hJ
    have hk1 : k < 13 := List.mem_range.1 (List.mem_filter.1 hk).1
    rcases (show k = 0 ∨ k = 1 ∨ k = 2 ∨ k = 3 ∨ k = 4 ∨ k = 5 ∨ k = 6 ∨ k = 7 ∨ k = 8 ∨ k = 9 ∨ k = 10 ∨ k = 11 ∨ k = 12 by omega) with rfl | rfl | rfl | rfl | rfl | rfl | rfl | rfl | rfl | rfl | rfl | rfl | rfl
    · exact absurd (hdn 6 hyl 0 (by kernel_rfl)) (not_yet hk)
    · exact absurd (hdn 4 (hdn 6 hyl 4 (by kernel_rfl)) 1 (by kernel_rfl)) (not_yet hk)
    · exact absurd (hdn 4 (hdn 6 hyl 4 (by kernel_rfl)) 2 (by kernel_rfl)) (not_yet hk)
    · exact absurd (hdn 4 (hdn 6 hyl 4 (by kernel_rfl)) 3 (by kernel_rfl)) (not_yet hk)
    · exact absurd (hdn 6 hyl 4 (by kernel_rfl)) (not_yet hk)
    · exact absurd (hdn 6 hyl 5 (by kernel_rfl)) (not_yet hk)
    · exact absurd rfl hne
    · have hk3 := hk
      exact wpOp_plain rfl rfl (wp_move_v (ac.eval (.tmp 35)) rfl rfl ⟨(hF.put 7 28 (SP.is (.tuple #[.agg N0.toArray, .int .i64 86])) (ac.eval (.tmp 35)) (by rw [hD]; rfl) ((hF.done 6 (35, SP.is (.tuple #[.agg N0.toArray, .int .i64 86])) (by rw [hD]; rfl) (ready_dep hk 6 (by kernel_rfl)))) (by rw [hD]; rfl) (by rw [hsz]; decide) (by rw [hl]; decide)), hS, rp, r8, r9, r10, rb, hG, hK, (fun h => by obtain ⟨N, e, hN, r⟩ := al10 (by rwa [getD_set _ _ _ (by decide)] at h); exact ⟨N, (eval_put_other ac _ (by decide)).trans e, hN, by rw [getD_set _ _ _ (by decide)]; exact r⟩)⟩)
    · have hk3 := hk
      exact wpOp_plain rfl rfl (wp_extract (.tmp 28) 0 rfl _ (hF.done 7 (28, SP.is (.tuple #[.agg N0.toArray, .int .i64 86])) (by rw [hD]; rfl) (ready_dep hk 7 (by kernel_rfl))) (.agg N0.toArray) rfl ⟨(hF.put 8 36 (SP.is (.agg N0.toArray)) (.agg N0.toArray) (by rw [hD]; rfl) rfl (by rw [hD]; rfl) (by rw [hsz]; decide) (by rw [hl]; decide)), hS, rp, r8, r9, r10, rb, hG, hK, (fun h => by obtain ⟨N, e, hN, r⟩ := al10 (by rwa [getD_set _ _ _ (by decide)] at h); exact ⟨N, (eval_put_other ac _ (by decide)).trans e, hN, by rw [getD_set _ _ _ (by decide)]; exact r⟩)⟩)
    · have hk3 := hk
      exact wpOp_plain rfl rfl (wp_extract (.tmp 28) 1 rfl _ (hF.done 7 (28, SP.is (.tuple #[.agg N0.toArray, .int .i64 86])) (by rw [hD]; rfl) (ready_dep hk 7 (by kernel_rfl))) (.int .i64 86) rfl ⟨(hF.put 9 37 (SP.is (.int .i64 86)) (.int .i64 86) (by rw [hD]; rfl) rfl (by rw [hD]; rfl) (by rw [hsz]; decide) (by rw [hl]; decide)), hS, rp, r8, r9, r10, rb, hG, hK, (fun h => by obtain ⟨N, e, hN, r⟩ := al10 (by rwa [getD_set _ _ _ (by decide)] at h); exact ⟨N, (eval_put_other ac _ (by decide)).trans e, hN, by rw [getD_set _ _ _ (by decide)]; exact r⟩)⟩)
    · have hk3 := hk
      have hB : Below W.heap.size W (W.alloc (Obj.cells zL.toArray 65)) := (Below.refl _ _).alloc (Nat.le_refl _) _
      have hns : ¬ listed.getD 11 false = true := fun h => not_yet hk (hdn 11 h 10 (by kernel_rfl))
      exact wpOp_plain rfl rfl (wp_allocLn rfl ⟨((hF.world hB).put 10 16 (SP.any) (.pointer (some ⟨W.heap.size, 0, none⟩)) (by rw [hD]; rfl) trivial (by rw [hD]; rfl) (by rw [hsz]; decide) (by rw [hl]; decide)), Nat.le_trans hS hB.size, Row.alloc rp _, Row.alloc r8 _, Row.alloc r9 _, Row.alloc r10 _, Row.alloc rb _, hG.below hB, hK.below hB, (fun _ => ⟨W.heap.size, eval_put_same ac _ (by rw [hF.size, hsz]; decide), hS, (by rw [getD_set _ _ _ (by decide), if_neg hns]; exact Row.new' rfl rfl)⟩)⟩)
    · have hk3 := hk
      obtain ⟨N, e, hN, r⟩ := al10 (ready_dep hk 10 (by kernel_rfl))
      rw [if_neg (not_yet hk)] at r
      have hT : Fp D a0 listed ac (W.setCells N 0 N0) := hF.turn (by rw [hD]; simp only [List.forall_mem_cons, List.not_mem_nil, false_implies, implies_true, and_true]; exact ⟨fun _ h => h, fun _ h => h, fun _ h => h, fun _ h => h, fun _ h => h, fun _ h => h, fun _ h => h, fun _ h => h, fun _ h => h, fun _ h => h, fun _ h => h, fun _ h => h, fun _ h => h⟩)
      exact wpOp_plain rfl rfl (wp_store_mid 65 (.tmp 16) (.tmp 36) rfl N 0 N0.toArray e (hF.done 8 (36, SP.is (.agg N0.toArray)) (by rw [hD]; rfl) (ready_dep hk 8 (by kernel_rfl))) (r.there 0 _ (by rw [List.size_toArray, HN0N.out]; decide)) HN0J.out HN0O.out ⟨(hT.skip 11 1000 (by rw [hD]; rfl) (by rw [hl]; decide)), (by rw [size_setCells]; exact hS), Row.setCells_other rp _ _ _ (by omega), Row.setCells_other r8 _ _ _ (by omega), Row.setCells_other r9 _ _ _ (by omega), Row.setCells_other r10 _ _ _ (by omega), Row.setCells_other rb _ _ _ (by omega), hG.kept r (by decide) (by decide) (by decide) (by decide) (fun k hk => heap_sets _ _ _ _ _ hk) (below_setCells hG.bel (Nat.le_trans hw0 hN) _), Kp.kept N (Nat.le_trans hwf hN) hK (fun k hk => heap_sets _ _ _ _ _ hk) (below_setCells (Below.refl 0 _) (Nat.zero_le N) _).size, (fun _ => ⟨N, e, hN, by rw [if_pos (getD_same (by rw [hl]; decide))]; exact r.over HN0N.out⟩)⟩)
    · have hk3 := hk
      exact wpOp_plain rfl rfl (wp_assign_v (ac.eval (.tmp 37)) rfl rfl ⟨(hF.put 12 15 (SP.is (.int .i64 86)) (ac.eval (.tmp 37)) (by rw [hD]; rfl) ((hF.done 9 (37, SP.is (.int .i64 86)) (by rw [hD]; rfl) (ready_dep hk 9 (by kernel_rfl)))) (by rw [hD]; rfl) (by rw [hsz]; decide) (by rw [hl]; decide)), hS, rp, r8, r9, r10, rb, hG, hK, (fun h => by obtain ⟨N, e, hN, r⟩ := al10 (by rwa [getD_set _ _ _ (by decide)] at h); exact ⟨N, (eval_put_other ac _ (by decide)).trans e, hN, by rw [getD_set _ _ _ (by decide)]; exact r⟩)⟩)
  · clear hb1 rp r8 r9 r10 rb hG hK
    intro listed ac W hl hJ hr
    replace hl : listed.size = 13 := hl
    obtain ⟨hF, hS, rp, r8, r9, r10, rb, hG, hK, al10⟩ := hJ
    have hall := all_listed (by kernel_rfl) hl hr
    obtain ⟨NL, ea16, hNL, rNL⟩ := al10 (hall 10 (by decide))
    rw [if_pos (hall 11 (by decide))] at rNL
    have h29 : ac.eval (.tmp 29) = .agg LP.toArray := hF.done 0 (29, SP.is (.agg LP.toArray)) (by rw [hD]; rfl) (hall 0 (by decide))
    have h30 : ac.eval (.tmp 30) = .agg LP.toArray := hF.done 1 (30, SP.is (.agg LP.toArray)) (by rw [hD]; rfl) (hall 1 (by decide))
    have h31 : ac.eval (.tmp 31) = .agg (vB x).toArray := hF.done 2 (31, SP.is (.agg (vB x).toArray)) (by rw [hD]; rfl) (hall 2 (by decide))
    have h32 : ac.eval (.tmp 32) = .agg (vB z).toArray := hF.done 3 (32, SP.is (.agg (vB z).toArray)) (by rw [hD]; rfl) (hall 3 (by decide))
    have h33 : ac.eval (.tmp 33) = .string (lKt t x z) := hF.done 4 (33, SP.is (.string (lKt t x z))) (by rw [hD]; rfl) (hall 4 (by decide))
    have h34 : ac.eval (.tmp 34) = .agg LB.toArray := hF.done 5 (34, SP.is (.agg LB.toArray)) (by rw [hD]; rfl) (hall 5 (by decide))
    have h35 : ac.eval (.tmp 35) = .tuple #[.agg N0.toArray, .int .i64 86] := hF.done 6 (35, SP.is (.tuple #[.agg N0.toArray, .int .i64 86])) (by rw [hD]; rfl) (hall 6 (by decide))
    have h28 : ac.eval (.tmp 28) = .tuple #[.agg N0.toArray, .int .i64 86] := hF.done 7 (28, SP.is (.tuple #[.agg N0.toArray, .int .i64 86])) (by rw [hD]; rfl) (hall 7 (by decide))
    have h36 : ac.eval (.tmp 36) = .agg N0.toArray := hF.done 8 (36, SP.is (.agg N0.toArray)) (by rw [hD]; rfl) (hall 8 (by decide))
    have h37 : ac.eval (.tmp 37) = .int .i64 86 := hF.done 9 (37, SP.is (.int .i64 86)) (by rw [hD]; rfl) (hall 9 (by decide))
    have h15 : ac.eval (.tmp 15) = .int .i64 86 := hF.done 12 (15, SP.is (.int .i64 86)) (by rw [hD]; rfl) (hall 12 (by decide))
    have ea := hF.lay [(29, .agg LP.toArray), (30, .agg LP.toArray), (31, .agg (vB x).toArray), (32, .agg (vB z).toArray), (33, .string (lKt t x z)), (34, .agg LB.toArray), (35, .tuple #[.agg N0.toArray, .int .i64 86]), (28, .tuple #[.agg N0.toArray, .int .i64 86]), (36, .agg N0.toArray), (37, .int .i64 86), (16, .pointer (some ⟨NL, 0, none⟩)), (15, .int .i64 86)] (by rw [hD, hsz]; rfl) (by simp only [List.forall_mem_cons, List.not_mem_nil, false_implies, implies_true, and_true]; exact ⟨h29, h30, h31, h32, h33, h34, h35, h28, h36, h37, ea16, h15⟩)
    rw [ha0] at ea
    simp only [List.foldl_cons, List.foldl_nil, List.setIfInBounds_toArray, List.set_cons_zero, List.set_cons_succ] at ea
    clear hF hall hr hl hD zs13 zs8 zs9 zs10 zs11 ha0 hsz h29 h30 h31 h32 h33 h34 h35 h28 h36 h37 ea16 h15 al10 lt_rp lt_r8 lt_r9 lt_r10 lt_rb
    subst ea
    have HG : Hid (Lg w0 W S (q + 1 + 1) f) := hG
    have HK : Hid (Kp w W) := hK
    clear hG hK rp r8 r9 r10 rb hS rNL hNL hw0 hwf
    go_wp2_with fail
    go_ret
    exact ⟨rfl, HG.out, HK.out⟩
set_option maxRecDepth 100000 in
set_option maxHeartbeats 4000000 in
theorem pull0 (w0 : World) (S q : Nat) (f : ByteArray → List (BitVec 8)) (hq : q < 999960) (n : Nat) (hn : n < 2 ^ 256) (t : Nat) (ht : t < 64) (z x y : List (BitVec 8)) (hz : z.length = 20) (hx : x.length = 20) (hy : y.length = 20) (b l : Nat) (hb : b < 2 ^ 256) (hl : l < 2 ^ 256) (hf : f (tKt t) = 1#8 :: wB n) (hlf : f (lKt t x z) = enc l) (hb0 : b = 0) (a : Nat) (ha : a < 2 ^ 256) (haf : f (bKt t x) = enc a) (d : Nat) (hd : d < 2 ^ 256) (hdf : f (bKt t y) = enc d) (LB : List Value) (hLB : LB = wq b) (w : World) (h : Lg w0 w S q f) :
    Calls Tryd.prog 12 #[.pointer (some ⟨S, 0, none⟩), .int .i64 (t : Int), .agg (vB z).toArray, .agg (vB x).toArray, .agg (vB y).toArray, .agg LB.toArray] w fun e w' => e = .returned (.int .i64 0) ∧ Lg w0 w' S (q + 1 + 1 + 1 + 1) f ∧ Kp w w' := by
  obtain ⟨LP, hLP⟩ : ∃ L : List Value, L = pgl S t := ⟨_, rfl⟩
  obtain ⟨LT, hLT⟩ : ∃ L : List Value, L = tkl true false n := ⟨_, rfl⟩
  have HLPE : Hid (LP = pgl S t) := hLP
  have HLPI : Hid ((Tryd.prog.info? 58).map (·.size) = some LP.length) := by show _ = _; rw [hLP]; exact info_pgl S t
  have HLPJ : Hid ((Tryd.prog.info? 58).map (·.size) = some LP.toArray.size) := by show _ = _; rw [List.size_toArray, hLP]; exact info_pgl S t
  have HLPN : Hid (LP.length = zP.length) := by show _ = _; rw [hLP]; exact rfl
  have HLPO : Hid (LP.toArray.all (·.oneCell') = true) := by show _ = true; rw [hLP]; exact pgl_one S t
  have HLTE : Hid (LT = tkl true false n) := hLT
  have HLTI : Hid ((Tryd.prog.info? 44).map (·.size) = some LT.length) := by show _ = _; rw [hLT]; exact info_tkl _ _ _
  have HLTJ : Hid ((Tryd.prog.info? 44).map (·.size) = some LT.toArray.size) := by show _ = _; rw [List.size_toArray, hLT]; exact info_tkl _ _ _
  have HLTN : Hid (LT.length = zK.length) := by show _ = _; rw [hLT]; exact tkl_len _ _ _
  have HLTO : Hid (LT.toArray.all (·.oneCell') = true) := by show _ = true; rw [hLT]; exact tkl_one _ _ _
  have HLBE : Hid (LB = wq b) := hLB
  have HLBI : Hid ((Tryd.prog.info? 25).map (·.size) = some LB.length) := by show _ = _; rw [hLB]; exact info_wq _
  have HLBJ : Hid ((Tryd.prog.info? 25).map (·.size) = some LB.toArray.size) := by show _ = _; rw [List.size_toArray, hLB]; exact info_wq _
  have HLBN : Hid (LB.length = zW.length) := by show _ = _; rw [hLB]; exact wq_len _
  have HLBO : Hid (LB.toArray.all (·.oneCell') = true) := by show _ = true; rw [hLB]; exact wq_one _
  obtain ⟨N0, hN0⟩ : ∃ L : List Value, L = lnl (lKt t x z) (l - b) := ⟨_, rfl⟩
  have HN0E : Hid (N0 = lnl (lKt t x z) (l - b)) := hN0
  have HN0I : Hid ((Tryd.prog.info? 65).map (·.size) = some N0.length) := by show _ = _; rw [hN0]; exact info_lnl _ _
  have HN0J : Hid ((Tryd.prog.info? 65).map (·.size) = some N0.toArray.size) := by show _ = _; rw [List.size_toArray, hN0]; exact info_lnl _ _
  have HN0N : Hid (N0.length = zL.length) := by show _ = _; rw [hN0]; exact lnl_len _ _
  have HN0O : Hid (N0.toArray.all (·.oneCell') = true) := by show _ = true; rw [hN0]; exact lnl_one _ _
  have hlb : b ≤ l := by omega
  have hab : b ≤ a := by omega
  have HLE : Hid (∀ W, Lg w0 W S (q + 1) f → Calls Tryd.prog 34 #[.agg LP.toArray, .string (lKt t x z), .agg LB.toArray, .int .i64 86] W fun e w' => e = .returned (.tuple #[.agg N0.toArray, .int .i64 0]) ∧ Lg w0 w' S (q + 1 + 1) f ∧ Kp W w') := fun W hW => les w0 S (q + 1) f (by omega) t (lKt t x z) (lKt_key t hx hz) l b hl hb hlb hlf LP LB hLP hLB N0 hN0 86 W hW
  have HKf : Hid (∀ W, Calls Tryd.prog 35 #[.agg LP.toArray, .agg (vB x).toArray, .agg (vB z).toArray] W fun e w' => e = .returned (.string (lKt t x z)) ∧ Below W.heap.size W w') := fun W => akeyG S t ht x z hx hz LP hLP W
  have HAR : Hid (∀ W, Lg w0 W S q f → _) := fun W hW => askRG w0 S q f (by omega) t ht n hn hf LP LT hLP hLT W hW
  have HMV : Hid (∀ W, Lg w0 W S (q + 1 + 1) f → _) := fun W hW => mv0 w0 S (q + 1 + 1) f (by omega) t ht x y hx hy a b ha hb haf hab (.inr hb0) d hd hdf LP LB hLP hLB W hW
  have HZ : Hid (∀ W, Calls Tryd.prog 36 #[.agg LB.toArray] W fun e w' => e = .returned (.bool true) ∧ Below W.heap.size W w') := fun W => by rw [hLB]; exact zeroG W b hb _ (decide_eq_true hb0)
  have HIx : Hid ((Tryd.prog.info? 33).map (·.size) = some (vB x).length) := info_adr hx
  have HIy : Hid ((Tryd.prog.info? 33).map (·.size) = some (vB y).length) := info_adr hy
  have HIz : Hid ((Tryd.prog.info? 33).map (·.size) = some (vB z).length) := info_adr hz
  have HG : Hid (Lg w0 w S q f) := h
  clear hLP hLT hLB hN0 hx hy hz hq hn hf ht hb hl hlf hlb hb0 ha haf hd hdf hab h
  go_enter Tryd.func12, Tryd.ntmps12
  go_wp2_with (first
    | (refine wpList_boxG 33 rfl (.tmp 2) rfl (vB z) rfl ?_; intro X0 q1 q2 q3; have Q0 : Hid (Row X0 _ (vB z) 33) := q1; have B0 : Hid (Below _ _ X0) := q2; clear q1 q2 q3; simp only [Act.put, List.setIfInBounds_toArray, List.set_cons_zero, List.set_cons_succ])
    | (refine wpList_boxG 33 rfl (.tmp 3) rfl (vB x) rfl ?_; intro X1 q1 q2 q3; have Q1 : Hid (Row X1 _ (vB x) 33) := q1; have B1 : Hid (Below _ _ X1) := q2; clear q1 q2 q3; simp only [Act.put, List.setIfInBounds_toArray, List.set_cons_zero, List.set_cons_succ])
    | (refine wpList_boxG 33 rfl (.tmp 4) rfl (vB y) rfl ?_; intro X2 q1 q2 q3; have Q2 : Hid (Row X2 _ (vB y) 33) := q1; have B2 : Hid (Below _ _ X2) := q2; clear q1 q2 q3; simp only [Act.put, List.setIfInBounds_toArray, List.set_cons_zero, List.set_cons_succ])
    | (refine wpList_boxG 25 rfl (.tmp 5) rfl LB rfl ?_; intro X3 q1 q2 q3; have Q3 : Hid (Row X3 _ LB 25) := q1; have B3 : Hid (Below _ _ X3) := q2; clear q1 q2 q3; simp only [Act.put, List.setIfInBounds_toArray, List.set_cons_zero, List.set_cons_succ]))
  obtain ⟨b8, hb8⟩ : ∃ b, b = w.heap.size := ⟨_, rfl⟩
  obtain ⟨b9, hb9⟩ : ∃ b, b = X0.heap.size := ⟨_, rfl⟩
  obtain ⟨b10, hb10⟩ : ∃ b, b = X1.heap.size := ⟨_, rfl⟩
  obtain ⟨b11, hb11⟩ : ∃ b, b = X2.heap.size := ⟨_, rfl⟩
  have c00 := B0.out
  have c01 := c00.trans (B1.out.mono c00.size)
  have c02 := c01.trans (B2.out.mono c01.size)
  have c03 := c02.trans (B3.out.mono c02.size)
  have c11 := B1.out
  have c12 := c11.trans (B2.out.mono c11.size)
  have c13 := c12.trans (B3.out.mono c12.size)
  have c22 := B2.out
  have c23 := c22.trans (B3.out.mono c22.size)
  have c33 := B3.out
  have R8 : Hid (Row X3 b8 (vB z) 33) := by rw [hb8]; exact Row.below Q0.out c13 Q0.out.lt
  have HWb8 : Hid (w.heap.size ≤ b8) := by show _ ≤ _; rw [hb8]; exact Nat.le_refl _
  have R9 : Hid (Row X3 b9 (vB x) 33) := by rw [hb9]; exact Row.below Q1.out c23 Q1.out.lt
  have HWb9 : Hid (w.heap.size ≤ b9) := by show _ ≤ _; rw [hb9]; exact c00.size
  have R10 : Hid (Row X3 b10 (vB y) 33) := by rw [hb10]; exact Row.below Q2.out c33 Q2.out.lt
  have HWb10 : Hid (w.heap.size ≤ b10) := by show _ ≤ _; rw [hb10]; exact c01.size
  have R11 : Hid (Row X3 b11 LB 25) := by rw [hb11]; exact Q3.out
  have HWb11 : Hid (w.heap.size ≤ b11) := by show _ ≤ _; rw [hb11]; exact c02.size
  have Nb8b9 : Hid (b8 ≠ b9) := by show _ ≠ _; have := Q0.out.lt; rw [hb8, hb9]; omega
  have Nb8b10 : Hid (b8 ≠ b10) := by show _ ≠ _; have := Q0.out.lt; rw [hb8, hb10]; have := c11.size; omega
  have Nb8b11 : Hid (b8 ≠ b11) := by show _ ≠ _; have := Q0.out.lt; rw [hb8, hb11]; have := c12.size; omega
  have Nb9b10 : Hid (b9 ≠ b10) := by show _ ≠ _; have := Q1.out.lt; rw [hb9, hb10]; omega
  have Nb9b11 : Hid (b9 ≠ b11) := by show _ ≠ _; have := Q1.out.lt; rw [hb9, hb11]; have := c22.size; omega
  have Nb10b11 : Hid (b10 ≠ b11) := by show _ ≠ _; have := Q2.out.lt; rw [hb10, hb11]; omega
  have BX : Hid (Below w.heap.size w X3) := c03
  rw [← hb8, ← hb9, ← hb10, ← hb11]
  clear hb8 hb9 hb10 hb11 c00 c01 c02 c03 c11 c12 c13 c22 c23 c33 Q0 B0 Q1 B1 Q2 B2 Q3 B3
  replace HG : Hid (Lg w0 X3 S q f) := HG.out.be BX.out
  have HK : Hid (Kp w X3) := Kp.of_below BX.out
  clear BX
  refine Calls.mono (HAR.out X3 HG.out) ?_
  rintro e V ⟨rfl, hG, hK⟩
  replace R8 : Hid (Row V b8 (vB z) 33) := hK.row _ _ _ (by decide) R8.out
  replace R9 : Hid (Row V b9 (vB x) 33) := hK.row _ _ _ (by decide) R9.out
  replace R10 : Hid (Row V b10 (vB y) 33) := hK.row _ _ _ (by decide) R10.out
  replace R11 : Hid (Row V b11 LB 25) := hK.row _ _ _ (by decide) R11.out
  replace HG : Hid (Lg w0 V S (q + 1) f) := hG
  replace HK : Hid (Kp w V) := HK.out.trans hK
  clear hG hK HAR
  go_upto_region 2 with (first
    | (refine wpList_allocP rfl rfl ?_; intro XP q1 q2 q3; have RP1 : Hid (Row XP V.heap.size zP 58) := q1; have BP : Hid (Below V.heap.size V XP) := q2; have NE12 : Hid (XP.heap.size ≠ V.heap.size) := (by show _ ≠ _; rw [q3]; omega); clear q1 q2 q3; simp only [Act.put, List.setIfInBounds_toArray, List.set_cons_zero, List.set_cons_succ])
    | (refine wpList_allocK rfl rfl ?_; intro XK q1 q2 q3; have RK1 : Hid (Row XK XP.heap.size zK 44) := q1; have BK : Hid (Below XP.heap.size XP XK) := q2; have RP2 : Hid (Row XK V.heap.size zP 58) := Row.below RP1.out q2 RP1.out.lt; clear q1 q2 q3; simp only [Act.put, List.setIfInBounds_toArray, List.set_cons_zero, List.set_cons_succ])
    | (refine wpList_storeL rfl 58 (.tmp 13) (.tmp 22) rfl V.heap.size LP zP 58 rfl rfl RP2.out HLPN.out HLPI.out HLPO.out ?_; intro YP q1 q2; have HYP : Hid (YP = _) := q1; have RYP : Hid (Row YP V.heap.size LP 58) := q2; have RK2 : Hid (Row YP XP.heap.size zK 44) := (by rw [q1]; exact Row.setCells_other RK1.out _ _ _ NE12.out); clear q1 q2; simp only [Act.put])
    | (refine wpList_storeL rfl 44 (.tmp 14) (.tmp 23) rfl XP.heap.size LT zK 44 rfl rfl RK2.out HLTN.out HLTI.out HLTO.out ?_; intro YK q1 q2; have HYK : Hid (YK = _) := q1; have RYK : Hid (Row YK XP.heap.size LT 44) := q2; clear q1 q2; simp only [Act.put]))
  obtain ⟨p1, hp1⟩ : ∃ p, p = V.heap.size := ⟨_, rfl⟩
  obtain ⟨p2, hp2⟩ : ∃ p, p = XP.heap.size := ⟨_, rfl⟩
  have b12 : Below V.heap.size V YK := by rw [HYK.out, HYP.out]; exact below_setCells (below_setCells (BP.out.trans (BK.out.mono BP.out.size)) (Nat.le_refl _) _) BP.out.size _
  have Rp1 : Hid (Row YK p1 LP 58) := by rw [HYK.out, hp1]; exact Row.setCells_other RYP.out _ _ _ (Ne.symm NE12.out)
  have Rp2 : Hid (Row YK p2 LT 44) := by rw [hp2]; exact RYK.out
  have Np1p2 : Hid (p1 ≠ p2) := by rw [hp1, hp2]; exact Ne.symm NE12.out
  have Nb8p1 : Hid (b8 ≠ p1) := by show _ ≠ _; have := R8.out.lt; rw [hp1]; omega
  have Nb8p2 : Hid (b8 ≠ p2) := by show _ ≠ _; have := R8.out.lt; have := BP.out.size; rw [hp2]; omega
  have Nb9p1 : Hid (b9 ≠ p1) := by show _ ≠ _; have := R9.out.lt; rw [hp1]; omega
  have Nb9p2 : Hid (b9 ≠ p2) := by show _ ≠ _; have := R9.out.lt; have := BP.out.size; rw [hp2]; omega
  have Nb10p1 : Hid (b10 ≠ p1) := by show _ ≠ _; have := R10.out.lt; rw [hp1]; omega
  have Nb10p2 : Hid (b10 ≠ p2) := by show _ ≠ _; have := R10.out.lt; have := BP.out.size; rw [hp2]; omega
  have Nb11p1 : Hid (b11 ≠ p1) := by show _ ≠ _; have := R11.out.lt; rw [hp1]; omega
  have Nb11p2 : Hid (b11 ≠ p2) := by show _ ≠ _; have := R11.out.lt; have := BP.out.size; rw [hp2]; omega
  replace R8 : Hid (Row YK b8 (vB z) 33) := Row.below R8.out b12 R8.out.lt
  replace R9 : Hid (Row YK b9 (vB x) 33) := Row.below R9.out b12 R9.out.lt
  replace R10 : Hid (Row YK b10 (vB y) 33) := Row.below R10.out b12 R10.out.lt
  replace R11 : Hid (Row YK b11 LB 25) := Row.below R11.out b12 R11.out.lt
  replace HG : Hid (Lg w0 YK S (q + 1) f) := HG.out.be b12
  replace HK : Hid (Kp w YK) := HK.out.trans (Kp.of_below b12)
  rw [← hp1, ← hp2]
  clear hp1 hp2 b12 BP BK RP1 RP2 RK1 RK2 NE12 HYP RYP HYK RYK
  go_upto_region 4 with fail
  have rp := Rp1.out
  have r8 := R8.out
  have r9 := R9.out
  have r10 := R10.out
  have rb := R11.out
  have hG := HG.out
  have hK := HK.out
  have hw0 : w0.heap.size ≤ YK.heap.size := hG.bel.size
  have hwf : w.heap.size ≤ YK.heap.size := hK.size
  have hb1 := Below.refl YK.heap.size YK
  clear Rp1 Rp2 R8 R9 R10 R11 HG HK
  refine wp_named fun a0 ha0 => ?_
  have hsz : a0.tmps.size = 62 := by rw [ha0]; rfl
  have zs13 : a0.eval (.tmp 13) = .pointer (some ⟨p1, 0, none⟩) := by rw [ha0]; rfl
  have zs8 : a0.eval (.tmp 8) = .pointer (some ⟨b8, 0, none⟩) := by rw [ha0]; rfl
  have zs9 : a0.eval (.tmp 9) = .pointer (some ⟨b9, 0, none⟩) := by rw [ha0]; rfl
  have zs10 : a0.eval (.tmp 10) = .pointer (some ⟨b10, 0, none⟩) := by rw [ha0]; rfl
  have zs11 : a0.eval (.tmp 11) = .pointer (some ⟨b11, 0, none⟩) := by rw [ha0]; rfl
  have lt_rp : p1 < YK.heap.size := rp.lt
  have lt_r8 : b8 < YK.heap.size := r8.lt
  have lt_r9 : b9 < YK.heap.size := r9.lt
  have lt_r10 : b10 < YK.heap.size := r10.lt
  have lt_rb : b11 < YK.heap.size := rb.lt
  obtain ⟨D, hD⟩ : ∃ D : List (Tmp × SP), D = [(29, SP.is (.agg LP.toArray)), (30, SP.is (.agg LP.toArray)), (31, SP.is (.agg (vB x).toArray)), (32, SP.is (.agg (vB z).toArray)), (33, SP.is (.string (lKt t x z))), (34, SP.is (.agg LB.toArray)), (35, SP.is (.tuple #[.agg N0.toArray, .int .i64 0])), (28, SP.is (.tuple #[.agg N0.toArray, .int .i64 0])), (36, SP.is (.agg N0.toArray)), (37, SP.is (.int .i64 0)), (16, SP.any), (1000, SP.any), (15, SP.is (.int .i64 0))] := ⟨_, rfl⟩
  refine wp_region_then (by kernel_rfl) 6 (by decide) (by kernel_rfl) (fun listed ac W => Fp D a0 listed ac W ∧ Below YK.heap.size YK W ∧ Row W p1 LP 58 ∧ Row W b8 ((vB z)) 33 ∧ Row W b9 ((vB x)) 33 ∧ Row W b10 ((vB y)) 33 ∧ Row W b11 LB 25 ∧ Lg w0 W S (q + 1) f ∧ Kp w W ∧ (listed.getD 10 false = true → ∃ N, ac.eval (.tmp 16) = .pointer (some ⟨N, 0, none⟩) ∧ YK.heap.size ≤ N ∧ Row W N zL 65)) (fun listed ac W => Fp D a0 listed ac W ∧ YK.heap.size ≤ W.heap.size ∧ Row W p1 LP 58 ∧ Row W b8 ((vB z)) 33 ∧ Row W b9 ((vB x)) 33 ∧ Row W b10 ((vB y)) 33 ∧ Row W b11 LB 25 ∧ Lg w0 W S (q + 1 + 1) f ∧ Kp w W ∧ (listed.getD 10 false = true → ∃ N, ac.eval (.tmp 16) = .pointer (some ⟨N, 0, none⟩) ∧ YK.heap.size ≤ N ∧ Row W N (if listed.getD 11 false = true then N0 else zL) 65)) ?_ ?_ ?_ ?_ ?_
  · exact ⟨Fp.start D a0 _ _, Below.drew hb1, Row.drew rp, Row.drew r8, Row.drew r9, Row.drew r10, Row.drew rb, hG.below (Below.drew (Below.refl _ _)), hK.below (Below.drew (Below.refl _ _)), (fun h => (start_no h).elim)⟩
  · clear ha0 hb1 rp r8 r9 r10 rb hG hK
    intro listed ac W k hl hI hdn hk hne hnl
    replace hl : listed.size = 13 := hl
    obtain ⟨hF, hb1, rp, r8, r9, r10, rb, hG, hK, al10⟩ := hI
    have hk1 : k < 13 := List.mem_range.1 (List.mem_filter.1 hk).1
    rcases (show k = 0 ∨ k = 1 ∨ k = 2 ∨ k = 3 ∨ k = 4 ∨ k = 5 ∨ k = 6 ∨ k = 7 ∨ k = 8 ∨ k = 9 ∨ k = 10 ∨ k = 11 ∨ k = 12 by omega) with rfl | rfl | rfl | rfl | rfl | rfl | rfl | rfl | rfl | rfl | rfl | rfl | rfl
    · have hk3 := hk
      exact wpOp_plain rfl rfl (wp_load_mid 58 (.tmp 13) rfl p1 0 ((hF.keep 13 (by rw [hD]; rfl)).trans zs13) LP _ rp.all Tryd.underlying58 rfl HLPI.out ⟨(hF.put 0 29 (SP.is (.agg LP.toArray)) (.agg LP.toArray) (by rw [hD]; rfl) rfl (by rw [hD]; rfl) (by rw [hsz]; decide) (by rw [hl]; decide)), hb1, rp, r8, r9, r10, rb, hG, hK, (fun h => by obtain ⟨N, e, hN, r⟩ := al10 (by rwa [getD_set _ _ _ (by decide)] at h); exact ⟨N, (eval_put_other ac _ (by decide)).trans e, hN, r⟩)⟩)
    · have hk3 := hk
      exact wpOp_plain rfl rfl (wp_load_mid 58 (.tmp 13) rfl p1 0 ((hF.keep 13 (by rw [hD]; rfl)).trans zs13) LP _ rp.all Tryd.underlying58 rfl HLPI.out ⟨(hF.put 1 30 (SP.is (.agg LP.toArray)) (.agg LP.toArray) (by rw [hD]; rfl) rfl (by rw [hD]; rfl) (by rw [hsz]; decide) (by rw [hl]; decide)), hb1, rp, r8, r9, r10, rb, hG, hK, (fun h => by obtain ⟨N, e, hN, r⟩ := al10 (by rwa [getD_set _ _ _ (by decide)] at h); exact ⟨N, (eval_put_other ac _ (by decide)).trans e, hN, r⟩)⟩)
    · have hk3 := hk
      exact wpOp_plain rfl rfl (wp_load_mid 33 (.tmp 9) rfl b9 0 ((hF.keep 9 (by rw [hD]; rfl)).trans zs9) ((vB x)) _ r9.all Tryd.underlying33 rfl HIx.out ⟨(hF.put 2 31 (SP.is (.agg (vB x).toArray)) (.agg (vB x).toArray) (by rw [hD]; rfl) rfl (by rw [hD]; rfl) (by rw [hsz]; decide) (by rw [hl]; decide)), hb1, rp, r8, r9, r10, rb, hG, hK, (fun h => by obtain ⟨N, e, hN, r⟩ := al10 (by rwa [getD_set _ _ _ (by decide)] at h); exact ⟨N, (eval_put_other ac _ (by decide)).trans e, hN, r⟩)⟩)
    · have hk3 := hk
      exact wpOp_plain rfl rfl (wp_load_mid 33 (.tmp 8) rfl b8 0 ((hF.keep 8 (by rw [hD]; rfl)).trans zs8) ((vB z)) _ r8.all Tryd.underlying33 rfl HIz.out ⟨(hF.put 3 32 (SP.is (.agg (vB z).toArray)) (.agg (vB z).toArray) (by rw [hD]; rfl) rfl (by rw [hD]; rfl) (by rw [hsz]; decide) (by rw [hl]; decide)), hb1, rp, r8, r9, r10, rb, hG, hK, (fun h => by obtain ⟨N, e, hN, r⟩ := al10 (by rwa [getD_set _ _ _ (by decide)] at h); exact ⟨N, (eval_put_other ac _ (by decide)).trans e, hN, r⟩)⟩)
    · have hk3 := hk
      have ea0 := (hF.done 1 (30, SP.is (.agg LP.toArray)) (by rw [hD]; rfl) (ready_dep hk 1 (by kernel_rfl)))
      have ea1 := (hF.done 2 (31, SP.is (.agg (vB x).toArray)) (by rw [hD]; rfl) (ready_dep hk 2 (by kernel_rfl)))
      have ea2 := (hF.done 3 (32, SP.is (.agg (vB z).toArray)) (by rw [hD]; rfl) (ready_dep hk 3 (by kernel_rfl)))
      refine wpOp_plain rfl rfl (wp_fcall_v 35 #[.agg LP.toArray, .agg (vB x).toArray, .agg (vB z).toArray] rfl rfl (by show [ac.eval (.tmp 30), ac.eval (.tmp 31), ac.eval (.tmp 32)] = _; rw [show ac.eval (.tmp 30) = .agg LP.toArray from ea0, show ac.eval (.tmp 31) = .agg (vB x).toArray from ea1, show ac.eval (.tmp 32) = .agg (vB z).toArray from ea2]) (by go_simp) (((show Calls Tryd.prog 35 #[.agg LP.toArray, .agg (vB x).toArray, .agg (vB z).toArray] W _ from HKf.out W)).mono ?_))
      rintro e W2 ⟨rfl, hB⟩
      exact ⟨_, rfl, ((hF.world hB).put 4 33 (SP.is (.string (lKt t x z))) (.string (lKt t x z)) (by rw [hD]; rfl) rfl (by rw [hD]; rfl) (by rw [hsz]; decide) (by rw [hl]; decide)), hb1.trans (hB.mono hb1.size), Row.below rp hB (Row.lt rp), Row.below r8 hB (Row.lt r8), Row.below r9 hB (Row.lt r9), Row.below r10 hB (Row.lt r10), Row.below rb hB (Row.lt rb), hG.below hB, hK.below hB, (fun h => by obtain ⟨N, e, hN, r⟩ := al10 (by rwa [getD_set _ _ _ (by decide)] at h); exact ⟨N, (eval_put_other ac _ (by decide)).trans e, hN, Row.below r hB (Row.lt r)⟩)⟩
    · have hk3 := hk
      exact wpOp_plain rfl rfl (wp_load_mid 25 (.tmp 11) rfl b11 0 ((hF.keep 11 (by rw [hD]; rfl)).trans zs11) LB _ rb.all Tryd.underlying25 rfl HLBI.out ⟨(hF.put 5 34 (SP.is (.agg LB.toArray)) (.agg LB.toArray) (by rw [hD]; rfl) rfl (by rw [hD]; rfl) (by rw [hsz]; decide) (by rw [hl]; decide)), hb1, rp, r8, r9, r10, rb, hG, hK, (fun h => by obtain ⟨N, e, hN, r⟩ := al10 (by rwa [getD_set _ _ _ (by decide)] at h); exact ⟨N, (eval_put_other ac _ (by decide)).trans e, hN, r⟩)⟩)
    · exact absurd rfl hne
    · exact absurd (ready_dep hk 6 (by kernel_rfl)) hnl
    · exact absurd (hdn 7 (ready_dep hk 7 (by kernel_rfl)) 6 (by kernel_rfl)) hnl
    · exact absurd (hdn 7 (ready_dep hk 7 (by kernel_rfl)) 6 (by kernel_rfl)) hnl
    · have hk3 := hk
      have hB : Below W.heap.size W (W.alloc (Obj.cells zL.toArray 65)) := (Below.refl _ _).alloc (Nat.le_refl _) _
      exact wpOp_plain rfl rfl (wp_allocLn rfl ⟨((hF.world hB).put 10 16 (SP.any) (.pointer (some ⟨W.heap.size, 0, none⟩)) (by rw [hD]; rfl) trivial (by rw [hD]; rfl) (by rw [hsz]; decide) (by rw [hl]; decide)), hb1.trans (hB.mono hb1.size), Row.alloc rp _, Row.alloc r8 _, Row.alloc r9 _, Row.alloc r10 _, Row.alloc rb _, hG.below hB, hK.below hB, (fun _ => ⟨W.heap.size, eval_put_same ac _ (by rw [hF.size, hsz]; decide), hb1.size, Row.new' rfl rfl⟩)⟩)
    · exact absurd (hdn 7 (hdn 8 (ready_dep hk 8 (by kernel_rfl)) 7 (by kernel_rfl)) 6 (by kernel_rfl)) hnl
    · exact absurd (hdn 7 (hdn 9 (ready_dep hk 9 (by kernel_rfl)) 7 (by kernel_rfl)) 6 (by kernel_rfl)) hnl
  · clear ha0 hb1 rp r8 r9 r10 rb hG hK
    intro listed ac W hl hI hdn hk
    replace hl : listed.size = 13 := hl
    obtain ⟨hF, hb1, rp, r8, r9, r10, rb, hG, hK, al10⟩ := hI
    have eb1 := (hF.done 0 (29, SP.is (.agg LP.toArray)) (by rw [hD]; rfl) (ready_dep hk 0 (by kernel_rfl)))
    have eb2 := (hF.done 4 (33, SP.is (.string (lKt t x z))) (by rw [hD]; rfl) (ready_dep hk 4 (by kernel_rfl)))
    have eb3 := (hF.done 5 (34, SP.is (.agg LB.toArray)) (by rw [hD]; rfl) (ready_dep hk 5 (by kernel_rfl)))
    have hns11 : ¬ listed.getD 11 false = true := fun h => not_yet hk (hdn 7 (hdn 8 (hdn 11 h 8 (by kernel_rfl)) 7 (by kernel_rfl)) 6 (by kernel_rfl))
    refine wpOp_plain rfl rfl (wp_fcall_v 34 #[.agg LP.toArray, .string (lKt t x z), .agg LB.toArray, .int .i64 86] rfl rfl (by show [ac.eval (.tmp 29), ac.eval (.tmp 33), ac.eval (.tmp 34), .int .i64 86] = _; rw [show ac.eval (.tmp 29) = .agg LP.toArray from eb1, show ac.eval (.tmp 33) = .string (lKt t x z) from eb2, show ac.eval (.tmp 34) = .agg LB.toArray from eb3]) (by go_simp) ((HLE.out W hG).mono ?_))
    rintro e W2 ⟨rfl, hG2, hK2⟩
    have hT : Fp D a0 listed ac W2 := hF.turn (by rw [hD]; simp only [List.forall_mem_cons, List.not_mem_nil, false_implies, implies_true, and_true]; exact ⟨fun _ h => h, fun _ h => h, fun _ h => h, fun _ h => h, fun _ h => h, fun _ h => h, fun _ h => h, fun _ h => h, fun _ h => h, fun _ h => h, fun _ h => h, fun _ h => h, fun _ h => h⟩)
    exact ⟨_, rfl, (hT.put 6 35 (SP.is (.tuple #[.agg N0.toArray, .int .i64 0])) (_) (by rw [hD]; rfl) rfl (by rw [hD]; rfl) (by rw [hsz]; decide) (by rw [hl]; decide)), Nat.le_trans hb1.size hK2.size, hK2.row _ _ _ (by decide) rp, hK2.row _ _ _ (by decide) r8, hK2.row _ _ _ (by decide) r9, hK2.row _ _ _ (by decide) r10, hK2.row _ _ _ (by decide) rb, hG2, hK.trans hK2, (fun h => by obtain ⟨N, e, hN, r⟩ := al10 (by rwa [getD_set _ _ _ (by decide)] at h); exact ⟨N, (eval_put_other ac _ (by decide)).trans e, hN, by rw [getD_set _ _ _ (by decide), if_neg hns11]; exact hK2.row _ _ _ (by decide) r⟩)⟩
  · clear ha0 hb1 rp r8 r9 r10 rb hG hK
    intro listed ac W k hl hJ hdn hk hne hyl
    replace hl : listed.size = 13 := hl
    obtain ⟨hF, hS, rp, r8, r9, r10, rb, hG, hK, al10⟩ := hJ
    have hk1 : k < 13 := List.mem_range.1 (List.mem_filter.1 hk).1
    rcases (show k = 0 ∨ k = 1 ∨ k = 2 ∨ k = 3 ∨ k = 4 ∨ k = 5 ∨ k = 6 ∨ k = 7 ∨ k = 8 ∨ k = 9 ∨ k = 10 ∨ k = 11 ∨ k = 12 by omega) with rfl | rfl | rfl | rfl | rfl | rfl | rfl | rfl | rfl | rfl | rfl | rfl | rfl
    · exact absurd (hdn 6 hyl 0 (by kernel_rfl)) (not_yet hk)
    · exact absurd (hdn 4 (hdn 6 hyl 4 (by kernel_rfl)) 1 (by kernel_rfl)) (not_yet hk)
    · exact absurd (hdn 4 (hdn 6 hyl 4 (by kernel_rfl)) 2 (by kernel_rfl)) (not_yet hk)
    · exact absurd (hdn 4 (hdn 6 hyl 4 (by kernel_rfl)) 3 (by kernel_rfl)) (not_yet hk)
    · exact absurd (hdn 6 hyl 4 (by kernel_rfl)) (not_yet hk)
    · exact absurd (hdn 6 hyl 5 (by kernel_rfl)) (not_yet hk)
    · exact absurd rfl hne
    · have hk3 := hk
      exact wpOp_plain rfl rfl (wp_move_v (ac.eval (.tmp 35)) rfl rfl ⟨(hF.put 7 28 (SP.is (.tuple #[.agg N0.toArray, .int .i64 0])) (ac.eval (.tmp 35)) (by rw [hD]; rfl) ((hF.done 6 (35, SP.is (.tuple #[.agg N0.toArray, .int .i64 0])) (by rw [hD]; rfl) (ready_dep hk 6 (by kernel_rfl)))) (by rw [hD]; rfl) (by rw [hsz]; decide) (by rw [hl]; decide)), hS, rp, r8, r9, r10, rb, hG, hK, (fun h => by obtain ⟨N, e, hN, r⟩ := al10 (by rwa [getD_set _ _ _ (by decide)] at h); exact ⟨N, (eval_put_other ac _ (by decide)).trans e, hN, by rw [getD_set _ _ _ (by decide)]; exact r⟩)⟩)
    · have hk3 := hk
      exact wpOp_plain rfl rfl (wp_extract (.tmp 28) 0 rfl _ (hF.done 7 (28, SP.is (.tuple #[.agg N0.toArray, .int .i64 0])) (by rw [hD]; rfl) (ready_dep hk 7 (by kernel_rfl))) (.agg N0.toArray) rfl ⟨(hF.put 8 36 (SP.is (.agg N0.toArray)) (.agg N0.toArray) (by rw [hD]; rfl) rfl (by rw [hD]; rfl) (by rw [hsz]; decide) (by rw [hl]; decide)), hS, rp, r8, r9, r10, rb, hG, hK, (fun h => by obtain ⟨N, e, hN, r⟩ := al10 (by rwa [getD_set _ _ _ (by decide)] at h); exact ⟨N, (eval_put_other ac _ (by decide)).trans e, hN, by rw [getD_set _ _ _ (by decide)]; exact r⟩)⟩)
    · have hk3 := hk
      exact wpOp_plain rfl rfl (wp_extract (.tmp 28) 1 rfl _ (hF.done 7 (28, SP.is (.tuple #[.agg N0.toArray, .int .i64 0])) (by rw [hD]; rfl) (ready_dep hk 7 (by kernel_rfl))) (.int .i64 0) rfl ⟨(hF.put 9 37 (SP.is (.int .i64 0)) (.int .i64 0) (by rw [hD]; rfl) rfl (by rw [hD]; rfl) (by rw [hsz]; decide) (by rw [hl]; decide)), hS, rp, r8, r9, r10, rb, hG, hK, (fun h => by obtain ⟨N, e, hN, r⟩ := al10 (by rwa [getD_set _ _ _ (by decide)] at h); exact ⟨N, (eval_put_other ac _ (by decide)).trans e, hN, by rw [getD_set _ _ _ (by decide)]; exact r⟩)⟩)
    · have hk3 := hk
      have hB : Below W.heap.size W (W.alloc (Obj.cells zL.toArray 65)) := (Below.refl _ _).alloc (Nat.le_refl _) _
      have hns : ¬ listed.getD 11 false = true := fun h => not_yet hk (hdn 11 h 10 (by kernel_rfl))
      exact wpOp_plain rfl rfl (wp_allocLn rfl ⟨((hF.world hB).put 10 16 (SP.any) (.pointer (some ⟨W.heap.size, 0, none⟩)) (by rw [hD]; rfl) trivial (by rw [hD]; rfl) (by rw [hsz]; decide) (by rw [hl]; decide)), Nat.le_trans hS hB.size, Row.alloc rp _, Row.alloc r8 _, Row.alloc r9 _, Row.alloc r10 _, Row.alloc rb _, hG.below hB, hK.below hB, (fun _ => ⟨W.heap.size, eval_put_same ac _ (by rw [hF.size, hsz]; decide), hS, (by rw [getD_set _ _ _ (by decide), if_neg hns]; exact Row.new' rfl rfl)⟩)⟩)
    · have hk3 := hk
      obtain ⟨N, e, hN, r⟩ := al10 (ready_dep hk 10 (by kernel_rfl))
      rw [if_neg (not_yet hk)] at r
      have hT : Fp D a0 listed ac (W.setCells N 0 N0) := hF.turn (by rw [hD]; simp only [List.forall_mem_cons, List.not_mem_nil, false_implies, implies_true, and_true]; exact ⟨fun _ h => h, fun _ h => h, fun _ h => h, fun _ h => h, fun _ h => h, fun _ h => h, fun _ h => h, fun _ h => h, fun _ h => h, fun _ h => h, fun _ h => h, fun _ h => h, fun _ h => h⟩)
      exact wpOp_plain rfl rfl (wp_store_mid 65 (.tmp 16) (.tmp 36) rfl N 0 N0.toArray e (hF.done 8 (36, SP.is (.agg N0.toArray)) (by rw [hD]; rfl) (ready_dep hk 8 (by kernel_rfl))) (r.there 0 _ (by rw [List.size_toArray, HN0N.out]; decide)) HN0J.out HN0O.out ⟨(hT.skip 11 1000 (by rw [hD]; rfl) (by rw [hl]; decide)), (by rw [size_setCells]; exact hS), Row.setCells_other rp _ _ _ (by omega), Row.setCells_other r8 _ _ _ (by omega), Row.setCells_other r9 _ _ _ (by omega), Row.setCells_other r10 _ _ _ (by omega), Row.setCells_other rb _ _ _ (by omega), hG.kept r (by decide) (by decide) (by decide) (by decide) (fun k hk => heap_sets _ _ _ _ _ hk) (below_setCells hG.bel (Nat.le_trans hw0 hN) _), Kp.kept N (Nat.le_trans hwf hN) hK (fun k hk => heap_sets _ _ _ _ _ hk) (below_setCells (Below.refl 0 _) (Nat.zero_le N) _).size, (fun _ => ⟨N, e, hN, by rw [if_pos (getD_same (by rw [hl]; decide))]; exact r.over HN0N.out⟩)⟩)
    · have hk3 := hk
      exact wpOp_plain rfl rfl (wp_assign_v (ac.eval (.tmp 37)) rfl rfl ⟨(hF.put 12 15 (SP.is (.int .i64 0)) (ac.eval (.tmp 37)) (by rw [hD]; rfl) ((hF.done 9 (37, SP.is (.int .i64 0)) (by rw [hD]; rfl) (ready_dep hk 9 (by kernel_rfl)))) (by rw [hD]; rfl) (by rw [hsz]; decide) (by rw [hl]; decide)), hS, rp, r8, r9, r10, rb, hG, hK, (fun h => by obtain ⟨N, e, hN, r⟩ := al10 (by rwa [getD_set _ _ _ (by decide)] at h); exact ⟨N, (eval_put_other ac _ (by decide)).trans e, hN, by rw [getD_set _ _ _ (by decide)]; exact r⟩)⟩)
  · clear hb1 rp r8 r9 r10 rb hG hK
    intro listed ac W hl hJ hr
    replace hl : listed.size = 13 := hl
    obtain ⟨hF, hS, rp, r8, r9, r10, rb, hG, hK, al10⟩ := hJ
    have hall := all_listed (by kernel_rfl) hl hr
    obtain ⟨NL, ea16, hNL, rNL⟩ := al10 (hall 10 (by decide))
    rw [if_pos (hall 11 (by decide))] at rNL
    have h29 : ac.eval (.tmp 29) = .agg LP.toArray := hF.done 0 (29, SP.is (.agg LP.toArray)) (by rw [hD]; rfl) (hall 0 (by decide))
    have h30 : ac.eval (.tmp 30) = .agg LP.toArray := hF.done 1 (30, SP.is (.agg LP.toArray)) (by rw [hD]; rfl) (hall 1 (by decide))
    have h31 : ac.eval (.tmp 31) = .agg (vB x).toArray := hF.done 2 (31, SP.is (.agg (vB x).toArray)) (by rw [hD]; rfl) (hall 2 (by decide))
    have h32 : ac.eval (.tmp 32) = .agg (vB z).toArray := hF.done 3 (32, SP.is (.agg (vB z).toArray)) (by rw [hD]; rfl) (hall 3 (by decide))
    have h33 : ac.eval (.tmp 33) = .string (lKt t x z) := hF.done 4 (33, SP.is (.string (lKt t x z))) (by rw [hD]; rfl) (hall 4 (by decide))
    have h34 : ac.eval (.tmp 34) = .agg LB.toArray := hF.done 5 (34, SP.is (.agg LB.toArray)) (by rw [hD]; rfl) (hall 5 (by decide))
    have h35 : ac.eval (.tmp 35) = .tuple #[.agg N0.toArray, .int .i64 0] := hF.done 6 (35, SP.is (.tuple #[.agg N0.toArray, .int .i64 0])) (by rw [hD]; rfl) (hall 6 (by decide))
    have h28 : ac.eval (.tmp 28) = .tuple #[.agg N0.toArray, .int .i64 0] := hF.done 7 (28, SP.is (.tuple #[.agg N0.toArray, .int .i64 0])) (by rw [hD]; rfl) (hall 7 (by decide))
    have h36 : ac.eval (.tmp 36) = .agg N0.toArray := hF.done 8 (36, SP.is (.agg N0.toArray)) (by rw [hD]; rfl) (hall 8 (by decide))
    have h37 : ac.eval (.tmp 37) = .int .i64 0 := hF.done 9 (37, SP.is (.int .i64 0)) (by rw [hD]; rfl) (hall 9 (by decide))
    have h15 : ac.eval (.tmp 15) = .int .i64 0 := hF.done 12 (15, SP.is (.int .i64 0)) (by rw [hD]; rfl) (hall 12 (by decide))
    have ea := hF.lay [(29, .agg LP.toArray), (30, .agg LP.toArray), (31, .agg (vB x).toArray), (32, .agg (vB z).toArray), (33, .string (lKt t x z)), (34, .agg LB.toArray), (35, .tuple #[.agg N0.toArray, .int .i64 0]), (28, .tuple #[.agg N0.toArray, .int .i64 0]), (36, .agg N0.toArray), (37, .int .i64 0), (16, .pointer (some ⟨NL, 0, none⟩)), (15, .int .i64 0)] (by rw [hD, hsz]; rfl) (by simp only [List.forall_mem_cons, List.not_mem_nil, false_implies, implies_true, and_true]; exact ⟨h29, h30, h31, h32, h33, h34, h35, h28, h36, h37, ea16, h15⟩)
    rw [ha0] at ea
    simp only [List.foldl_cons, List.foldl_nil, List.setIfInBounds_toArray, List.set_cons_zero, List.set_cons_succ] at ea
    clear hF hall hr hl hD zs13 zs8 zs9 zs10 zs11 ha0 hsz h29 h30 h31 h32 h33 h34 h35 h28 h36 h37 ea16 h15 al10 lt_rp lt_r8 lt_r9 lt_r10 lt_rb
    subst ea
    obtain ⟨V2, hV⟩ : ∃ V, V = W := ⟨_, rfl⟩
    rw [← hV]
    rw [← hV] at hG hK rp r8 r9 r10 rb rNL
    have HK : Hid (Kp w V2) := hK
    have Rp1 : Hid (Row V2 p1 LP 58) := rp
    have R11 : Hid (Row V2 b11 LB 25) := rb
    have RN : Hid (Row V2 NL N0 65) := rNL
    have S13 : Hid (V2.rangeAt p1 0 LP) := rp.all
    have S9 : Hid (V2.rangeAt b9 0 (vB x)) := r9.all
    have S10 : Hid (V2.rangeAt b10 0 (vB y)) := r10.all
    have S11 : Hid (V2.rangeAt b11 0 LB) := rb.all
    have HM : Hid _ := HMV.out V2 hG
    clear hV hG hK rp r8 r9 r10 rb rNL hS hNL hw0 hwf HMV
    go_wp2_with (first
      | (refine wpList_load_w rfl 58 (.tmp 13) rfl p1 0 rfl LP _ S13.out Tryd.underlying58 rfl HLPI.out ?_; simp only [Act.put, List.setIfInBounds_toArray, List.set_cons_zero, List.set_cons_succ])
      | (refine wpList_load_w rfl 33 (.tmp 9) rfl b9 0 rfl (vB x) _ S9.out Tryd.underlying33 rfl HIx.out ?_; simp only [Act.put, List.setIfInBounds_toArray, List.set_cons_zero, List.set_cons_succ])
      | (refine wpList_load_w rfl 33 (.tmp 10) rfl b10 0 rfl (vB y) _ S10.out Tryd.underlying33 rfl HIy.out ?_; simp only [Act.put, List.setIfInBounds_toArray, List.set_cons_zero, List.set_cons_succ])
      | (refine wpList_load_w rfl 25 (.tmp 11) rfl b11 0 rfl LB _ S11.out Tryd.underlying25 rfl HLBI.out ?_; simp only [Act.put, List.setIfInBounds_toArray, List.set_cons_zero, List.set_cons_succ]))
    refine Calls.mono HM.out ?_
    rintro e V3 ⟨rfl, hG, hK⟩
    have HG : Hid (Lg w0 V3 S (q + 1 + 1 + 1 + 1) f) := hG
    replace HK : Hid (Kp w V3) := HK.out.trans hK
    replace Rp1 : Hid (Row V3 p1 LP 58) := hK.row _ _ _ (by decide) Rp1.out
    replace RN : Hid (Row V3 NL N0 65) := hK.row _ _ _ (by decide) RN.out
    replace S11 : Hid (V3.rangeAt b11 0 LB) := (hK.row _ _ _ (by decide) R11.out).all
    clear hG hK HM S13 S9 S10 R11
    go_wp2_with (refine wpList_load_w rfl 25 (.tmp 11) rfl b11 0 rfl LB _ S11.out Tryd.underlying25 rfl HLBI.out ?_; simp only [Act.put, List.setIfInBounds_toArray, List.set_cons_zero, List.set_cons_succ])
    refine Calls.mono (HZ.out V3) ?_
    rintro e V4 ⟨rfl, hB⟩
    replace HG : Hid (Lg w0 V4 S (q + 1 + 1 + 1 + 1) f) := HG.out.be hB
    replace HK : Hid (Kp w V4) := HK.out.trans (Kp.of_below hB)
    replace Rp1 : Hid (Row V4 p1 LP 58) := Row.below Rp1.out hB Rp1.out.lt
    replace RN : Hid (Row V4 NL N0 65) := Row.below RN.out hB RN.out.lt
    clear hB S11 HZ
    go_wp2_with fail
    go_ret
    exact ⟨rfl, HG.out, HK.out⟩
set_option maxRecDepth 100000 in
set_option maxHeartbeats 4000000 in
theorem pullS (w0 : World) (S q : Nat) (f : ByteArray → List (BitVec 8)) (hq : q < 999960) (n : Nat) (hn : n < 2 ^ 256) (t : Nat) (ht : t < 64) (z x y : List (BitVec 8)) (hz : z.length = 20) (hx : x.length = 20) (hy : y.length = 20) (b l : Nat) (hb : b < 2 ^ 256) (hl : l < 2 ^ 256) (hf : f (tKt t) = 1#8 :: wB n) (hlf : f (lKt t x z) = enc l) (f1 : ByteArray → List (BitVec 8)) (hlb : b ≤ l) (hb0 : b ≠ 0) (hft : x = y) (a : Nat) (ha : a < 2 ^ 256) (hab : b ≤ a) (haf : f (bKt t x) = enc a) (hf1 : f1 = upd f (lKt t x z) (enc (l - b))) (LB : List Value) (hLB : LB = wq b) (w : World) (h : Lg w0 w S q f) :
    Calls Tryd.prog 12 #[.pointer (some ⟨S, 0, none⟩), .int .i64 (t : Int), .agg (vB z).toArray, .agg (vB x).toArray, .agg (vB y).toArray, .agg LB.toArray] w fun e w' => e = .returned (.int .i64 0) ∧ Lg w0 w' S (q + 1 + 1 + 1 + 1) f1 ∧ Kp w w' := by
  obtain ⟨LP, hLP⟩ : ∃ L : List Value, L = pgl S t := ⟨_, rfl⟩
  obtain ⟨LT, hLT⟩ : ∃ L : List Value, L = tkl true false n := ⟨_, rfl⟩
  have HLPE : Hid (LP = pgl S t) := hLP
  have HLPI : Hid ((Tryd.prog.info? 58).map (·.size) = some LP.length) := by show _ = _; rw [hLP]; exact info_pgl S t
  have HLPJ : Hid ((Tryd.prog.info? 58).map (·.size) = some LP.toArray.size) := by show _ = _; rw [List.size_toArray, hLP]; exact info_pgl S t
  have HLPN : Hid (LP.length = zP.length) := by show _ = _; rw [hLP]; exact rfl
  have HLPO : Hid (LP.toArray.all (·.oneCell') = true) := by show _ = true; rw [hLP]; exact pgl_one S t
  have HLTE : Hid (LT = tkl true false n) := hLT
  have HLTI : Hid ((Tryd.prog.info? 44).map (·.size) = some LT.length) := by show _ = _; rw [hLT]; exact info_tkl _ _ _
  have HLTJ : Hid ((Tryd.prog.info? 44).map (·.size) = some LT.toArray.size) := by show _ = _; rw [List.size_toArray, hLT]; exact info_tkl _ _ _
  have HLTN : Hid (LT.length = zK.length) := by show _ = _; rw [hLT]; exact tkl_len _ _ _
  have HLTO : Hid (LT.toArray.all (·.oneCell') = true) := by show _ = true; rw [hLT]; exact tkl_one _ _ _
  have HLBE : Hid (LB = wq b) := hLB
  have HLBI : Hid ((Tryd.prog.info? 25).map (·.size) = some LB.length) := by show _ = _; rw [hLB]; exact info_wq _
  have HLBJ : Hid ((Tryd.prog.info? 25).map (·.size) = some LB.toArray.size) := by show _ = _; rw [List.size_toArray, hLB]; exact info_wq _
  have HLBN : Hid (LB.length = zW.length) := by show _ = _; rw [hLB]; exact wq_len _
  have HLBO : Hid (LB.toArray.all (·.oneCell') = true) := by show _ = true; rw [hLB]; exact wq_one _
  obtain ⟨N0, hN0⟩ : ∃ L : List Value, L = lnl (lKt t x z) (l - b) := ⟨_, rfl⟩
  have HN0E : Hid (N0 = lnl (lKt t x z) (l - b)) := hN0
  have HN0I : Hid ((Tryd.prog.info? 65).map (·.size) = some N0.length) := by show _ = _; rw [hN0]; exact info_lnl _ _
  have HN0J : Hid ((Tryd.prog.info? 65).map (·.size) = some N0.toArray.size) := by show _ = _; rw [List.size_toArray, hN0]; exact info_lnl _ _
  have HN0N : Hid (N0.length = zL.length) := by show _ = _; rw [hN0]; exact lnl_len _ _
  have HN0O : Hid (N0.toArray.all (·.oneCell') = true) := by show _ = true; rw [hN0]; exact lnl_one _ _
  have HLE : Hid (∀ W, Lg w0 W S (q + 1) f → Calls Tryd.prog 34 #[.agg LP.toArray, .string (lKt t x z), .agg LB.toArray, .int .i64 86] W fun e w' => e = .returned (.tuple #[.agg N0.toArray, .int .i64 0]) ∧ Lg w0 w' S (q + 1 + 1) f ∧ Kp W w') := fun W hW => les w0 S (q + 1) f (by omega) t (lKt t x z) (lKt_key t hx hz) l b hl hb hlb hlf LP LB hLP hLB N0 hN0 86 W hW
  have HKf : Hid (∀ W, Calls Tryd.prog 35 #[.agg LP.toArray, .agg (vB x).toArray, .agg (vB z).toArray] W fun e w' => e = .returned (.string (lKt t x z)) ∧ Below W.heap.size W w') := fun W => akeyG S t ht x z hx hz LP hLP W
  have HAR : Hid (∀ W, Lg w0 W S q f → _) := fun W hW => askRG w0 S q f (by omega) t ht n hn hf LP LT hLP hLT W hW
  have HMV : Hid (∀ W, Lg w0 W S (q + 1 + 1) f → _) := fun W hW => mvS w0 S (q + 1 + 1) f (by omega) t ht x y hx hy a b ha hb haf hab hft LP LB hLP hLB W hW
  have HCN : Hid (N0.take 5 = N0 ++ []) := by show _ = _; rw [List.append_nil]; exact List.take_of_length_le (by rw [hN0, lnl_len]; decide)
  have HLL : Hid (∀ g cap CU W, CU.take 5 = N0 ++ [] → Row W g CU 65 → Lg w0 W S (q + 1 + 1 + 1) f → Calls Tryd.prog 29 #[.agg LP.toArray, .slice (some ⟨g, 0, none⟩) 1 cap] W fun e w' => e = .returned (.int .i64 0) ∧ Lg w0 w' S (q + 1 + 1 + 1 + 1) f1 ∧ Kp W w') := fun g cap CU W hC hR hW => layLG1 w0 S (q + 1 + 1 + 1) f f1 (by omega) t (lKt t x z) (lKt_key t hx hz) (l - b) (Nat.lt_of_le_of_lt (Nat.sub_le _ _) hl) N0 hN0 hf1 g cap CU hC LP hLP W hR hW
  have HZ : Hid (∀ W, Calls Tryd.prog 36 #[.agg LB.toArray] W fun e w' => e = .returned (.bool false) ∧ Below W.heap.size W w') := fun W => by rw [hLB]; exact zeroG W b hb _ (decide_eq_false hb0)
  have HIx : Hid ((Tryd.prog.info? 33).map (·.size) = some (vB x).length) := info_adr hx
  have HIy : Hid ((Tryd.prog.info? 33).map (·.size) = some (vB y).length) := info_adr hy
  have HIz : Hid ((Tryd.prog.info? 33).map (·.size) = some (vB z).length) := info_adr hz
  have HG : Hid (Lg w0 w S q f) := h
  clear hLP hLT hLB hN0 hx hy hz hq hn hf ht hb hl hlf hlb hb0 hft ha hab haf hf1 h
  go_enter Tryd.func12, Tryd.ntmps12
  go_wp2_with (first
    | (refine wpList_boxG 33 rfl (.tmp 2) rfl (vB z) rfl ?_; intro X0 q1 q2 q3; have Q0 : Hid (Row X0 _ (vB z) 33) := q1; have B0 : Hid (Below _ _ X0) := q2; clear q1 q2 q3; simp only [Act.put, List.setIfInBounds_toArray, List.set_cons_zero, List.set_cons_succ])
    | (refine wpList_boxG 33 rfl (.tmp 3) rfl (vB x) rfl ?_; intro X1 q1 q2 q3; have Q1 : Hid (Row X1 _ (vB x) 33) := q1; have B1 : Hid (Below _ _ X1) := q2; clear q1 q2 q3; simp only [Act.put, List.setIfInBounds_toArray, List.set_cons_zero, List.set_cons_succ])
    | (refine wpList_boxG 33 rfl (.tmp 4) rfl (vB y) rfl ?_; intro X2 q1 q2 q3; have Q2 : Hid (Row X2 _ (vB y) 33) := q1; have B2 : Hid (Below _ _ X2) := q2; clear q1 q2 q3; simp only [Act.put, List.setIfInBounds_toArray, List.set_cons_zero, List.set_cons_succ])
    | (refine wpList_boxG 25 rfl (.tmp 5) rfl LB rfl ?_; intro X3 q1 q2 q3; have Q3 : Hid (Row X3 _ LB 25) := q1; have B3 : Hid (Below _ _ X3) := q2; clear q1 q2 q3; simp only [Act.put, List.setIfInBounds_toArray, List.set_cons_zero, List.set_cons_succ]))
  obtain ⟨b8, hb8⟩ : ∃ b, b = w.heap.size := ⟨_, rfl⟩
  obtain ⟨b9, hb9⟩ : ∃ b, b = X0.heap.size := ⟨_, rfl⟩
  obtain ⟨b10, hb10⟩ : ∃ b, b = X1.heap.size := ⟨_, rfl⟩
  obtain ⟨b11, hb11⟩ : ∃ b, b = X2.heap.size := ⟨_, rfl⟩
  have c00 := B0.out
  have c01 := c00.trans (B1.out.mono c00.size)
  have c02 := c01.trans (B2.out.mono c01.size)
  have c03 := c02.trans (B3.out.mono c02.size)
  have c11 := B1.out
  have c12 := c11.trans (B2.out.mono c11.size)
  have c13 := c12.trans (B3.out.mono c12.size)
  have c22 := B2.out
  have c23 := c22.trans (B3.out.mono c22.size)
  have c33 := B3.out
  have R8 : Hid (Row X3 b8 (vB z) 33) := by rw [hb8]; exact Row.below Q0.out c13 Q0.out.lt
  have HWb8 : Hid (w.heap.size ≤ b8) := by show _ ≤ _; rw [hb8]; exact Nat.le_refl _
  have R9 : Hid (Row X3 b9 (vB x) 33) := by rw [hb9]; exact Row.below Q1.out c23 Q1.out.lt
  have HWb9 : Hid (w.heap.size ≤ b9) := by show _ ≤ _; rw [hb9]; exact c00.size
  have R10 : Hid (Row X3 b10 (vB y) 33) := by rw [hb10]; exact Row.below Q2.out c33 Q2.out.lt
  have HWb10 : Hid (w.heap.size ≤ b10) := by show _ ≤ _; rw [hb10]; exact c01.size
  have R11 : Hid (Row X3 b11 LB 25) := by rw [hb11]; exact Q3.out
  have HWb11 : Hid (w.heap.size ≤ b11) := by show _ ≤ _; rw [hb11]; exact c02.size
  have Nb8b9 : Hid (b8 ≠ b9) := by show _ ≠ _; have := Q0.out.lt; rw [hb8, hb9]; omega
  have Nb8b10 : Hid (b8 ≠ b10) := by show _ ≠ _; have := Q0.out.lt; rw [hb8, hb10]; have := c11.size; omega
  have Nb8b11 : Hid (b8 ≠ b11) := by show _ ≠ _; have := Q0.out.lt; rw [hb8, hb11]; have := c12.size; omega
  have Nb9b10 : Hid (b9 ≠ b10) := by show _ ≠ _; have := Q1.out.lt; rw [hb9, hb10]; omega
  have Nb9b11 : Hid (b9 ≠ b11) := by show _ ≠ _; have := Q1.out.lt; rw [hb9, hb11]; have := c22.size; omega
  have Nb10b11 : Hid (b10 ≠ b11) := by show _ ≠ _; have := Q2.out.lt; rw [hb10, hb11]; omega
  have BX : Hid (Below w.heap.size w X3) := c03
  rw [← hb8, ← hb9, ← hb10, ← hb11]
  clear hb8 hb9 hb10 hb11 c00 c01 c02 c03 c11 c12 c13 c22 c23 c33 Q0 B0 Q1 B1 Q2 B2 Q3 B3
  replace HG : Hid (Lg w0 X3 S q f) := HG.out.be BX.out
  have HK : Hid (Kp w X3) := Kp.of_below BX.out
  clear BX
  refine Calls.mono (HAR.out X3 HG.out) ?_
  rintro e V ⟨rfl, hG, hK⟩
  replace R8 : Hid (Row V b8 (vB z) 33) := hK.row _ _ _ (by decide) R8.out
  replace R9 : Hid (Row V b9 (vB x) 33) := hK.row _ _ _ (by decide) R9.out
  replace R10 : Hid (Row V b10 (vB y) 33) := hK.row _ _ _ (by decide) R10.out
  replace R11 : Hid (Row V b11 LB 25) := hK.row _ _ _ (by decide) R11.out
  replace HG : Hid (Lg w0 V S (q + 1) f) := hG
  replace HK : Hid (Kp w V) := HK.out.trans hK
  clear hG hK HAR
  go_upto_region 2 with (first
    | (refine wpList_allocP rfl rfl ?_; intro XP q1 q2 q3; have RP1 : Hid (Row XP V.heap.size zP 58) := q1; have BP : Hid (Below V.heap.size V XP) := q2; have NE12 : Hid (XP.heap.size ≠ V.heap.size) := (by show _ ≠ _; rw [q3]; omega); clear q1 q2 q3; simp only [Act.put, List.setIfInBounds_toArray, List.set_cons_zero, List.set_cons_succ])
    | (refine wpList_allocK rfl rfl ?_; intro XK q1 q2 q3; have RK1 : Hid (Row XK XP.heap.size zK 44) := q1; have BK : Hid (Below XP.heap.size XP XK) := q2; have RP2 : Hid (Row XK V.heap.size zP 58) := Row.below RP1.out q2 RP1.out.lt; clear q1 q2 q3; simp only [Act.put, List.setIfInBounds_toArray, List.set_cons_zero, List.set_cons_succ])
    | (refine wpList_storeL rfl 58 (.tmp 13) (.tmp 22) rfl V.heap.size LP zP 58 rfl rfl RP2.out HLPN.out HLPI.out HLPO.out ?_; intro YP q1 q2; have HYP : Hid (YP = _) := q1; have RYP : Hid (Row YP V.heap.size LP 58) := q2; have RK2 : Hid (Row YP XP.heap.size zK 44) := (by rw [q1]; exact Row.setCells_other RK1.out _ _ _ NE12.out); clear q1 q2; simp only [Act.put])
    | (refine wpList_storeL rfl 44 (.tmp 14) (.tmp 23) rfl XP.heap.size LT zK 44 rfl rfl RK2.out HLTN.out HLTI.out HLTO.out ?_; intro YK q1 q2; have HYK : Hid (YK = _) := q1; have RYK : Hid (Row YK XP.heap.size LT 44) := q2; clear q1 q2; simp only [Act.put]))
  obtain ⟨p1, hp1⟩ : ∃ p, p = V.heap.size := ⟨_, rfl⟩
  obtain ⟨p2, hp2⟩ : ∃ p, p = XP.heap.size := ⟨_, rfl⟩
  have b12 : Below V.heap.size V YK := by rw [HYK.out, HYP.out]; exact below_setCells (below_setCells (BP.out.trans (BK.out.mono BP.out.size)) (Nat.le_refl _) _) BP.out.size _
  have Rp1 : Hid (Row YK p1 LP 58) := by rw [HYK.out, hp1]; exact Row.setCells_other RYP.out _ _ _ (Ne.symm NE12.out)
  have Rp2 : Hid (Row YK p2 LT 44) := by rw [hp2]; exact RYK.out
  have Np1p2 : Hid (p1 ≠ p2) := by rw [hp1, hp2]; exact Ne.symm NE12.out
  have Nb8p1 : Hid (b8 ≠ p1) := by show _ ≠ _; have := R8.out.lt; rw [hp1]; omega
  have Nb8p2 : Hid (b8 ≠ p2) := by show _ ≠ _; have := R8.out.lt; have := BP.out.size; rw [hp2]; omega
  have Nb9p1 : Hid (b9 ≠ p1) := by show _ ≠ _; have := R9.out.lt; rw [hp1]; omega
  have Nb9p2 : Hid (b9 ≠ p2) := by show _ ≠ _; have := R9.out.lt; have := BP.out.size; rw [hp2]; omega
  have Nb10p1 : Hid (b10 ≠ p1) := by show _ ≠ _; have := R10.out.lt; rw [hp1]; omega
  have Nb10p2 : Hid (b10 ≠ p2) := by show _ ≠ _; have := R10.out.lt; have := BP.out.size; rw [hp2]; omega
  have Nb11p1 : Hid (b11 ≠ p1) := by show _ ≠ _; have := R11.out.lt; rw [hp1]; omega
  have Nb11p2 : Hid (b11 ≠ p2) := by show _ ≠ _; have := R11.out.lt; have := BP.out.size; rw [hp2]; omega
  replace R8 : Hid (Row YK b8 (vB z) 33) := Row.below R8.out b12 R8.out.lt
  replace R9 : Hid (Row YK b9 (vB x) 33) := Row.below R9.out b12 R9.out.lt
  replace R10 : Hid (Row YK b10 (vB y) 33) := Row.below R10.out b12 R10.out.lt
  replace R11 : Hid (Row YK b11 LB 25) := Row.below R11.out b12 R11.out.lt
  replace HG : Hid (Lg w0 YK S (q + 1) f) := HG.out.be b12
  replace HK : Hid (Kp w YK) := HK.out.trans (Kp.of_below b12)
  rw [← hp1, ← hp2]
  clear hp1 hp2 b12 BP BK RP1 RP2 RK1 RK2 NE12 HYP RYP HYK RYK
  go_upto_region 4 with fail
  have rp := Rp1.out
  have r8 := R8.out
  have r9 := R9.out
  have r10 := R10.out
  have rb := R11.out
  have hG := HG.out
  have hK := HK.out
  have hw0 : w0.heap.size ≤ YK.heap.size := hG.bel.size
  have hwf : w.heap.size ≤ YK.heap.size := hK.size
  have hb1 := Below.refl YK.heap.size YK
  clear Rp1 Rp2 R8 R9 R10 R11 HG HK
  refine wp_named fun a0 ha0 => ?_
  have hsz : a0.tmps.size = 62 := by rw [ha0]; rfl
  have zs13 : a0.eval (.tmp 13) = .pointer (some ⟨p1, 0, none⟩) := by rw [ha0]; rfl
  have zs8 : a0.eval (.tmp 8) = .pointer (some ⟨b8, 0, none⟩) := by rw [ha0]; rfl
  have zs9 : a0.eval (.tmp 9) = .pointer (some ⟨b9, 0, none⟩) := by rw [ha0]; rfl
  have zs10 : a0.eval (.tmp 10) = .pointer (some ⟨b10, 0, none⟩) := by rw [ha0]; rfl
  have zs11 : a0.eval (.tmp 11) = .pointer (some ⟨b11, 0, none⟩) := by rw [ha0]; rfl
  have lt_rp : p1 < YK.heap.size := rp.lt
  have lt_r8 : b8 < YK.heap.size := r8.lt
  have lt_r9 : b9 < YK.heap.size := r9.lt
  have lt_r10 : b10 < YK.heap.size := r10.lt
  have lt_rb : b11 < YK.heap.size := rb.lt
  obtain ⟨D, hD⟩ : ∃ D : List (Tmp × SP), D = [(29, SP.is (.agg LP.toArray)), (30, SP.is (.agg LP.toArray)), (31, SP.is (.agg (vB x).toArray)), (32, SP.is (.agg (vB z).toArray)), (33, SP.is (.string (lKt t x z))), (34, SP.is (.agg LB.toArray)), (35, SP.is (.tuple #[.agg N0.toArray, .int .i64 0])), (28, SP.is (.tuple #[.agg N0.toArray, .int .i64 0])), (36, SP.is (.agg N0.toArray)), (37, SP.is (.int .i64 0)), (16, SP.any), (1000, SP.any), (15, SP.is (.int .i64 0))] := ⟨_, rfl⟩
  refine wp_region_then (by kernel_rfl) 6 (by decide) (by kernel_rfl) (fun listed ac W => Fp D a0 listed ac W ∧ Below YK.heap.size YK W ∧ Row W p1 LP 58 ∧ Row W b8 ((vB z)) 33 ∧ Row W b9 ((vB x)) 33 ∧ Row W b10 ((vB y)) 33 ∧ Row W b11 LB 25 ∧ Lg w0 W S (q + 1) f ∧ Kp w W ∧ (listed.getD 10 false = true → ∃ N, ac.eval (.tmp 16) = .pointer (some ⟨N, 0, none⟩) ∧ YK.heap.size ≤ N ∧ Row W N zL 65)) (fun listed ac W => Fp D a0 listed ac W ∧ YK.heap.size ≤ W.heap.size ∧ Row W p1 LP 58 ∧ Row W b8 ((vB z)) 33 ∧ Row W b9 ((vB x)) 33 ∧ Row W b10 ((vB y)) 33 ∧ Row W b11 LB 25 ∧ Lg w0 W S (q + 1 + 1) f ∧ Kp w W ∧ (listed.getD 10 false = true → ∃ N, ac.eval (.tmp 16) = .pointer (some ⟨N, 0, none⟩) ∧ YK.heap.size ≤ N ∧ Row W N (if listed.getD 11 false = true then N0 else zL) 65)) ?_ ?_ ?_ ?_ ?_
  · exact ⟨Fp.start D a0 _ _, Below.drew hb1, Row.drew rp, Row.drew r8, Row.drew r9, Row.drew r10, Row.drew rb, hG.below (Below.drew (Below.refl _ _)), hK.below (Below.drew (Below.refl _ _)), (fun h => (start_no h).elim)⟩
  · clear ha0 hb1 rp r8 r9 r10 rb hG hK
    intro listed ac W k hl hI hdn hk hne hnl
    replace hl : listed.size = 13 := hl
    obtain ⟨hF, hb1, rp, r8, r9, r10, rb, hG, hK, al10⟩ := hI
    have hk1 : k < 13 := List.mem_range.1 (List.mem_filter.1 hk).1
    rcases (show k = 0 ∨ k = 1 ∨ k = 2 ∨ k = 3 ∨ k = 4 ∨ k = 5 ∨ k = 6 ∨ k = 7 ∨ k = 8 ∨ k = 9 ∨ k = 10 ∨ k = 11 ∨ k = 12 by omega) with rfl | rfl | rfl | rfl | rfl | rfl | rfl | rfl | rfl | rfl | rfl | rfl | rfl
    · have hk3 := hk
      exact wpOp_plain rfl rfl (wp_load_mid 58 (.tmp 13) rfl p1 0 ((hF.keep 13 (by rw [hD]; rfl)).trans zs13) LP _ rp.all Tryd.underlying58 rfl HLPI.out ⟨(hF.put 0 29 (SP.is (.agg LP.toArray)) (.agg LP.toArray) (by rw [hD]; rfl) rfl (by rw [hD]; rfl) (by rw [hsz]; decide) (by rw [hl]; decide)), hb1, rp, r8, r9, r10, rb, hG, hK, (fun h => by obtain ⟨N, e, hN, r⟩ := al10 (by rwa [getD_set _ _ _ (by decide)] at h); exact ⟨N, (eval_put_other ac _ (by decide)).trans e, hN, r⟩)⟩)
    · have hk3 := hk
      exact wpOp_plain rfl rfl (wp_load_mid 58 (.tmp 13) rfl p1 0 ((hF.keep 13 (by rw [hD]; rfl)).trans zs13) LP _ rp.all Tryd.underlying58 rfl HLPI.out ⟨(hF.put 1 30 (SP.is (.agg LP.toArray)) (.agg LP.toArray) (by rw [hD]; rfl) rfl (by rw [hD]; rfl) (by rw [hsz]; decide) (by rw [hl]; decide)), hb1, rp, r8, r9, r10, rb, hG, hK, (fun h => by obtain ⟨N, e, hN, r⟩ := al10 (by rwa [getD_set _ _ _ (by decide)] at h); exact ⟨N, (eval_put_other ac _ (by decide)).trans e, hN, r⟩)⟩)
    · have hk3 := hk
      exact wpOp_plain rfl rfl (wp_load_mid 33 (.tmp 9) rfl b9 0 ((hF.keep 9 (by rw [hD]; rfl)).trans zs9) ((vB x)) _ r9.all Tryd.underlying33 rfl HIx.out ⟨(hF.put 2 31 (SP.is (.agg (vB x).toArray)) (.agg (vB x).toArray) (by rw [hD]; rfl) rfl (by rw [hD]; rfl) (by rw [hsz]; decide) (by rw [hl]; decide)), hb1, rp, r8, r9, r10, rb, hG, hK, (fun h => by obtain ⟨N, e, hN, r⟩ := al10 (by rwa [getD_set _ _ _ (by decide)] at h); exact ⟨N, (eval_put_other ac _ (by decide)).trans e, hN, r⟩)⟩)
    · have hk3 := hk
      exact wpOp_plain rfl rfl (wp_load_mid 33 (.tmp 8) rfl b8 0 ((hF.keep 8 (by rw [hD]; rfl)).trans zs8) ((vB z)) _ r8.all Tryd.underlying33 rfl HIz.out ⟨(hF.put 3 32 (SP.is (.agg (vB z).toArray)) (.agg (vB z).toArray) (by rw [hD]; rfl) rfl (by rw [hD]; rfl) (by rw [hsz]; decide) (by rw [hl]; decide)), hb1, rp, r8, r9, r10, rb, hG, hK, (fun h => by obtain ⟨N, e, hN, r⟩ := al10 (by rwa [getD_set _ _ _ (by decide)] at h); exact ⟨N, (eval_put_other ac _ (by decide)).trans e, hN, r⟩)⟩)
    · have hk3 := hk
      have ea0 := (hF.done 1 (30, SP.is (.agg LP.toArray)) (by rw [hD]; rfl) (ready_dep hk 1 (by kernel_rfl)))
      have ea1 := (hF.done 2 (31, SP.is (.agg (vB x).toArray)) (by rw [hD]; rfl) (ready_dep hk 2 (by kernel_rfl)))
      have ea2 := (hF.done 3 (32, SP.is (.agg (vB z).toArray)) (by rw [hD]; rfl) (ready_dep hk 3 (by kernel_rfl)))
      refine wpOp_plain rfl rfl (wp_fcall_v 35 #[.agg LP.toArray, .agg (vB x).toArray, .agg (vB z).toArray] rfl rfl (by show [ac.eval (.tmp 30), ac.eval (.tmp 31), ac.eval (.tmp 32)] = _; rw [show ac.eval (.tmp 30) = .agg LP.toArray from ea0, show ac.eval (.tmp 31) = .agg (vB x).toArray from ea1, show ac.eval (.tmp 32) = .agg (vB z).toArray from ea2]) (by go_simp) (((show Calls Tryd.prog 35 #[.agg LP.toArray, .agg (vB x).toArray, .agg (vB z).toArray] W _ from HKf.out W)).mono ?_))
      rintro e W2 ⟨rfl, hB⟩
      exact ⟨_, rfl, ((hF.world hB).put 4 33 (SP.is (.string (lKt t x z))) (.string (lKt t x z)) (by rw [hD]; rfl) rfl (by rw [hD]; rfl) (by rw [hsz]; decide) (by rw [hl]; decide)), hb1.trans (hB.mono hb1.size), Row.below rp hB (Row.lt rp), Row.below r8 hB (Row.lt r8), Row.below r9 hB (Row.lt r9), Row.below r10 hB (Row.lt r10), Row.below rb hB (Row.lt rb), hG.below hB, hK.below hB, (fun h => by obtain ⟨N, e, hN, r⟩ := al10 (by rwa [getD_set _ _ _ (by decide)] at h); exact ⟨N, (eval_put_other ac _ (by decide)).trans e, hN, Row.below r hB (Row.lt r)⟩)⟩
    · have hk3 := hk
      exact wpOp_plain rfl rfl (wp_load_mid 25 (.tmp 11) rfl b11 0 ((hF.keep 11 (by rw [hD]; rfl)).trans zs11) LB _ rb.all Tryd.underlying25 rfl HLBI.out ⟨(hF.put 5 34 (SP.is (.agg LB.toArray)) (.agg LB.toArray) (by rw [hD]; rfl) rfl (by rw [hD]; rfl) (by rw [hsz]; decide) (by rw [hl]; decide)), hb1, rp, r8, r9, r10, rb, hG, hK, (fun h => by obtain ⟨N, e, hN, r⟩ := al10 (by rwa [getD_set _ _ _ (by decide)] at h); exact ⟨N, (eval_put_other ac _ (by decide)).trans e, hN, r⟩)⟩)
    · exact absurd rfl hne
    · exact absurd (ready_dep hk 6 (by kernel_rfl)) hnl
    · exact absurd (hdn 7 (ready_dep hk 7 (by kernel_rfl)) 6 (by kernel_rfl)) hnl
    · exact absurd (hdn 7 (ready_dep hk 7 (by kernel_rfl)) 6 (by kernel_rfl)) hnl
    · have hk3 := hk
      have hB : Below W.heap.size W (W.alloc (Obj.cells zL.toArray 65)) := (Below.refl _ _).alloc (Nat.le_refl _) _
      exact wpOp_plain rfl rfl (wp_allocLn rfl ⟨((hF.world hB).put 10 16 (SP.any) (.pointer (some ⟨W.heap.size, 0, none⟩)) (by rw [hD]; rfl) trivial (by rw [hD]; rfl) (by rw [hsz]; decide) (by rw [hl]; decide)), hb1.trans (hB.mono hb1.size), Row.alloc rp _, Row.alloc r8 _, Row.alloc r9 _, Row.alloc r10 _, Row.alloc rb _, hG.below hB, hK.below hB, (fun _ => ⟨W.heap.size, eval_put_same ac _ (by rw [hF.size, hsz]; decide), hb1.size, Row.new' rfl rfl⟩)⟩)
    · exact absurd (hdn 7 (hdn 8 (ready_dep hk 8 (by kernel_rfl)) 7 (by kernel_rfl)) 6 (by kernel_rfl)) hnl
    · exact absurd (hdn 7 (hdn 9 (ready_dep hk 9 (by kernel_rfl)) 7 (by kernel_rfl)) 6 (by kernel_rfl)) hnl
  · clear ha0 hb1 rp r8 r9 r10 rb hG hK
    intro listed ac W hl hI hdn hk
    replace hl : listed.size = 13 := hl
    obtain ⟨hF, hb1, rp, r8, r9, r10, rb, hG, hK, al10⟩ := hI
    have eb1 := (hF.done 0 (29, SP.is (.agg LP.toArray)) (by rw [hD]; rfl) (ready_dep hk 0 (by kernel_rfl)))
    have eb2 := (hF.done 4 (33, SP.is (.string (lKt t x z))) (by rw [hD]; rfl) (ready_dep hk 4 (by kernel_rfl)))
    have eb3 := (hF.done 5 (34, SP.is (.agg LB.toArray)) (by rw [hD]; rfl) (ready_dep hk 5 (by kernel_rfl)))
    have hns11 : ¬ listed.getD 11 false = true := fun h => not_yet hk (hdn 7 (hdn 8 (hdn 11 h 8 (by kernel_rfl)) 7 (by kernel_rfl)) 6 (by kernel_rfl))
    refine wpOp_plain rfl rfl (wp_fcall_v 34 #[.agg LP.toArray, .string (lKt t x z), .agg LB.toArray, .int .i64 86] rfl rfl (by show [ac.eval (.tmp 29), ac.eval (.tmp 33), ac.eval (.tmp 34), .int .i64 86] = _; rw [show ac.eval (.tmp 29) = .agg LP.toArray from eb1, show ac.eval (.tmp 33) = .string (lKt t x z) from eb2, show ac.eval (.tmp 34) = .agg LB.toArray from eb3]) (by go_simp) ((HLE.out W hG).mono ?_))
    rintro e W2 ⟨rfl, hG2, hK2⟩
    have hT : Fp D a0 listed ac W2 := hF.turn (by rw [hD]; simp only [List.forall_mem_cons, List.not_mem_nil, false_implies, implies_true, and_true]; exact ⟨fun _ h => h, fun _ h => h, fun _ h => h, fun _ h => h, fun _ h => h, fun _ h => h, fun _ h => h, fun _ h => h, fun _ h => h, fun _ h => h, fun _ h => h, fun _ h => h, fun _ h => h⟩)
    exact ⟨_, rfl, (hT.put 6 35 (SP.is (.tuple #[.agg N0.toArray, .int .i64 0])) (_) (by rw [hD]; rfl) rfl (by rw [hD]; rfl) (by rw [hsz]; decide) (by rw [hl]; decide)), Nat.le_trans hb1.size hK2.size, hK2.row _ _ _ (by decide) rp, hK2.row _ _ _ (by decide) r8, hK2.row _ _ _ (by decide) r9, hK2.row _ _ _ (by decide) r10, hK2.row _ _ _ (by decide) rb, hG2, hK.trans hK2, (fun h => by obtain ⟨N, e, hN, r⟩ := al10 (by rwa [getD_set _ _ _ (by decide)] at h); exact ⟨N, (eval_put_other ac _ (by decide)).trans e, hN, by rw [getD_set _ _ _ (by decide), if_neg hns11]; exact hK2.row _ _ _ (by decide) r⟩)⟩
  · clear ha0 hb1 rp r8 r9 r10 rb hG hK
    intro listed ac W k hl hJ hdn hk hne hyl
    replace hl : listed.size = 13 := hl
    obtain ⟨hF, hS, rp, r8, r9, r10, rb, hG, hK, al10⟩ := hJ
    have hk1 : k < 13 := List.mem_range.1 (List.mem_filter.1 hk).1
    rcases (show k = 0 ∨ k = 1 ∨ k = 2 ∨ k = 3 ∨ k = 4 ∨ k = 5 ∨ k = 6 ∨ k = 7 ∨ k = 8 ∨ k = 9 ∨ k = 10 ∨ k = 11 ∨ k = 12 by omega) with rfl | rfl | rfl | rfl | rfl | rfl | rfl | rfl | rfl | rfl | rfl | rfl | rfl
    · exact absurd (hdn 6 hyl 0 (by kernel_rfl)) (not_yet hk)
    · exact absurd (hdn 4 (hdn 6 hyl 4 (by kernel_rfl)) 1 (by kernel_rfl)) (not_yet hk)
    · exact absurd (hdn 4 (hdn 6 hyl 4 (by kernel_rfl)) 2 (by kernel_rfl)) (not_yet hk)
    · exact absurd (hdn 4 (hdn 6 hyl 4 (by kernel_rfl)) 3 (by kernel_rfl)) (not_yet hk)
    · exact absurd (hdn 6 hyl 4 (by kernel_rfl)) (not_yet hk)
    · exact absurd (hdn 6 hyl 5 (by kernel_rfl)) (not_yet hk)
    · exact absurd rfl hne
    · have hk3 := hk
      exact wpOp_plain rfl rfl (wp_move_v (ac.eval (.tmp 35)) rfl rfl ⟨(hF.put 7 28 (SP.is (.tuple #[.agg N0.toArray, .int .i64 0])) (ac.eval (.tmp 35)) (by rw [hD]; rfl) ((hF.done 6 (35, SP.is (.tuple #[.agg N0.toArray, .int .i64 0])) (by rw [hD]; rfl) (ready_dep hk 6 (by kernel_rfl)))) (by rw [hD]; rfl) (by rw [hsz]; decide) (by rw [hl]; decide)), hS, rp, r8, r9, r10, rb, hG, hK, (fun h => by obtain ⟨N, e, hN, r⟩ := al10 (by rwa [getD_set _ _ _ (by decide)] at h); exact ⟨N, (eval_put_other ac _ (by decide)).trans e, hN, by rw [getD_set _ _ _ (by decide)]; exact r⟩)⟩)
    · have hk3 := hk
      exact wpOp_plain rfl rfl (wp_extract (.tmp 28) 0 rfl _ (hF.done 7 (28, SP.is (.tuple #[.agg N0.toArray, .int .i64 0])) (by rw [hD]; rfl) (ready_dep hk 7 (by kernel_rfl))) (.agg N0.toArray) rfl ⟨(hF.put 8 36 (SP.is (.agg N0.toArray)) (.agg N0.toArray) (by rw [hD]; rfl) rfl (by rw [hD]; rfl) (by rw [hsz]; decide) (by rw [hl]; decide)), hS, rp, r8, r9, r10, rb, hG, hK, (fun h => by obtain ⟨N, e, hN, r⟩ := al10 (by rwa [getD_set _ _ _ (by decide)] at h); exact ⟨N, (eval_put_other ac _ (by decide)).trans e, hN, by rw [getD_set _ _ _ (by decide)]; exact r⟩)⟩)
    · have hk3 := hk
      exact wpOp_plain rfl rfl (wp_extract (.tmp 28) 1 rfl _ (hF.done 7 (28, SP.is (.tuple #[.agg N0.toArray, .int .i64 0])) (by rw [hD]; rfl) (ready_dep hk 7 (by kernel_rfl))) (.int .i64 0) rfl ⟨(hF.put 9 37 (SP.is (.int .i64 0)) (.int .i64 0) (by rw [hD]; rfl) rfl (by rw [hD]; rfl) (by rw [hsz]; decide) (by rw [hl]; decide)), hS, rp, r8, r9, r10, rb, hG, hK, (fun h => by obtain ⟨N, e, hN, r⟩ := al10 (by rwa [getD_set _ _ _ (by decide)] at h); exact ⟨N, (eval_put_other ac _ (by decide)).trans e, hN, by rw [getD_set _ _ _ (by decide)]; exact r⟩)⟩)
    · have hk3 := hk
      have hB : Below W.heap.size W (W.alloc (Obj.cells zL.toArray 65)) := (Below.refl _ _).alloc (Nat.le_refl _) _
      have hns : ¬ listed.getD 11 false = true := fun h => not_yet hk (hdn 11 h 10 (by kernel_rfl))
      exact wpOp_plain rfl rfl (wp_allocLn rfl ⟨((hF.world hB).put 10 16 (SP.any) (.pointer (some ⟨W.heap.size, 0, none⟩)) (by rw [hD]; rfl) trivial (by rw [hD]; rfl) (by rw [hsz]; decide) (by rw [hl]; decide)), Nat.le_trans hS hB.size, Row.alloc rp _, Row.alloc r8 _, Row.alloc r9 _, Row.alloc r10 _, Row.alloc rb _, hG.below hB, hK.below hB, (fun _ => ⟨W.heap.size, eval_put_same ac _ (by rw [hF.size, hsz]; decide), hS, (by rw [getD_set _ _ _ (by decide), if_neg hns]; exact Row.new' rfl rfl)⟩)⟩)
    · have hk3 := hk
      obtain ⟨N, e, hN, r⟩ := al10 (ready_dep hk 10 (by kernel_rfl))
      rw [if_neg (not_yet hk)] at r
      have hT : Fp D a0 listed ac (W.setCells N 0 N0) := hF.turn (by rw [hD]; simp only [List.forall_mem_cons, List.not_mem_nil, false_implies, implies_true, and_true]; exact ⟨fun _ h => h, fun _ h => h, fun _ h => h, fun _ h => h, fun _ h => h, fun _ h => h, fun _ h => h, fun _ h => h, fun _ h => h, fun _ h => h, fun _ h => h, fun _ h => h, fun _ h => h⟩)
      exact wpOp_plain rfl rfl (wp_store_mid 65 (.tmp 16) (.tmp 36) rfl N 0 N0.toArray e (hF.done 8 (36, SP.is (.agg N0.toArray)) (by rw [hD]; rfl) (ready_dep hk 8 (by kernel_rfl))) (r.there 0 _ (by rw [List.size_toArray, HN0N.out]; decide)) HN0J.out HN0O.out ⟨(hT.skip 11 1000 (by rw [hD]; rfl) (by rw [hl]; decide)), (by rw [size_setCells]; exact hS), Row.setCells_other rp _ _ _ (by omega), Row.setCells_other r8 _ _ _ (by omega), Row.setCells_other r9 _ _ _ (by omega), Row.setCells_other r10 _ _ _ (by omega), Row.setCells_other rb _ _ _ (by omega), hG.kept r (by decide) (by decide) (by decide) (by decide) (fun k hk => heap_sets _ _ _ _ _ hk) (below_setCells hG.bel (Nat.le_trans hw0 hN) _), Kp.kept N (Nat.le_trans hwf hN) hK (fun k hk => heap_sets _ _ _ _ _ hk) (below_setCells (Below.refl 0 _) (Nat.zero_le N) _).size, (fun _ => ⟨N, e, hN, by rw [if_pos (getD_same (by rw [hl]; decide))]; exact r.over HN0N.out⟩)⟩)
    · have hk3 := hk
      exact wpOp_plain rfl rfl (wp_assign_v (ac.eval (.tmp 37)) rfl rfl ⟨(hF.put 12 15 (SP.is (.int .i64 0)) (ac.eval (.tmp 37)) (by rw [hD]; rfl) ((hF.done 9 (37, SP.is (.int .i64 0)) (by rw [hD]; rfl) (ready_dep hk 9 (by kernel_rfl)))) (by rw [hD]; rfl) (by rw [hsz]; decide) (by rw [hl]; decide)), hS, rp, r8, r9, r10, rb, hG, hK, (fun h => by obtain ⟨N, e, hN, r⟩ := al10 (by rwa [getD_set _ _ _ (by decide)] at h); exact ⟨N, (eval_put_other ac _ (by decide)).trans e, hN, by rw [getD_set _ _ _ (by decide)]; exact r⟩)⟩)
  · clear hb1 rp r8 r9 r10 rb hG hK
    intro listed ac W hl hJ hr
    replace hl : listed.size = 13 := hl
    obtain ⟨hF, hS, rp, r8, r9, r10, rb, hG, hK, al10⟩ := hJ
    have hall := all_listed (by kernel_rfl) hl hr
    obtain ⟨NL, ea16, hNL, rNL⟩ := al10 (hall 10 (by decide))
    rw [if_pos (hall 11 (by decide))] at rNL
    have h29 : ac.eval (.tmp 29) = .agg LP.toArray := hF.done 0 (29, SP.is (.agg LP.toArray)) (by rw [hD]; rfl) (hall 0 (by decide))
    have h30 : ac.eval (.tmp 30) = .agg LP.toArray := hF.done 1 (30, SP.is (.agg LP.toArray)) (by rw [hD]; rfl) (hall 1 (by decide))
    have h31 : ac.eval (.tmp 31) = .agg (vB x).toArray := hF.done 2 (31, SP.is (.agg (vB x).toArray)) (by rw [hD]; rfl) (hall 2 (by decide))
    have h32 : ac.eval (.tmp 32) = .agg (vB z).toArray := hF.done 3 (32, SP.is (.agg (vB z).toArray)) (by rw [hD]; rfl) (hall 3 (by decide))
    have h33 : ac.eval (.tmp 33) = .string (lKt t x z) := hF.done 4 (33, SP.is (.string (lKt t x z))) (by rw [hD]; rfl) (hall 4 (by decide))
    have h34 : ac.eval (.tmp 34) = .agg LB.toArray := hF.done 5 (34, SP.is (.agg LB.toArray)) (by rw [hD]; rfl) (hall 5 (by decide))
    have h35 : ac.eval (.tmp 35) = .tuple #[.agg N0.toArray, .int .i64 0] := hF.done 6 (35, SP.is (.tuple #[.agg N0.toArray, .int .i64 0])) (by rw [hD]; rfl) (hall 6 (by decide))
    have h28 : ac.eval (.tmp 28) = .tuple #[.agg N0.toArray, .int .i64 0] := hF.done 7 (28, SP.is (.tuple #[.agg N0.toArray, .int .i64 0])) (by rw [hD]; rfl) (hall 7 (by decide))
    have h36 : ac.eval (.tmp 36) = .agg N0.toArray := hF.done 8 (36, SP.is (.agg N0.toArray)) (by rw [hD]; rfl) (hall 8 (by decide))
    have h37 : ac.eval (.tmp 37) = .int .i64 0 := hF.done 9 (37, SP.is (.int .i64 0)) (by rw [hD]; rfl) (hall 9 (by decide))
    have h15 : ac.eval (.tmp 15) = .int .i64 0 := hF.done 12 (15, SP.is (.int .i64 0)) (by rw [hD]; rfl) (hall 12 (by decide))
    have ea := hF.lay [(29, .agg LP.toArray), (30, .agg LP.toArray), (31, .agg (vB x).toArray), (32, .agg (vB z).toArray), (33, .string (lKt t x z)), (34, .agg LB.toArray), (35, .tuple #[.agg N0.toArray, .int .i64 0]), (28, .tuple #[.agg N0.toArray, .int .i64 0]), (36, .agg N0.toArray), (37, .int .i64 0), (16, .pointer (some ⟨NL, 0, none⟩)), (15, .int .i64 0)] (by rw [hD, hsz]; rfl) (by simp only [List.forall_mem_cons, List.not_mem_nil, false_implies, implies_true, and_true]; exact ⟨h29, h30, h31, h32, h33, h34, h35, h28, h36, h37, ea16, h15⟩)
    rw [ha0] at ea
    simp only [List.foldl_cons, List.foldl_nil, List.setIfInBounds_toArray, List.set_cons_zero, List.set_cons_succ] at ea
    clear hF hall hr hl hD zs13 zs8 zs9 zs10 zs11 ha0 hsz h29 h30 h31 h32 h33 h34 h35 h28 h36 h37 ea16 h15 al10 lt_rp lt_r8 lt_r9 lt_r10 lt_rb
    subst ea
    obtain ⟨V2, hV⟩ : ∃ V, V = W := ⟨_, rfl⟩
    rw [← hV]
    rw [← hV] at hG hK rp r8 r9 r10 rb rNL
    have HK : Hid (Kp w V2) := hK
    have Rp1 : Hid (Row V2 p1 LP 58) := rp
    have R11 : Hid (Row V2 b11 LB 25) := rb
    have RN : Hid (Row V2 NL N0 65) := rNL
    have S13 : Hid (V2.rangeAt p1 0 LP) := rp.all
    have S9 : Hid (V2.rangeAt b9 0 (vB x)) := r9.all
    have S10 : Hid (V2.rangeAt b10 0 (vB y)) := r10.all
    have S11 : Hid (V2.rangeAt b11 0 LB) := rb.all
    have HM : Hid _ := HMV.out V2 hG
    clear hV hG hK rp r8 r9 r10 rb rNL hS hNL hw0 hwf HMV
    go_wp2_with (first
      | (refine wpList_load_w rfl 58 (.tmp 13) rfl p1 0 rfl LP _ S13.out Tryd.underlying58 rfl HLPI.out ?_; simp only [Act.put, List.setIfInBounds_toArray, List.set_cons_zero, List.set_cons_succ])
      | (refine wpList_load_w rfl 33 (.tmp 9) rfl b9 0 rfl (vB x) _ S9.out Tryd.underlying33 rfl HIx.out ?_; simp only [Act.put, List.setIfInBounds_toArray, List.set_cons_zero, List.set_cons_succ])
      | (refine wpList_load_w rfl 33 (.tmp 10) rfl b10 0 rfl (vB y) _ S10.out Tryd.underlying33 rfl HIy.out ?_; simp only [Act.put, List.setIfInBounds_toArray, List.set_cons_zero, List.set_cons_succ])
      | (refine wpList_load_w rfl 25 (.tmp 11) rfl b11 0 rfl LB _ S11.out Tryd.underlying25 rfl HLBI.out ?_; simp only [Act.put, List.setIfInBounds_toArray, List.set_cons_zero, List.set_cons_succ]))
    refine Calls.mono HM.out ?_
    rintro e V3 ⟨rfl, hG, hK⟩
    have HG : Hid (Lg w0 V3 S (q + 1 + 1 + 1) f) := hG
    replace HK : Hid (Kp w V3) := HK.out.trans hK
    replace Rp1 : Hid (Row V3 p1 LP 58) := hK.row _ _ _ (by decide) Rp1.out
    replace RN : Hid (Row V3 NL N0 65) := hK.row _ _ _ (by decide) RN.out
    replace S11 : Hid (V3.rangeAt b11 0 LB) := (hK.row _ _ _ (by decide) R11.out).all
    clear hG hK HM S13 S9 S10 R11
    go_wp2_with (refine wpList_load_w rfl 25 (.tmp 11) rfl b11 0 rfl LB _ S11.out Tryd.underlying25 rfl HLBI.out ?_; simp only [Act.put, List.setIfInBounds_toArray, List.set_cons_zero, List.set_cons_succ])
    refine Calls.mono (HZ.out V3) ?_
    rintro e V4 ⟨rfl, hB⟩
    replace HG : Hid (Lg w0 V4 S (q + 1 + 1 + 1) f) := HG.out.be hB
    replace HK : Hid (Kp w V4) := HK.out.trans (Kp.of_below hB)
    replace Rp1 : Hid (Row V4 p1 LP 58) := Row.below Rp1.out hB Rp1.out.lt
    replace RN : Hid (Row V4 NL N0 65) := Row.below RN.out hB RN.out.lt
    clear hB S11 HZ
    go_upto_region 10 with fail
    have rp := Rp1.out
    have rn := RN.out
    have hG := HG.out
    have hK := HK.out
    have hb1 := Below.refl V4.heap.size V4
    clear Rp1 RN HG HK 
    refine wp_named fun a0 ha0 => ?_
    have hsz : a0.tmps.size = 62 := by rw [ha0]; rfl
    have zs13 : a0.eval (.tmp 13) = .pointer (some ⟨p1, 0, none⟩) := by rw [ha0]; rfl
    have zs16 : a0.eval (.tmp 16) = .pointer (some ⟨NL, 0, none⟩) := by rw [ha0]; rfl
    have zs17 : a0.eval (.tmp 17) = .slice none 0 0 := by rw [ha0]; rfl
    obtain ⟨D, hD⟩ : ∃ D : List (Tmp × SP), D = [(56, SP.is (.agg LP.toArray)), (57, SP.is (.agg N0.toArray)), (58, SP.any), (59, SP.is (.slice none 0 0)), (60, SP.any), (61, SP.is (.int .i64 0)), (12, SP.is (.int .i64 0))] := ⟨_, rfl⟩
    refine wp_region_then (by kernel_rfl) 5 (by decide) (by kernel_rfl) (fun listed ac W => Fp D a0 listed ac W ∧ Below V4.heap.size V4 W ∧ Row W p1 LP 58 ∧ Row W NL N0 65 ∧ Lg w0 W S (q + 1 + 1 + 1) f ∧ Kp w W ∧ (listed.getD 2 false = true → (SP.new 1 1 N0 65).P W (ac.eval (.tmp 58))) ∧ (listed.getD 4 false = true → (SP.lns 1 5 (N0 ++ [])).P W (ac.eval (.tmp 60)))) (fun listed ac W => Fp D a0 listed ac W ∧ Lg w0 W S (q + 1 + 1 + 1 + 1) f1 ∧ Kp w W) ?_ ?_ ?_ ?_ ?_
    · exact ⟨Fp.start D a0 _ _, Below.drew hb1, Row.drew rp, Row.drew rn, hG.below (Below.drew (Below.refl _ _)), hK.below (Below.drew (Below.refl _ _)), (fun h => (start_no h).elim), (fun h => (start_no h).elim)⟩
    · clear ha0 hb1 rp rn hG hK
      intro listed ac W k hl hI hdn hk hne hnl
      replace hl : listed.size = 7 := hl
      obtain ⟨hF, hb1, rp, rn, hG, hK, ti2, ti4⟩ := hI
      have hk1 : k < 7 := List.mem_range.1 (List.mem_filter.1 hk).1
      rcases (show k = 0 ∨ k = 1 ∨ k = 2 ∨ k = 3 ∨ k = 4 ∨ k = 5 ∨ k = 6 by omega) with rfl | rfl | rfl | rfl | rfl | rfl | rfl
      · have hk3 := hk
        exact wpOp_plain rfl rfl (wp_load_mid 58 (.tmp 13) rfl p1 0 ((hF.keep 13 (by rw [hD]; rfl)).trans zs13) LP _ rp.all Tryd.underlying58 rfl HLPI.out ⟨(hF.put 0 56 (SP.is (.agg LP.toArray)) (.agg LP.toArray) (by rw [hD]; rfl) rfl (by rw [hD]; rfl) (by rw [hsz]; decide) (by rw [hl]; decide)), hb1, rp, rn, hG, hK, (fun h1 => by change (SP.new 1 1 N0 65).P _ ((ac.put (some 56) _).eval (.tmp 58)); rw [eval_put_other ac _ (by decide)]; exact ti2 (by rwa [getD_set _ _ _ (by decide)] at h1)), (fun h1 => by change (SP.lns 1 5 (N0 ++ [])).P _ ((ac.put (some 56) _).eval (.tmp 60)); rw [eval_put_other ac _ (by decide)]; exact ti4 (by rwa [getD_set _ _ _ (by decide)] at h1))⟩)
      · have hk3 := hk
        exact wpOp_plain rfl rfl (wp_load_mid 65 (.tmp 16) rfl NL 0 ((hF.keep 16 (by rw [hD]; rfl)).trans zs16) N0 _ rn.all Tryd.underlying65 rfl HN0I.out ⟨(hF.put 1 57 (SP.is (.agg N0.toArray)) (.agg N0.toArray) (by rw [hD]; rfl) rfl (by rw [hD]; rfl) (by rw [hsz]; decide) (by rw [hl]; decide)), hb1, rp, rn, hG, hK, (fun h1 => by change (SP.new 1 1 N0 65).P _ ((ac.put (some 57) _).eval (.tmp 58)); rw [eval_put_other ac _ (by decide)]; exact ti2 (by rwa [getD_set _ _ _ (by decide)] at h1)), (fun h1 => by change (SP.lns 1 5 (N0 ++ [])).P _ ((ac.put (some 57) _).eval (.tmp 60)); rw [eval_put_other ac _ (by decide)]; exact ti4 (by rwa [getD_set _ _ _ (by decide)] at h1))⟩)
      · have hk3 := hk
        have e57 := (hF.done 1 (57, SP.is (.agg N0.toArray)) (by rw [hD]; rfl) (ready_dep hk 1 (by kernel_rfl)))
        refine wpOp_plain rfl rfl (wp_buildL1 (.tmp 57) rfl N0 HN0N.out e57 ?_)
        intro W2 hR hB
        exact ⟨((hF.world hB).put 2 58 (SP.any) (.slice (some ⟨W.heap.size, 0, none⟩) 1 1) (by rw [hD]; rfl) trivial (by rw [hD]; rfl) (by rw [hsz]; decide) (by rw [hl]; decide)), hb1.trans (hB.mono hb1.size), Row.below rp hB (Row.lt rp), Row.below rn hB (Row.lt rn), hG.below hB, hK.below hB, (fun _ => by change (SP.new 1 1 N0 65).P _ ((ac.put (some 58) _).eval (.tmp 58)); rw [eval_put_same ac _ (by rw [hF.size, hsz]; decide)]; exact ⟨W.heap.size, rfl, hR⟩), (fun h1 => by change (SP.lns 1 5 (N0 ++ [])).P _ ((ac.put (some 58) _).eval (.tmp 60)); rw [eval_put_other ac _ (by decide)]; exact (SP.lns 1 5 (N0 ++ [])).st _ _ _ hB (ti4 (by rwa [getD_set _ _ _ (by decide)] at h1)))⟩
      · have hk3 := hk
        exact wpOp_plain rfl rfl (wp_move_v (ac.eval (.tmp 17)) rfl rfl ⟨(hF.put 3 59 (SP.is (.slice none 0 0)) (ac.eval (.tmp 17)) (by rw [hD]; rfl) (((hF.keep 17 (by rw [hD]; rfl)).trans zs17)) (by rw [hD]; rfl) (by rw [hsz]; decide) (by rw [hl]; decide)), hb1, rp, rn, hG, hK, (fun h1 => by change (SP.new 1 1 N0 65).P _ ((ac.put (some 59) _).eval (.tmp 58)); rw [eval_put_other ac _ (by decide)]; exact ti2 (by rwa [getD_set _ _ _ (by decide)] at h1)), (fun h1 => by change (SP.lns 1 5 (N0 ++ [])).P _ ((ac.put (some 59) _).eval (.tmp 60)); rw [eval_put_other ac _ (by decide)]; exact ti4 (by rwa [getD_set _ _ _ (by decide)] at h1))⟩)
      · have hk3 := hk
        obtain ⟨g1, e58, q58⟩ := (ti2 (ready_dep hk 2 (by kernel_rfl)))
        have e59 := (hF.done 3 (59, SP.is (.slice none 0 0)) (by rw [hD]; rfl) (ready_dep hk 3 (by kernel_rfl)))
        refine wpOp_plain rfl rfl (wp_appL0 (.tmp 58) (.tmp 59) rfl g1 N0 e58 q58 e59 ?_)
        intro W2 hR hB
        exact ⟨((hF.world hB).put 4 60 (SP.any) (.slice (some ⟨g1, 0, none⟩) 1 1) (by rw [hD]; rfl) trivial (by rw [hD]; rfl) (by rw [hsz]; decide) (by rw [hl]; decide)), hb1.trans (hB.mono hb1.size), Row.below rp hB (Row.lt rp), Row.below rn hB (Row.lt rn), hG.below hB, hK.below hB, (fun h1 => by change (SP.new 1 1 N0 65).P _ ((ac.put (some 60) _).eval (.tmp 58)); rw [eval_put_other ac _ (by decide)]; exact (SP.new 1 1 N0 65).st _ _ _ hB (ti2 (by rwa [getD_set _ _ _ (by decide)] at h1))), (fun _ => by change (SP.lns 1 5 (N0 ++ [])).P _ ((ac.put (some 60) _).eval (.tmp 60)); rw [eval_put_same ac _ (by rw [hF.size, hsz]; decide)]; exact ⟨g1, 1, N0, rfl, HCN.out, hR⟩)⟩
      · exact absurd rfl hne
      · exact absurd (ready_dep hk 5 (by kernel_rfl)) hnl
    · clear ha0 hb1 rp rn hG hK
      intro listed ac W hl hI hdn hk
      replace hl : listed.size = 7 := hl
      obtain ⟨hF, hb1, rp, rn, hG, hK, ti2, ti4⟩ := hI
      have e56 := (hF.done 0 (56, SP.is (.agg LP.toArray)) (by rw [hD]; rfl) (ready_dep hk 0 (by kernel_rfl)))
      obtain ⟨g2, cap, CU, e60, hC, hR⟩ := (ti4 (ready_dep hk 4 (by kernel_rfl)))
      refine wpOp_plain rfl rfl (wp_fcall_v 29 #[.agg LP.toArray, .slice (some ⟨g2, 0, none⟩) 1 cap] rfl rfl (by show [ac.eval (.tmp 56), ac.eval (.tmp 60)] = _; rw [show ac.eval (.tmp 56) = .agg LP.toArray from e56, show ac.eval (.tmp 60) = .slice (some ⟨g2, 0, none⟩) 1 cap from e60]) (by go_simp) ((HLL.out g2 cap CU W hC hR hG).mono ?_))
      rintro e W2 ⟨rfl, hG2, hK2⟩
      have hT : Fp D a0 listed ac W2 := hF.turn (by rw [hD]; simp only [List.forall_mem_cons, List.not_mem_nil, false_implies, implies_true, and_true]; exact ⟨fun _ h => h, fun _ h => h, fun _ h => h, fun _ h => h, fun _ h => h, fun _ h => h, fun _ h => h⟩)
      exact ⟨_, rfl, (hT.put 5 61 (SP.is (.int .i64 0)) _ (by rw [hD]; rfl) rfl (by rw [hD]; rfl) (by rw [hsz]; decide) (by rw [hl]; decide)), hG2, hK.trans hK2⟩
    · clear ha0 hb1 rp rn hG hK
      intro listed ac W k hl hJ hdn hk hne hyl
      replace hl : listed.size = 7 := hl
      obtain ⟨hF, hG, hK⟩ := hJ
      have hk1 : k < 7 := List.mem_range.1 (List.mem_filter.1 hk).1
      rcases (show k = 0 ∨ k = 1 ∨ k = 2 ∨ k = 3 ∨ k = 4 ∨ k = 5 ∨ k = 6 by omega) with rfl | rfl | rfl | rfl | rfl | rfl | rfl
      · exact absurd (hdn 5 hyl 0 (by kernel_rfl)) (not_yet hk)
      · exact absurd (hdn 2 (hdn 4 (hdn 5 hyl 4 (by kernel_rfl)) 2 (by kernel_rfl)) 1 (by kernel_rfl)) (not_yet hk)
      · exact absurd (hdn 4 (hdn 5 hyl 4 (by kernel_rfl)) 2 (by kernel_rfl)) (not_yet hk)
      · exact absurd (hdn 4 (hdn 5 hyl 4 (by kernel_rfl)) 3 (by kernel_rfl)) (not_yet hk)
      · exact absurd (hdn 5 hyl 4 (by kernel_rfl)) (not_yet hk)
      · exact absurd rfl hne
      · exact wpOp_plain rfl rfl (wp_assign_v (ac.eval (.tmp 61)) rfl rfl ⟨(hF.put 6 12 (SP.is (.int .i64 0)) _ (by rw [hD]; rfl) (hF.done 5 (61, SP.is (.int .i64 0)) (by rw [hD]; rfl) (ready_dep hk 5 (by kernel_rfl))) (by rw [hD]; rfl) (by rw [hsz]; decide) (by rw [hl]; decide)), hG, hK⟩)
    · clear hb1 rp rn hG hK
      intro listed ac W hl hJ hr
      replace hl : listed.size = 7 := hl
      obtain ⟨hF, hG, hK⟩ := hJ
      have hall := all_listed (by kernel_rfl) hl hr
      have h56 : ac.eval (.tmp 56) = .agg LP.toArray := hF.done 0 (56, SP.is (.agg LP.toArray)) (by rw [hD]; rfl) (hall 0 (by decide))
      have h57 : ac.eval (.tmp 57) = .agg N0.toArray := hF.done 1 (57, SP.is (.agg N0.toArray)) (by rw [hD]; rfl) (hall 1 (by decide))
      obtain ⟨x58, h58⟩ : ∃ x, ac.eval (.tmp 58) = x := ⟨_, rfl⟩
      have h59 : ac.eval (.tmp 59) = .slice none 0 0 := hF.done 3 (59, SP.is (.slice none 0 0)) (by rw [hD]; rfl) (hall 3 (by decide))
      obtain ⟨x60, h60⟩ : ∃ x, ac.eval (.tmp 60) = x := ⟨_, rfl⟩
      have h61 : ac.eval (.tmp 61) = .int .i64 0 := hF.done 5 (61, SP.is (.int .i64 0)) (by rw [hD]; rfl) (hall 5 (by decide))
      have h12 : ac.eval (.tmp 12) = .int .i64 0 := hF.done 6 (12, SP.is (.int .i64 0)) (by rw [hD]; rfl) (hall 6 (by decide))
      have ea := hF.lay [(56, .agg LP.toArray), (57, .agg N0.toArray), (58, x58), (59, .slice none 0 0), (60, x60), (61, .int .i64 0), (12, .int .i64 0)] (by rw [hD, hsz]; rfl) (by simp only [List.forall_mem_cons, List.not_mem_nil, false_implies, implies_true, and_true]; exact ⟨h56, h57, h58, h59, h60, h61, h12⟩)
      rw [ha0] at ea
      simp only [List.foldl_cons, List.foldl_nil, List.setIfInBounds_toArray, List.set_cons_zero, List.set_cons_succ] at ea
      clear hF hall hr hl hD zs13 zs16 zs17 ha0 hsz h56 h57 h58 h59 h60 h61 h12
      subst ea
      have HG : Hid (Lg w0 W S (q + 1 + 1 + 1 + 1) f1) := hG
      have HK : Hid (Kp w W) := hK
      clear hG hK
      go_wp2_with fail
      go_ret
      exact ⟨rfl, HG.out, HK.out⟩
set_option maxRecDepth 100000 in
set_option maxHeartbeats 4000000 in
theorem pullG (w0 : World) (S q : Nat) (f : ByteArray → List (BitVec 8)) (hq : q < 999960) (n : Nat) (hn : n < 2 ^ 256) (t : Nat) (ht : t < 64) (z x y : List (BitVec 8)) (hz : z.length = 20) (hx : x.length = 20) (hy : y.length = 20) (b l : Nat) (hb : b < 2 ^ 256) (hl : l < 2 ^ 256) (hf : f (tKt t) = 1#8 :: wB n) (hlf : f (lKt t x z) = enc l) (f1 f2 f3 : ByteArray → List (BitVec 8)) (hlb : b ≤ l) (hb0 : b ≠ 0) (hft : x ≠ y) (a : Nat) (ha : a < 2 ^ 256) (hab : b ≤ a) (haf : f (bKt t x) = enc a) (d : Nat) (hd : d < 2 ^ 256) (hdb : d + b < 2 ^ 256) (hdf : f (bKt t y) = enc d) (hf1 : f1 = upd f (lKt t x z) (enc (l - b))) (hf2 : f2 = upd f1 (bKt t x) (enc (a - b))) (hf3 : f3 = upd f2 (bKt t y) (enc (d + b))) (LB : List Value) (hLB : LB = wq b) (w : World) (h : Lg w0 w S q f) :
    Calls Tryd.prog 12 #[.pointer (some ⟨S, 0, none⟩), .int .i64 (t : Int), .agg (vB z).toArray, .agg (vB x).toArray, .agg (vB y).toArray, .agg LB.toArray] w fun e w' => e = .returned (.int .i64 0) ∧ Lg w0 w' S (q + 1 + 1 + 1 + 1 + 3) f3 ∧ Kp w w' := by
  obtain ⟨LP, hLP⟩ : ∃ L : List Value, L = pgl S t := ⟨_, rfl⟩
  obtain ⟨LT, hLT⟩ : ∃ L : List Value, L = tkl true false n := ⟨_, rfl⟩
  have HLPE : Hid (LP = pgl S t) := hLP
  have HLPI : Hid ((Tryd.prog.info? 58).map (·.size) = some LP.length) := by show _ = _; rw [hLP]; exact info_pgl S t
  have HLPJ : Hid ((Tryd.prog.info? 58).map (·.size) = some LP.toArray.size) := by show _ = _; rw [List.size_toArray, hLP]; exact info_pgl S t
  have HLPN : Hid (LP.length = zP.length) := by show _ = _; rw [hLP]; exact rfl
  have HLPO : Hid (LP.toArray.all (·.oneCell') = true) := by show _ = true; rw [hLP]; exact pgl_one S t
  have HLTE : Hid (LT = tkl true false n) := hLT
  have HLTI : Hid ((Tryd.prog.info? 44).map (·.size) = some LT.length) := by show _ = _; rw [hLT]; exact info_tkl _ _ _
  have HLTJ : Hid ((Tryd.prog.info? 44).map (·.size) = some LT.toArray.size) := by show _ = _; rw [List.size_toArray, hLT]; exact info_tkl _ _ _
  have HLTN : Hid (LT.length = zK.length) := by show _ = _; rw [hLT]; exact tkl_len _ _ _
  have HLTO : Hid (LT.toArray.all (·.oneCell') = true) := by show _ = true; rw [hLT]; exact tkl_one _ _ _
  have HLBE : Hid (LB = wq b) := hLB
  have HLBI : Hid ((Tryd.prog.info? 25).map (·.size) = some LB.length) := by show _ = _; rw [hLB]; exact info_wq _
  have HLBJ : Hid ((Tryd.prog.info? 25).map (·.size) = some LB.toArray.size) := by show _ = _; rw [List.size_toArray, hLB]; exact info_wq _
  have HLBN : Hid (LB.length = zW.length) := by show _ = _; rw [hLB]; exact wq_len _
  have HLBO : Hid (LB.toArray.all (·.oneCell') = true) := by show _ = true; rw [hLB]; exact wq_one _
  obtain ⟨N0, hN0⟩ : ∃ L : List Value, L = lnl (lKt t x z) (l - b) := ⟨_, rfl⟩
  have HN0E : Hid (N0 = lnl (lKt t x z) (l - b)) := hN0
  have HN0I : Hid ((Tryd.prog.info? 65).map (·.size) = some N0.length) := by show _ = _; rw [hN0]; exact info_lnl _ _
  have HN0J : Hid ((Tryd.prog.info? 65).map (·.size) = some N0.toArray.size) := by show _ = _; rw [List.size_toArray, hN0]; exact info_lnl _ _
  have HN0N : Hid (N0.length = zL.length) := by show _ = _; rw [hN0]; exact lnl_len _ _
  have HN0O : Hid (N0.toArray.all (·.oneCell') = true) := by show _ = true; rw [hN0]; exact lnl_one _ _
  have HLE : Hid (∀ W, Lg w0 W S (q + 1) f → Calls Tryd.prog 34 #[.agg LP.toArray, .string (lKt t x z), .agg LB.toArray, .int .i64 86] W fun e w' => e = .returned (.tuple #[.agg N0.toArray, .int .i64 0]) ∧ Lg w0 w' S (q + 1 + 1) f ∧ Kp W w') := fun W hW => les w0 S (q + 1) f (by omega) t (lKt t x z) (lKt_key t hx hz) l b hl hb hlb hlf LP LB hLP hLB N0 hN0 86 W hW
  have HKf : Hid (∀ W, Calls Tryd.prog 35 #[.agg LP.toArray, .agg (vB x).toArray, .agg (vB z).toArray] W fun e w' => e = .returned (.string (lKt t x z)) ∧ Below W.heap.size W w') := fun W => akeyG S t ht x z hx hz LP hLP W
  have HAR : Hid (∀ W, Lg w0 W S q f → _) := fun W hW => askRG w0 S q f (by omega) t ht n hn hf LP LT hLP hLT W hW
  obtain ⟨N1, hN1⟩ : ∃ L : List Value, L = lnl (bKt t x) (a - b) := ⟨_, rfl⟩
  obtain ⟨N2, hN2⟩ : ∃ L : List Value, L = lnl (bKt t y) (d + b) := ⟨_, rfl⟩
  have HMV : Hid (∀ W, Lg w0 W S (q + 1 + 1) f → _) := fun W hW => mvG w0 S (q + 1 + 1) f (by omega) t ht x y hx hy a b ha hb haf hab hb0 hft d hd hdb hdf LP LB hLP hLB N1 N2 hN1 hN2 W hW
  have HM10 : Hid ((N1 ++ N2).length = 10) := by show _ = _; rw [List.length_append, hN1, hN2, lnl_len, lnl_len]
  have HLL : Hid (∀ g cap CU W, CU.take 15 = N0 ++ (N1 ++ N2) → Row W g CU 65 → Lg w0 W S (q + 1 + 1 + 1 + 1) f → Calls Tryd.prog 29 #[.agg LP.toArray, .slice (some ⟨g, 0, none⟩) 3 cap] W fun e w' => e = .returned (.int .i64 0) ∧ Lg w0 w' S (q + 1 + 1 + 1 + 1 + 3) f3 ∧ Kp W w') := fun g cap CU W hC hR hW => layLG3 w0 S (q + 1 + 1 + 1 + 1) f f1 f2 f3 (by omega) t (lKt t x z) (lKt_key t hx hz) (l - b) (Nat.lt_of_le_of_lt (Nat.sub_le _ _) hl) N0 hN0 (bKt t x) (bKt_key t hx) (a - b) (Nat.lt_of_le_of_lt (Nat.sub_le _ _) ha) N1 hN1 (bKt t y) (bKt_key t hy) (d + b) hdb N2 hN2 hf1 hf2 hf3 g cap CU (by rw [List.append_nil]; exact hC) LP hLP W hR hW
  have HZ : Hid (∀ W, Calls Tryd.prog 36 #[.agg LB.toArray] W fun e w' => e = .returned (.bool false) ∧ Below W.heap.size W w') := fun W => by rw [hLB]; exact zeroG W b hb _ (decide_eq_false hb0)
  have HIx : Hid ((Tryd.prog.info? 33).map (·.size) = some (vB x).length) := info_adr hx
  have HIy : Hid ((Tryd.prog.info? 33).map (·.size) = some (vB y).length) := info_adr hy
  have HIz : Hid ((Tryd.prog.info? 33).map (·.size) = some (vB z).length) := info_adr hz
  have HG : Hid (Lg w0 w S q f) := h
  clear hLP hLT hLB hN0 hx hy hz hq hn hf ht hb hl hlf hlb hb0 hft ha hab haf hd hdb hdf hf1 hf2 hf3 hN1 hN2 h
  go_enter Tryd.func12, Tryd.ntmps12
  go_wp2_with (first
    | (refine wpList_boxG 33 rfl (.tmp 2) rfl (vB z) rfl ?_; intro X0 q1 q2 q3; have Q0 : Hid (Row X0 _ (vB z) 33) := q1; have B0 : Hid (Below _ _ X0) := q2; clear q1 q2 q3; simp only [Act.put, List.setIfInBounds_toArray, List.set_cons_zero, List.set_cons_succ])
    | (refine wpList_boxG 33 rfl (.tmp 3) rfl (vB x) rfl ?_; intro X1 q1 q2 q3; have Q1 : Hid (Row X1 _ (vB x) 33) := q1; have B1 : Hid (Below _ _ X1) := q2; clear q1 q2 q3; simp only [Act.put, List.setIfInBounds_toArray, List.set_cons_zero, List.set_cons_succ])
    | (refine wpList_boxG 33 rfl (.tmp 4) rfl (vB y) rfl ?_; intro X2 q1 q2 q3; have Q2 : Hid (Row X2 _ (vB y) 33) := q1; have B2 : Hid (Below _ _ X2) := q2; clear q1 q2 q3; simp only [Act.put, List.setIfInBounds_toArray, List.set_cons_zero, List.set_cons_succ])
    | (refine wpList_boxG 25 rfl (.tmp 5) rfl LB rfl ?_; intro X3 q1 q2 q3; have Q3 : Hid (Row X3 _ LB 25) := q1; have B3 : Hid (Below _ _ X3) := q2; clear q1 q2 q3; simp only [Act.put, List.setIfInBounds_toArray, List.set_cons_zero, List.set_cons_succ]))
  obtain ⟨b8, hb8⟩ : ∃ b, b = w.heap.size := ⟨_, rfl⟩
  obtain ⟨b9, hb9⟩ : ∃ b, b = X0.heap.size := ⟨_, rfl⟩
  obtain ⟨b10, hb10⟩ : ∃ b, b = X1.heap.size := ⟨_, rfl⟩
  obtain ⟨b11, hb11⟩ : ∃ b, b = X2.heap.size := ⟨_, rfl⟩
  have c00 := B0.out
  have c01 := c00.trans (B1.out.mono c00.size)
  have c02 := c01.trans (B2.out.mono c01.size)
  have c03 := c02.trans (B3.out.mono c02.size)
  have c11 := B1.out
  have c12 := c11.trans (B2.out.mono c11.size)
  have c13 := c12.trans (B3.out.mono c12.size)
  have c22 := B2.out
  have c23 := c22.trans (B3.out.mono c22.size)
  have c33 := B3.out
  have R8 : Hid (Row X3 b8 (vB z) 33) := by rw [hb8]; exact Row.below Q0.out c13 Q0.out.lt
  have HWb8 : Hid (w.heap.size ≤ b8) := by show _ ≤ _; rw [hb8]; exact Nat.le_refl _
  have R9 : Hid (Row X3 b9 (vB x) 33) := by rw [hb9]; exact Row.below Q1.out c23 Q1.out.lt
  have HWb9 : Hid (w.heap.size ≤ b9) := by show _ ≤ _; rw [hb9]; exact c00.size
  have R10 : Hid (Row X3 b10 (vB y) 33) := by rw [hb10]; exact Row.below Q2.out c33 Q2.out.lt
  have HWb10 : Hid (w.heap.size ≤ b10) := by show _ ≤ _; rw [hb10]; exact c01.size
  have R11 : Hid (Row X3 b11 LB 25) := by rw [hb11]; exact Q3.out
  have HWb11 : Hid (w.heap.size ≤ b11) := by show _ ≤ _; rw [hb11]; exact c02.size
  have Nb8b9 : Hid (b8 ≠ b9) := by show _ ≠ _; have := Q0.out.lt; rw [hb8, hb9]; omega
  have Nb8b10 : Hid (b8 ≠ b10) := by show _ ≠ _; have := Q0.out.lt; rw [hb8, hb10]; have := c11.size; omega
  have Nb8b11 : Hid (b8 ≠ b11) := by show _ ≠ _; have := Q0.out.lt; rw [hb8, hb11]; have := c12.size; omega
  have Nb9b10 : Hid (b9 ≠ b10) := by show _ ≠ _; have := Q1.out.lt; rw [hb9, hb10]; omega
  have Nb9b11 : Hid (b9 ≠ b11) := by show _ ≠ _; have := Q1.out.lt; rw [hb9, hb11]; have := c22.size; omega
  have Nb10b11 : Hid (b10 ≠ b11) := by show _ ≠ _; have := Q2.out.lt; rw [hb10, hb11]; omega
  have BX : Hid (Below w.heap.size w X3) := c03
  rw [← hb8, ← hb9, ← hb10, ← hb11]
  clear hb8 hb9 hb10 hb11 c00 c01 c02 c03 c11 c12 c13 c22 c23 c33 Q0 B0 Q1 B1 Q2 B2 Q3 B3
  replace HG : Hid (Lg w0 X3 S q f) := HG.out.be BX.out
  have HK : Hid (Kp w X3) := Kp.of_below BX.out
  clear BX
  refine Calls.mono (HAR.out X3 HG.out) ?_
  rintro e V ⟨rfl, hG, hK⟩
  replace R8 : Hid (Row V b8 (vB z) 33) := hK.row _ _ _ (by decide) R8.out
  replace R9 : Hid (Row V b9 (vB x) 33) := hK.row _ _ _ (by decide) R9.out
  replace R10 : Hid (Row V b10 (vB y) 33) := hK.row _ _ _ (by decide) R10.out
  replace R11 : Hid (Row V b11 LB 25) := hK.row _ _ _ (by decide) R11.out
  replace HG : Hid (Lg w0 V S (q + 1) f) := hG
  replace HK : Hid (Kp w V) := HK.out.trans hK
  clear hG hK HAR
  go_upto_region 2 with (first
    | (refine wpList_allocP rfl rfl ?_; intro XP q1 q2 q3; have RP1 : Hid (Row XP V.heap.size zP 58) := q1; have BP : Hid (Below V.heap.size V XP) := q2; have NE12 : Hid (XP.heap.size ≠ V.heap.size) := (by show _ ≠ _; rw [q3]; omega); clear q1 q2 q3; simp only [Act.put, List.setIfInBounds_toArray, List.set_cons_zero, List.set_cons_succ])
    | (refine wpList_allocK rfl rfl ?_; intro XK q1 q2 q3; have RK1 : Hid (Row XK XP.heap.size zK 44) := q1; have BK : Hid (Below XP.heap.size XP XK) := q2; have RP2 : Hid (Row XK V.heap.size zP 58) := Row.below RP1.out q2 RP1.out.lt; clear q1 q2 q3; simp only [Act.put, List.setIfInBounds_toArray, List.set_cons_zero, List.set_cons_succ])
    | (refine wpList_storeL rfl 58 (.tmp 13) (.tmp 22) rfl V.heap.size LP zP 58 rfl rfl RP2.out HLPN.out HLPI.out HLPO.out ?_; intro YP q1 q2; have HYP : Hid (YP = _) := q1; have RYP : Hid (Row YP V.heap.size LP 58) := q2; have RK2 : Hid (Row YP XP.heap.size zK 44) := (by rw [q1]; exact Row.setCells_other RK1.out _ _ _ NE12.out); clear q1 q2; simp only [Act.put])
    | (refine wpList_storeL rfl 44 (.tmp 14) (.tmp 23) rfl XP.heap.size LT zK 44 rfl rfl RK2.out HLTN.out HLTI.out HLTO.out ?_; intro YK q1 q2; have HYK : Hid (YK = _) := q1; have RYK : Hid (Row YK XP.heap.size LT 44) := q2; clear q1 q2; simp only [Act.put]))
  obtain ⟨p1, hp1⟩ : ∃ p, p = V.heap.size := ⟨_, rfl⟩
  obtain ⟨p2, hp2⟩ : ∃ p, p = XP.heap.size := ⟨_, rfl⟩
  have b12 : Below V.heap.size V YK := by rw [HYK.out, HYP.out]; exact below_setCells (below_setCells (BP.out.trans (BK.out.mono BP.out.size)) (Nat.le_refl _) _) BP.out.size _
  have Rp1 : Hid (Row YK p1 LP 58) := by rw [HYK.out, hp1]; exact Row.setCells_other RYP.out _ _ _ (Ne.symm NE12.out)
  have Rp2 : Hid (Row YK p2 LT 44) := by rw [hp2]; exact RYK.out
  have Np1p2 : Hid (p1 ≠ p2) := by rw [hp1, hp2]; exact Ne.symm NE12.out
  have Nb8p1 : Hid (b8 ≠ p1) := by show _ ≠ _; have := R8.out.lt; rw [hp1]; omega
  have Nb8p2 : Hid (b8 ≠ p2) := by show _ ≠ _; have := R8.out.lt; have := BP.out.size; rw [hp2]; omega
  have Nb9p1 : Hid (b9 ≠ p1) := by show _ ≠ _; have := R9.out.lt; rw [hp1]; omega
  have Nb9p2 : Hid (b9 ≠ p2) := by show _ ≠ _; have := R9.out.lt; have := BP.out.size; rw [hp2]; omega
  have Nb10p1 : Hid (b10 ≠ p1) := by show _ ≠ _; have := R10.out.lt; rw [hp1]; omega
  have Nb10p2 : Hid (b10 ≠ p2) := by show _ ≠ _; have := R10.out.lt; have := BP.out.size; rw [hp2]; omega
  have Nb11p1 : Hid (b11 ≠ p1) := by show _ ≠ _; have := R11.out.lt; rw [hp1]; omega
  have Nb11p2 : Hid (b11 ≠ p2) := by show _ ≠ _; have := R11.out.lt; have := BP.out.size; rw [hp2]; omega
  replace R8 : Hid (Row YK b8 (vB z) 33) := Row.below R8.out b12 R8.out.lt
  replace R9 : Hid (Row YK b9 (vB x) 33) := Row.below R9.out b12 R9.out.lt
  replace R10 : Hid (Row YK b10 (vB y) 33) := Row.below R10.out b12 R10.out.lt
  replace R11 : Hid (Row YK b11 LB 25) := Row.below R11.out b12 R11.out.lt
  replace HG : Hid (Lg w0 YK S (q + 1) f) := HG.out.be b12
  replace HK : Hid (Kp w YK) := HK.out.trans (Kp.of_below b12)
  rw [← hp1, ← hp2]
  clear hp1 hp2 b12 BP BK RP1 RP2 RK1 RK2 NE12 HYP RYP HYK RYK
  go_upto_region 4 with fail
  have rp := Rp1.out
  have r8 := R8.out
  have r9 := R9.out
  have r10 := R10.out
  have rb := R11.out
  have hG := HG.out
  have hK := HK.out
  have hw0 : w0.heap.size ≤ YK.heap.size := hG.bel.size
  have hwf : w.heap.size ≤ YK.heap.size := hK.size
  have hb1 := Below.refl YK.heap.size YK
  clear Rp1 Rp2 R8 R9 R10 R11 HG HK
  refine wp_named fun a0 ha0 => ?_
  have hsz : a0.tmps.size = 62 := by rw [ha0]; rfl
  have zs13 : a0.eval (.tmp 13) = .pointer (some ⟨p1, 0, none⟩) := by rw [ha0]; rfl
  have zs8 : a0.eval (.tmp 8) = .pointer (some ⟨b8, 0, none⟩) := by rw [ha0]; rfl
  have zs9 : a0.eval (.tmp 9) = .pointer (some ⟨b9, 0, none⟩) := by rw [ha0]; rfl
  have zs10 : a0.eval (.tmp 10) = .pointer (some ⟨b10, 0, none⟩) := by rw [ha0]; rfl
  have zs11 : a0.eval (.tmp 11) = .pointer (some ⟨b11, 0, none⟩) := by rw [ha0]; rfl
  have lt_rp : p1 < YK.heap.size := rp.lt
  have lt_r8 : b8 < YK.heap.size := r8.lt
  have lt_r9 : b9 < YK.heap.size := r9.lt
  have lt_r10 : b10 < YK.heap.size := r10.lt
  have lt_rb : b11 < YK.heap.size := rb.lt
  obtain ⟨D, hD⟩ : ∃ D : List (Tmp × SP), D = [(29, SP.is (.agg LP.toArray)), (30, SP.is (.agg LP.toArray)), (31, SP.is (.agg (vB x).toArray)), (32, SP.is (.agg (vB z).toArray)), (33, SP.is (.string (lKt t x z))), (34, SP.is (.agg LB.toArray)), (35, SP.is (.tuple #[.agg N0.toArray, .int .i64 0])), (28, SP.is (.tuple #[.agg N0.toArray, .int .i64 0])), (36, SP.is (.agg N0.toArray)), (37, SP.is (.int .i64 0)), (16, SP.any), (1000, SP.any), (15, SP.is (.int .i64 0))] := ⟨_, rfl⟩
  refine wp_region_then (by kernel_rfl) 6 (by decide) (by kernel_rfl) (fun listed ac W => Fp D a0 listed ac W ∧ Below YK.heap.size YK W ∧ Row W p1 LP 58 ∧ Row W b8 ((vB z)) 33 ∧ Row W b9 ((vB x)) 33 ∧ Row W b10 ((vB y)) 33 ∧ Row W b11 LB 25 ∧ Lg w0 W S (q + 1) f ∧ Kp w W ∧ (listed.getD 10 false = true → ∃ N, ac.eval (.tmp 16) = .pointer (some ⟨N, 0, none⟩) ∧ YK.heap.size ≤ N ∧ Row W N zL 65)) (fun listed ac W => Fp D a0 listed ac W ∧ YK.heap.size ≤ W.heap.size ∧ Row W p1 LP 58 ∧ Row W b8 ((vB z)) 33 ∧ Row W b9 ((vB x)) 33 ∧ Row W b10 ((vB y)) 33 ∧ Row W b11 LB 25 ∧ Lg w0 W S (q + 1 + 1) f ∧ Kp w W ∧ (listed.getD 10 false = true → ∃ N, ac.eval (.tmp 16) = .pointer (some ⟨N, 0, none⟩) ∧ YK.heap.size ≤ N ∧ Row W N (if listed.getD 11 false = true then N0 else zL) 65)) ?_ ?_ ?_ ?_ ?_
  · exact ⟨Fp.start D a0 _ _, Below.drew hb1, Row.drew rp, Row.drew r8, Row.drew r9, Row.drew r10, Row.drew rb, hG.below (Below.drew (Below.refl _ _)), hK.below (Below.drew (Below.refl _ _)), (fun h => (start_no h).elim)⟩
  · clear ha0 hb1 rp r8 r9 r10 rb hG hK
    intro listed ac W k hl hI hdn hk hne hnl
    replace hl : listed.size = 13 := hl
    obtain ⟨hF, hb1, rp, r8, r9, r10, rb, hG, hK, al10⟩ := hI
    have hk1 : k < 13 := List.mem_range.1 (List.mem_filter.1 hk).1
    rcases (show k = 0 ∨ k = 1 ∨ k = 2 ∨ k = 3 ∨ k = 4 ∨ k = 5 ∨ k = 6 ∨ k = 7 ∨ k = 8 ∨ k = 9 ∨ k = 10 ∨ k = 11 ∨ k = 12 by omega) with rfl | rfl | rfl | rfl | rfl | rfl | rfl | rfl | rfl | rfl | rfl | rfl | rfl
    · have hk3 := hk
      exact wpOp_plain rfl rfl (wp_load_mid 58 (.tmp 13) rfl p1 0 ((hF.keep 13 (by rw [hD]; rfl)).trans zs13) LP _ rp.all Tryd.underlying58 rfl HLPI.out ⟨(hF.put 0 29 (SP.is (.agg LP.toArray)) (.agg LP.toArray) (by rw [hD]; rfl) rfl (by rw [hD]; rfl) (by rw [hsz]; decide) (by rw [hl]; decide)), hb1, rp, r8, r9, r10, rb, hG, hK, (fun h => by obtain ⟨N, e, hN, r⟩ := al10 (by rwa [getD_set _ _ _ (by decide)] at h); exact ⟨N, (eval_put_other ac _ (by decide)).trans e, hN, r⟩)⟩)
    · have hk3 := hk
      exact wpOp_plain rfl rfl (wp_load_mid 58 (.tmp 13) rfl p1 0 ((hF.keep 13 (by rw [hD]; rfl)).trans zs13) LP _ rp.all Tryd.underlying58 rfl HLPI.out ⟨(hF.put 1 30 (SP.is (.agg LP.toArray)) (.agg LP.toArray) (by rw [hD]; rfl) rfl (by rw [hD]; rfl) (by rw [hsz]; decide) (by rw [hl]; decide)), hb1, rp, r8, r9, r10, rb, hG, hK, (fun h => by obtain ⟨N, e, hN, r⟩ := al10 (by rwa [getD_set _ _ _ (by decide)] at h); exact ⟨N, (eval_put_other ac _ (by decide)).trans e, hN, r⟩)⟩)
    · have hk3 := hk
      exact wpOp_plain rfl rfl (wp_load_mid 33 (.tmp 9) rfl b9 0 ((hF.keep 9 (by rw [hD]; rfl)).trans zs9) ((vB x)) _ r9.all Tryd.underlying33 rfl HIx.out ⟨(hF.put 2 31 (SP.is (.agg (vB x).toArray)) (.agg (vB x).toArray) (by rw [hD]; rfl) rfl (by rw [hD]; rfl) (by rw [hsz]; decide) (by rw [hl]; decide)), hb1, rp, r8, r9, r10, rb, hG, hK, (fun h => by obtain ⟨N, e, hN, r⟩ := al10 (by rwa [getD_set _ _ _ (by decide)] at h); exact ⟨N, (eval_put_other ac _ (by decide)).trans e, hN, r⟩)⟩)
    · have hk3 := hk
      exact wpOp_plain rfl rfl (wp_load_mid 33 (.tmp 8) rfl b8 0 ((hF.keep 8 (by rw [hD]; rfl)).trans zs8) ((vB z)) _ r8.all Tryd.underlying33 rfl HIz.out ⟨(hF.put 3 32 (SP.is (.agg (vB z).toArray)) (.agg (vB z).toArray) (by rw [hD]; rfl) rfl (by rw [hD]; rfl) (by rw [hsz]; decide) (by rw [hl]; decide)), hb1, rp, r8, r9, r10, rb, hG, hK, (fun h => by obtain ⟨N, e, hN, r⟩ := al10 (by rwa [getD_set _ _ _ (by decide)] at h); exact ⟨N, (eval_put_other ac _ (by decide)).trans e, hN, r⟩)⟩)
    · have hk3 := hk
      have ea0 := (hF.done 1 (30, SP.is (.agg LP.toArray)) (by rw [hD]; rfl) (ready_dep hk 1 (by kernel_rfl)))
      have ea1 := (hF.done 2 (31, SP.is (.agg (vB x).toArray)) (by rw [hD]; rfl) (ready_dep hk 2 (by kernel_rfl)))
      have ea2 := (hF.done 3 (32, SP.is (.agg (vB z).toArray)) (by rw [hD]; rfl) (ready_dep hk 3 (by kernel_rfl)))
      refine wpOp_plain rfl rfl (wp_fcall_v 35 #[.agg LP.toArray, .agg (vB x).toArray, .agg (vB z).toArray] rfl rfl (by show [ac.eval (.tmp 30), ac.eval (.tmp 31), ac.eval (.tmp 32)] = _; rw [show ac.eval (.tmp 30) = .agg LP.toArray from ea0, show ac.eval (.tmp 31) = .agg (vB x).toArray from ea1, show ac.eval (.tmp 32) = .agg (vB z).toArray from ea2]) (by go_simp) (((show Calls Tryd.prog 35 #[.agg LP.toArray, .agg (vB x).toArray, .agg (vB z).toArray] W _ from HKf.out W)).mono ?_))
      rintro e W2 ⟨rfl, hB⟩
      exact ⟨_, rfl, ((hF.world hB).put 4 33 (SP.is (.string (lKt t x z))) (.string (lKt t x z)) (by rw [hD]; rfl) rfl (by rw [hD]; rfl) (by rw [hsz]; decide) (by rw [hl]; decide)), hb1.trans (hB.mono hb1.size), Row.below rp hB (Row.lt rp), Row.below r8 hB (Row.lt r8), Row.below r9 hB (Row.lt r9), Row.below r10 hB (Row.lt r10), Row.below rb hB (Row.lt rb), hG.below hB, hK.below hB, (fun h => by obtain ⟨N, e, hN, r⟩ := al10 (by rwa [getD_set _ _ _ (by decide)] at h); exact ⟨N, (eval_put_other ac _ (by decide)).trans e, hN, Row.below r hB (Row.lt r)⟩)⟩
    · have hk3 := hk
      exact wpOp_plain rfl rfl (wp_load_mid 25 (.tmp 11) rfl b11 0 ((hF.keep 11 (by rw [hD]; rfl)).trans zs11) LB _ rb.all Tryd.underlying25 rfl HLBI.out ⟨(hF.put 5 34 (SP.is (.agg LB.toArray)) (.agg LB.toArray) (by rw [hD]; rfl) rfl (by rw [hD]; rfl) (by rw [hsz]; decide) (by rw [hl]; decide)), hb1, rp, r8, r9, r10, rb, hG, hK, (fun h => by obtain ⟨N, e, hN, r⟩ := al10 (by rwa [getD_set _ _ _ (by decide)] at h); exact ⟨N, (eval_put_other ac _ (by decide)).trans e, hN, r⟩)⟩)
    · exact absurd rfl hne
    · exact absurd (ready_dep hk 6 (by kernel_rfl)) hnl
    · exact absurd (hdn 7 (ready_dep hk 7 (by kernel_rfl)) 6 (by kernel_rfl)) hnl
    · exact absurd (hdn 7 (ready_dep hk 7 (by kernel_rfl)) 6 (by kernel_rfl)) hnl
    · have hk3 := hk
      have hB : Below W.heap.size W (W.alloc (Obj.cells zL.toArray 65)) := (Below.refl _ _).alloc (Nat.le_refl _) _
      exact wpOp_plain rfl rfl (wp_allocLn rfl ⟨((hF.world hB).put 10 16 (SP.any) (.pointer (some ⟨W.heap.size, 0, none⟩)) (by rw [hD]; rfl) trivial (by rw [hD]; rfl) (by rw [hsz]; decide) (by rw [hl]; decide)), hb1.trans (hB.mono hb1.size), Row.alloc rp _, Row.alloc r8 _, Row.alloc r9 _, Row.alloc r10 _, Row.alloc rb _, hG.below hB, hK.below hB, (fun _ => ⟨W.heap.size, eval_put_same ac _ (by rw [hF.size, hsz]; decide), hb1.size, Row.new' rfl rfl⟩)⟩)
    · exact absurd (hdn 7 (hdn 8 (ready_dep hk 8 (by kernel_rfl)) 7 (by kernel_rfl)) 6 (by kernel_rfl)) hnl
    · exact absurd (hdn 7 (hdn 9 (ready_dep hk 9 (by kernel_rfl)) 7 (by kernel_rfl)) 6 (by kernel_rfl)) hnl
  · clear ha0 hb1 rp r8 r9 r10 rb hG hK
    intro listed ac W hl hI hdn hk
    replace hl : listed.size = 13 := hl
    obtain ⟨hF, hb1, rp, r8, r9, r10, rb, hG, hK, al10⟩ := hI
    have eb1 := (hF.done 0 (29, SP.is (.agg LP.toArray)) (by rw [hD]; rfl) (ready_dep hk 0 (by kernel_rfl)))
    have eb2 := (hF.done 4 (33, SP.is (.string (lKt t x z))) (by rw [hD]; rfl) (ready_dep hk 4 (by kernel_rfl)))
    have eb3 := (hF.done 5 (34, SP.is (.agg LB.toArray)) (by rw [hD]; rfl) (ready_dep hk 5 (by kernel_rfl)))
    have hns11 : ¬ listed.getD 11 false = true := fun h => not_yet hk (hdn 7 (hdn 8 (hdn 11 h 8 (by kernel_rfl)) 7 (by kernel_rfl)) 6 (by kernel_rfl))
    refine wpOp_plain rfl rfl (wp_fcall_v 34 #[.agg LP.toArray, .string (lKt t x z), .agg LB.toArray, .int .i64 86] rfl rfl (by show [ac.eval (.tmp 29), ac.eval (.tmp 33), ac.eval (.tmp 34), .int .i64 86] = _; rw [show ac.eval (.tmp 29) = .agg LP.toArray from eb1, show ac.eval (.tmp 33) = .string (lKt t x z) from eb2, show ac.eval (.tmp 34) = .agg LB.toArray from eb3]) (by go_simp) ((HLE.out W hG).mono ?_))
    rintro e W2 ⟨rfl, hG2, hK2⟩
    have hT : Fp D a0 listed ac W2 := hF.turn (by rw [hD]; simp only [List.forall_mem_cons, List.not_mem_nil, false_implies, implies_true, and_true]; exact ⟨fun _ h => h, fun _ h => h, fun _ h => h, fun _ h => h, fun _ h => h, fun _ h => h, fun _ h => h, fun _ h => h, fun _ h => h, fun _ h => h, fun _ h => h, fun _ h => h, fun _ h => h⟩)
    exact ⟨_, rfl, (hT.put 6 35 (SP.is (.tuple #[.agg N0.toArray, .int .i64 0])) (_) (by rw [hD]; rfl) rfl (by rw [hD]; rfl) (by rw [hsz]; decide) (by rw [hl]; decide)), Nat.le_trans hb1.size hK2.size, hK2.row _ _ _ (by decide) rp, hK2.row _ _ _ (by decide) r8, hK2.row _ _ _ (by decide) r9, hK2.row _ _ _ (by decide) r10, hK2.row _ _ _ (by decide) rb, hG2, hK.trans hK2, (fun h => by obtain ⟨N, e, hN, r⟩ := al10 (by rwa [getD_set _ _ _ (by decide)] at h); exact ⟨N, (eval_put_other ac _ (by decide)).trans e, hN, by rw [getD_set _ _ _ (by decide), if_neg hns11]; exact hK2.row _ _ _ (by decide) r⟩)⟩
  · clear ha0 hb1 rp r8 r9 r10 rb hG hK
    intro listed ac W k hl hJ hdn hk hne hyl
    replace hl : listed.size = 13 := hl
    obtain ⟨hF, hS, rp, r8, r9, r10, rb, hG, hK, al10⟩ := hJ
    have hk1 : k < 13 := List.mem_range.1 (List.mem_filter.1 hk).1
    rcases (show k = 0 ∨ k = 1 ∨ k = 2 ∨ k = 3 ∨ k = 4 ∨ k = 5 ∨ k = 6 ∨ k = 7 ∨ k = 8 ∨ k = 9 ∨ k = 10 ∨ k = 11 ∨ k = 12 by omega) with rfl | rfl | rfl | rfl | rfl | rfl | rfl | rfl | rfl | rfl | rfl | rfl | rfl
    · exact absurd (hdn 6 hyl 0 (by kernel_rfl)) (not_yet hk)
    · exact absurd (hdn 4 (hdn 6 hyl 4 (by kernel_rfl)) 1 (by kernel_rfl)) (not_yet hk)
    · exact absurd (hdn 4 (hdn 6 hyl 4 (by kernel_rfl)) 2 (by kernel_rfl)) (not_yet hk)
    · exact absurd (hdn 4 (hdn 6 hyl 4 (by kernel_rfl)) 3 (by kernel_rfl)) (not_yet hk)
    · exact absurd (hdn 6 hyl 4 (by kernel_rfl)) (not_yet hk)
    · exact absurd (hdn 6 hyl 5 (by kernel_rfl)) (not_yet hk)
    · exact absurd rfl hne
    · have hk3 := hk
      exact wpOp_plain rfl rfl (wp_move_v (ac.eval (.tmp 35)) rfl rfl ⟨(hF.put 7 28 (SP.is (.tuple #[.agg N0.toArray, .int .i64 0])) (ac.eval (.tmp 35)) (by rw [hD]; rfl) ((hF.done 6 (35, SP.is (.tuple #[.agg N0.toArray, .int .i64 0])) (by rw [hD]; rfl) (ready_dep hk 6 (by kernel_rfl)))) (by rw [hD]; rfl) (by rw [hsz]; decide) (by rw [hl]; decide)), hS, rp, r8, r9, r10, rb, hG, hK, (fun h => by obtain ⟨N, e, hN, r⟩ := al10 (by rwa [getD_set _ _ _ (by decide)] at h); exact ⟨N, (eval_put_other ac _ (by decide)).trans e, hN, by rw [getD_set _ _ _ (by decide)]; exact r⟩)⟩)
    · have hk3 := hk
      exact wpOp_plain rfl rfl (wp_extract (.tmp 28) 0 rfl _ (hF.done 7 (28, SP.is (.tuple #[.agg N0.toArray, .int .i64 0])) (by rw [hD]; rfl) (ready_dep hk 7 (by kernel_rfl))) (.agg N0.toArray) rfl ⟨(hF.put 8 36 (SP.is (.agg N0.toArray)) (.agg N0.toArray) (by rw [hD]; rfl) rfl (by rw [hD]; rfl) (by rw [hsz]; decide) (by rw [hl]; decide)), hS, rp, r8, r9, r10, rb, hG, hK, (fun h => by obtain ⟨N, e, hN, r⟩ := al10 (by rwa [getD_set _ _ _ (by decide)] at h); exact ⟨N, (eval_put_other ac _ (by decide)).trans e, hN, by rw [getD_set _ _ _ (by decide)]; exact r⟩)⟩)
    · have hk3 := hk
      exact wpOp_plain rfl rfl (wp_extract (.tmp 28) 1 rfl _ (hF.done 7 (28, SP.is (.tuple #[.agg N0.toArray, .int .i64 0])) (by rw [hD]; rfl) (ready_dep hk 7 (by kernel_rfl))) (.int .i64 0) rfl ⟨(hF.put 9 37 (SP.is (.int .i64 0)) (.int .i64 0) (by rw [hD]; rfl) rfl (by rw [hD]; rfl) (by rw [hsz]; decide) (by rw [hl]; decide)), hS, rp, r8, r9, r10, rb, hG, hK, (fun h => by obtain ⟨N, e, hN, r⟩ := al10 (by rwa [getD_set _ _ _ (by decide)] at h); exact ⟨N, (eval_put_other ac _ (by decide)).trans e, hN, by rw [getD_set _ _ _ (by decide)]; exact r⟩)⟩)
    · have hk3 := hk
      have hB : Below W.heap.size W (W.alloc (Obj.cells zL.toArray 65)) := (Below.refl _ _).alloc (Nat.le_refl _) _
      have hns : ¬ listed.getD 11 false = true := fun h => not_yet hk (hdn 11 h 10 (by kernel_rfl))
      exact wpOp_plain rfl rfl (wp_allocLn rfl ⟨((hF.world hB).put 10 16 (SP.any) (.pointer (some ⟨W.heap.size, 0, none⟩)) (by rw [hD]; rfl) trivial (by rw [hD]; rfl) (by rw [hsz]; decide) (by rw [hl]; decide)), Nat.le_trans hS hB.size, Row.alloc rp _, Row.alloc r8 _, Row.alloc r9 _, Row.alloc r10 _, Row.alloc rb _, hG.below hB, hK.below hB, (fun _ => ⟨W.heap.size, eval_put_same ac _ (by rw [hF.size, hsz]; decide), hS, (by rw [getD_set _ _ _ (by decide), if_neg hns]; exact Row.new' rfl rfl)⟩)⟩)
    · have hk3 := hk
      obtain ⟨N, e, hN, r⟩ := al10 (ready_dep hk 10 (by kernel_rfl))
      rw [if_neg (not_yet hk)] at r
      have hT : Fp D a0 listed ac (W.setCells N 0 N0) := hF.turn (by rw [hD]; simp only [List.forall_mem_cons, List.not_mem_nil, false_implies, implies_true, and_true]; exact ⟨fun _ h => h, fun _ h => h, fun _ h => h, fun _ h => h, fun _ h => h, fun _ h => h, fun _ h => h, fun _ h => h, fun _ h => h, fun _ h => h, fun _ h => h, fun _ h => h, fun _ h => h⟩)
      exact wpOp_plain rfl rfl (wp_store_mid 65 (.tmp 16) (.tmp 36) rfl N 0 N0.toArray e (hF.done 8 (36, SP.is (.agg N0.toArray)) (by rw [hD]; rfl) (ready_dep hk 8 (by kernel_rfl))) (r.there 0 _ (by rw [List.size_toArray, HN0N.out]; decide)) HN0J.out HN0O.out ⟨(hT.skip 11 1000 (by rw [hD]; rfl) (by rw [hl]; decide)), (by rw [size_setCells]; exact hS), Row.setCells_other rp _ _ _ (by omega), Row.setCells_other r8 _ _ _ (by omega), Row.setCells_other r9 _ _ _ (by omega), Row.setCells_other r10 _ _ _ (by omega), Row.setCells_other rb _ _ _ (by omega), hG.kept r (by decide) (by decide) (by decide) (by decide) (fun k hk => heap_sets _ _ _ _ _ hk) (below_setCells hG.bel (Nat.le_trans hw0 hN) _), Kp.kept N (Nat.le_trans hwf hN) hK (fun k hk => heap_sets _ _ _ _ _ hk) (below_setCells (Below.refl 0 _) (Nat.zero_le N) _).size, (fun _ => ⟨N, e, hN, by rw [if_pos (getD_same (by rw [hl]; decide))]; exact r.over HN0N.out⟩)⟩)
    · have hk3 := hk
      exact wpOp_plain rfl rfl (wp_assign_v (ac.eval (.tmp 37)) rfl rfl ⟨(hF.put 12 15 (SP.is (.int .i64 0)) (ac.eval (.tmp 37)) (by rw [hD]; rfl) ((hF.done 9 (37, SP.is (.int .i64 0)) (by rw [hD]; rfl) (ready_dep hk 9 (by kernel_rfl)))) (by rw [hD]; rfl) (by rw [hsz]; decide) (by rw [hl]; decide)), hS, rp, r8, r9, r10, rb, hG, hK, (fun h => by obtain ⟨N, e, hN, r⟩ := al10 (by rwa [getD_set _ _ _ (by decide)] at h); exact ⟨N, (eval_put_other ac _ (by decide)).trans e, hN, by rw [getD_set _ _ _ (by decide)]; exact r⟩)⟩)
  · clear hb1 rp r8 r9 r10 rb hG hK
    intro listed ac W hl hJ hr
    replace hl : listed.size = 13 := hl
    obtain ⟨hF, hS, rp, r8, r9, r10, rb, hG, hK, al10⟩ := hJ
    have hall := all_listed (by kernel_rfl) hl hr
    obtain ⟨NL, ea16, hNL, rNL⟩ := al10 (hall 10 (by decide))
    rw [if_pos (hall 11 (by decide))] at rNL
    have h29 : ac.eval (.tmp 29) = .agg LP.toArray := hF.done 0 (29, SP.is (.agg LP.toArray)) (by rw [hD]; rfl) (hall 0 (by decide))
    have h30 : ac.eval (.tmp 30) = .agg LP.toArray := hF.done 1 (30, SP.is (.agg LP.toArray)) (by rw [hD]; rfl) (hall 1 (by decide))
    have h31 : ac.eval (.tmp 31) = .agg (vB x).toArray := hF.done 2 (31, SP.is (.agg (vB x).toArray)) (by rw [hD]; rfl) (hall 2 (by decide))
    have h32 : ac.eval (.tmp 32) = .agg (vB z).toArray := hF.done 3 (32, SP.is (.agg (vB z).toArray)) (by rw [hD]; rfl) (hall 3 (by decide))
    have h33 : ac.eval (.tmp 33) = .string (lKt t x z) := hF.done 4 (33, SP.is (.string (lKt t x z))) (by rw [hD]; rfl) (hall 4 (by decide))
    have h34 : ac.eval (.tmp 34) = .agg LB.toArray := hF.done 5 (34, SP.is (.agg LB.toArray)) (by rw [hD]; rfl) (hall 5 (by decide))
    have h35 : ac.eval (.tmp 35) = .tuple #[.agg N0.toArray, .int .i64 0] := hF.done 6 (35, SP.is (.tuple #[.agg N0.toArray, .int .i64 0])) (by rw [hD]; rfl) (hall 6 (by decide))
    have h28 : ac.eval (.tmp 28) = .tuple #[.agg N0.toArray, .int .i64 0] := hF.done 7 (28, SP.is (.tuple #[.agg N0.toArray, .int .i64 0])) (by rw [hD]; rfl) (hall 7 (by decide))
    have h36 : ac.eval (.tmp 36) = .agg N0.toArray := hF.done 8 (36, SP.is (.agg N0.toArray)) (by rw [hD]; rfl) (hall 8 (by decide))
    have h37 : ac.eval (.tmp 37) = .int .i64 0 := hF.done 9 (37, SP.is (.int .i64 0)) (by rw [hD]; rfl) (hall 9 (by decide))
    have h15 : ac.eval (.tmp 15) = .int .i64 0 := hF.done 12 (15, SP.is (.int .i64 0)) (by rw [hD]; rfl) (hall 12 (by decide))
    have ea := hF.lay [(29, .agg LP.toArray), (30, .agg LP.toArray), (31, .agg (vB x).toArray), (32, .agg (vB z).toArray), (33, .string (lKt t x z)), (34, .agg LB.toArray), (35, .tuple #[.agg N0.toArray, .int .i64 0]), (28, .tuple #[.agg N0.toArray, .int .i64 0]), (36, .agg N0.toArray), (37, .int .i64 0), (16, .pointer (some ⟨NL, 0, none⟩)), (15, .int .i64 0)] (by rw [hD, hsz]; rfl) (by simp only [List.forall_mem_cons, List.not_mem_nil, false_implies, implies_true, and_true]; exact ⟨h29, h30, h31, h32, h33, h34, h35, h28, h36, h37, ea16, h15⟩)
    rw [ha0] at ea
    simp only [List.foldl_cons, List.foldl_nil, List.setIfInBounds_toArray, List.set_cons_zero, List.set_cons_succ] at ea
    clear hF hall hr hl hD zs13 zs8 zs9 zs10 zs11 ha0 hsz h29 h30 h31 h32 h33 h34 h35 h28 h36 h37 ea16 h15 al10 lt_rp lt_r8 lt_r9 lt_r10 lt_rb
    subst ea
    obtain ⟨V2, hV⟩ : ∃ V, V = W := ⟨_, rfl⟩
    rw [← hV]
    rw [← hV] at hG hK rp r8 r9 r10 rb rNL
    have HK : Hid (Kp w V2) := hK
    have Rp1 : Hid (Row V2 p1 LP 58) := rp
    have R11 : Hid (Row V2 b11 LB 25) := rb
    have RN : Hid (Row V2 NL N0 65) := rNL
    have S13 : Hid (V2.rangeAt p1 0 LP) := rp.all
    have S9 : Hid (V2.rangeAt b9 0 (vB x)) := r9.all
    have S10 : Hid (V2.rangeAt b10 0 (vB y)) := r10.all
    have S11 : Hid (V2.rangeAt b11 0 LB) := rb.all
    have HM : Hid _ := HMV.out V2 hG
    clear hV hG hK rp r8 r9 r10 rb rNL hS hNL hw0 hwf HMV
    go_wp2_with (first
      | (refine wpList_load_w rfl 58 (.tmp 13) rfl p1 0 rfl LP _ S13.out Tryd.underlying58 rfl HLPI.out ?_; simp only [Act.put, List.setIfInBounds_toArray, List.set_cons_zero, List.set_cons_succ])
      | (refine wpList_load_w rfl 33 (.tmp 9) rfl b9 0 rfl (vB x) _ S9.out Tryd.underlying33 rfl HIx.out ?_; simp only [Act.put, List.setIfInBounds_toArray, List.set_cons_zero, List.set_cons_succ])
      | (refine wpList_load_w rfl 33 (.tmp 10) rfl b10 0 rfl (vB y) _ S10.out Tryd.underlying33 rfl HIy.out ?_; simp only [Act.put, List.setIfInBounds_toArray, List.set_cons_zero, List.set_cons_succ])
      | (refine wpList_load_w rfl 25 (.tmp 11) rfl b11 0 rfl LB _ S11.out Tryd.underlying25 rfl HLBI.out ?_; simp only [Act.put, List.setIfInBounds_toArray, List.set_cons_zero, List.set_cons_succ]))
    refine Calls.mono HM.out ?_
    rintro e V3 ⟨g, rfl, hR, hG, hK⟩
    have HG : Hid (Lg w0 V3 S (q + 1 + 1 + 1 + 1) f) := hG
    replace HK : Hid (Kp w V3) := HK.out.trans hK
    replace Rp1 : Hid (Row V3 p1 LP 58) := hK.row _ _ _ (by decide) Rp1.out
    replace RN : Hid (Row V3 NL N0 65) := hK.row _ _ _ (by decide) RN.out
    replace S11 : Hid (V3.rangeAt b11 0 LB) := (hK.row _ _ _ (by decide) R11.out).all
    have RG : Hid (Row V3 g (N1 ++ N2) 65) := hR
    clear hR
    clear hG hK HM S13 S9 S10 R11
    go_wp2_with (refine wpList_load_w rfl 25 (.tmp 11) rfl b11 0 rfl LB _ S11.out Tryd.underlying25 rfl HLBI.out ?_; simp only [Act.put, List.setIfInBounds_toArray, List.set_cons_zero, List.set_cons_succ])
    refine Calls.mono (HZ.out V3) ?_
    rintro e V4 ⟨rfl, hB⟩
    replace HG : Hid (Lg w0 V4 S (q + 1 + 1 + 1 + 1) f) := HG.out.be hB
    replace HK : Hid (Kp w V4) := HK.out.trans (Kp.of_below hB)
    replace Rp1 : Hid (Row V4 p1 LP 58) := Row.below Rp1.out hB Rp1.out.lt
    replace RN : Hid (Row V4 NL N0 65) := Row.below RN.out hB RN.out.lt
    replace RG : Hid (Row V4 g (N1 ++ N2) 65) := Row.below RG.out hB RG.out.lt
    clear hB S11 HZ
    go_upto_region 10 with fail
    have rp := Rp1.out
    have rn := RN.out
    have rg := RG.out
    have hG := HG.out
    have hK := HK.out
    have hb1 := Below.refl V4.heap.size V4
    clear Rp1 RN HG HK RG
    refine wp_named fun a0 ha0 => ?_
    have hsz : a0.tmps.size = 62 := by rw [ha0]; rfl
    have zs13 : a0.eval (.tmp 13) = .pointer (some ⟨p1, 0, none⟩) := by rw [ha0]; rfl
    have zs16 : a0.eval (.tmp 16) = .pointer (some ⟨NL, 0, none⟩) := by rw [ha0]; rfl
    have zs17 : a0.eval (.tmp 17) = .slice (some ⟨g, 0, none⟩) 2 2 := by rw [ha0]; rfl
    obtain ⟨D, hD⟩ : ∃ D : List (Tmp × SP), D = [(56, SP.is (.agg LP.toArray)), (57, SP.is (.agg N0.toArray)), (58, SP.any), (59, SP.is (.slice (some ⟨g, 0, none⟩) 2 2)), (60, SP.any), (61, SP.is (.int .i64 0)), (12, SP.is (.int .i64 0))] := ⟨_, rfl⟩
    refine wp_region_then (by kernel_rfl) 5 (by decide) (by kernel_rfl) (fun listed ac W => Fp D a0 listed ac W ∧ Below V4.heap.size V4 W ∧ Row W p1 LP 58 ∧ Row W NL N0 65 ∧ Row W g ((N1 ++ N2)) 65 ∧ Lg w0 W S (q + 1 + 1 + 1 + 1) f ∧ Kp w W ∧ (listed.getD 2 false = true → (SP.new 1 1 N0 65).P W (ac.eval (.tmp 58))) ∧ (listed.getD 4 false = true → (SP.lns 3 15 (N0 ++ (N1 ++ N2))).P W (ac.eval (.tmp 60)))) (fun listed ac W => Fp D a0 listed ac W ∧ Lg w0 W S (q + 1 + 1 + 1 + 1 + 3) f3 ∧ Kp w W) ?_ ?_ ?_ ?_ ?_
    · exact ⟨Fp.start D a0 _ _, Below.drew hb1, Row.drew rp, Row.drew rn, Row.drew rg, hG.below (Below.drew (Below.refl _ _)), hK.below (Below.drew (Below.refl _ _)), (fun h => (start_no h).elim), (fun h => (start_no h).elim)⟩
    · clear ha0 hb1 rp rn rg hG hK
      intro listed ac W k hl hI hdn hk hne hnl
      replace hl : listed.size = 7 := hl
      obtain ⟨hF, hb1, rp, rn, rg, hG, hK, ti2, ti4⟩ := hI
      have hk1 : k < 7 := List.mem_range.1 (List.mem_filter.1 hk).1
      rcases (show k = 0 ∨ k = 1 ∨ k = 2 ∨ k = 3 ∨ k = 4 ∨ k = 5 ∨ k = 6 by omega) with rfl | rfl | rfl | rfl | rfl | rfl | rfl
      · have hk3 := hk
        exact wpOp_plain rfl rfl (wp_load_mid 58 (.tmp 13) rfl p1 0 ((hF.keep 13 (by rw [hD]; rfl)).trans zs13) LP _ rp.all Tryd.underlying58 rfl HLPI.out ⟨(hF.put 0 56 (SP.is (.agg LP.toArray)) (.agg LP.toArray) (by rw [hD]; rfl) rfl (by rw [hD]; rfl) (by rw [hsz]; decide) (by rw [hl]; decide)), hb1, rp, rn, rg, hG, hK, (fun h1 => by change (SP.new 1 1 N0 65).P _ ((ac.put (some 56) _).eval (.tmp 58)); rw [eval_put_other ac _ (by decide)]; exact ti2 (by rwa [getD_set _ _ _ (by decide)] at h1)), (fun h1 => by change (SP.lns 3 15 (N0 ++ (N1 ++ N2))).P _ ((ac.put (some 56) _).eval (.tmp 60)); rw [eval_put_other ac _ (by decide)]; exact ti4 (by rwa [getD_set _ _ _ (by decide)] at h1))⟩)
      · have hk3 := hk
        exact wpOp_plain rfl rfl (wp_load_mid 65 (.tmp 16) rfl NL 0 ((hF.keep 16 (by rw [hD]; rfl)).trans zs16) N0 _ rn.all Tryd.underlying65 rfl HN0I.out ⟨(hF.put 1 57 (SP.is (.agg N0.toArray)) (.agg N0.toArray) (by rw [hD]; rfl) rfl (by rw [hD]; rfl) (by rw [hsz]; decide) (by rw [hl]; decide)), hb1, rp, rn, rg, hG, hK, (fun h1 => by change (SP.new 1 1 N0 65).P _ ((ac.put (some 57) _).eval (.tmp 58)); rw [eval_put_other ac _ (by decide)]; exact ti2 (by rwa [getD_set _ _ _ (by decide)] at h1)), (fun h1 => by change (SP.lns 3 15 (N0 ++ (N1 ++ N2))).P _ ((ac.put (some 57) _).eval (.tmp 60)); rw [eval_put_other ac _ (by decide)]; exact ti4 (by rwa [getD_set _ _ _ (by decide)] at h1))⟩)
      · have hk3 := hk
        have e57 := (hF.done 1 (57, SP.is (.agg N0.toArray)) (by rw [hD]; rfl) (ready_dep hk 1 (by kernel_rfl)))
        refine wpOp_plain rfl rfl (wp_buildL1 (.tmp 57) rfl N0 HN0N.out e57 ?_)
        intro W2 hR hB
        exact ⟨((hF.world hB).put 2 58 (SP.any) (.slice (some ⟨W.heap.size, 0, none⟩) 1 1) (by rw [hD]; rfl) trivial (by rw [hD]; rfl) (by rw [hsz]; decide) (by rw [hl]; decide)), hb1.trans (hB.mono hb1.size), Row.below rp hB (Row.lt rp), Row.below rn hB (Row.lt rn), Row.below rg hB (Row.lt rg), hG.below hB, hK.below hB, (fun _ => by change (SP.new 1 1 N0 65).P _ ((ac.put (some 58) _).eval (.tmp 58)); rw [eval_put_same ac _ (by rw [hF.size, hsz]; decide)]; exact ⟨W.heap.size, rfl, hR⟩), (fun h1 => by change (SP.lns 3 15 (N0 ++ (N1 ++ N2))).P _ ((ac.put (some 58) _).eval (.tmp 60)); rw [eval_put_other ac _ (by decide)]; exact (SP.lns 3 15 (N0 ++ (N1 ++ N2))).st _ _ _ hB (ti4 (by rwa [getD_set _ _ _ (by decide)] at h1)))⟩
      · have hk3 := hk
        exact wpOp_plain rfl rfl (wp_move_v (ac.eval (.tmp 17)) rfl rfl ⟨(hF.put 3 59 (SP.is (.slice (some ⟨g, 0, none⟩) 2 2)) (ac.eval (.tmp 17)) (by rw [hD]; rfl) (((hF.keep 17 (by rw [hD]; rfl)).trans zs17)) (by rw [hD]; rfl) (by rw [hsz]; decide) (by rw [hl]; decide)), hb1, rp, rn, rg, hG, hK, (fun h1 => by change (SP.new 1 1 N0 65).P _ ((ac.put (some 59) _).eval (.tmp 58)); rw [eval_put_other ac _ (by decide)]; exact ti2 (by rwa [getD_set _ _ _ (by decide)] at h1)), (fun h1 => by change (SP.lns 3 15 (N0 ++ (N1 ++ N2))).P _ ((ac.put (some 59) _).eval (.tmp 60)); rw [eval_put_other ac _ (by decide)]; exact ti4 (by rwa [getD_set _ _ _ (by decide)] at h1))⟩)
      · have hk3 := hk
        obtain ⟨g1, e58, q58⟩ := (ti2 (ready_dep hk 2 (by kernel_rfl)))
        have e59 := (hF.done 3 (59, SP.is (.slice (some ⟨g, 0, none⟩) 2 2)) (by rw [hD]; rfl) (ready_dep hk 3 (by kernel_rfl)))
        refine wpOp_plain rfl rfl (wp_appL2 (.tmp 58) (.tmp 59) rfl g1 g N0 (N1 ++ N2) HN0N.out HM10.out e58 q58 e59 rg ?_)
        intro g2 cap CU W2 hC hR hB
        exact ⟨((hF.world hB).put 4 60 (SP.any) (.slice (some ⟨g2, 0, none⟩) 3 cap) (by rw [hD]; rfl) trivial (by rw [hD]; rfl) (by rw [hsz]; decide) (by rw [hl]; decide)), hb1.trans (hB.mono hb1.size), Row.below rp hB (Row.lt rp), Row.below rn hB (Row.lt rn), Row.below rg hB (Row.lt rg), hG.below hB, hK.below hB, (fun h1 => by change (SP.new 1 1 N0 65).P _ ((ac.put (some 60) _).eval (.tmp 58)); rw [eval_put_other ac _ (by decide)]; exact (SP.new 1 1 N0 65).st _ _ _ hB (ti2 (by rwa [getD_set _ _ _ (by decide)] at h1))), (fun _ => by change (SP.lns 3 15 (N0 ++ (N1 ++ N2))).P _ ((ac.put (some 60) _).eval (.tmp 60)); rw [eval_put_same ac _ (by rw [hF.size, hsz]; decide)]; exact ⟨g2, cap, CU, rfl, hC, hR⟩)⟩
      · exact absurd rfl hne
      · exact absurd (ready_dep hk 5 (by kernel_rfl)) hnl
    · clear ha0 hb1 rp rn rg hG hK
      intro listed ac W hl hI hdn hk
      replace hl : listed.size = 7 := hl
      obtain ⟨hF, hb1, rp, rn, rg, hG, hK, ti2, ti4⟩ := hI
      have e56 := (hF.done 0 (56, SP.is (.agg LP.toArray)) (by rw [hD]; rfl) (ready_dep hk 0 (by kernel_rfl)))
      obtain ⟨g2, cap, CU, e60, hC, hR⟩ := (ti4 (ready_dep hk 4 (by kernel_rfl)))
      refine wpOp_plain rfl rfl (wp_fcall_v 29 #[.agg LP.toArray, .slice (some ⟨g2, 0, none⟩) 3 cap] rfl rfl (by show [ac.eval (.tmp 56), ac.eval (.tmp 60)] = _; rw [show ac.eval (.tmp 56) = .agg LP.toArray from e56, show ac.eval (.tmp 60) = .slice (some ⟨g2, 0, none⟩) 3 cap from e60]) (by go_simp) ((HLL.out g2 cap CU W hC hR hG).mono ?_))
      rintro e W2 ⟨rfl, hG2, hK2⟩
      have hT : Fp D a0 listed ac W2 := hF.turn (by rw [hD]; simp only [List.forall_mem_cons, List.not_mem_nil, false_implies, implies_true, and_true]; exact ⟨fun _ h => h, fun _ h => h, fun _ h => h, fun _ h => h, fun _ h => h, fun _ h => h, fun _ h => h⟩)
      exact ⟨_, rfl, (hT.put 5 61 (SP.is (.int .i64 0)) _ (by rw [hD]; rfl) rfl (by rw [hD]; rfl) (by rw [hsz]; decide) (by rw [hl]; decide)), hG2, hK.trans hK2⟩
    · clear ha0 hb1 rp rn rg hG hK
      intro listed ac W k hl hJ hdn hk hne hyl
      replace hl : listed.size = 7 := hl
      obtain ⟨hF, hG, hK⟩ := hJ
      have hk1 : k < 7 := List.mem_range.1 (List.mem_filter.1 hk).1
      rcases (show k = 0 ∨ k = 1 ∨ k = 2 ∨ k = 3 ∨ k = 4 ∨ k = 5 ∨ k = 6 by omega) with rfl | rfl | rfl | rfl | rfl | rfl | rfl
      · exact absurd (hdn 5 hyl 0 (by kernel_rfl)) (not_yet hk)
      · exact absurd (hdn 2 (hdn 4 (hdn 5 hyl 4 (by kernel_rfl)) 2 (by kernel_rfl)) 1 (by kernel_rfl)) (not_yet hk)
      · exact absurd (hdn 4 (hdn 5 hyl 4 (by kernel_rfl)) 2 (by kernel_rfl)) (not_yet hk)
      · exact absurd (hdn 4 (hdn 5 hyl 4 (by kernel_rfl)) 3 (by kernel_rfl)) (not_yet hk)
      · exact absurd (hdn 5 hyl 4 (by kernel_rfl)) (not_yet hk)
      · exact absurd rfl hne
      · exact wpOp_plain rfl rfl (wp_assign_v (ac.eval (.tmp 61)) rfl rfl ⟨(hF.put 6 12 (SP.is (.int .i64 0)) _ (by rw [hD]; rfl) (hF.done 5 (61, SP.is (.int .i64 0)) (by rw [hD]; rfl) (ready_dep hk 5 (by kernel_rfl))) (by rw [hD]; rfl) (by rw [hsz]; decide) (by rw [hl]; decide)), hG, hK⟩)
    · clear hb1 rp rn rg hG hK
      intro listed ac W hl hJ hr
      replace hl : listed.size = 7 := hl
      obtain ⟨hF, hG, hK⟩ := hJ
      have hall := all_listed (by kernel_rfl) hl hr
      have h56 : ac.eval (.tmp 56) = .agg LP.toArray := hF.done 0 (56, SP.is (.agg LP.toArray)) (by rw [hD]; rfl) (hall 0 (by decide))
      have h57 : ac.eval (.tmp 57) = .agg N0.toArray := hF.done 1 (57, SP.is (.agg N0.toArray)) (by rw [hD]; rfl) (hall 1 (by decide))
      obtain ⟨x58, h58⟩ : ∃ x, ac.eval (.tmp 58) = x := ⟨_, rfl⟩
      have h59 : ac.eval (.tmp 59) = .slice (some ⟨g, 0, none⟩) 2 2 := hF.done 3 (59, SP.is (.slice (some ⟨g, 0, none⟩) 2 2)) (by rw [hD]; rfl) (hall 3 (by decide))
      obtain ⟨x60, h60⟩ : ∃ x, ac.eval (.tmp 60) = x := ⟨_, rfl⟩
      have h61 : ac.eval (.tmp 61) = .int .i64 0 := hF.done 5 (61, SP.is (.int .i64 0)) (by rw [hD]; rfl) (hall 5 (by decide))
      have h12 : ac.eval (.tmp 12) = .int .i64 0 := hF.done 6 (12, SP.is (.int .i64 0)) (by rw [hD]; rfl) (hall 6 (by decide))
      have ea := hF.lay [(56, .agg LP.toArray), (57, .agg N0.toArray), (58, x58), (59, .slice (some ⟨g, 0, none⟩) 2 2), (60, x60), (61, .int .i64 0), (12, .int .i64 0)] (by rw [hD, hsz]; rfl) (by simp only [List.forall_mem_cons, List.not_mem_nil, false_implies, implies_true, and_true]; exact ⟨h56, h57, h58, h59, h60, h61, h12⟩)
      rw [ha0] at ea
      simp only [List.foldl_cons, List.foldl_nil, List.setIfInBounds_toArray, List.set_cons_zero, List.set_cons_succ] at ea
      clear hF hall hr hl hD zs13 zs16 zs17 ha0 hsz h56 h57 h58 h59 h60 h61 h12
      subst ea
      have HG : Hid (Lg w0 W S (q + 1 + 1 + 1 + 1 + 3) f3) := hG
      have HK : Hid (Kp w W) := hK
      clear hG hK
      go_wp2_with fail
      go_ret
      exact ⟨rfl, HG.out, HK.out⟩

end Go.Proofs.YtelioddogdcdoaaDoor
