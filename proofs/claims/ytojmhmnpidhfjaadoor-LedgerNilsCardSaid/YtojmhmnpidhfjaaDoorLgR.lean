/-
  ask, askRunning, Register, Token.
-/
import Derived.Test.YtojmhmnpidhfjaaDoorLgQ
namespace Go.Proofs.YtojmhmnpidhfjaaDoor
open Go Go.RowKit Go.Maps
open Sha
open Wd

theorem bw_open {w : World} {A : Option Addr} {n c : Nat} {d : List (BitVec 8)} (h : Bw w (.slice A n c) d) (h0 : 0 < n) : ∃ g, A = some ⟨g, 0, none⟩ ∧ n ≤ c ∧ w.rangeAt g 0 (vB d) := by
  obtain ⟨h1, h2⟩ := h
  rcases h2 with ⟨hv, hn⟩ | ⟨g, cap, cur, hv, hg, hh, hc, hm, hs, hx⟩
  · simp only [Value.slice.injEq] at hv
    omega
  · simp only [Value.slice.injEq] at hv
    obtain ⟨rfl, rfl, rfl⟩ := hv
    refine ⟨g, rfl, hc, fun j u hj => ?_⟩
    rw [← hx] at hj
    have hlt : j < d.length * 1 := by have := (List.getElem?_eq_some_iff.1 hj).1; rw [List.length_take] at this; omega
    rw [List.getElem?_take_of_lt hlt] at hj
    rw [Nat.zero_add, cell_of_row w g j cur _ (0, 0) hh]
    simpa using hj

theorem askK (w0 : World) (S q : Nat) (f : ByteArray → List (BitVec 8)) (hq : q < 1000000) (n : Nat) (hn : n < 1000000) (hf : f tK = 1#8 :: wB n) (LP LT : List Value) (hLP : LP = [.pointer (some ⟨S, 0, none⟩), .int .u8 5]) (hLT : LT = [.bool true, .bool false, .int .u64 (n : Int), .int .u64 0, .int .u64 0, .int .u64 0]) (w : World) (h : Lg w0 w S q f) :
    Calls Tryd.prog 24 #[.pointer (some ⟨S, 0, none⟩), .int .i64 5] w fun e w' => e = .returned (.tuple #[.agg LP.toArray, .agg LT.toArray, .int .i64 0]) ∧ Lg w0 w' S (q + 1) f ∧ Kp w w' := by
  have q1 := askT w0 S q f hq 33 (1#8 :: wB n) hf (by rw [List.length_cons, wB_len]) true false (n : Int) LT hLT (fun A cap W hb _ => by
    obtain ⟨g, rfl, hc, hr⟩ := bw_open hb (by decide)
    rw [hLT]
    exact rtok_run n hn g 0 cap hc W hr) w h
  rw [hLP]
  exact q1
theorem askZ (w0 : World) (S q : Nat) (f : ByteArray → List (BitVec 8)) (hq : q < 1000000) (hf : f tK = []) (LP LT : List Value) (hLP : LP = [.pointer (some ⟨S, 0, none⟩), .int .u8 5]) (hLT : LT = zK) (w : World) (h : Lg w0 w S q f) :
    Calls Tryd.prog 24 #[.pointer (some ⟨S, 0, none⟩), .int .i64 5] w fun e w' => e = .returned (.tuple #[.agg LP.toArray, .agg LT.toArray, .int .i64 0]) ∧ Lg w0 w' S (q + 1) f ∧ Kp w w' := by
  have q1 := askT w0 S q f hq 0 [] hf rfl false false 0 LT hLT (fun A cap W hb _ => by
    rw [hLT]
    exact rtok_none A cap W) w h
  rw [hLP]
  exact q1
theorem guardTk : Tryd.prog.eqGuardType Tryd.prog.depth 33 = false := by kernel_rfl
theorem sz_u64 (w : World) : (sizeOf 24).run Tryd.prog w = .ok 1 w := by
  go_simp
theorem eqW (a : Nat) (w : World) : (Op.equalIn 9999 26 (.agg #[.int .u64 (a : Int), .int .u64 0, .int .u64 0, .int .u64 0]) (.agg #[.int .u64 (a : Int), .int .u64 0, .int .u64 0, .int .u64 0])).run Tryd.prog w = .ok true w := by
  have q := run_equalIn_vQ (P := Tryd.prog) (w := w) 9997 26 24 4 Tryd.underlying26 Tryd.underlying24 sz_u64 [a, 0, 0, 0] [a, 0, 0, 0] rfl rfl
  rw [decide_eq_true rfl] at q
  exact q
theorem tok_zz (w : World) : (binOp .neq 33 (.agg zK.toArray) (.agg zK.toArray)).run Tryd.prog w = .ok (.bool false) w := by
  have hW : ∀ w, (Op.equalIn 9999 26 (.agg #[.int .u64 0, .int .u64 0, .int .u64 0, .int .u64 0]) (.agg #[.int .u64 0, .int .u64 0, .int .u64 0, .int .u64 0])).run Tryd.prog w = .ok true w := fun w => eqW 0 w
  go_simp
theorem tok_rz (n : Int) (w : World) : (binOp .eql 33 (.agg #[.bool true, .bool false, .int .u64 n, .int .u64 0, .int .u64 0, .int .u64 0]) (.agg zK.toArray)).run Tryd.prog w = .ok (.bool false) w := by
  go_simp
theorem tok_rp (n : Int) (w : World) : (binOp .eql 33 (.agg #[.bool true, .bool false, .int .u64 n, .int .u64 0, .int .u64 0, .int .u64 0]) (.agg #[.bool true, .bool true, .int .u64 n, .int .u64 0, .int .u64 0, .int .u64 0])).run Tryd.prog w = .ok (.bool false) w := by
  go_simp
theorem build_tok0 (w : World) : (Instr.build 33 #[]).run Tryd.prog w = .ok (.agg zK.toArray) w := by
  go_simp
section
variable {ops : Array Oper} {rest : List Oper} {op : Oper} {a : Act} {w : World} {Q : Exit → Act → World → Prop}
theorem wpList_buildK0 (hgd : op.guard = none) (ho : op.op = .build 33 #[]) (L : List Value) (hL : L = zK) (h : wpList Tryd.prog ops Q rest (a.put op.dst (.agg L.toArray)) w) : wpList Tryd.prog ops Q (op :: rest) a w :=
  wpList_plain hgd fun _ hK => by
    subst hL
    have hr := build_tok0 w
    unfold Oper.wp execOp
    simp only [ho, List.map_toArray, List.map_nil, Sem.run_bind, hr, Result.andThen_ok, Sem.run_pure, Oper.upon_value]
    exact hK _ _ h
theorem wpList_cmpK (hgd : op.guard = none) (bo : BinOp) (_hbo : bo = .eql ∨ bo = .neq) (x y : Operand) (yt : TypeId) (ho : op.op = .binOp bo 33 x y yt) (L M : List Value) (hx : a.eval x = .agg L.toArray) (hy : a.eval y = .agg M.toArray) (B : Bool)
    (hr : ∀ w, (binOp bo 33 (.agg L.toArray) (.agg M.toArray)).run Tryd.prog w = .ok (.bool B) w) (h : wpList Tryd.prog ops Q rest (a.put op.dst (.bool B)) w) : wpList Tryd.prog ops Q (op :: rest) a w :=
  wpList_plain hgd fun _ hK => by
    unfold Oper.wp execOp
    simp only [ho, hx, hy, Sem.run_bind, run_eqGuard_agg w bo 33 x y _ _ guardTk, Result.andThen_ok, hr, Sem.run_pure, Oper.upon_value]
    exact hK _ _ h
end
section
variable {o : Oper} {a : Act} {w : World} {K : Act → World → Prop} {Q : Exit → Act → World → Prop}
theorem wp_cmpK (bo : BinOp) (x y : Operand) (yt : TypeId) (ho : o.op = .binOp bo 33 x y yt) (L M : List Value) (hx : a.eval x = .agg L.toArray) (hy : a.eval y = .agg M.toArray) (B : Bool)
    (hr : ∀ w, (binOp bo 33 (.agg L.toArray) (.agg M.toArray)).run Tryd.prog w = .ok (.bool B) w) (h : K (a.put o.dst (.bool B)) w) : Oper.wp Tryd.prog o a w K Q := by
  unfold Oper.wp execOp
  simp only [ho, hx, hy, Sem.run_bind, run_eqGuard_agg w bo 33 x y _ _ guardTk, Result.andThen_ok, hr, Sem.run_pure, Oper.upon_value]
  exact h
end
set_option maxRecDepth 100000 in
set_option maxHeartbeats 2000000 in
theorem register_ok (w0 : World) (S q : Nat) (f f2 : ByteArray → List (BitVec 8)) (hq : q < 999980) (hf : f tK = []) (hf2 : f2 = upd f tK (1#8 :: wB 0)) (w : World) (h : Lg w0 w S q f) :
    Calls Tryd.prog 8 #[.pointer (some ⟨S, 0, none⟩), .int .i64 5] w fun e w' => e = .returned (.int .i64 0) ∧ Lg w0 w' S (q + 2) f2 ∧ Kp w w' := by
  obtain ⟨LP, hLP⟩ : ∃ L : List Value, L = [.pointer (some ⟨S, 0, none⟩), .int .u8 5] := ⟨_, rfl⟩
  obtain ⟨LZ, hLZ⟩ : ∃ L : List Value, L = zK := ⟨_, rfl⟩
  obtain ⟨LT, hLT⟩ : ∃ L : List Value, L = [.bool true, .bool false, .int .u64 0, .int .u64 0, .int .u64 0, .int .u64 0] := ⟨_, rfl⟩
  have HPE : Hid (LP = [.pointer (some ⟨S, 0, none⟩), .int .u8 5]) := hLP
  have HPI : Hid ((Tryd.prog.info? 61).map (·.size) = some LP.length) := by show _ = _; rw [hLP]; exact info_pg
  have HPN : Hid (LP.length = zP.length) := by show _ = _; rw [hLP]; rfl
  have HPO : Hid (LP.toArray.all (·.oneCell') = true) := pg_one hLP
  have HLZE : Hid (LZ = zK) := hLZ
  have HLZI : Hid ((Tryd.prog.info? 33).map (·.size) = some LZ.length) := by show _ = _; rw [hLZ]; exact info_tok
  have HLZN : Hid (LZ.length = zK.length) := by show _ = _; rw [hLZ]
  have HLZO : Hid (LZ.toArray.all (·.oneCell') = true) := tok_one hLZ
  have HTE : Hid (LT = [.bool true, .bool false, .int .u64 0, .int .u64 0, .int .u64 0, .int .u64 0]) := hLT
  have HQ : Hid (q < 999980) := hq
  have HF2 : Hid (f2 = _) := hf2
  have HA : Hid _ := askZ w0 S q f (by omega) hf LP LZ hLP hLZ w h
  have HC : Hid (∀ w, (binOp .neq 33 (.agg LZ.toArray) (.agg LZ.toArray)).run Tryd.prog w = .ok (.bool false) w) := by rw [hLZ]; exact tok_zz
  have HRU : Hid (∀ W, Calls Tryd.prog 26 #[.agg LZ.toArray] W fun e w' => e = .returned (.agg LT.toArray) ∧ Below W.heap.size W w') := fun W => by rw [hLZ, hLT]; exact running_any false false 0 W
  clear hLP hLZ hLT hq hf hf2 h
  go_enter Tryd.func8, Tryd.ntmps8
  go_wp2_with fail
  refine Calls.mono HA.out ?_
  rintro e V ⟨rfl, hG, hK⟩
  have HG : Hid (Lg w0 V S (q + 1) f) := hG
  have HK : Hid (Kp w V) := hK
  clear hG hK HA
  go_upto_region 2 with (first
    | (refine wpList_allocP rfl rfl ?_; intro XP q1 q2 q3; have RP1 : Hid (Row XP V.heap.size zP 61) := q1; have BP : Hid (Below V.heap.size V XP) := q2; have NE12 : Hid (XP.heap.size ≠ V.heap.size) := (by show _ ≠ _; rw [q3]; omega); clear q1 q2 q3; simp only [Act.put, List.setIfInBounds_toArray, List.set_cons_zero, List.set_cons_succ])
    | (refine wpList_allocK rfl rfl ?_; intro XK q1 q2 q3; have RK1 : Hid (Row XK XP.heap.size zK 33) := q1; have BK : Hid (Below XP.heap.size XP XK) := q2; have RP2 : Hid (Row XK V.heap.size zP 61) := Row.below RP1.out q2 RP1.out.lt; clear q1 q2 q3; simp only [Act.put, List.setIfInBounds_toArray, List.set_cons_zero, List.set_cons_succ])
    | (refine wpList_storeL rfl 61 (.tmp 5) (.tmp 12) rfl V.heap.size LP zP 61 rfl rfl RP2.out HPN.out HPI.out HPO.out ?_; intro YP q1 q2; have HYP : Hid (YP = _) := q1; have RYP : Hid (Row YP V.heap.size LP 61) := q2; have RK2 : Hid (Row YP XP.heap.size zK 33) := (by rw [q1]; exact Row.setCells_other RK1.out _ _ _ NE12.out); clear q1 q2; simp only [Act.put])
    | (refine wpList_storeL rfl 33 (.tmp 6) (.tmp 13) rfl XP.heap.size LZ zK 33 rfl rfl RK2.out HLZN.out HLZI.out HLZO.out ?_; intro YK q1 q2; have HYK : Hid (YK = _) := q1; have RYK : Hid (Row YK XP.heap.size LZ 33) := q2; clear q1 q2; simp only [Act.put]))
  obtain ⟨p1, hp1⟩ : ∃ p, p = V.heap.size := ⟨_, rfl⟩
  obtain ⟨p2, hp2⟩ : ∃ p, p = XP.heap.size := ⟨_, rfl⟩
  have b12 : Below V.heap.size V YK := by rw [HYK.out, HYP.out]; exact below_setCells (below_setCells (BP.out.trans (BK.out.mono BP.out.size)) (Nat.le_refl _) _) BP.out.size _
  have R1 : Hid (Row YK p1 LP 61) := by rw [HYK.out, hp1]; exact Row.setCells_other RYP.out _ _ _ (Ne.symm NE12.out)
  have R2 : Hid (Row YK p2 LZ 33) := by rw [hp2]; exact RYK.out
  have h12 : p1 ≠ p2 := by rw [hp1, hp2]; exact Ne.symm NE12.out
  have H12 : Hid (p1 ≠ p2) := h12
  have HP1 : Hid (p1 = V.heap.size) := hp1
  have HP2 : Hid (V.heap.size ≤ p2) := by rw [hp2]; exact BP.out.size
  rw [← hp1, ← hp2]
  clear hp1 hp2 h12 BP BK RP1 RP2 RK1 RK2 NE12 HYP RYP HYK RYK
  replace HG : Hid (Lg w0 YK S (q + 1) f) := HG.out.be b12
  replace HK : Hid (Kp w YK) := HK.out.trans (Kp.of_below b12)
  have RA2 : Hid (YK.rangeAt p2 0 LZ) := R2.out.all
  clear b12
  go_upto_region 6 with (first
    | (refine wpList_load_w rfl 33 (.tmp 6) rfl p2 0 rfl LZ _ RA2.out Tryd.underlying33 rfl HLZI.out ?_; simp only [Act.put, List.setIfInBounds_toArray, List.set_cons_zero, List.set_cons_succ])
    | (refine wpList_buildK0 rfl rfl LZ HLZE.out ?_; simp only [Act.put, List.setIfInBounds_toArray, List.set_cons_zero, List.set_cons_succ])
    | (refine wpList_cmpK rfl .neq (.inr rfl) (.tmp 20) (.tmp 21) _ rfl LZ LZ rfl rfl false HC.out ?_; simp only [Act.put, List.setIfInBounds_toArray, List.set_cons_zero, List.set_cons_succ]))
  have r1 := R1.out
  have r2 := R2.out
  have hG := HG.out
  have hK := HK.out
  have hb1 := Below.refl YK.heap.size YK
  clear R1 R2 HG HK RA2
  refine wp_named fun a0 ha0 => ?_
  have hsz : a0.tmps.size = 27 := by rw [ha0]; rfl
  have zs5 : a0.eval (.tmp 5) = .pointer (some ⟨p1, 0, none⟩) := by rw [ha0]; rfl
  have zs6 : a0.eval (.tmp 6) = .pointer (some ⟨p2, 0, none⟩) := by rw [ha0]; rfl
  obtain ⟨D, hD⟩ : ∃ D : List (Tmp × SP), D = [(23, SP.is (.agg LP.toArray)), (24, SP.is (.agg LZ.toArray)), (25, SP.is (.agg LT.toArray)), (26, SP.is (.int .i64 0)), (4, SP.is (.int .i64 0))] := ⟨_, rfl⟩
  refine wp_region_then (by kernel_rfl) 3 (by decide) (by kernel_rfl) (fun listed ac W => Fp D a0 listed ac W ∧ Below YK.heap.size YK W ∧ Row W p1 LP 61 ∧ Row W p2 LZ 33 ∧ Lg w0 W S (q + 1) f ∧ Kp w W) (fun listed ac W => Fp D a0 listed ac W ∧ Lg w0 W S (q + 1 + 1) f2 ∧ Kp w W) ?_ ?_ ?_ ?_ ?_
  · exact ⟨Fp.start D a0 _ _, Below.drew hb1, Row.drew r1, Row.drew r2, hG.below (Below.drew (Below.refl _ _)), hK.below (Below.drew (Below.refl _ _))⟩
  · clear ha0 hb1 r1 r2 hG hK
    intro listed ac W k hl hI hdn hk hne hnl
    replace hl : listed.size = 5 := hl
    obtain ⟨hF, hb1, r1, r2, hG, hK⟩ := hI
    have hk1 : k < 5 := List.mem_range.1 (List.mem_filter.1 hk).1
    rcases (show k = 0 ∨ k = 1 ∨ k = 2 ∨ k = 3 ∨ k = 4 by omega) with rfl | rfl | rfl | rfl | rfl
    · have hk3 := hk
      exact wpOp_plain rfl rfl (wp_load_mid 61 (.tmp 5) rfl p1 0 ((hF.keep 5 (by rw [hD]; rfl)).trans zs5) LP _ r1.all Tryd.underlying61 rfl HPI.out ⟨(hF.put 0 23 (SP.is (.agg LP.toArray)) (.agg LP.toArray) (by rw [hD]; rfl) rfl (by rw [hD]; rfl) (by rw [hsz]; decide) (by rw [hl]; decide)), hb1, r1, r2, hG, hK⟩)
    · have hk3 := hk
      exact wpOp_plain rfl rfl (wp_load_mid 33 (.tmp 6) rfl p2 0 ((hF.keep 6 (by rw [hD]; rfl)).trans zs6) LZ _ r2.all Tryd.underlying33 rfl HLZI.out ⟨(hF.put 1 24 (SP.is (.agg LZ.toArray)) (.agg LZ.toArray) (by rw [hD]; rfl) rfl (by rw [hD]; rfl) (by rw [hsz]; decide) (by rw [hl]; decide)), hb1, r1, r2, hG, hK⟩)
    · have hk3 := hk
      have e24 := (hF.done 1 (24, SP.is (.agg LZ.toArray)) (by rw [hD]; rfl) (ready_dep hk 1 (by kernel_rfl)))
      refine wpOp_plain rfl rfl (wp_fcall_v 26 #[.agg LZ.toArray] rfl rfl (by show [ac.eval (.tmp 24)] = _; rw [show ac.eval (.tmp 24) = .agg LZ.toArray from e24]) (by go_simp) ((HRU.out W).mono ?_))
      rintro e W2 ⟨rfl, hB⟩
      exact ⟨_, rfl, ((hF.world hB).put 2 25 (SP.is (.agg LT.toArray)) (.agg LT.toArray) (by rw [hD]; rfl) rfl (by rw [hD]; rfl) (by rw [hsz]; decide) (by rw [hl]; decide)), hb1.trans (hB.mono hb1.size), Row.below r1 hB (Row.lt r1), Row.below r2 hB (Row.lt r2), hG.below hB, hK.below hB⟩
    · exact absurd rfl hne
    · exact absurd (ready_dep hk 3 (by kernel_rfl)) hnl
  · clear ha0 hb1 r1 r2 hG hK
    intro listed ac W hl hI hdn hk
    replace hl : listed.size = 5 := hl
    obtain ⟨hF, hb1, r1, r2, hG, hK⟩ := hI
    have e23 := (hF.done 0 (23, SP.is (.agg LP.toArray)) (by rw [hD]; rfl) (ready_dep hk 0 (by kernel_rfl)))
    have e25 := (hF.done 2 (25, SP.is (.agg LT.toArray)) (by rw [hD]; rfl) (ready_dep hk 2 (by kernel_rfl)))
    refine wpOp_plain rfl rfl (wp_fcall_v 25 #[.agg LP.toArray, .agg LT.toArray] rfl rfl (by show [ac.eval (.tmp 23), ac.eval (.tmp 25)] = _; rw [show ac.eval (.tmp 23) = .agg LP.toArray from e23, show ac.eval (.tmp 25) = .agg LT.toArray from e25]) (by go_simp) ((layT w0 S (q + 1) f f2 (by have := HQ.out; omega) 0 (by decide) LP LT HPE.out HTE.out HF2.out W hG).mono ?_))
    rintro e W2 ⟨rfl, hG2, hK2⟩
    have hT : Fp D a0 listed ac W2 := hF.turn (by rw [hD]; simp only [List.forall_mem_cons, List.not_mem_nil, false_implies, implies_true, and_true]; exact ⟨fun _ h => h, fun _ h => h, fun _ h => h, fun _ h => h, fun _ h => h⟩)
    exact ⟨_, rfl, (hT.put 3 26 (SP.is (.int .i64 0)) _ (by rw [hD]; rfl) rfl (by rw [hD]; rfl) (by rw [hsz]; decide) (by rw [hl]; decide)), hG2, hK.trans hK2⟩
  · clear ha0 hb1 r1 r2 hG hK
    intro listed ac W k hl hJ hdn hk hne hyl
    replace hl : listed.size = 5 := hl
    obtain ⟨hF, hG, hK⟩ := hJ
    have hk1 : k < 5 := List.mem_range.1 (List.mem_filter.1 hk).1
    rcases (show k = 0 ∨ k = 1 ∨ k = 2 ∨ k = 3 ∨ k = 4 by omega) with rfl | rfl | rfl | rfl | rfl
    · exact absurd (hdn 3 hyl 0 (by kernel_rfl)) (not_yet hk)
    · exact absurd (hdn 2 (hdn 3 hyl 2 (by kernel_rfl)) 1 (by kernel_rfl)) (not_yet hk)
    · exact absurd (hdn 3 hyl 2 (by kernel_rfl)) (not_yet hk)
    · exact absurd rfl hne
    · exact wpOp_plain rfl rfl (wp_assign_v (ac.eval (.tmp 26)) rfl rfl ⟨(hF.put 4 4 (SP.is (.int .i64 0)) _ (by rw [hD]; rfl) (hF.done 3 (26, SP.is (.int .i64 0)) (by rw [hD]; rfl) (ready_dep hk 3 (by kernel_rfl))) (by rw [hD]; rfl) (by rw [hsz]; decide) (by rw [hl]; decide)), hG, hK⟩)
  · clear hb1 r1 r2 hG hK
    intro listed ac W hl hJ hr
    replace hl : listed.size = 5 := hl
    obtain ⟨hF, hG, hK⟩ := hJ
    have hall := all_listed (by kernel_rfl) hl hr
    have h23 : ac.eval (.tmp 23) = .agg LP.toArray := hF.done 0 (23, SP.is (.agg LP.toArray)) (by rw [hD]; rfl) (hall 0 (by decide))
    have h24 : ac.eval (.tmp 24) = .agg LZ.toArray := hF.done 1 (24, SP.is (.agg LZ.toArray)) (by rw [hD]; rfl) (hall 1 (by decide))
    have h25 : ac.eval (.tmp 25) = .agg LT.toArray := hF.done 2 (25, SP.is (.agg LT.toArray)) (by rw [hD]; rfl) (hall 2 (by decide))
    have h26 : ac.eval (.tmp 26) = .int .i64 0 := hF.done 3 (26, SP.is (.int .i64 0)) (by rw [hD]; rfl) (hall 3 (by decide))
    have h4 : ac.eval (.tmp 4) = .int .i64 0 := hF.done 4 (4, SP.is (.int .i64 0)) (by rw [hD]; rfl) (hall 4 (by decide))
    have ea := hF.lay [(23, .agg LP.toArray), (24, .agg LZ.toArray), (25, .agg LT.toArray), (26, .int .i64 0), (4, .int .i64 0)] (by rw [hD, hsz]; rfl) (by simp only [List.forall_mem_cons, List.not_mem_nil, false_implies, implies_true, and_true]; exact ⟨h23, h24, h25, h26, h4⟩)
    rw [ha0] at ea
    simp only [List.foldl_cons, List.foldl_nil, List.setIfInBounds_toArray, List.set_cons_zero, List.set_cons_succ] at ea
    clear hF hall hr hl hD zs5 zs6 ha0 hsz h23 h24 h25 h26 h4
    subst ea
    have HG : Hid (Lg w0 W S (q + 1 + 1) f2) := hG
    have HK : Hid (Kp w W) := hK
    clear hG hK
    go_wp2_with fail
    go_ret
    exact ⟨rfl, HG.out, HK.out⟩
set_option maxRecDepth 100000 in
set_option maxHeartbeats 2000000 in
theorem token_ok (w0 : World) (S q : Nat) (f : ByteArray → List (BitVec 8)) (hq : q < 999980) (n : Nat) (hn : n < 1000000) (hf : f tK = 1#8 :: wB n) (LT : List Value) (hLT : LT = [.bool true, .bool false, .int .u64 (n : Int), .int .u64 0, .int .u64 0, .int .u64 0]) (w : World) (h : Lg w0 w S q f) :
    Calls Tryd.prog 12 #[.pointer (some ⟨S, 0, none⟩), .int .i64 5] w fun e w' => e = .returned (.tuple #[.agg LT.toArray, .int .i64 0]) ∧ Lg w0 w' S (q + 1) f ∧ Kp w w' := by
  obtain ⟨LP, hLP⟩ : ∃ L : List Value, L = [.pointer (some ⟨S, 0, none⟩), .int .u8 5] := ⟨_, rfl⟩
  have HPE : Hid (LP = [.pointer (some ⟨S, 0, none⟩), .int .u8 5]) := hLP
  have HPI : Hid ((Tryd.prog.info? 61).map (·.size) = some LP.length) := by show _ = _; rw [hLP]; exact info_pg
  have HPN : Hid (LP.length = zP.length) := by show _ = _; rw [hLP]; rfl
  have HPO : Hid (LP.toArray.all (·.oneCell') = true) := pg_one hLP
  have HLTE : Hid (LT = [.bool true, .bool false, .int .u64 (n : Int), .int .u64 0, .int .u64 0, .int .u64 0]) := hLT
  have HLTI : Hid ((Tryd.prog.info? 33).map (·.size) = some LT.length) := by show _ = _; rw [hLT]; exact info_tok
  have HLTN : Hid (LT.length = zK.length) := by show _ = _; rw [hLT]; rfl
  have HLTO : Hid (LT.toArray.all (·.oneCell') = true) := tok_one hLT
  have HQ : Hid (q < 999980) := hq
  have HN : Hid (n < 1000000) := hn
  have HF : Hid (f tK = 1#8 :: wB n) := hf
  have HG : Hid (Lg w0 w S q f) := h
  have HW0 : Hid (w0.heap.size ≤ w.heap.size) := h.bel.size
  clear hLP hLT hq hn hf h
  go_enter Tryd.func12, Tryd.ntmps12
  go_wp2_with (refine wpList_allocK rfl rfl ?_; intro X4 q1 q2 q3; have R4 : Hid (Row X4 _ zK 33) := q1; have B4 : Hid (Below _ _ X4) := q2; clear q1 q2 q3; simp only [Act.put, List.setIfInBounds_toArray, List.set_cons_zero, List.set_cons_succ])
  obtain ⟨b4, hb4⟩ : ∃ b, b = w.heap.size := ⟨_, rfl⟩
  have HB4 : Hid (b4 = w.heap.size) := hb4
  rw [← hb4] at R4
  rw [← hb4]
  replace HG : Hid (Lg w0 X4 S q f) := HG.out.be B4.out
  have HK : Hid (Kp w X4) := Kp.of_below B4.out
  clear hb4 B4
  refine Calls.mono (askK w0 S q f (by have := HQ.out; omega) n HN.out HF.out LP LT HPE.out HLTE.out X4 HG.out) ?_
  rintro e V ⟨rfl, hG, hK⟩
  replace R4 : Hid (Row V b4 zK 33) := hK.row _ _ _ (by decide) R4.out
  replace HG : Hid (Lg w0 V S (q + 1) f) := hG
  replace HK : Hid (Kp w V) := HK.out.trans hK
  clear hG hK
  go_upto_region 2 with (first
    | (refine wpList_allocP rfl rfl ?_; intro XP q1 q2 q3; have RP1 : Hid (Row XP V.heap.size zP 61) := q1; have BP : Hid (Below V.heap.size V XP) := q2; have NE12 : Hid (XP.heap.size ≠ V.heap.size) := (by show _ ≠ _; rw [q3]; omega); clear q1 q2 q3; simp only [Act.put, List.setIfInBounds_toArray, List.set_cons_zero, List.set_cons_succ])
    | (refine wpList_allocK rfl rfl ?_; intro XK q1 q2 q3; have RK1 : Hid (Row XK XP.heap.size zK 33) := q1; have BK : Hid (Below XP.heap.size XP XK) := q2; have RP2 : Hid (Row XK V.heap.size zP 61) := Row.below RP1.out q2 RP1.out.lt; clear q1 q2 q3; simp only [Act.put, List.setIfInBounds_toArray, List.set_cons_zero, List.set_cons_succ])
    | (refine wpList_storeL rfl 61 (.tmp 6) (.tmp 13) rfl V.heap.size LP zP 61 rfl rfl RP2.out HPN.out HPI.out HPO.out ?_; intro YP q1 q2; have HYP : Hid (YP = _) := q1; have RYP : Hid (Row YP V.heap.size LP 61) := q2; have RK2 : Hid (Row YP XP.heap.size zK 33) := (by rw [q1]; exact Row.setCells_other RK1.out _ _ _ NE12.out); clear q1 q2; simp only [Act.put])
    | (refine wpList_storeL rfl 33 (.tmp 7) (.tmp 14) rfl XP.heap.size LT zK 33 rfl rfl RK2.out HLTN.out HLTI.out HLTO.out ?_; intro YK q1 q2; have HYK : Hid (YK = _) := q1; have RYK : Hid (Row YK XP.heap.size LT 33) := q2; clear q1 q2; simp only [Act.put]))
  obtain ⟨p1, hp1⟩ : ∃ p, p = V.heap.size := ⟨_, rfl⟩
  obtain ⟨p2, hp2⟩ : ∃ p, p = XP.heap.size := ⟨_, rfl⟩
  have b12 : Below V.heap.size V YK := by rw [HYK.out, HYP.out]; exact below_setCells (below_setCells (BP.out.trans (BK.out.mono BP.out.size)) (Nat.le_refl _) _) BP.out.size _
  have R1 : Hid (Row YK p1 LP 61) := by rw [HYK.out, hp1]; exact Row.setCells_other RYP.out _ _ _ (Ne.symm NE12.out)
  have R2 : Hid (Row YK p2 LT 33) := by rw [hp2]; exact RYK.out
  have h12 : p1 ≠ p2 := by rw [hp1, hp2]; exact Ne.symm NE12.out
  have H12 : Hid (p1 ≠ p2) := h12
  have HP1 : Hid (p1 = V.heap.size) := hp1
  have HP2 : Hid (V.heap.size ≤ p2) := by rw [hp2]; exact BP.out.size
  rw [← hp1, ← hp2]
  clear hp1 hp2 h12 BP BK RP1 RP2 RK1 RK2 NE12 HYP RYP HYK RYK
  replace R4 : Hid (Row YK b4 zK 33) := Row.below R4.out b12 R4.out.lt
  replace HG : Hid (Lg w0 YK S (q + 1) f) := HG.out.be b12
  replace HK : Hid (Kp w YK) := HK.out.trans (Kp.of_below b12)
  have RA2 : Hid (YK.rangeAt p2 0 LT) := R2.out.all
  clear b12
  go_wp2_with (first
    | (refine wpList_load_w rfl 33 (.tmp 7) rfl p2 0 rfl LT _ RA2.out Tryd.underlying33 rfl HLTI.out ?_; simp only [Act.put, List.setIfInBounds_toArray, List.set_cons_zero, List.set_cons_succ])
    | (refine wpList_storeL rfl 33 (.tmp 4) (.tmp 16) rfl b4 LT zK 33 rfl rfl R4.out HLTN.out HLTI.out HLTO.out ?_; intro Y q1 q2; have HY : Hid (Y = _) := q1; have RY : Hid (Row Y b4 LT 33) := q2; clear q1 q2; simp only [Act.put]))
  have hw4 : w0.heap.size ≤ b4 := by rw [HB4.out]; exact HW0.out
  have gG : Lg w0 Y S (q + 1) f := by rw [HY.out]; exact HG.out.kept R4.out (by decide) (by decide) (by decide) (by decide) (fun k hk => heap_sets _ _ _ _ _ hk) (below_setCells HG.out.bel hw4 _)
  have gK : Kp w Y := by rw [HY.out]; exact Kp.kept b4 (by rw [HB4.out]; exact Nat.le_refl _) HK.out (fun k hk => heap_sets _ _ _ _ _ hk) (below_setCells (Below.refl 0 _) (Nat.zero_le b4) _).size
  exact bodyPost_ret (results_rowS_tmp Tryd.results12 _ _ b4 33 LT (.int .i64 0) rfl rfl RY.out Tryd.underlying33 HLTI.out) rfl ⟨rfl, gG, gK⟩

end Go.Proofs.YtojmhmnpidhfjaaDoor
