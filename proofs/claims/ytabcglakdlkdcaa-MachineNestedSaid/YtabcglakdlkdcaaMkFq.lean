/-
  the law MachineNested.
-/
import Derived.Test.YtabcglakdlkdcaaMkFo
import Derived.Test.YtabcglakdlkdcaaMkFm
namespace Go.Proofs.Ytabcglakdlkdcaa
open Go Go.RowKit
open Sha
open Wd

section
variable {ops : Array Oper} {rest : List Oper} {op : Oper} {a : Act} {w : World} {Q : Exit → Act → World → Prop}
theorem wpList_eqRnW (hw : Region.wanted op (yielded ops a.tmps) = true) (x y : Operand) (yt : TypeId) (ho : op.op = .binOp .eql 35 x y yt) (L : List Value) (m : Nat) (g : Int) (hL : L = wq m ++ [.int .i64 g]) (hx : a.eval x = .agg L.toArray) (hy : a.eval y = .agg L.toArray) (h : wpList Try.prog ops Q rest (a.put op.dst (.bool true)) w) : wpList Try.prog ops Q (op :: rest) a w :=
  BigFrame.wpList_want hw fun _ hK => by
    have hr : (binOp .eql 35 (.agg L.toArray) (.agg L.toArray)).run Try.prog w = .ok (.bool true) w := by rw [run_eql_struct, selfRn w 9996 m g L hL]; rfl
    unfold Oper.wp execOp
    simp only [ho, hx, hy, Sem.run_bind, run_eqGuard_agg w .eql 35 x y _ _ guardRn, Result.andThen_ok, hr, Sem.run_pure, Oper.upon_value]
    exact hK _ _ h
theorem wpList_ldRW (hw : Region.wanted op (yielded ops a.tmps) = true) (x : Operand) (ho : op.op = .load 35 x) (b : Nat) (hx : a.eval x = .pointer (some ⟨b, 0, none⟩)) (L : List Value) (hL : L.length = 5) (r : Row w b L 35) (h : wpList Try.prog ops Q rest (a.put op.dst (.agg L.toArray)) w) : wpList Try.prog ops Q (op :: rest) a w :=
  BigFrame.wpList_want hw fun _ hK => wp_load_mid 35 x ho b 0 hx L _ r.all Try.underlying35 rfl (by rw [hL]; exact info_Ran) (hK _ _ h)
end
def SP.tq (RV : List Value) (RE : Int) (n : Nat) (F : List Value) : SP := ⟨fun W v => ∃ A c, v = .tuple #[.agg RV.toArray, .int .i64 RE, .slice A n c] ∧ Lw W tAk 30 (.slice A n c) n F, fun _ _ _ hB h => by obtain ⟨A, c, e, l⟩ := h; exact ⟨A, c, e, Lw.be l hB⟩⟩
def SP.qs (n : Nat) (F : List Value) : SP := ⟨fun W v => ∃ A c, v = .slice A n c ∧ Lw W tAk 30 (.slice A n c) n F, fun _ _ _ hB h => by obtain ⟨A, c, e, l⟩ := h; exact ⟨A, c, e, Lw.be l hB⟩⟩
def SP.inr (n : Nat) (d : List (BitVec 8)) : SP := ⟨fun W v => ∃ g c, v = .slice (some ⟨g, 0, none⟩) n c ∧ Inr W (.slice (some ⟨g, 0, none⟩) n c) d, fun _ _ _ hB h => by obtain ⟨g, c, e, l⟩ := h; exact ⟨g, c, e, l.rows fun b cs r => Row.below r hB r.lt⟩⟩
theorem SP.tq_turn {RV : List Value} {RE : Int} {n : Nat} {F : List Value} {W : World} {b : Nat} {cs vs : List Value} (r : Row W b cs 35) {v : Value} (h : (SP.tq RV RE n F).P W v) : (SP.tq RV RE n F).P (W.setCells b 0 vs) v := by
  obtain ⟨A, c, e, l⟩ := h
  exact ⟨A, c, e, Lw.gro l (gro_setCells b vs 0 W W (Gro.refl _ W)) (Lw.ne l r (by decide))⟩
theorem SP.qs_turn {n : Nat} {F : List Value} {W : World} {b : Nat} {cs vs : List Value} (r : Row W b cs 35) {v : Value} (h : (SP.qs n F).P W v) : (SP.qs n F).P (W.setCells b 0 vs) v := by
  obtain ⟨A, c, e, l⟩ := h
  exact ⟨A, c, e, Lw.gro l (gro_setCells b vs 0 W W (Gro.refl _ W)) (Lw.ne l r (by decide))⟩
theorem lw_inr {w : World} {g n c : Nat} {d : List (BitVec 8)} (hn : n = d.length) (hc : n ≤ c) (h : Lw w 5 1 (.slice (some ⟨g, 0, none⟩) n c) n (vB d)) : Inr w (.slice (some ⟨g, 0, none⟩) n c) d := by
  obtain ⟨h1, h2⟩ := h
  rcases h2 with ⟨h2, _⟩ | ⟨g', cap, cur, hv, _, hh, hcc, _, hs, ht⟩
  · cases h2
  · simp only [Value.slice.injEq, Option.some.injEq, Addr.mk.injEq] at hv
    obtain ⟨⟨rfl, _, _⟩, _, rfl⟩ := hv
    refine .inr ⟨g, c, cur.toList, by rw [hn], by rw [← hn]; exact hc, by unfold Row; simpa using hh, fun j u hj => ?_⟩
    have hlt : j < n * 1 := by have := (List.getElem?_eq_some_iff.1 hj).1; rwa [h1] at this
    rw [← ht] at hj
    rwa [List.getElem?_take_of_lt hlt] at hj
def c500 : Ca := ⟨List.replicate 20 0#8, List.replicate 20 0#8, 0, 0, 0, 500⟩
theorem c500_wf : c500.Wf := ⟨rfl, rfl, Nat.two_pow_pos 256⟩
theorem built_c5 : Try.prog.built 30 [(6, .int .i64 500)] = some (List.replicate 40 (Value.int .u8 0) ++ [Value.int .i64 0, .int .u64 0, .int .u64 0, .int .u64 0, .int .u64 0, .slice none 0 0, .int .i64 0, .int .i64 500]).toArray := by kernel_rfl
theorem c500_cs : c500.cs (.slice none 0 0) = List.replicate 40 (Value.int .u8 0) ++ [Value.int .i64 0, .int .u64 0, .int .u64 0, .int .u64 0, .int .u64 0, .slice none 0 0, .int .i64 0, .int .i64 500] := by
  unfold Ca.cs c500
  rw [wq_zero]
  rfl
theorem built_pl2 (kv : Value) (L : List Value) (hL : L.length = 48) : ∀ A n c, kv = .slice A n c → Try.prog.built 33 [(0, kv), (1, .agg L.toArray)] = some (kv :: (L ++ [.slice none 0 0])).toArray := by
  intro A n c e1
  subst e1
  obtain ⟨y_0, y_1, y_2, y_3, y_4, y_5, y_6, y_7, y_8, y_9, y_10, y_11, y_12, y_13, y_14, y_15, y_16, y_17, y_18, y_19, y_20, y_21, y_22, y_23, y_24, y_25, y_26, y_27, y_28, y_29, y_30, y_31, y_32, y_33, y_34, y_35, y_36, y_37, y_38, y_39, y_40, y_41, y_42, y_43, y_44, y_45, y_46, y_47, rfl⟩ := len48 hL
  kernel_rfl
def d11 : List (BitVec 8) := [2#8, 1#8, 9#8, 2#8, 1#8, 4#8, 25#8, 2#8, 1#8, 1#8, 1#8]
set_option maxRecDepth 100000 in
set_option maxHeartbeats 16000000 in
theorem nested_walk (pd : List (BitVec 8)) (m : Nat) (hpd : pd.length = m) (c : Ca) (hc : c.Wf) (ags : List Nat) (rs : List (Nat × Int)) (hag : ∀ a ∈ ags, a < 2 ^ 256) (hrs : ∀ p ∈ rs, p.1 < 2 ^ 256) (Ak Aa Ar : Option Addr) (ck ca cr0 : Nat) (PL : List Value) (hPL : PL = .slice Ak m ck :: (c.cs (.slice Aa ags.length ca) ++ [.slice Ar rs.length cr0])) (d0 : List (BitVec 8)) (Ad : Option Addr) (cd : Nat) (w : World)
    (hk : Sin w 1 Ak m ck (vB pd)) (hkm : m ≤ maxLen ∧ m * 1 ≤ 140737488355328) (ha : Sin w 4 Aa ags.length ca (fw ags)) (ham : ags.length ≤ maxLen ∧ ags.length * 32 ≤ 140737488355328) (hr : Sin w 5 Ar rs.length cr0 (frs rs)) (hrm : rs.length ≤ maxLen ∧ rs.length * 40 ≤ 140737488355328) (hd0 : Sin w 1 Ad d0.length cd (vB d0)) (hd1 : d0.length ≤ 140737488351232) :
    Calls Try.prog 5 #[.agg PL.toArray, .slice Ad d0.length cd] w fun e w' => e = .returned (.bool true) ∧ Below w.heap.size w w' := by
  obtain ⟨RV, RE, Q, hmr⟩ : ∃ RV RE Q, mrun pd c ags rs = ((RV, RE), Q) := ⟨_, _, _, rfl⟩
  have hQl := mrun_len pd c ags rs
  have hQa := mrun_ask1 pd c ags rs
  rw [hmr] at hQl hQa
  have HQA : Hid (∀ q ∈ Q, Ask1 q) := hQa.1
  obtain ⟨m0, g0, h0⟩ := hQa.2
  have HRF : Hid (RV = wq m0 ++ [.int .i64 g0]) := h0
  have HRV : Hid (RV.length = 5 ∧ RV.toArray.all (·.oneCell') = true) := by
    rw [HRF.out]
    exact ⟨by rw [List.length_append, wq_len]; rfl, by
      rw [← Array.all_toList, List.all_append]
      have := wq_one m0
      rw [← Array.all_toList] at this
      rw [this]
      rfl⟩
  have HRVI : Hid ((Try.prog.info? 35).map (·.size) = some RV.length) := by show _ = _; rw [HRV.out.1]; exact info_Ran
  have HRVI2 : Hid ((Try.prog.info? 35).map (·.size) = some RV.toArray.size) := by show _ = _; rw [List.size_toArray, HRV.out.1]; exact info_Ran
  have HPLL : Hid (PL.length = 50) := by show _ = _; rw [hPL, List.length_cons, List.length_append, Ca.len hc]; rfl
  have HPLI : Hid ((Try.prog.info? 33).map (·.size) = some PL.length) := by show _ = _; rw [HPLL.out]; kernel_rfl
  obtain ⟨n7, hn7⟩ : ∃ n, n = Q.length := ⟨_, rfl⟩
  have HCA : Hid (∀ (inn : List (BitVec 8)), inn.length < 9223372036854775808 → ∀ (Ai : Option Addr) (ni ci : Nat) (W : World), Below w.heap.size w W → Inr W (.slice Ai ni ci) inn → Calls Try.prog 6 #[.agg PL.toArray, .slice Ai ni ci] W fun e w' => ∃ A7 c7, e = .returned (.tuple #[.agg RV.toArray, .int .i64 RE, .slice A7 n7 c7]) ∧ Lw w' tAk 30 (.slice A7 n7 c7) n7 Q.flatten ∧ Below W.heap.size W w') := fun inn hi Ai ni ci W kk hin => by
    rw [hn7]
    exact lrun_all (nextOK_any inn hi) pd m hpd c hc ags rs hag hrs Ak Aa Ar Ai ck ca cr0 ni ci PL hPL RV RE Q hmr W (hk.be kk) hkm (ha.be kk) ham (hr.be kk) hrm hin
  have HN7 : Hid (n7 = Q.length) := hn7
  rw [← hn7] at hQl
  have HD0 : Hid (Sin w 1 Ad d0.length cd (vB d0) ∧ d0.length ≤ 140737488351232) := ⟨hd0, hd1⟩
  obtain ⟨nd0, hnd0⟩ : ∃ n, n = d0.length := ⟨_, rfl⟩
  have HND0 : Hid (nd0 = d0.length) := hnd0
  rw [← hnd0]
  clear hk hkm ha ham hr hrm hag hrs hpd hPL hQa hmr hc h0 hd0 hd1 hn7 hnd0
  go_enter Try.func5, Try.ntmps5
  go_upto_region 1 with (refine wpList_boxG 33 rfl (.tmp 0) rfl PL rfl ?_; intro X1 q1 q2 q3; have R1 : Hid (Row X1 w.heap.size PL 33) := q1; have B1 : Hid (Below w.heap.size w X1) := q2; clear q1 q2 q3; simp only [Act.put, List.setIfInBounds_toArray, List.set_cons_zero, List.set_cons_succ])
  obtain ⟨b2, hb2⟩ : ∃ b, b = w.heap.size := ⟨_, rfl⟩
  rw [← hb2] at R1
  rw [← hb2]
  clear hb2
  go_upto_region 2 with (first
    | (refine wpList_load_w rfl 33 (.tmp 2) rfl b2 0 rfl PL _ R1.out.all Try.underlying33 rfl HPLI.out ?_; simp only [Act.put, List.setIfInBounds_toArray, List.set_cons_zero, List.set_cons_succ])
    | (go_at_call 6; refine Calls.mono (HCA.out [] (by decide) none 0 0 X1 B1.out (.inl ⟨rfl, none, 0, rfl⟩)) ?_; rintro e X2 ⟨A7, c7, rfl, q1, q2⟩; have LA2 : Hid (Lw X2 tAk 30 (.slice A7 n7 c7) n7 Q.flatten) := q1; have B2 : Hid (Below w.heap.size w X2) := B1.out.trans (q2.mono B1.out.size); have RP2 : Hid (Row X2 b2 PL 33) := Row.below R1.out q2 R1.out.lt; clear q1 q2)
    | (refine wpList_allocR rfl rfl ?_; intro X3 q1 q2 q3; have R1a : Hid (Row X3 X2.heap.size zR 35) := q1; have K1 : Hid (Below X2.heap.size X2 X3) := q2; clear q1 q2 q3; simp only [Act.put, List.setIfInBounds_toArray, List.set_cons_zero, List.set_cons_succ])
    | (refine wpList_storeL rfl 35 (.tmp 5) (.tmp 17) rfl X2.heap.size RV zR 35 rfl rfl R1a.out HRV.out.1 HRVI.out HRV.out.2 ?_; intro X4 q1 q2; have E1 : Hid (X4 = _) := q1; have R5 : Hid (Row X4 X2.heap.size RV 35) := q2; clear q1 q2; simp only [Act.put]))
  have k4 : Below X2.heap.size X2 X4 := by rw [E1.out]; exact below_setCells K1.out (Nat.le_refl _) _
  have LA4 : Hid (Lw X4 tAk 30 (.slice A7 n7 c7) n7 Q.flatten) := Lw.be LA2.out k4
  have B4 : Hid (Below w.heap.size w X4) := B2.out.trans (k4.mono B2.out.size)
  have RP4 : Hid (Row X4 b2 PL 33) := Row.below RP2.out k4 RP2.out.lt
  obtain ⟨b5, hb5⟩ : ∃ b, b = X2.heap.size := ⟨_, rfl⟩
  rw [← hb5] at R5
  rw [← hb5]
  clear hb5 k4 E1 R1a K1 LA2 B2 RP2 R1 B1
  by_cases hz : nd0 = 0
  · subst hz
    go_upto_region 4 with fail
    obtain ⟨X, hX⟩ : ∃ X, X = X4.alloc (Obj.cells #[.int .u8 2, .int .u8 1, .int .u8 9, .int .u8 2, .int .u8 1, .int .u8 4, .int .u8 25, .int .u8 2, .int .u8 1, .int .u8 1, .int .u8 1] 5) := ⟨_, rfl⟩
    obtain ⟨bd, hbd⟩ : ∃ b, b = X4.heap.size := ⟨_, rfl⟩
    rw [← hX, ← hbd]
    have kX : Below X4.heap.size X4 X := by rw [hX]; exact (Below.refl _ _).alloc (Nat.le_refl _) _
    have rdX : Row X bd (vB d11) 5 := by rw [hX, hbd]; exact Row.new' rfl rfl
    have sd : Sin X 1 (some ⟨bd, 0, none⟩) 11 11 (vB d11) := .inr ⟨bd, 0, rfl, rfl, rdX.all⟩
    have hnd : 11 = d11.length := rfl
    have hnd2 : 11 ≤ 140737488351232 := by decide
    have BX : Hid (Below w.heap.size w X) := B4.out.trans (kX.mono B4.out.size)
    have LAX : Hid (Lw X tAk 30 (.slice A7 n7 c7) n7 Q.flatten) := Lw.be LA4.out kX
    have RPX : Hid (Row X b2 PL 33) := Row.below RP4.out kX RP4.out.lt
    have R5X : Hid (Row X b5 RV 35) := Row.below R5.out kX R5.out.lt
    clear B4 LA4 RP4 R5 HD0 HND0 kX rdX hX hbd
    have HND : Hid (11 = d11.length) := hnd
    have HKM : Hid (11 ≤ maxLen ∧ 11 * 1 ≤ 140737488355328) := ⟨by unfold maxLen; omega, by omega⟩
    have HKV : Hid (∀ W, Below X.heap.size X W → Sin W 1 (some ⟨bd, 0, none⟩) 11 11 (vB d11)) := fun W k => sd.be k
    have HC3 : Hid (∀ W, Below X.heap.size X W → Calls Try.prog 6 #[.agg (Value.slice (some ⟨bd, 0, none⟩) 11 11 :: (c500.cs (.slice none 0 0) ++ [.slice none 0 0])).toArray, .slice none 0 0] W fun e w' => ∃ R1 R2 A7 n8 c7, e = .returned (.tuple #[.agg R1, .int .i64 R2, .slice A7 n8 c7]) ∧ Below W.heap.size W w') := fun W k => by
      obtain ⟨R1, R2, Q2, hm2⟩ : ∃ RV RE Q, mrun d11 c500 [] [] = ((RV, RE), Q) := ⟨_, _, _, rfl⟩
      refine Calls.mono (lrun_all nextOK_nil d11 11 hnd.symm c500 c500_wf [] [] (fun a ha => by cases ha) (fun p hp => by cases hp) (some ⟨bd, 0, none⟩) none none none 11 0 0 0 0 _ rfl R1 R2 Q2 hm2 W (sd.be k) ⟨by unfold maxLen; omega, by omega⟩ (.inl ⟨rfl, rfl, fun _ => rfl⟩) ⟨by simp, by simp⟩ (.inl ⟨rfl, rfl, fun _ => rfl⟩) ⟨by simp, by simp⟩ (.inl ⟨rfl, none, 0, rfl⟩)) ?_
      rintro e w' ⟨A7, c7, rfl, _, q2⟩
      exact ⟨_, _, A7, _, c7, rfl, q2⟩
    have HCI : Hid (∀ W, Below X.heap.size X W → ∀ g8 c8, Inr W (.slice (some ⟨g8, 0, none⟩) 11 c8) d11 → Calls Try.prog 6 #[.agg PL.toArray, .slice (some ⟨g8, 0, none⟩) 11 c8] W fun e w' => ∃ A7 c7, e = .returned (.tuple #[.agg RV.toArray, .int .i64 RE, .slice A7 n7 c7]) ∧ Lw w' tAk 30 (.slice A7 n7 c7) n7 Q.flatten ∧ Below W.heap.size W w') := fun W k g8 c8 hi => HCA.out d11 (by omega) (some ⟨g8, 0, none⟩) 11 c8 W (BX.out.trans (k.mono BX.out.size)) hi
    have hb1 := Below.refl X.heap.size X
    have rp := RPX.out
    obtain ⟨T0, hT0⟩ : ∃ T, T + 1 = X.heap.size := ⟨X.heap.size - 1, by have := rp.lt; omega⟩
    have l2 : b2 ≤ T0 := by have := rp.lt; omega
    clear hnd sd hnd2
    refine wp_named fun a0 ha0 => ?_
    have hsz : a0.tmps.size = 74 := by rw [ha0]; rfl
    have zs1 : a0.eval (.tmp 1) = .slice (some ⟨bd, 0, none⟩) 11 11 := by rw [ha0]; rfl
    have zs2 : a0.eval (.tmp 2) = .pointer (some ⟨b2, 0, none⟩) := by rw [ha0]; rfl
    obtain ⟨D, hD⟩ : ∃ D : List (Tmp × SP), D = [(25, SP.is (.agg PL.toArray)), (26, SP.any), (27, SP.is (.slice (some ⟨bd, 0, none⟩) 11 11)), (28, SP.any), (29, SP.tq RV RE n7 Q.flatten), (24, SP.tq RV RE n7 Q.flatten), (30, SP.is (.agg RV.toArray)), (31, SP.is (.int .i64 RE)), (32, SP.qs n7 Q.flatten), (8, SP.any), (1000, SP.any), (9, SP.is (.int .i64 RE)), (10, SP.qs n7 Q.flatten)] := ⟨_, rfl⟩
    refine wp_region_down (by kernel_rfl) (fun listed ac W => ∃ (b : Nat), listed.size = 13 ∧ Fp D a0 listed ac W ∧ Below X.heap.size X W ∧ Row W b2 PL 33 ∧ (listed.getD 9 false = true → ac.eval (.tmp 8) = .pointer (some ⟨b, 0, none⟩) ∧ T0 < b ∧ Row W b (if listed.getD 10 false = true then RV else zR) 35) ∧ (listed.getD 10 false = true → listed.getD 9 false = true) ∧ (listed.getD 1 false = true → ¬ listed.getD 3 false = true → (SP.new 0 0 [] 5).P W (ac.eval (.tmp 26))) ∧ (listed.getD 3 false = true → ¬ listed.getD 4 false = true → (SP.inr 11 d11).P W (ac.eval (.tmp 28)))) ?_ ?_ ?_
    · exact ⟨0, by simp, Fp.start D a0 _ _, Below.drew hb1, Row.drew rp, (fun h => (start_no h).elim), (fun h => (start_no h).elim), (fun h _ => (start_no h).elim), (fun h _ => (start_no h).elim)⟩
    · clear ha0 hb1 rp 
      intro listed ac W k hI hdn hk
      obtain ⟨b, hl, hF, hb1, rp, al9, as9, ti1, ti3⟩ := hI
      have hk1 : k < 13 := List.mem_range.1 (List.mem_filter.1 hk).1
      have hl2 : ∀ j, (listed.setIfInBounds j true).size = 13 := fun j => by rw [Array.size_setIfInBounds]; exact hl
      rcases (show k = 0 ∨ k = 1 ∨ k = 2 ∨ k = 3 ∨ k = 4 ∨ k = 5 ∨ k = 6 ∨ k = 7 ∨ k = 8 ∨ k = 9 ∨ k = 10 ∨ k = 11 ∨ k = 12 by omega) with rfl | rfl | rfl | rfl | rfl | rfl | rfl | rfl | rfl | rfl | rfl | rfl | rfl
      · have hk3 := hk
        exact wpOp_plain rfl rfl (wp_load_mid 33 (.tmp 2) rfl b2 0 ((hF.keep 2 (by rw [hD]; rfl)).trans zs2) PL _ rp.all Try.underlying33 rfl HPLI.out ⟨b, hl2 0, (hF.put 0 25 (SP.is (.agg PL.toArray)) (.agg PL.toArray) (by rw [hD]; rfl) rfl (by rw [hD]; rfl) (by rw [hsz]; decide) (by rw [hl]; decide)), hb1, rp, (fun h => ⟨(eval_put_other ac _ (by decide)).trans ((al9 (by rwa [getD_set _ _ _ (by decide)] at h)).1), (al9 (by rwa [getD_set _ _ _ (by decide)] at h)).2.1, by rw [getD_set _ _ _ (by decide)]; exact (al9 (by rwa [getD_set _ _ _ (by decide)] at h)).2.2⟩), (fun h => by rw [getD_set _ _ _ (by decide)]; exact as9 (by rwa [getD_set _ _ _ (by decide)] at h)), (fun h1 h2 => by change (SP.new 0 0 [] 5).P _ ((ac.put (some 25) _).eval (.tmp 26)); rw [eval_put_other ac _ (by decide)]; exact ti1 (by rwa [getD_set _ _ _ (by decide)] at h1) (by rwa [getD_set _ _ _ (by decide)] at h2)), (fun h1 h2 => by change (SP.inr 11 d11).P _ ((ac.put (some 25) _).eval (.tmp 28)); rw [eval_put_other ac _ (by decide)]; exact ti3 (by rwa [getD_set _ _ _ (by decide)] at h1) (by rwa [getD_set _ _ _ (by decide)] at h2))⟩)
      · have hk3 := hk
        refine wpOp_plain rfl rfl (wp_build0 rfl ?_)
        intro W2 q hB
        exact ⟨b, hl2 1, ((hF.world hB).put 1 26 (SP.any) (.slice (some ⟨W.heap.size, 0, none⟩) 0 0) (by rw [hD]; rfl) trivial (by rw [hD]; rfl) (by rw [hsz]; decide) (by rw [hl]; decide)), hb1.trans (hB.mono hb1.size), Row.below rp hB (Row.lt rp), (fun h => ⟨(eval_put_other ac _ (by decide)).trans ((al9 (by rwa [getD_set _ _ _ (by decide)] at h)).1), (al9 (by rwa [getD_set _ _ _ (by decide)] at h)).2.1, by rw [getD_set _ _ _ (by decide)]; exact Row.below (al9 (by rwa [getD_set _ _ _ (by decide)] at h)).2.2 hB (Row.lt (al9 (by rwa [getD_set _ _ _ (by decide)] at h)).2.2)⟩), (fun h => by rw [getD_set _ _ _ (by decide)]; exact as9 (by rwa [getD_set _ _ _ (by decide)] at h)), (fun _ _ => by change (SP.new 0 0 [] 5).P _ ((ac.put (some 26) _).eval (.tmp 26)); rw [eval_put_same ac _ (by rw [hF.size, hsz]; decide)]; exact ⟨_, rfl, q⟩), (fun h1 h2 => by change (SP.inr 11 d11).P _ ((ac.put (some 26) _).eval (.tmp 28)); rw [eval_put_other ac _ (by decide)]; exact (SP.inr 11 d11).st _ _ _ hB (ti3 (by rwa [getD_set _ _ _ (by decide)] at h1) (by rwa [getD_set _ _ _ (by decide)] at h2)))⟩
      · have hk3 := hk
        exact wpOp_plain rfl rfl (wp_move_v (ac.eval (.tmp 1)) rfl rfl ⟨b, hl2 2, (hF.put 2 27 (SP.is (.slice (some ⟨bd, 0, none⟩) 11 11)) (ac.eval (.tmp 1)) (by rw [hD]; rfl) (((hF.keep 1 (by rw [hD]; rfl)).trans zs1)) (by rw [hD]; rfl) (by rw [hsz]; decide) (by rw [hl]; decide)), hb1, rp, (fun h => ⟨(eval_put_other ac _ (by decide)).trans ((al9 (by rwa [getD_set _ _ _ (by decide)] at h)).1), (al9 (by rwa [getD_set _ _ _ (by decide)] at h)).2.1, by rw [getD_set _ _ _ (by decide)]; exact (al9 (by rwa [getD_set _ _ _ (by decide)] at h)).2.2⟩), (fun h => by rw [getD_set _ _ _ (by decide)]; exact as9 (by rwa [getD_set _ _ _ (by decide)] at h)), (fun h1 h2 => by change (SP.new 0 0 [] 5).P _ ((ac.put (some 27) _).eval (.tmp 26)); rw [eval_put_other ac _ (by decide)]; exact ti1 (by rwa [getD_set _ _ _ (by decide)] at h1) (by rwa [getD_set _ _ _ (by decide)] at h2)), (fun h1 h2 => by change (SP.inr 11 d11).P _ ((ac.put (some 27) _).eval (.tmp 28)); rw [eval_put_other ac _ (by decide)]; exact ti3 (by rwa [getD_set _ _ _ (by decide)] at h1) (by rwa [getD_set _ _ _ (by decide)] at h2))⟩)
      · have hk3 := hk
        obtain ⟨N7, e27, r27⟩ := (ti1 (ready_dep hk 1 (by kernel_rfl)) (not_yet hk))
        have e29 := (hF.done 2 (27, SP.is (.slice (some ⟨bd, 0, none⟩) 11 11)) (by rw [hD]; rfl) (ready_dep hk 2 (by kernel_rfl)))
        refine wpOp_plain rfl rfl (wp_appE 22 5 1 1 Try.underlying22 info_u8open (by decide) (.tmp 26) (.tmp 27) rfl N7 e27 r27 (some ⟨bd, 0, none⟩) 11 11 (vB d11) e29 (HKV.out W hb1) (vB_mem d11) HKM.out.1 HKM.out.2 ?_)
        intro g9 c9 W2 l9 n9 hB
        exact ⟨b, hl2 3, ((hF.world hB).put 3 28 (SP.any) (.slice (some ⟨g9, 0, none⟩) 11 c9) (by rw [hD]; rfl) trivial (by rw [hD]; rfl) (by rw [hsz]; decide) (by rw [hl]; decide)), hb1.trans (hB.mono hb1.size), Row.below rp hB (Row.lt rp), (fun h => ⟨(eval_put_other ac _ (by decide)).trans ((al9 (by rwa [getD_set _ _ _ (by decide)] at h)).1), (al9 (by rwa [getD_set _ _ _ (by decide)] at h)).2.1, by rw [getD_set _ _ _ (by decide)]; exact Row.below (al9 (by rwa [getD_set _ _ _ (by decide)] at h)).2.2 hB (Row.lt (al9 (by rwa [getD_set _ _ _ (by decide)] at h)).2.2)⟩), (fun h => by rw [getD_set _ _ _ (by decide)]; exact as9 (by rwa [getD_set _ _ _ (by decide)] at h)), (fun _ h => absurd (getD_same (by rw [hl]; decide)) h), (fun _ _ => by change (SP.inr 11 d11).P _ ((ac.put (some 28) _).eval (.tmp 28)); rw [eval_put_same ac _ (by rw [hF.size, hsz]; decide)]; exact ⟨g9, c9, rfl, lw_inr HND.out n9 l9⟩)⟩
      · have hk3 := hk
        have e25 := (hF.done 0 (25, SP.is (.agg PL.toArray)) (by rw [hD]; rfl) (ready_dep hk 0 (by kernel_rfl)))
        obtain ⟨g8, c8, e28, i28⟩ := (ti3 (ready_dep hk 3 (by kernel_rfl)) (not_yet hk))
        refine wpOp_plain rfl rfl (wp_fcall_v 6 #[.agg PL.toArray, .slice (some ⟨g8, 0, none⟩) 11 c8] rfl rfl (by show [ac.eval (.tmp 25), ac.eval (.tmp 28)] = _; rw [show ac.eval (.tmp 25) = _ from e25, show ac.eval (.tmp 28) = _ from e28]) (by go_simp) ((HCI.out W hb1 g8 c8 i28).mono ?_))
        rintro e W2 ⟨A9, c9, rfl, l9, hB⟩
        exact ⟨_, rfl, b, hl2 4, ((hF.world hB).put 4 29 (SP.tq RV RE n7 Q.flatten) (.tuple #[.agg RV.toArray, .int .i64 RE, .slice A9 n7 c9]) (by rw [hD]; rfl) (⟨A9, c9, rfl, l9⟩) (by rw [hD]; rfl) (by rw [hsz]; decide) (by rw [hl]; decide)), hb1.trans (hB.mono hb1.size), Row.below rp hB (Row.lt rp), (fun h => ⟨(eval_put_other ac _ (by decide)).trans ((al9 (by rwa [getD_set _ _ _ (by decide)] at h)).1), (al9 (by rwa [getD_set _ _ _ (by decide)] at h)).2.1, by rw [getD_set _ _ _ (by decide)]; exact Row.below (al9 (by rwa [getD_set _ _ _ (by decide)] at h)).2.2 hB (Row.lt (al9 (by rwa [getD_set _ _ _ (by decide)] at h)).2.2)⟩), (fun h => by rw [getD_set _ _ _ (by decide)]; exact as9 (by rwa [getD_set _ _ _ (by decide)] at h)), (fun h1 h2 => by change (SP.new 0 0 [] 5).P _ ((ac.put (some 29) _).eval (.tmp 26)); rw [eval_put_other ac _ (by decide)]; exact (SP.new 0 0 [] 5).st _ _ _ hB (ti1 (by rwa [getD_set _ _ _ (by decide)] at h1) (by rwa [getD_set _ _ _ (by decide)] at h2))), (fun _ h => absurd (getD_same (by rw [hl]; decide)) h)⟩
      · have hk3 := hk
        exact wpOp_plain rfl rfl (wp_move_v (ac.eval (.tmp 29)) rfl rfl ⟨b, hl2 5, (hF.put 5 24 (SP.tq RV RE n7 Q.flatten) (ac.eval (.tmp 29)) (by rw [hD]; rfl) ((hF.done 4 (29, SP.tq RV RE n7 Q.flatten) (by rw [hD]; rfl) (ready_dep hk 4 (by kernel_rfl)))) (by rw [hD]; rfl) (by rw [hsz]; decide) (by rw [hl]; decide)), hb1, rp, (fun h => ⟨(eval_put_other ac _ (by decide)).trans ((al9 (by rwa [getD_set _ _ _ (by decide)] at h)).1), (al9 (by rwa [getD_set _ _ _ (by decide)] at h)).2.1, by rw [getD_set _ _ _ (by decide)]; exact (al9 (by rwa [getD_set _ _ _ (by decide)] at h)).2.2⟩), (fun h => by rw [getD_set _ _ _ (by decide)]; exact as9 (by rwa [getD_set _ _ _ (by decide)] at h)), (fun h1 h2 => by change (SP.new 0 0 [] 5).P _ ((ac.put (some 24) _).eval (.tmp 26)); rw [eval_put_other ac _ (by decide)]; exact ti1 (by rwa [getD_set _ _ _ (by decide)] at h1) (by rwa [getD_set _ _ _ (by decide)] at h2)), (fun h1 h2 => by change (SP.inr 11 d11).P _ ((ac.put (some 24) _).eval (.tmp 28)); rw [eval_put_other ac _ (by decide)]; exact ti3 (by rwa [getD_set _ _ _ (by decide)] at h1) (by rwa [getD_set _ _ _ (by decide)] at h2))⟩)
      · have hk3 := hk
        obtain ⟨A9, c9, e9, l9⟩ := (hF.done 5 (24, SP.tq RV RE n7 Q.flatten) (by rw [hD]; rfl) (ready_dep hk 5 (by kernel_rfl)))
        exact wpOp_plain rfl rfl (wp_extract (.tmp 24) 0 rfl _ e9 (.agg RV.toArray) rfl ⟨b, hl2 6, (hF.put 6 30 (SP.is (.agg RV.toArray)) (.agg RV.toArray) (by rw [hD]; rfl) rfl (by rw [hD]; rfl) (by rw [hsz]; decide) (by rw [hl]; decide)), hb1, rp, (fun h => ⟨(eval_put_other ac _ (by decide)).trans ((al9 (by rwa [getD_set _ _ _ (by decide)] at h)).1), (al9 (by rwa [getD_set _ _ _ (by decide)] at h)).2.1, by rw [getD_set _ _ _ (by decide)]; exact (al9 (by rwa [getD_set _ _ _ (by decide)] at h)).2.2⟩), (fun h => by rw [getD_set _ _ _ (by decide)]; exact as9 (by rwa [getD_set _ _ _ (by decide)] at h)), (fun h1 h2 => by change (SP.new 0 0 [] 5).P _ ((ac.put (some 30) _).eval (.tmp 26)); rw [eval_put_other ac _ (by decide)]; exact ti1 (by rwa [getD_set _ _ _ (by decide)] at h1) (by rwa [getD_set _ _ _ (by decide)] at h2)), (fun h1 h2 => by change (SP.inr 11 d11).P _ ((ac.put (some 30) _).eval (.tmp 28)); rw [eval_put_other ac _ (by decide)]; exact ti3 (by rwa [getD_set _ _ _ (by decide)] at h1) (by rwa [getD_set _ _ _ (by decide)] at h2))⟩)
      · have hk3 := hk
        obtain ⟨A9, c9, e9, l9⟩ := (hF.done 5 (24, SP.tq RV RE n7 Q.flatten) (by rw [hD]; rfl) (ready_dep hk 5 (by kernel_rfl)))
        exact wpOp_plain rfl rfl (wp_extract (.tmp 24) 1 rfl _ e9 (.int .i64 RE) rfl ⟨b, hl2 7, (hF.put 7 31 (SP.is (.int .i64 RE)) (.int .i64 RE) (by rw [hD]; rfl) rfl (by rw [hD]; rfl) (by rw [hsz]; decide) (by rw [hl]; decide)), hb1, rp, (fun h => ⟨(eval_put_other ac _ (by decide)).trans ((al9 (by rwa [getD_set _ _ _ (by decide)] at h)).1), (al9 (by rwa [getD_set _ _ _ (by decide)] at h)).2.1, by rw [getD_set _ _ _ (by decide)]; exact (al9 (by rwa [getD_set _ _ _ (by decide)] at h)).2.2⟩), (fun h => by rw [getD_set _ _ _ (by decide)]; exact as9 (by rwa [getD_set _ _ _ (by decide)] at h)), (fun h1 h2 => by change (SP.new 0 0 [] 5).P _ ((ac.put (some 31) _).eval (.tmp 26)); rw [eval_put_other ac _ (by decide)]; exact ti1 (by rwa [getD_set _ _ _ (by decide)] at h1) (by rwa [getD_set _ _ _ (by decide)] at h2)), (fun h1 h2 => by change (SP.inr 11 d11).P _ ((ac.put (some 31) _).eval (.tmp 28)); rw [eval_put_other ac _ (by decide)]; exact ti3 (by rwa [getD_set _ _ _ (by decide)] at h1) (by rwa [getD_set _ _ _ (by decide)] at h2))⟩)
      · have hk3 := hk
        obtain ⟨A9, c9, e9, l9⟩ := (hF.done 5 (24, SP.tq RV RE n7 Q.flatten) (by rw [hD]; rfl) (ready_dep hk 5 (by kernel_rfl)))
        exact wpOp_plain rfl rfl (wp_extract (.tmp 24) 2 rfl _ e9 (.slice A9 n7 c9) rfl ⟨b, hl2 8, (hF.put 8 32 (SP.qs n7 Q.flatten) (.slice A9 n7 c9) (by rw [hD]; rfl) (⟨A9, c9, rfl, l9⟩) (by rw [hD]; rfl) (by rw [hsz]; decide) (by rw [hl]; decide)), hb1, rp, (fun h => ⟨(eval_put_other ac _ (by decide)).trans ((al9 (by rwa [getD_set _ _ _ (by decide)] at h)).1), (al9 (by rwa [getD_set _ _ _ (by decide)] at h)).2.1, by rw [getD_set _ _ _ (by decide)]; exact (al9 (by rwa [getD_set _ _ _ (by decide)] at h)).2.2⟩), (fun h => by rw [getD_set _ _ _ (by decide)]; exact as9 (by rwa [getD_set _ _ _ (by decide)] at h)), (fun h1 h2 => by change (SP.new 0 0 [] 5).P _ ((ac.put (some 32) _).eval (.tmp 26)); rw [eval_put_other ac _ (by decide)]; exact ti1 (by rwa [getD_set _ _ _ (by decide)] at h1) (by rwa [getD_set _ _ _ (by decide)] at h2)), (fun h1 h2 => by change (SP.inr 11 d11).P _ ((ac.put (some 32) _).eval (.tmp 28)); rw [eval_put_other ac _ (by decide)]; exact ti3 (by rwa [getD_set _ _ _ (by decide)] at h1) (by rwa [getD_set _ _ _ (by decide)] at h2))⟩)
      · have hk3 := hk
        have hsm : T0 < W.heap.size := (by have := hb1.size; omega)
        have hB : Below W.heap.size W (W.alloc (Obj.cells zR.toArray 35)) := (Below.refl _ _).alloc (Nat.le_refl _) _
        have hns : ¬ listed.getD 10 false = true := fun h => not_yet hk (as9 h)
        exact wpOp_plain rfl rfl (wp_allocRn rfl ⟨W.heap.size, hl2 9, ((hF.world hB).put 9 8 (SP.any) (.pointer (some ⟨W.heap.size, 0, none⟩)) (by rw [hD]; rfl) trivial (by rw [hD]; rfl) (by rw [hsz]; decide) (by rw [hl]; decide)), hb1.alloc hb1.size _, Row.alloc rp _, (fun _ => ⟨eval_put_same ac _ (by rw [hF.size, hsz]; decide), hsm, by rw [getD_set _ _ _ (by decide), if_neg hns]; exact Row.new' rfl rfl⟩), (fun _ => getD_same (by rw [hl]; decide)), (fun h1 h2 => by change (SP.new 0 0 [] 5).P _ ((ac.put (some 8) _).eval (.tmp 26)); rw [eval_put_other ac _ (by decide)]; exact (SP.new 0 0 [] 5).st _ _ _ hB (ti1 (by rwa [getD_set _ _ _ (by decide)] at h1) (by rwa [getD_set _ _ _ (by decide)] at h2))), (fun h1 h2 => by change (SP.inr 11 d11).P _ ((ac.put (some 8) _).eval (.tmp 28)); rw [eval_put_other ac _ (by decide)]; exact (SP.inr 11 d11).st _ _ _ hB (ti3 (by rwa [getD_set _ _ _ (by decide)] at h1) (by rwa [getD_set _ _ _ (by decide)] at h2)))⟩)
      · have hk3 := hk
        have hal := ready_dep hk 9 (by kernel_rfl)
        obtain ⟨e1, m1, y2⟩ := al9 hal
        rw [if_neg (not_yet hk)] at y2
        have T := y2.there 0 RV.toArray.size (by simpa using Nat.le_of_eq HRV.out.1)
        have fin := y2.over (vs := RV) HRV.out.1
        have hT : Fp D a0 listed ac (W.setCells b 0 RV) := hF.turn (by rw [hD]; simp only [List.forall_mem_cons, List.not_mem_nil, false_implies, implies_true, and_true]; exact ⟨fun _ h => h, fun _ h => h, fun _ h => h, fun _ h => h, fun _ h => SP.tq_turn y2 h, fun _ h => SP.tq_turn y2 h, fun _ h => h, fun _ h => h, fun _ h => SP.qs_turn y2 h, fun _ h => h, fun _ h => h, fun _ h => h, fun _ h => SP.qs_turn y2 h⟩)
        exact wpOp_plain rfl rfl (wp_store_mid 35 (.tmp 8) (.tmp 30) rfl b 0 RV.toArray e1 (hF.done 6 (30, SP.is (.agg RV.toArray)) (by rw [hD]; rfl) (ready_dep hk 6 (by kernel_rfl))) T HRVI2.out HRV.out.2 ⟨b, hl2 10, (hT.skip 10 1000 (by rw [hD]; rfl) (by rw [hl]; decide)), below_setCells hb1 (by omega) _, Row.setCells_other rp _ _ _ (by omega), (fun _ => ⟨e1, m1, by rw [if_pos (getD_same (by rw [hl]; decide))]; exact fin⟩), (fun _ => by rw [getD_set _ _ _ (by decide)]; exact hal), (fun _ h2 => absurd (by rw [getD_set _ _ _ (by decide)]; exact ready_dep hk 3 (by kernel_rfl)) h2), (fun _ h2 => absurd (by rw [getD_set _ _ _ (by decide)]; exact ready_dep hk 4 (by kernel_rfl)) h2)⟩)
      · have hk3 := hk
        exact wpOp_plain rfl rfl (wp_assign_v (ac.eval (.tmp 31)) rfl rfl ⟨b, hl2 11, (hF.put 11 9 (SP.is (.int .i64 RE)) (ac.eval (.tmp 31)) (by rw [hD]; rfl) ((hF.done 7 (31, SP.is (.int .i64 RE)) (by rw [hD]; rfl) (ready_dep hk 7 (by kernel_rfl)))) (by rw [hD]; rfl) (by rw [hsz]; decide) (by rw [hl]; decide)), hb1, rp, (fun h => ⟨(eval_put_other ac _ (by decide)).trans ((al9 (by rwa [getD_set _ _ _ (by decide)] at h)).1), (al9 (by rwa [getD_set _ _ _ (by decide)] at h)).2.1, by rw [getD_set _ _ _ (by decide)]; exact (al9 (by rwa [getD_set _ _ _ (by decide)] at h)).2.2⟩), (fun h => by rw [getD_set _ _ _ (by decide)]; exact as9 (by rwa [getD_set _ _ _ (by decide)] at h)), (fun h1 h2 => by change (SP.new 0 0 [] 5).P _ ((ac.put (some 9) _).eval (.tmp 26)); rw [eval_put_other ac _ (by decide)]; exact ti1 (by rwa [getD_set _ _ _ (by decide)] at h1) (by rwa [getD_set _ _ _ (by decide)] at h2)), (fun h1 h2 => by change (SP.inr 11 d11).P _ ((ac.put (some 9) _).eval (.tmp 28)); rw [eval_put_other ac _ (by decide)]; exact ti3 (by rwa [getD_set _ _ _ (by decide)] at h1) (by rwa [getD_set _ _ _ (by decide)] at h2))⟩)
      · have hk3 := hk
        exact wpOp_plain rfl rfl (wp_assign_v (ac.eval (.tmp 32)) rfl rfl ⟨b, hl2 12, (hF.put 12 10 (SP.qs n7 Q.flatten) (ac.eval (.tmp 32)) (by rw [hD]; rfl) ((hF.done 8 (32, SP.qs n7 Q.flatten) (by rw [hD]; rfl) (ready_dep hk 8 (by kernel_rfl)))) (by rw [hD]; rfl) (by rw [hsz]; decide) (by rw [hl]; decide)), hb1, rp, (fun h => ⟨(eval_put_other ac _ (by decide)).trans ((al9 (by rwa [getD_set _ _ _ (by decide)] at h)).1), (al9 (by rwa [getD_set _ _ _ (by decide)] at h)).2.1, by rw [getD_set _ _ _ (by decide)]; exact (al9 (by rwa [getD_set _ _ _ (by decide)] at h)).2.2⟩), (fun h => by rw [getD_set _ _ _ (by decide)]; exact as9 (by rwa [getD_set _ _ _ (by decide)] at h)), (fun h1 h2 => by change (SP.new 0 0 [] 5).P _ ((ac.put (some 10) _).eval (.tmp 26)); rw [eval_put_other ac _ (by decide)]; exact ti1 (by rwa [getD_set _ _ _ (by decide)] at h1) (by rwa [getD_set _ _ _ (by decide)] at h2)), (fun h1 h2 => by change (SP.inr 11 d11).P _ ((ac.put (some 10) _).eval (.tmp 28)); rw [eval_put_other ac _ (by decide)]; exact ti3 (by rwa [getD_set _ _ _ (by decide)] at h1) (by rwa [getD_set _ _ _ (by decide)] at h2))⟩)
    · clear hb1 rp 
      intro listed ac W hI hr
      obtain ⟨b, hl, hF, hb1, rp, al9, as9, ti1, ti3⟩ := hI
      have hall := all_listed (by kernel_rfl) hl hr
      obtain ⟨ea8, m8, p8⟩ := al9 (hall 9 (by decide))
      rw [if_pos (hall 10 (by decide))] at p8
      have h25 : ac.eval (.tmp 25) = .agg PL.toArray := hF.done 0 (25, SP.is (.agg PL.toArray)) (by rw [hD]; rfl) (hall 0 (by decide))
      obtain ⟨x26, h26⟩ : ∃ x, ac.eval (.tmp 26) = x := ⟨_, rfl⟩
      have h27 : ac.eval (.tmp 27) = .slice (some ⟨bd, 0, none⟩) 11 11 := hF.done 2 (27, SP.is (.slice (some ⟨bd, 0, none⟩) 11 11)) (by rw [hD]; rfl) (hall 2 (by decide))
      obtain ⟨x28, h28⟩ : ∃ x, ac.eval (.tmp 28) = x := ⟨_, rfl⟩
      obtain ⟨x29, h29⟩ : ∃ x, ac.eval (.tmp 29) = x := ⟨_, rfl⟩
      obtain ⟨x24, h24⟩ : ∃ x, ac.eval (.tmp 24) = x := ⟨_, rfl⟩
      have h30 : ac.eval (.tmp 30) = .agg RV.toArray := hF.done 6 (30, SP.is (.agg RV.toArray)) (by rw [hD]; rfl) (hall 6 (by decide))
      have h31 : ac.eval (.tmp 31) = .int .i64 RE := hF.done 7 (31, SP.is (.int .i64 RE)) (by rw [hD]; rfl) (hall 7 (by decide))
      obtain ⟨x32, h32⟩ : ∃ x, ac.eval (.tmp 32) = x := ⟨_, rfl⟩
      have h9 : ac.eval (.tmp 9) = .int .i64 RE := hF.done 11 (9, SP.is (.int .i64 RE)) (by rw [hD]; rfl) (hall 11 (by decide))
      have f10 := hF.done 12 (10, SP.qs n7 Q.flatten) (by rw [hD]; rfl) (hall 12 (by decide))
      obtain ⟨x10, h10⟩ : ∃ x, ac.eval (.tmp 10) = x := ⟨_, rfl⟩
      replace f10 : (SP.qs n7 Q.flatten).P W x10 := by rw [← h10]; exact f10
      have ea := hF.lay [(25, .agg PL.toArray), (26, x26), (27, .slice (some ⟨bd, 0, none⟩) 11 11), (28, x28), (29, x29), (24, x24), (30, .agg RV.toArray), (31, .int .i64 RE), (32, x32), (8, .pointer (some ⟨b, 0, none⟩)), (9, .int .i64 RE), (10, x10)] (by rw [hD, hsz]; rfl) (by simp only [List.forall_mem_cons, List.not_mem_nil, false_implies, implies_true, and_true]; exact ⟨h25, h26, h27, h28, h29, h24, h30, h31, h32, ea8, h9, h10⟩)
      rw [ha0] at ea
      simp only [List.foldl_cons, List.foldl_nil, List.setIfInBounds_toArray, List.set_cons_zero, List.set_cons_succ] at ea
      clear hF hall hr hl hD al9 as9 ti1 ti3 zs1 zs2 ha0 hsz h25 h26 h27 h28 h29 h24 h30 h31 h32 ea8 h9 h10
      subst ea
      obtain ⟨A8, c8, hx10, l10⟩ := f10
      subst hx10
      have kXW := hb1
      have BW : Hid (Below w.heap.size w W) := BX.out.trans (hb1.mono BX.out.size)
      have LA4 : Hid (Lw W tAk 30 (.slice A7 n7 c7) n7 Q.flatten) := Lw.be LAX.out hb1
      have LB4 : Hid (Lw W tAk 30 (.slice A8 n7 c8) n7 Q.flatten) := l10
      have R54 : Hid (Row W b5 RV 35) := Row.below R5X.out hb1 R5X.out.lt
      have R84 : Hid (Row W b RV 35) := p8
      have RP4 : Hid (Row W b2 PL 33) := rp
      have HC5 : Hid _ := HC3.out W hb1
      obtain ⟨L5, hL5⟩ : ∃ L, L = c500.cs (.slice none 0 0) := ⟨_, rfl⟩
      have HB5 : Hid (Try.prog.built 30 [(6, .int .i64 500)] = some L5.toArray) := by show _ = _; rw [hL5, c500_cs]; exact built_c5
      obtain ⟨PL3, hPL3⟩ : ∃ L, L = Value.slice (some ⟨bd, 0, none⟩) 11 11 :: (L5 ++ [.slice none 0 0]) := ⟨_, rfl⟩
      have HBP : Hid (Try.prog.built 33 [(0, .slice (some ⟨bd, 0, none⟩) 11 11), (1, .agg L5.toArray)] = some PL3.toArray) := by show _ = _; rw [hPL3]; exact built_pl2 _ L5 (by rw [hL5]; exact Ca.len c500_wf _) _ _ _ rfl
      rw [← hL5, ← hPL3] at HC5
      clear l10 hb1 rp p8 m8 hT0 l2 kXW hL5 hPL3 HC3 HCI HKV BX LAX R5X RPX
      go_upto_region 6 with (first
        | (refine wpList_bltH rfl 30 _ rfl [(6, .int .i64 500)] rfl L5 HB5.out ?_; simp only [Act.put, List.setIfInBounds_toArray, List.set_cons_zero, List.set_cons_succ])
        | (refine wpList_bltH rfl 33 _ rfl [(0, .slice (some ⟨bd, 0, none⟩) 11 11), (1, .agg L5.toArray)] rfl PL3 HBP.out ?_; simp only [Act.put, List.setIfInBounds_toArray, List.set_cons_zero, List.set_cons_succ])
        | (go_at_call 6; refine Calls.mono HC5.out ?_; rintro e U1 ⟨r1, r2, A6, n8, c6, rfl, q2⟩; have BU1 : Hid (Below w.heap.size w U1) := BW.out.trans (q2.mono BW.out.size); have LAU : Hid (Lw U1 tAk 30 (.slice A7 n7 c7) n7 Q.flatten) := Lw.be LA4.out q2; have LBU : Hid (Lw U1 tAk 30 (.slice A8 n7 c8) n7 Q.flatten) := Lw.be LB4.out q2; have R5U : Hid (Row U1 b5 RV 35) := Row.below R54.out q2 R54.out.lt; have R8U : Hid (Row U1 b RV 35) := Row.below R84.out q2 R84.out.lt; have RPU : Hid (Row U1 b2 PL 33) := Row.below RP4.out q2 RP4.out.lt; clear q2))
      clear HC5 HB5 HBP BW LA4 LB4 R54 R84 RP4
      go_upto_region 7 with (first
        | (refine wpList_load_w rfl 33 (.tmp 2) rfl b2 0 rfl PL _ RPU.out.all Try.underlying33 rfl HPLI.out ?_; simp only [Act.put, List.setIfInBounds_toArray, List.set_cons_zero, List.set_cons_succ])
        | (go_at_call 6; refine Calls.mono (HCA.out [] (by decide) none 0 0 U1 BU1.out (.inl ⟨rfl, none, 0, rfl⟩)) ?_; rintro e U2 ⟨AC, cC, rfl, q1, q2⟩; have LC2 : Hid (Lw U2 tAk 30 (.slice AC n7 cC) n7 Q.flatten) := q1; have BU2 : Hid (Below w.heap.size w U2) := BU1.out.trans (q2.mono BU1.out.size); have LA2 : Hid (Lw U2 tAk 30 (.slice A7 n7 c7) n7 Q.flatten) := Lw.be LAU.out q2; have LB2 : Hid (Lw U2 tAk 30 (.slice A8 n7 c8) n7 Q.flatten) := Lw.be LBU.out q2; have R52 : Hid (Row U2 b5 RV 35) := Row.below R5U.out q2 R5U.out.lt; have R82 : Hid (Row U2 b RV 35) := Row.below R8U.out q2 R8U.out.lt; clear q1 q2)
        | (refine wpList_allocR rfl rfl ?_; intro U3 q1 q2 q3; have R6a : Hid (Row U3 U2.heap.size zR 35) := q1; have K6 : Hid (Below U2.heap.size U2 U3) := q2; clear q1 q2 q3; simp only [Act.put, List.setIfInBounds_toArray, List.set_cons_zero, List.set_cons_succ])
        | (refine wpList_storeL rfl 35 (.tmp 11) (.tmp 40) rfl U2.heap.size RV zR 35 rfl rfl R6a.out HRV.out.1 HRVI.out HRV.out.2 ?_; intro U4 q1 q2; have E6 : Hid (U4 = _) := q1; have R6 : Hid (Row U4 U2.heap.size RV 35) := q2; clear q1 q2; simp only [Act.put]))
      have k4 : Below U2.heap.size U2 U4 := by rw [E6.out]; exact below_setCells K6.out (Nat.le_refl _) _
      have BU4 : Hid (Below w.heap.size w U4) := BU2.out.trans (k4.mono BU2.out.size)
      have R5F : Hid (Row U4 b5 RV 35) := Row.below R52.out k4 R52.out.lt
      have R8F : Hid (Row U4 b RV 35) := Row.below R82.out k4 R82.out.lt
      obtain ⟨b11, hb11⟩ : ∃ b, b = U2.heap.size := ⟨_, rfl⟩
      rw [← hb11] at R6
      rw [← hb11]
      have HS1 : Hid (Calls Try.prog 9 #[.slice A7 n7 c7, .slice A8 n7 c8] U4 fun e w' => e = .returned (.bool true) ∧ Below U4.heap.size U4 w') := same_asks Q HQA.out n7 HN7.out (by omega) A7 A8 c7 c8 U4 (lw_qinN HN7.out (Lw.be LA2.out k4)) (lw_qinN HN7.out (Lw.be LB2.out k4))
      have HS2 : Hid (∀ W, Below U4.heap.size U4 W → Calls Try.prog 9 #[.slice A8 n7 c8, .slice AC n7 cC] W fun e w' => e = .returned (.bool true) ∧ Below W.heap.size W w') := fun W k => same_asks Q HQA.out n7 HN7.out (by omega) A8 AC c8 cC W (lw_qinN HN7.out (Lw.be (Lw.be LB2.out k4) k)) (lw_qinN HN7.out (Lw.be (Lw.be LC2.out k4) k))
      have ee : (RE == RE) = true := by simp
      clear hb11 k4 E6 K6 R6a LA2 LB2 LC2 R52 R82 BU1 BU2 LAU LBU R5U R8U RPU
      go_wp2_with (first
        | (refine wpList_ldRW rfl (.tmp 5) rfl b5 rfl RV HRV.out.1 R5F.out ?_; simp only [Act.put, List.setIfInBounds_toArray, List.set_cons_zero, List.set_cons_succ])
        | (refine wpList_ldRW rfl (.tmp 8) rfl b rfl RV HRV.out.1 R8F.out ?_; simp only [Act.put, List.setIfInBounds_toArray, List.set_cons_zero, List.set_cons_succ])
        | (refine wpList_ldRW rfl (.tmp 11) rfl b11 rfl RV HRV.out.1 R6.out ?_; simp only [Act.put, List.setIfInBounds_toArray, List.set_cons_zero, List.set_cons_succ])
        | (refine wpList_eqRnW rfl (.tmp 43) (.tmp 44) _ rfl RV m0 g0 HRF.out rfl rfl ?_; simp only [Act.put, List.setIfInBounds_toArray, List.set_cons_zero, List.set_cons_succ])
        | (refine wpList_eqRnW rfl (.tmp 47) (.tmp 48) _ rfl RV m0 g0 HRF.out rfl rfl ?_; simp only [Act.put, List.setIfInBounds_toArray, List.set_cons_zero, List.set_cons_succ])
        | (go_at_call 9; refine Calls.mono HS1.out ?_; rintro e V1 ⟨rfl, q⟩; have BV1 : Hid (Below w.heap.size w V1) := BU4.out.trans (q.mono BU4.out.size); have HS3 : Hid _ := HS2.out V1 q; clear q HS1 HS2)
        | (go_at_call 9; refine Calls.mono HS3.out ?_; rintro e V2 ⟨rfl, q⟩; have BV2 : Hid (Below w.heap.size w V2) := BV1.out.trans (q.mono BV1.out.size); clear q HS3)
        | (go_at_call 7; refine Calls.mono (alive_any V2) ?_; rintro e V3 ⟨rfl, q⟩; have BV3 : Hid (Below w.heap.size w V3) := BV2.out.trans (q.mono BV2.out.size); clear q))
      go_ret
      exact ⟨rfl, BV3.out⟩
  · have hzi : ¬ ((nd0 : Int) = 0) := by omega
    go_upto_region 4 with fail
    obtain ⟨X, hX⟩ : ∃ X, X = X4 := ⟨_, rfl⟩
    rw [← hX]
    have BX : Hid (Below w.heap.size w X) := by rw [hX]; exact B4.out
    have LAX : Hid (Lw X tAk 30 (.slice A7 n7 c7) n7 Q.flatten) := by rw [hX]; exact LA4.out
    have RPX : Hid (Row X b2 PL 33) := by rw [hX]; exact RP4.out
    have R5X : Hid (Row X b5 RV 35) := by rw [hX]; exact R5.out
    have sd : Sin X 1 Ad nd0 cd (vB d0) := by rw [HND0.out]; exact HD0.out.1.be BX.out
    have hnd := HND0.out
    have hnd2 : nd0 ≤ 140737488351232 := by rw [HND0.out]; exact HD0.out.2
    clear B4 LA4 RP4 R5 HD0 HND0 hX hz hzi
    have HND : Hid (nd0 = d0.length) := hnd
    have HKM : Hid (nd0 ≤ maxLen ∧ nd0 * 1 ≤ 140737488355328) := ⟨by unfold maxLen; omega, by omega⟩
    have HKV : Hid (∀ W, Below X.heap.size X W → Sin W 1 Ad nd0 cd (vB d0)) := fun W k => sd.be k
    have HC3 : Hid (∀ W, Below X.heap.size X W → Calls Try.prog 6 #[.agg (Value.slice Ad nd0 cd :: (c500.cs (.slice none 0 0) ++ [.slice none 0 0])).toArray, .slice none 0 0] W fun e w' => ∃ R1 R2 A7 n8 c7, e = .returned (.tuple #[.agg R1, .int .i64 R2, .slice A7 n8 c7]) ∧ Below W.heap.size W w') := fun W k => by
      obtain ⟨R1, R2, Q2, hm2⟩ : ∃ RV RE Q, mrun d0 c500 [] [] = ((RV, RE), Q) := ⟨_, _, _, rfl⟩
      refine Calls.mono (lrun_all nextOK_nil d0 nd0 hnd.symm c500 c500_wf [] [] (fun a ha => by cases ha) (fun p hp => by cases hp) Ad none none none cd 0 0 0 0 _ rfl R1 R2 Q2 hm2 W (sd.be k) ⟨by unfold maxLen; omega, by omega⟩ (.inl ⟨rfl, rfl, fun _ => rfl⟩) ⟨by simp, by simp⟩ (.inl ⟨rfl, rfl, fun _ => rfl⟩) ⟨by simp, by simp⟩ (.inl ⟨rfl, none, 0, rfl⟩)) ?_
      rintro e w' ⟨A7, c7, rfl, _, q2⟩
      exact ⟨_, _, A7, _, c7, rfl, q2⟩
    have HCI : Hid (∀ W, Below X.heap.size X W → ∀ g8 c8, Inr W (.slice (some ⟨g8, 0, none⟩) nd0 c8) d0 → Calls Try.prog 6 #[.agg PL.toArray, .slice (some ⟨g8, 0, none⟩) nd0 c8] W fun e w' => ∃ A7 c7, e = .returned (.tuple #[.agg RV.toArray, .int .i64 RE, .slice A7 n7 c7]) ∧ Lw w' tAk 30 (.slice A7 n7 c7) n7 Q.flatten ∧ Below W.heap.size W w') := fun W k g8 c8 hi => HCA.out d0 (by omega) (some ⟨g8, 0, none⟩) nd0 c8 W (BX.out.trans (k.mono BX.out.size)) hi
    have hb1 := Below.refl X.heap.size X
    have rp := RPX.out
    obtain ⟨T0, hT0⟩ : ∃ T, T + 1 = X.heap.size := ⟨X.heap.size - 1, by have := rp.lt; omega⟩
    have l2 : b2 ≤ T0 := by have := rp.lt; omega
    clear hnd sd hnd2
    refine wp_named fun a0 ha0 => ?_
    have hsz : a0.tmps.size = 74 := by rw [ha0]; rfl
    have zs1 : a0.eval (.tmp 1) = .slice Ad nd0 cd := by rw [ha0]; rfl
    have zs2 : a0.eval (.tmp 2) = .pointer (some ⟨b2, 0, none⟩) := by rw [ha0]; rfl
    obtain ⟨D, hD⟩ : ∃ D : List (Tmp × SP), D = [(25, SP.is (.agg PL.toArray)), (26, SP.any), (27, SP.is (.slice Ad nd0 cd)), (28, SP.any), (29, SP.tq RV RE n7 Q.flatten), (24, SP.tq RV RE n7 Q.flatten), (30, SP.is (.agg RV.toArray)), (31, SP.is (.int .i64 RE)), (32, SP.qs n7 Q.flatten), (8, SP.any), (1000, SP.any), (9, SP.is (.int .i64 RE)), (10, SP.qs n7 Q.flatten)] := ⟨_, rfl⟩
    refine wp_region_down (by kernel_rfl) (fun listed ac W => ∃ (b : Nat), listed.size = 13 ∧ Fp D a0 listed ac W ∧ Below X.heap.size X W ∧ Row W b2 PL 33 ∧ (listed.getD 9 false = true → ac.eval (.tmp 8) = .pointer (some ⟨b, 0, none⟩) ∧ T0 < b ∧ Row W b (if listed.getD 10 false = true then RV else zR) 35) ∧ (listed.getD 10 false = true → listed.getD 9 false = true) ∧ (listed.getD 1 false = true → ¬ listed.getD 3 false = true → (SP.new 0 0 [] 5).P W (ac.eval (.tmp 26))) ∧ (listed.getD 3 false = true → ¬ listed.getD 4 false = true → (SP.inr nd0 d0).P W (ac.eval (.tmp 28)))) ?_ ?_ ?_
    · exact ⟨0, by simp, Fp.start D a0 _ _, Below.drew hb1, Row.drew rp, (fun h => (start_no h).elim), (fun h => (start_no h).elim), (fun h _ => (start_no h).elim), (fun h _ => (start_no h).elim)⟩
    · clear ha0 hb1 rp 
      intro listed ac W k hI hdn hk
      obtain ⟨b, hl, hF, hb1, rp, al9, as9, ti1, ti3⟩ := hI
      have hk1 : k < 13 := List.mem_range.1 (List.mem_filter.1 hk).1
      have hl2 : ∀ j, (listed.setIfInBounds j true).size = 13 := fun j => by rw [Array.size_setIfInBounds]; exact hl
      rcases (show k = 0 ∨ k = 1 ∨ k = 2 ∨ k = 3 ∨ k = 4 ∨ k = 5 ∨ k = 6 ∨ k = 7 ∨ k = 8 ∨ k = 9 ∨ k = 10 ∨ k = 11 ∨ k = 12 by omega) with rfl | rfl | rfl | rfl | rfl | rfl | rfl | rfl | rfl | rfl | rfl | rfl | rfl
      · have hk3 := hk
        exact wpOp_plain rfl rfl (wp_load_mid 33 (.tmp 2) rfl b2 0 ((hF.keep 2 (by rw [hD]; rfl)).trans zs2) PL _ rp.all Try.underlying33 rfl HPLI.out ⟨b, hl2 0, (hF.put 0 25 (SP.is (.agg PL.toArray)) (.agg PL.toArray) (by rw [hD]; rfl) rfl (by rw [hD]; rfl) (by rw [hsz]; decide) (by rw [hl]; decide)), hb1, rp, (fun h => ⟨(eval_put_other ac _ (by decide)).trans ((al9 (by rwa [getD_set _ _ _ (by decide)] at h)).1), (al9 (by rwa [getD_set _ _ _ (by decide)] at h)).2.1, by rw [getD_set _ _ _ (by decide)]; exact (al9 (by rwa [getD_set _ _ _ (by decide)] at h)).2.2⟩), (fun h => by rw [getD_set _ _ _ (by decide)]; exact as9 (by rwa [getD_set _ _ _ (by decide)] at h)), (fun h1 h2 => by change (SP.new 0 0 [] 5).P _ ((ac.put (some 25) _).eval (.tmp 26)); rw [eval_put_other ac _ (by decide)]; exact ti1 (by rwa [getD_set _ _ _ (by decide)] at h1) (by rwa [getD_set _ _ _ (by decide)] at h2)), (fun h1 h2 => by change (SP.inr nd0 d0).P _ ((ac.put (some 25) _).eval (.tmp 28)); rw [eval_put_other ac _ (by decide)]; exact ti3 (by rwa [getD_set _ _ _ (by decide)] at h1) (by rwa [getD_set _ _ _ (by decide)] at h2))⟩)
      · have hk3 := hk
        refine wpOp_plain rfl rfl (wp_build0 rfl ?_)
        intro W2 q hB
        exact ⟨b, hl2 1, ((hF.world hB).put 1 26 (SP.any) (.slice (some ⟨W.heap.size, 0, none⟩) 0 0) (by rw [hD]; rfl) trivial (by rw [hD]; rfl) (by rw [hsz]; decide) (by rw [hl]; decide)), hb1.trans (hB.mono hb1.size), Row.below rp hB (Row.lt rp), (fun h => ⟨(eval_put_other ac _ (by decide)).trans ((al9 (by rwa [getD_set _ _ _ (by decide)] at h)).1), (al9 (by rwa [getD_set _ _ _ (by decide)] at h)).2.1, by rw [getD_set _ _ _ (by decide)]; exact Row.below (al9 (by rwa [getD_set _ _ _ (by decide)] at h)).2.2 hB (Row.lt (al9 (by rwa [getD_set _ _ _ (by decide)] at h)).2.2)⟩), (fun h => by rw [getD_set _ _ _ (by decide)]; exact as9 (by rwa [getD_set _ _ _ (by decide)] at h)), (fun _ _ => by change (SP.new 0 0 [] 5).P _ ((ac.put (some 26) _).eval (.tmp 26)); rw [eval_put_same ac _ (by rw [hF.size, hsz]; decide)]; exact ⟨_, rfl, q⟩), (fun h1 h2 => by change (SP.inr nd0 d0).P _ ((ac.put (some 26) _).eval (.tmp 28)); rw [eval_put_other ac _ (by decide)]; exact (SP.inr nd0 d0).st _ _ _ hB (ti3 (by rwa [getD_set _ _ _ (by decide)] at h1) (by rwa [getD_set _ _ _ (by decide)] at h2)))⟩
      · have hk3 := hk
        exact wpOp_plain rfl rfl (wp_move_v (ac.eval (.tmp 1)) rfl rfl ⟨b, hl2 2, (hF.put 2 27 (SP.is (.slice Ad nd0 cd)) (ac.eval (.tmp 1)) (by rw [hD]; rfl) (((hF.keep 1 (by rw [hD]; rfl)).trans zs1)) (by rw [hD]; rfl) (by rw [hsz]; decide) (by rw [hl]; decide)), hb1, rp, (fun h => ⟨(eval_put_other ac _ (by decide)).trans ((al9 (by rwa [getD_set _ _ _ (by decide)] at h)).1), (al9 (by rwa [getD_set _ _ _ (by decide)] at h)).2.1, by rw [getD_set _ _ _ (by decide)]; exact (al9 (by rwa [getD_set _ _ _ (by decide)] at h)).2.2⟩), (fun h => by rw [getD_set _ _ _ (by decide)]; exact as9 (by rwa [getD_set _ _ _ (by decide)] at h)), (fun h1 h2 => by change (SP.new 0 0 [] 5).P _ ((ac.put (some 27) _).eval (.tmp 26)); rw [eval_put_other ac _ (by decide)]; exact ti1 (by rwa [getD_set _ _ _ (by decide)] at h1) (by rwa [getD_set _ _ _ (by decide)] at h2)), (fun h1 h2 => by change (SP.inr nd0 d0).P _ ((ac.put (some 27) _).eval (.tmp 28)); rw [eval_put_other ac _ (by decide)]; exact ti3 (by rwa [getD_set _ _ _ (by decide)] at h1) (by rwa [getD_set _ _ _ (by decide)] at h2))⟩)
      · have hk3 := hk
        obtain ⟨N7, e27, r27⟩ := (ti1 (ready_dep hk 1 (by kernel_rfl)) (not_yet hk))
        have e29 := (hF.done 2 (27, SP.is (.slice Ad nd0 cd)) (by rw [hD]; rfl) (ready_dep hk 2 (by kernel_rfl)))
        refine wpOp_plain rfl rfl (wp_appE 22 5 1 1 Try.underlying22 info_u8open (by decide) (.tmp 26) (.tmp 27) rfl N7 e27 r27 Ad nd0 cd (vB d0) e29 (HKV.out W hb1) (vB_mem d0) HKM.out.1 HKM.out.2 ?_)
        intro g9 c9 W2 l9 n9 hB
        exact ⟨b, hl2 3, ((hF.world hB).put 3 28 (SP.any) (.slice (some ⟨g9, 0, none⟩) nd0 c9) (by rw [hD]; rfl) trivial (by rw [hD]; rfl) (by rw [hsz]; decide) (by rw [hl]; decide)), hb1.trans (hB.mono hb1.size), Row.below rp hB (Row.lt rp), (fun h => ⟨(eval_put_other ac _ (by decide)).trans ((al9 (by rwa [getD_set _ _ _ (by decide)] at h)).1), (al9 (by rwa [getD_set _ _ _ (by decide)] at h)).2.1, by rw [getD_set _ _ _ (by decide)]; exact Row.below (al9 (by rwa [getD_set _ _ _ (by decide)] at h)).2.2 hB (Row.lt (al9 (by rwa [getD_set _ _ _ (by decide)] at h)).2.2)⟩), (fun h => by rw [getD_set _ _ _ (by decide)]; exact as9 (by rwa [getD_set _ _ _ (by decide)] at h)), (fun _ h => absurd (getD_same (by rw [hl]; decide)) h), (fun _ _ => by change (SP.inr nd0 d0).P _ ((ac.put (some 28) _).eval (.tmp 28)); rw [eval_put_same ac _ (by rw [hF.size, hsz]; decide)]; exact ⟨g9, c9, rfl, lw_inr HND.out n9 l9⟩)⟩
      · have hk3 := hk
        have e25 := (hF.done 0 (25, SP.is (.agg PL.toArray)) (by rw [hD]; rfl) (ready_dep hk 0 (by kernel_rfl)))
        obtain ⟨g8, c8, e28, i28⟩ := (ti3 (ready_dep hk 3 (by kernel_rfl)) (not_yet hk))
        refine wpOp_plain rfl rfl (wp_fcall_v 6 #[.agg PL.toArray, .slice (some ⟨g8, 0, none⟩) nd0 c8] rfl rfl (by show [ac.eval (.tmp 25), ac.eval (.tmp 28)] = _; rw [show ac.eval (.tmp 25) = _ from e25, show ac.eval (.tmp 28) = _ from e28]) (by go_simp) ((HCI.out W hb1 g8 c8 i28).mono ?_))
        rintro e W2 ⟨A9, c9, rfl, l9, hB⟩
        exact ⟨_, rfl, b, hl2 4, ((hF.world hB).put 4 29 (SP.tq RV RE n7 Q.flatten) (.tuple #[.agg RV.toArray, .int .i64 RE, .slice A9 n7 c9]) (by rw [hD]; rfl) (⟨A9, c9, rfl, l9⟩) (by rw [hD]; rfl) (by rw [hsz]; decide) (by rw [hl]; decide)), hb1.trans (hB.mono hb1.size), Row.below rp hB (Row.lt rp), (fun h => ⟨(eval_put_other ac _ (by decide)).trans ((al9 (by rwa [getD_set _ _ _ (by decide)] at h)).1), (al9 (by rwa [getD_set _ _ _ (by decide)] at h)).2.1, by rw [getD_set _ _ _ (by decide)]; exact Row.below (al9 (by rwa [getD_set _ _ _ (by decide)] at h)).2.2 hB (Row.lt (al9 (by rwa [getD_set _ _ _ (by decide)] at h)).2.2)⟩), (fun h => by rw [getD_set _ _ _ (by decide)]; exact as9 (by rwa [getD_set _ _ _ (by decide)] at h)), (fun h1 h2 => by change (SP.new 0 0 [] 5).P _ ((ac.put (some 29) _).eval (.tmp 26)); rw [eval_put_other ac _ (by decide)]; exact (SP.new 0 0 [] 5).st _ _ _ hB (ti1 (by rwa [getD_set _ _ _ (by decide)] at h1) (by rwa [getD_set _ _ _ (by decide)] at h2))), (fun _ h => absurd (getD_same (by rw [hl]; decide)) h)⟩
      · have hk3 := hk
        exact wpOp_plain rfl rfl (wp_move_v (ac.eval (.tmp 29)) rfl rfl ⟨b, hl2 5, (hF.put 5 24 (SP.tq RV RE n7 Q.flatten) (ac.eval (.tmp 29)) (by rw [hD]; rfl) ((hF.done 4 (29, SP.tq RV RE n7 Q.flatten) (by rw [hD]; rfl) (ready_dep hk 4 (by kernel_rfl)))) (by rw [hD]; rfl) (by rw [hsz]; decide) (by rw [hl]; decide)), hb1, rp, (fun h => ⟨(eval_put_other ac _ (by decide)).trans ((al9 (by rwa [getD_set _ _ _ (by decide)] at h)).1), (al9 (by rwa [getD_set _ _ _ (by decide)] at h)).2.1, by rw [getD_set _ _ _ (by decide)]; exact (al9 (by rwa [getD_set _ _ _ (by decide)] at h)).2.2⟩), (fun h => by rw [getD_set _ _ _ (by decide)]; exact as9 (by rwa [getD_set _ _ _ (by decide)] at h)), (fun h1 h2 => by change (SP.new 0 0 [] 5).P _ ((ac.put (some 24) _).eval (.tmp 26)); rw [eval_put_other ac _ (by decide)]; exact ti1 (by rwa [getD_set _ _ _ (by decide)] at h1) (by rwa [getD_set _ _ _ (by decide)] at h2)), (fun h1 h2 => by change (SP.inr nd0 d0).P _ ((ac.put (some 24) _).eval (.tmp 28)); rw [eval_put_other ac _ (by decide)]; exact ti3 (by rwa [getD_set _ _ _ (by decide)] at h1) (by rwa [getD_set _ _ _ (by decide)] at h2))⟩)
      · have hk3 := hk
        obtain ⟨A9, c9, e9, l9⟩ := (hF.done 5 (24, SP.tq RV RE n7 Q.flatten) (by rw [hD]; rfl) (ready_dep hk 5 (by kernel_rfl)))
        exact wpOp_plain rfl rfl (wp_extract (.tmp 24) 0 rfl _ e9 (.agg RV.toArray) rfl ⟨b, hl2 6, (hF.put 6 30 (SP.is (.agg RV.toArray)) (.agg RV.toArray) (by rw [hD]; rfl) rfl (by rw [hD]; rfl) (by rw [hsz]; decide) (by rw [hl]; decide)), hb1, rp, (fun h => ⟨(eval_put_other ac _ (by decide)).trans ((al9 (by rwa [getD_set _ _ _ (by decide)] at h)).1), (al9 (by rwa [getD_set _ _ _ (by decide)] at h)).2.1, by rw [getD_set _ _ _ (by decide)]; exact (al9 (by rwa [getD_set _ _ _ (by decide)] at h)).2.2⟩), (fun h => by rw [getD_set _ _ _ (by decide)]; exact as9 (by rwa [getD_set _ _ _ (by decide)] at h)), (fun h1 h2 => by change (SP.new 0 0 [] 5).P _ ((ac.put (some 30) _).eval (.tmp 26)); rw [eval_put_other ac _ (by decide)]; exact ti1 (by rwa [getD_set _ _ _ (by decide)] at h1) (by rwa [getD_set _ _ _ (by decide)] at h2)), (fun h1 h2 => by change (SP.inr nd0 d0).P _ ((ac.put (some 30) _).eval (.tmp 28)); rw [eval_put_other ac _ (by decide)]; exact ti3 (by rwa [getD_set _ _ _ (by decide)] at h1) (by rwa [getD_set _ _ _ (by decide)] at h2))⟩)
      · have hk3 := hk
        obtain ⟨A9, c9, e9, l9⟩ := (hF.done 5 (24, SP.tq RV RE n7 Q.flatten) (by rw [hD]; rfl) (ready_dep hk 5 (by kernel_rfl)))
        exact wpOp_plain rfl rfl (wp_extract (.tmp 24) 1 rfl _ e9 (.int .i64 RE) rfl ⟨b, hl2 7, (hF.put 7 31 (SP.is (.int .i64 RE)) (.int .i64 RE) (by rw [hD]; rfl) rfl (by rw [hD]; rfl) (by rw [hsz]; decide) (by rw [hl]; decide)), hb1, rp, (fun h => ⟨(eval_put_other ac _ (by decide)).trans ((al9 (by rwa [getD_set _ _ _ (by decide)] at h)).1), (al9 (by rwa [getD_set _ _ _ (by decide)] at h)).2.1, by rw [getD_set _ _ _ (by decide)]; exact (al9 (by rwa [getD_set _ _ _ (by decide)] at h)).2.2⟩), (fun h => by rw [getD_set _ _ _ (by decide)]; exact as9 (by rwa [getD_set _ _ _ (by decide)] at h)), (fun h1 h2 => by change (SP.new 0 0 [] 5).P _ ((ac.put (some 31) _).eval (.tmp 26)); rw [eval_put_other ac _ (by decide)]; exact ti1 (by rwa [getD_set _ _ _ (by decide)] at h1) (by rwa [getD_set _ _ _ (by decide)] at h2)), (fun h1 h2 => by change (SP.inr nd0 d0).P _ ((ac.put (some 31) _).eval (.tmp 28)); rw [eval_put_other ac _ (by decide)]; exact ti3 (by rwa [getD_set _ _ _ (by decide)] at h1) (by rwa [getD_set _ _ _ (by decide)] at h2))⟩)
      · have hk3 := hk
        obtain ⟨A9, c9, e9, l9⟩ := (hF.done 5 (24, SP.tq RV RE n7 Q.flatten) (by rw [hD]; rfl) (ready_dep hk 5 (by kernel_rfl)))
        exact wpOp_plain rfl rfl (wp_extract (.tmp 24) 2 rfl _ e9 (.slice A9 n7 c9) rfl ⟨b, hl2 8, (hF.put 8 32 (SP.qs n7 Q.flatten) (.slice A9 n7 c9) (by rw [hD]; rfl) (⟨A9, c9, rfl, l9⟩) (by rw [hD]; rfl) (by rw [hsz]; decide) (by rw [hl]; decide)), hb1, rp, (fun h => ⟨(eval_put_other ac _ (by decide)).trans ((al9 (by rwa [getD_set _ _ _ (by decide)] at h)).1), (al9 (by rwa [getD_set _ _ _ (by decide)] at h)).2.1, by rw [getD_set _ _ _ (by decide)]; exact (al9 (by rwa [getD_set _ _ _ (by decide)] at h)).2.2⟩), (fun h => by rw [getD_set _ _ _ (by decide)]; exact as9 (by rwa [getD_set _ _ _ (by decide)] at h)), (fun h1 h2 => by change (SP.new 0 0 [] 5).P _ ((ac.put (some 32) _).eval (.tmp 26)); rw [eval_put_other ac _ (by decide)]; exact ti1 (by rwa [getD_set _ _ _ (by decide)] at h1) (by rwa [getD_set _ _ _ (by decide)] at h2)), (fun h1 h2 => by change (SP.inr nd0 d0).P _ ((ac.put (some 32) _).eval (.tmp 28)); rw [eval_put_other ac _ (by decide)]; exact ti3 (by rwa [getD_set _ _ _ (by decide)] at h1) (by rwa [getD_set _ _ _ (by decide)] at h2))⟩)
      · have hk3 := hk
        have hsm : T0 < W.heap.size := (by have := hb1.size; omega)
        have hB : Below W.heap.size W (W.alloc (Obj.cells zR.toArray 35)) := (Below.refl _ _).alloc (Nat.le_refl _) _
        have hns : ¬ listed.getD 10 false = true := fun h => not_yet hk (as9 h)
        exact wpOp_plain rfl rfl (wp_allocRn rfl ⟨W.heap.size, hl2 9, ((hF.world hB).put 9 8 (SP.any) (.pointer (some ⟨W.heap.size, 0, none⟩)) (by rw [hD]; rfl) trivial (by rw [hD]; rfl) (by rw [hsz]; decide) (by rw [hl]; decide)), hb1.alloc hb1.size _, Row.alloc rp _, (fun _ => ⟨eval_put_same ac _ (by rw [hF.size, hsz]; decide), hsm, by rw [getD_set _ _ _ (by decide), if_neg hns]; exact Row.new' rfl rfl⟩), (fun _ => getD_same (by rw [hl]; decide)), (fun h1 h2 => by change (SP.new 0 0 [] 5).P _ ((ac.put (some 8) _).eval (.tmp 26)); rw [eval_put_other ac _ (by decide)]; exact (SP.new 0 0 [] 5).st _ _ _ hB (ti1 (by rwa [getD_set _ _ _ (by decide)] at h1) (by rwa [getD_set _ _ _ (by decide)] at h2))), (fun h1 h2 => by change (SP.inr nd0 d0).P _ ((ac.put (some 8) _).eval (.tmp 28)); rw [eval_put_other ac _ (by decide)]; exact (SP.inr nd0 d0).st _ _ _ hB (ti3 (by rwa [getD_set _ _ _ (by decide)] at h1) (by rwa [getD_set _ _ _ (by decide)] at h2)))⟩)
      · have hk3 := hk
        have hal := ready_dep hk 9 (by kernel_rfl)
        obtain ⟨e1, m1, y2⟩ := al9 hal
        rw [if_neg (not_yet hk)] at y2
        have T := y2.there 0 RV.toArray.size (by simpa using Nat.le_of_eq HRV.out.1)
        have fin := y2.over (vs := RV) HRV.out.1
        have hT : Fp D a0 listed ac (W.setCells b 0 RV) := hF.turn (by rw [hD]; simp only [List.forall_mem_cons, List.not_mem_nil, false_implies, implies_true, and_true]; exact ⟨fun _ h => h, fun _ h => h, fun _ h => h, fun _ h => h, fun _ h => SP.tq_turn y2 h, fun _ h => SP.tq_turn y2 h, fun _ h => h, fun _ h => h, fun _ h => SP.qs_turn y2 h, fun _ h => h, fun _ h => h, fun _ h => h, fun _ h => SP.qs_turn y2 h⟩)
        exact wpOp_plain rfl rfl (wp_store_mid 35 (.tmp 8) (.tmp 30) rfl b 0 RV.toArray e1 (hF.done 6 (30, SP.is (.agg RV.toArray)) (by rw [hD]; rfl) (ready_dep hk 6 (by kernel_rfl))) T HRVI2.out HRV.out.2 ⟨b, hl2 10, (hT.skip 10 1000 (by rw [hD]; rfl) (by rw [hl]; decide)), below_setCells hb1 (by omega) _, Row.setCells_other rp _ _ _ (by omega), (fun _ => ⟨e1, m1, by rw [if_pos (getD_same (by rw [hl]; decide))]; exact fin⟩), (fun _ => by rw [getD_set _ _ _ (by decide)]; exact hal), (fun _ h2 => absurd (by rw [getD_set _ _ _ (by decide)]; exact ready_dep hk 3 (by kernel_rfl)) h2), (fun _ h2 => absurd (by rw [getD_set _ _ _ (by decide)]; exact ready_dep hk 4 (by kernel_rfl)) h2)⟩)
      · have hk3 := hk
        exact wpOp_plain rfl rfl (wp_assign_v (ac.eval (.tmp 31)) rfl rfl ⟨b, hl2 11, (hF.put 11 9 (SP.is (.int .i64 RE)) (ac.eval (.tmp 31)) (by rw [hD]; rfl) ((hF.done 7 (31, SP.is (.int .i64 RE)) (by rw [hD]; rfl) (ready_dep hk 7 (by kernel_rfl)))) (by rw [hD]; rfl) (by rw [hsz]; decide) (by rw [hl]; decide)), hb1, rp, (fun h => ⟨(eval_put_other ac _ (by decide)).trans ((al9 (by rwa [getD_set _ _ _ (by decide)] at h)).1), (al9 (by rwa [getD_set _ _ _ (by decide)] at h)).2.1, by rw [getD_set _ _ _ (by decide)]; exact (al9 (by rwa [getD_set _ _ _ (by decide)] at h)).2.2⟩), (fun h => by rw [getD_set _ _ _ (by decide)]; exact as9 (by rwa [getD_set _ _ _ (by decide)] at h)), (fun h1 h2 => by change (SP.new 0 0 [] 5).P _ ((ac.put (some 9) _).eval (.tmp 26)); rw [eval_put_other ac _ (by decide)]; exact ti1 (by rwa [getD_set _ _ _ (by decide)] at h1) (by rwa [getD_set _ _ _ (by decide)] at h2)), (fun h1 h2 => by change (SP.inr nd0 d0).P _ ((ac.put (some 9) _).eval (.tmp 28)); rw [eval_put_other ac _ (by decide)]; exact ti3 (by rwa [getD_set _ _ _ (by decide)] at h1) (by rwa [getD_set _ _ _ (by decide)] at h2))⟩)
      · have hk3 := hk
        exact wpOp_plain rfl rfl (wp_assign_v (ac.eval (.tmp 32)) rfl rfl ⟨b, hl2 12, (hF.put 12 10 (SP.qs n7 Q.flatten) (ac.eval (.tmp 32)) (by rw [hD]; rfl) ((hF.done 8 (32, SP.qs n7 Q.flatten) (by rw [hD]; rfl) (ready_dep hk 8 (by kernel_rfl)))) (by rw [hD]; rfl) (by rw [hsz]; decide) (by rw [hl]; decide)), hb1, rp, (fun h => ⟨(eval_put_other ac _ (by decide)).trans ((al9 (by rwa [getD_set _ _ _ (by decide)] at h)).1), (al9 (by rwa [getD_set _ _ _ (by decide)] at h)).2.1, by rw [getD_set _ _ _ (by decide)]; exact (al9 (by rwa [getD_set _ _ _ (by decide)] at h)).2.2⟩), (fun h => by rw [getD_set _ _ _ (by decide)]; exact as9 (by rwa [getD_set _ _ _ (by decide)] at h)), (fun h1 h2 => by change (SP.new 0 0 [] 5).P _ ((ac.put (some 10) _).eval (.tmp 26)); rw [eval_put_other ac _ (by decide)]; exact ti1 (by rwa [getD_set _ _ _ (by decide)] at h1) (by rwa [getD_set _ _ _ (by decide)] at h2)), (fun h1 h2 => by change (SP.inr nd0 d0).P _ ((ac.put (some 10) _).eval (.tmp 28)); rw [eval_put_other ac _ (by decide)]; exact ti3 (by rwa [getD_set _ _ _ (by decide)] at h1) (by rwa [getD_set _ _ _ (by decide)] at h2))⟩)
    · clear hb1 rp 
      intro listed ac W hI hr
      obtain ⟨b, hl, hF, hb1, rp, al9, as9, ti1, ti3⟩ := hI
      have hall := all_listed (by kernel_rfl) hl hr
      obtain ⟨ea8, m8, p8⟩ := al9 (hall 9 (by decide))
      rw [if_pos (hall 10 (by decide))] at p8
      have h25 : ac.eval (.tmp 25) = .agg PL.toArray := hF.done 0 (25, SP.is (.agg PL.toArray)) (by rw [hD]; rfl) (hall 0 (by decide))
      obtain ⟨x26, h26⟩ : ∃ x, ac.eval (.tmp 26) = x := ⟨_, rfl⟩
      have h27 : ac.eval (.tmp 27) = .slice Ad nd0 cd := hF.done 2 (27, SP.is (.slice Ad nd0 cd)) (by rw [hD]; rfl) (hall 2 (by decide))
      obtain ⟨x28, h28⟩ : ∃ x, ac.eval (.tmp 28) = x := ⟨_, rfl⟩
      obtain ⟨x29, h29⟩ : ∃ x, ac.eval (.tmp 29) = x := ⟨_, rfl⟩
      obtain ⟨x24, h24⟩ : ∃ x, ac.eval (.tmp 24) = x := ⟨_, rfl⟩
      have h30 : ac.eval (.tmp 30) = .agg RV.toArray := hF.done 6 (30, SP.is (.agg RV.toArray)) (by rw [hD]; rfl) (hall 6 (by decide))
      have h31 : ac.eval (.tmp 31) = .int .i64 RE := hF.done 7 (31, SP.is (.int .i64 RE)) (by rw [hD]; rfl) (hall 7 (by decide))
      obtain ⟨x32, h32⟩ : ∃ x, ac.eval (.tmp 32) = x := ⟨_, rfl⟩
      have h9 : ac.eval (.tmp 9) = .int .i64 RE := hF.done 11 (9, SP.is (.int .i64 RE)) (by rw [hD]; rfl) (hall 11 (by decide))
      have f10 := hF.done 12 (10, SP.qs n7 Q.flatten) (by rw [hD]; rfl) (hall 12 (by decide))
      obtain ⟨x10, h10⟩ : ∃ x, ac.eval (.tmp 10) = x := ⟨_, rfl⟩
      replace f10 : (SP.qs n7 Q.flatten).P W x10 := by rw [← h10]; exact f10
      have ea := hF.lay [(25, .agg PL.toArray), (26, x26), (27, .slice Ad nd0 cd), (28, x28), (29, x29), (24, x24), (30, .agg RV.toArray), (31, .int .i64 RE), (32, x32), (8, .pointer (some ⟨b, 0, none⟩)), (9, .int .i64 RE), (10, x10)] (by rw [hD, hsz]; rfl) (by simp only [List.forall_mem_cons, List.not_mem_nil, false_implies, implies_true, and_true]; exact ⟨h25, h26, h27, h28, h29, h24, h30, h31, h32, ea8, h9, h10⟩)
      rw [ha0] at ea
      simp only [List.foldl_cons, List.foldl_nil, List.setIfInBounds_toArray, List.set_cons_zero, List.set_cons_succ] at ea
      clear hF hall hr hl hD al9 as9 ti1 ti3 zs1 zs2 ha0 hsz h25 h26 h27 h28 h29 h24 h30 h31 h32 ea8 h9 h10
      subst ea
      obtain ⟨A8, c8, hx10, l10⟩ := f10
      subst hx10
      have kXW := hb1
      have BW : Hid (Below w.heap.size w W) := BX.out.trans (hb1.mono BX.out.size)
      have LA4 : Hid (Lw W tAk 30 (.slice A7 n7 c7) n7 Q.flatten) := Lw.be LAX.out hb1
      have LB4 : Hid (Lw W tAk 30 (.slice A8 n7 c8) n7 Q.flatten) := l10
      have R54 : Hid (Row W b5 RV 35) := Row.below R5X.out hb1 R5X.out.lt
      have R84 : Hid (Row W b RV 35) := p8
      have RP4 : Hid (Row W b2 PL 33) := rp
      have HC5 : Hid _ := HC3.out W hb1
      obtain ⟨L5, hL5⟩ : ∃ L, L = c500.cs (.slice none 0 0) := ⟨_, rfl⟩
      have HB5 : Hid (Try.prog.built 30 [(6, .int .i64 500)] = some L5.toArray) := by show _ = _; rw [hL5, c500_cs]; exact built_c5
      obtain ⟨PL3, hPL3⟩ : ∃ L, L = Value.slice Ad nd0 cd :: (L5 ++ [.slice none 0 0]) := ⟨_, rfl⟩
      have HBP : Hid (Try.prog.built 33 [(0, .slice Ad nd0 cd), (1, .agg L5.toArray)] = some PL3.toArray) := by show _ = _; rw [hPL3]; exact built_pl2 _ L5 (by rw [hL5]; exact Ca.len c500_wf _) _ _ _ rfl
      rw [← hL5, ← hPL3] at HC5
      clear l10 hb1 rp p8 m8 hT0 l2 kXW hL5 hPL3 HC3 HCI HKV BX LAX R5X RPX
      go_upto_region 6 with (first
        | (refine wpList_bltH rfl 30 _ rfl [(6, .int .i64 500)] rfl L5 HB5.out ?_; simp only [Act.put, List.setIfInBounds_toArray, List.set_cons_zero, List.set_cons_succ])
        | (refine wpList_bltH rfl 33 _ rfl [(0, .slice Ad nd0 cd), (1, .agg L5.toArray)] rfl PL3 HBP.out ?_; simp only [Act.put, List.setIfInBounds_toArray, List.set_cons_zero, List.set_cons_succ])
        | (go_at_call 6; refine Calls.mono HC5.out ?_; rintro e U1 ⟨r1, r2, A6, n8, c6, rfl, q2⟩; have BU1 : Hid (Below w.heap.size w U1) := BW.out.trans (q2.mono BW.out.size); have LAU : Hid (Lw U1 tAk 30 (.slice A7 n7 c7) n7 Q.flatten) := Lw.be LA4.out q2; have LBU : Hid (Lw U1 tAk 30 (.slice A8 n7 c8) n7 Q.flatten) := Lw.be LB4.out q2; have R5U : Hid (Row U1 b5 RV 35) := Row.below R54.out q2 R54.out.lt; have R8U : Hid (Row U1 b RV 35) := Row.below R84.out q2 R84.out.lt; have RPU : Hid (Row U1 b2 PL 33) := Row.below RP4.out q2 RP4.out.lt; clear q2))
      clear HC5 HB5 HBP BW LA4 LB4 R54 R84 RP4
      go_upto_region 7 with (first
        | (refine wpList_load_w rfl 33 (.tmp 2) rfl b2 0 rfl PL _ RPU.out.all Try.underlying33 rfl HPLI.out ?_; simp only [Act.put, List.setIfInBounds_toArray, List.set_cons_zero, List.set_cons_succ])
        | (go_at_call 6; refine Calls.mono (HCA.out [] (by decide) none 0 0 U1 BU1.out (.inl ⟨rfl, none, 0, rfl⟩)) ?_; rintro e U2 ⟨AC, cC, rfl, q1, q2⟩; have LC2 : Hid (Lw U2 tAk 30 (.slice AC n7 cC) n7 Q.flatten) := q1; have BU2 : Hid (Below w.heap.size w U2) := BU1.out.trans (q2.mono BU1.out.size); have LA2 : Hid (Lw U2 tAk 30 (.slice A7 n7 c7) n7 Q.flatten) := Lw.be LAU.out q2; have LB2 : Hid (Lw U2 tAk 30 (.slice A8 n7 c8) n7 Q.flatten) := Lw.be LBU.out q2; have R52 : Hid (Row U2 b5 RV 35) := Row.below R5U.out q2 R5U.out.lt; have R82 : Hid (Row U2 b RV 35) := Row.below R8U.out q2 R8U.out.lt; clear q1 q2)
        | (refine wpList_allocR rfl rfl ?_; intro U3 q1 q2 q3; have R6a : Hid (Row U3 U2.heap.size zR 35) := q1; have K6 : Hid (Below U2.heap.size U2 U3) := q2; clear q1 q2 q3; simp only [Act.put, List.setIfInBounds_toArray, List.set_cons_zero, List.set_cons_succ])
        | (refine wpList_storeL rfl 35 (.tmp 11) (.tmp 40) rfl U2.heap.size RV zR 35 rfl rfl R6a.out HRV.out.1 HRVI.out HRV.out.2 ?_; intro U4 q1 q2; have E6 : Hid (U4 = _) := q1; have R6 : Hid (Row U4 U2.heap.size RV 35) := q2; clear q1 q2; simp only [Act.put]))
      have k4 : Below U2.heap.size U2 U4 := by rw [E6.out]; exact below_setCells K6.out (Nat.le_refl _) _
      have BU4 : Hid (Below w.heap.size w U4) := BU2.out.trans (k4.mono BU2.out.size)
      have R5F : Hid (Row U4 b5 RV 35) := Row.below R52.out k4 R52.out.lt
      have R8F : Hid (Row U4 b RV 35) := Row.below R82.out k4 R82.out.lt
      obtain ⟨b11, hb11⟩ : ∃ b, b = U2.heap.size := ⟨_, rfl⟩
      rw [← hb11] at R6
      rw [← hb11]
      have HS1 : Hid (Calls Try.prog 9 #[.slice A7 n7 c7, .slice A8 n7 c8] U4 fun e w' => e = .returned (.bool true) ∧ Below U4.heap.size U4 w') := same_asks Q HQA.out n7 HN7.out (by omega) A7 A8 c7 c8 U4 (lw_qinN HN7.out (Lw.be LA2.out k4)) (lw_qinN HN7.out (Lw.be LB2.out k4))
      have HS2 : Hid (∀ W, Below U4.heap.size U4 W → Calls Try.prog 9 #[.slice A8 n7 c8, .slice AC n7 cC] W fun e w' => e = .returned (.bool true) ∧ Below W.heap.size W w') := fun W k => same_asks Q HQA.out n7 HN7.out (by omega) A8 AC c8 cC W (lw_qinN HN7.out (Lw.be (Lw.be LB2.out k4) k)) (lw_qinN HN7.out (Lw.be (Lw.be LC2.out k4) k))
      have ee : (RE == RE) = true := by simp
      clear hb11 k4 E6 K6 R6a LA2 LB2 LC2 R52 R82 BU1 BU2 LAU LBU R5U R8U RPU
      go_wp2_with (first
        | (refine wpList_ldRW rfl (.tmp 5) rfl b5 rfl RV HRV.out.1 R5F.out ?_; simp only [Act.put, List.setIfInBounds_toArray, List.set_cons_zero, List.set_cons_succ])
        | (refine wpList_ldRW rfl (.tmp 8) rfl b rfl RV HRV.out.1 R8F.out ?_; simp only [Act.put, List.setIfInBounds_toArray, List.set_cons_zero, List.set_cons_succ])
        | (refine wpList_ldRW rfl (.tmp 11) rfl b11 rfl RV HRV.out.1 R6.out ?_; simp only [Act.put, List.setIfInBounds_toArray, List.set_cons_zero, List.set_cons_succ])
        | (refine wpList_eqRnW rfl (.tmp 43) (.tmp 44) _ rfl RV m0 g0 HRF.out rfl rfl ?_; simp only [Act.put, List.setIfInBounds_toArray, List.set_cons_zero, List.set_cons_succ])
        | (refine wpList_eqRnW rfl (.tmp 47) (.tmp 48) _ rfl RV m0 g0 HRF.out rfl rfl ?_; simp only [Act.put, List.setIfInBounds_toArray, List.set_cons_zero, List.set_cons_succ])
        | (go_at_call 9; refine Calls.mono HS1.out ?_; rintro e V1 ⟨rfl, q⟩; have BV1 : Hid (Below w.heap.size w V1) := BU4.out.trans (q.mono BU4.out.size); have HS3 : Hid _ := HS2.out V1 q; clear q HS1 HS2)
        | (go_at_call 9; refine Calls.mono HS3.out ?_; rintro e V2 ⟨rfl, q⟩; have BV2 : Hid (Below w.heap.size w V2) := BV1.out.trans (q.mono BV1.out.size); clear q HS3)
        | (go_at_call 7; refine Calls.mono (alive_any V2) ?_; rintro e V3 ⟨rfl, q⟩; have BV3 : Hid (Below w.heap.size w V3) := BV2.out.trans (q.mono BV2.out.size); clear q))
      go_ret
      exact ⟨rfl, BV3.out⟩

end Go.Proofs.Ytabcglakdlkdcaa
