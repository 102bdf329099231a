/-
  Allow, Pull.
-/
import Derived.Test.YtelioddogdcdoaaDoorLhI
import Derived.Deep.AppendSrc
import Derived.Deep.Upon
namespace Go.Proofs.YtelioddogdcdoaaDoor
open Go Go.RowKit Go.Maps
open Sha
open Wd

theorem info_L_open2 : ∃ ie z, Tryd.prog.info? 65 = some ie ∧ ie.zero = some z ∧ ie.size = 5 ∧ z.cells.size = 5 ∧ ie.bytes = 48 := by
  obtain ⟨ie, z, h1, h2, h3, h4⟩ := info_L_open
  have i1 := info_all_L
  rw [h1] at i1
  have i3 : ie.size = 5 ∧ ie.bytes = 48 := by simpa using i1
  exact ⟨ie, z, h1, h2, h3, h4, i3.2⟩
/-- Lines that lie one behind the other at the head of a block. -/
def SP.lns (n m : Nat) (L : List Value) : SP := ⟨fun W v => ∃ (g cap : Nat) (CU : List Value), v = .slice (some ⟨g, 0, none⟩) n cap ∧ CU.take m = L ∧ Row W g CU 65, fun _ _ _ hB ⟨g, cap, CU, e, t, r⟩ => ⟨g, cap, CU, e, t, Row.below r hB (Row.lt r)⟩⟩
section
variable {Q : Exit → Act → World → Prop} {o : Oper} {a : Act} {w : World} {K : Act → World → Prop}
theorem wp_bldG (ty : TypeId) (parts : Array (Nat × Operand)) (ho : o.op = .build ty parts) (vals : Array (Nat × Value)) (hv : (parts.toList.map fun (p : Nat × Operand) => match p with | (i, x) => (i, a.eval x)) = vals.toList) (L : List Value) (hr : ∀ w, (Instr.build ty vals).run Tryd.prog w = .ok (.agg L.toArray) w) (h : K (a.put o.dst (.agg L.toArray)) w) : Oper.wp Tryd.prog o a w K Q := by
  have hr := hr w
  have hv2 : (parts.map fun (p : Nat × Operand) => match p with | (i, x) => (i, a.eval x)) = vals := by
    apply Array.toList_inj.1
    rw [Array.toList_map]
    exact hv
  unfold Oper.wp execOp
  simp only [ho, hv2, Sem.run_bind, hr, Result.andThen_ok, Sem.run_pure, Oper.upon_value]
  exact h
theorem wp_buildL1 (x : Operand) (ho : o.op = .buildSlice 70 1 #[(0, x)]) (L : List Value) (hl : L.length = zL.length) (hx : a.eval x = .agg L.toArray)
    (h : ∀ X, Row X w.heap.size L 65 → Below w.heap.size w X → K (a.put o.dst (.slice (some ⟨w.heap.size, 0, none⟩) 1 1)) X) : Oper.wp Tryd.prog o a w K Q := by
  obtain ⟨ie, z, h1, h2, h3, h4⟩ := info_L_open
  refine wp_buildSlice 70 65 1 _ ho L.toArray ie z Tryd.underlying70 h1 h2 (by rw [h3]; decide) (by rw [h3]; decide) ?_ (h _ (Row.new' rfl rfl) ((Below.refl _ _).alloc (Nat.le_refl _) _))
  rw [show (Array.map (fun (p : Nat × Operand) => match p with | (i, x) => (i, a.eval x)) #[(0, x)]).toList = [(0, a.eval x)] by simp, hx, h3]
  exact fill_one 5 (by decide) _ _ (by simpa using hl) (by simp)
theorem wp_appL0 (s x : Operand) (ho : o.op = .call { callee := .builtin .append, args := #[s, x], argTypes := #[70, 70] }) (g : Nat) (L : List Value) (hs : a.eval s = .slice (some ⟨g, 0, none⟩) 1 1) (hr : Row w g L 65) (hx : a.eval x = .slice none 0 0)
    (h : ∀ w', Row w' g L 65 → Below w.heap.size w w' → K (a.put o.dst (.slice (some ⟨g, 0, none⟩) 1 1)) w') : Oper.wp Tryd.prog o a w K Q := by
  obtain ⟨ie, z, h1, h2, h3, h4, h5⟩ := info_L_open2
  have hrun := run_append_nothing (P := Tryd.prog) w 70 70 o.type 65 ie Tryd.underlying70 h1 (some ⟨g, 0, none⟩) 1 1 (Nat.le_refl _) (.slice none 0 0) (Src.ofNil w Tryd.underlying70 0)
  unfold Oper.wp
  simp [execOp, ho, resolve, invoke, builtin, hs, hx, hrun, Result.andThen]
  exact h w hr (Below.refl _ _)
theorem wp_appL2 (s x : Operand) (ho : o.op = .call { callee := .builtin .append, args := #[s, x], argTypes := #[70, 70] }) (g g2 : Nat) (L M : List Value) (hl : L.length = zL.length) (hm : M.length = 10) (hs : a.eval s = .slice (some ⟨g, 0, none⟩) 1 1) (hr : Row w g L 65) (hx : a.eval x = .slice (some ⟨g2, 0, none⟩) 2 2) (hr2 : Row w g2 M 65)
    (h : ∀ g' cap CU w', CU.take 15 = L ++ M → Row w' g' CU 65 → Below w.heap.size w w' → K (a.put o.dst (.slice (some ⟨g', 0, none⟩) 3 cap)) w') : Oper.wp Tryd.prog o a w K Q := by
  obtain ⟨ie, z, h1, h2, h3, h4, h5⟩ := info_L_open2
  have hrun := run_append_grow (P := Tryd.prog) w 70 o.type 65 ie z Tryd.underlying70 h1 h2 ⟨g, 0, none⟩ 1 1 L (by rw [h3, hl]; rfl) (fun j u hj => by rw [Addr.add_mid]; exact hr.all j u hj) ⟨g2, 0, none⟩ 2 2 M (by rw [h3, hm]) (fun j u hj => by rw [Addr.add_mid]; exact hr2.all j u hj) (by decide) (by decide) (growslice_fits (by decide) (by rw [h5]; decide))
  unfold Oper.wp
  simp [execOp, ho, resolve, invoke, builtin, hs, hx, hrun, Result.andThen]
  refine h _ _ (L ++ M ++ (Builtin.zeroCells z.cells (grownCap w (1 + 2) 1 65 - (1 + 2))).toList) _ (List.take_left' (by rw [List.length_append, hl, hm]; rfl)) (Row.new' rfl (by simp)) ((Below.drew (Below.refl _ _)).alloc (Nat.le_refl _) _)
end
set_option maxRecDepth 100000 in
set_option maxHeartbeats 4000000 in
theorem alwG (w0 : World) (S q : Nat) (f : ByteArray → List (BitVec 8)) (f2 : ByteArray → List (BitVec 8)) (hq : q < 999960) (n : Nat) (hn : n < 2 ^ 256) (t : Nat) (ht : t < 64) (x y : List (BitVec 8)) (hx : x.length = 20) (hy : y.length = 20) (b : Nat) (hb : b < 2 ^ 256) (hf : f (tKt t) = 1#8 :: wB n) (hf2 : f2 = upd f (lKt t x y) (enc b)) (LB : List Value) (hLB : LB = wq b) (w : World) (h : Lg w0 w S q f) :
    Calls Tryd.prog 13 #[.pointer (some ⟨S, 0, none⟩), .int .i64 (t : Int), .agg (vB x).toArray, .agg (vB y).toArray, .agg LB.toArray] w fun e w' => e = .returned (.int .i64 0) ∧ Lg w0 w' S (q + 1 + 1) f2 ∧ Kp w w' := by
  obtain ⟨LP, hLP⟩ : ∃ L : List Value, L = pgl S t := ⟨_, rfl⟩
  obtain ⟨LT, hLT⟩ : ∃ L : List Value, L = tkl true false n := ⟨_, rfl⟩
  obtain ⟨LZ, hLZ⟩ : ∃ L : List Value, L = zK := ⟨_, rfl⟩
  obtain ⟨N0, hN0⟩ : ∃ L : List Value, L = lnl (lKt t x y) b := ⟨_, rfl⟩
  have HLPE : Hid (LP = pgl S t) := hLP
  have HLPI : Hid ((Tryd.prog.info? 58).map (·.size) = some LP.length) := by show _ = _; rw [hLP]; exact info_pgl S t
  have HLPJ : Hid ((Tryd.prog.info? 58).map (·.size) = some LP.toArray.size) := by show _ = _; rw [List.size_toArray, hLP]; exact info_pgl S t
  have HLPN : Hid (LP.length = zP.length) := by show _ = _; rw [hLP]; exact rfl
  have HLPO : Hid (LP.toArray.all (·.oneCell') = true) := by show _ = true; rw [hLP]; exact pgl_one S t
  have HLTE : Hid (LT = tkl true false n) := hLT
  have HLTI : Hid ((Tryd.prog.info? 44).map (·.size) = some LT.length) := by show _ = _; rw [hLT]; exact info_tkl _ _ _
  have HLTJ : Hid ((Tryd.prog.info? 44).map (·.size) = some LT.toArray.size) := by show _ = _; rw [List.size_toArray, hLT]; exact info_tkl _ _ _
  have HLTN : Hid (LT.length = zK.length) := by show _ = _; rw [hLT]; exact tkl_len _ _ _
  have HLTO : Hid (LT.toArray.all (·.oneCell') = true) := by show _ = true; rw [hLT]; exact tkl_one _ _ _
  have HLBE : Hid (LB = wq b) := hLB
  have HLBI : Hid ((Tryd.prog.info? 25).map (·.size) = some LB.length) := by show _ = _; rw [hLB]; exact info_wq _
  have HLBJ : Hid ((Tryd.prog.info? 25).map (·.size) = some LB.toArray.size) := by show _ = _; rw [List.size_toArray, hLB]; exact info_wq _
  have HLBN : Hid (LB.length = zW.length) := by show _ = _; rw [hLB]; exact wq_len _
  have HLBO : Hid (LB.toArray.all (·.oneCell') = true) := by show _ = true; rw [hLB]; exact wq_one _
  have HN0E : Hid (N0 = lnl (lKt t x y) b) := hN0
  have HN0I : Hid ((Tryd.prog.info? 65).map (·.size) = some N0.length) := by show _ = _; rw [hN0]; exact info_lnl _ _
  have HN0J : Hid ((Tryd.prog.info? 65).map (·.size) = some N0.toArray.size) := by show _ = _; rw [List.size_toArray, hN0]; exact info_lnl _ _
  have HN0N : Hid (N0.length = zL.length) := by show _ = _; rw [hN0]; exact lnl_len _ _
  have HN0O : Hid (N0.toArray.all (·.oneCell') = true) := by show _ = true; rw [hN0]; exact lnl_one _ _
  have HBZ : Hid (∀ w, (Instr.build 44 #[]).run Tryd.prog w = .ok (.agg LZ.toArray) w) := fun w => by rw [hLZ]; exact build_tok0 w
  have HC1 : Hid (∀ w, (binOp .eql 44 (.agg LT.toArray) (.agg LZ.toArray)).run Tryd.prog w = .ok (.bool false) w) := fun w => by rw [hLT, hLZ]; exact tok_rz _ w
  have HBL : Hid (∀ w, (Instr.build 65 #[(0, .string (lKt t x y)), (1, .agg LB.toArray)]).run Tryd.prog w = .ok (.agg N0.toArray) w) := fun w => by rw [hLB, hN0]; exact build_lin (lKt t x y) b w
  have HIx : Hid ((Tryd.prog.info? 33).map (·.size) = some (vB x).length) := info_adr hx
  have HIy : Hid ((Tryd.prog.info? 33).map (·.size) = some (vB y).length) := info_adr hy
  have HAR : Hid (∀ W, Lg w0 W S q f → _) := fun W hW => ask_r w0 S q f (by omega) t ht n hn hf LP LT hLP hLT W hW
  have HKf : Hid (∀ W, Calls Tryd.prog 35 #[.agg LP.toArray, .agg (vB x).toArray, .agg (vB y).toArray] W fun e w' => e = .returned (.string (lKt t x y)) ∧ Below W.heap.size W w') := fun W => akeyG S t ht x y hx hy LP hLP W
  have HL2 : Hid (∀ g cap CU W, CU.take 5 = N0 ++ [] → Row W g CU 65 → Lg w0 W S (q + 1) f → Calls Tryd.prog 29 #[.agg LP.toArray, .slice (some ⟨g, 0, none⟩) 1 cap] W fun e w' => e = .returned (.int .i64 0) ∧ Lg w0 w' S (q + 1 + 1) f2 ∧ Kp W w') := fun g cap CU W hC hR hW => layLG1 w0 S (q + 1) f f2 (by omega) t (lKt t x y) (lKt_key t hx hy) b hb N0 hN0 hf2 g cap CU hC LP hLP W hR hW
  have HCN : Hid (N0.take 5 = N0 ++ []) := by show _ = _; rw [List.append_nil]; exact List.take_of_length_le (by rw [hN0, lnl_len]; decide)
  have HG : Hid (Lg w0 w S q f) := h
  clear hLP hLT hLB hLZ hN0 hx hy hq hn hf ht hb hf2 h
  go_enter Tryd.func13, Tryd.ntmps13
  go_wp2_with (first
    | (refine wpList_boxG 33 rfl (.tmp 2) rfl (vB x) rfl ?_; intro X0 q1 q2 q3; have Q0 : Hid (Row X0 _ (vB x) 33) := q1; have B0 : Hid (Below _ _ X0) := q2; clear q1 q2 q3; simp only [Act.put, List.setIfInBounds_toArray, List.set_cons_zero, List.set_cons_succ])
    | (refine wpList_boxG 33 rfl (.tmp 3) rfl (vB y) rfl ?_; intro X1 q1 q2 q3; have Q1 : Hid (Row X1 _ (vB y) 33) := q1; have B1 : Hid (Below _ _ X1) := q2; clear q1 q2 q3; simp only [Act.put, List.setIfInBounds_toArray, List.set_cons_zero, List.set_cons_succ])
    | (refine wpList_boxG 25 rfl (.tmp 4) rfl LB rfl ?_; intro X2 q1 q2 q3; have Q2 : Hid (Row X2 _ LB 25) := q1; have B2 : Hid (Below _ _ X2) := q2; clear q1 q2 q3; simp only [Act.put, List.setIfInBounds_toArray, List.set_cons_zero, List.set_cons_succ]))
  obtain ⟨b7, hb7⟩ : ∃ b, b = w.heap.size := ⟨_, rfl⟩
  obtain ⟨b8, hb8⟩ : ∃ b, b = X0.heap.size := ⟨_, rfl⟩
  obtain ⟨b9, hb9⟩ : ∃ b, b = X1.heap.size := ⟨_, rfl⟩
  have c00 := B0.out
  have c01 := c00.trans (B1.out.mono c00.size)
  have c02 := c01.trans (B2.out.mono c01.size)
  have c11 := B1.out
  have c12 := c11.trans (B2.out.mono c11.size)
  have c22 := B2.out
  have R7 : Hid (Row X2 b7 (vB x) 33) := by rw [hb7]; exact Row.below Q0.out c12 Q0.out.lt
  have HWb7 : Hid (w.heap.size ≤ b7) := by show _ ≤ _; rw [hb7]; exact Nat.le_refl _
  have R8 : Hid (Row X2 b8 (vB y) 33) := by rw [hb8]; exact Row.below Q1.out c22 Q1.out.lt
  have HWb8 : Hid (w.heap.size ≤ b8) := by show _ ≤ _; rw [hb8]; exact c00.size
  have R9 : Hid (Row X2 b9 LB 25) := by rw [hb9]; exact Q2.out
  have HWb9 : Hid (w.heap.size ≤ b9) := by show _ ≤ _; rw [hb9]; exact c01.size
  have Nb7b8 : Hid (b7 ≠ b8) := by show _ ≠ _; have := Q0.out.lt; rw [hb7, hb8]; omega
  have Nb7b9 : Hid (b7 ≠ b9) := by show _ ≠ _; have := Q0.out.lt; rw [hb7, hb9]; have := c11.size; omega
  have Nb8b9 : Hid (b8 ≠ b9) := by show _ ≠ _; have := Q1.out.lt; rw [hb8, hb9]; omega
  have BX : Hid (Below w.heap.size w X2) := c02
  rw [← hb7, ← hb8, ← hb9]
  clear hb7 hb8 hb9 c00 c01 c02 c11 c12 c22 Q0 B0 Q1 B1 Q2 B2
  replace HG : Hid (Lg w0 X2 S q f) := HG.out.be BX.out
  have HK : Hid (Kp w X2) := Kp.of_below BX.out
  clear BX
  refine Calls.mono (HAR.out X2 HG.out) ?_
  rintro e V ⟨rfl, hG, hK⟩
  replace R7 : Hid (Row V b7 (vB x) 33) := hK.row _ _ _ (by decide) R7.out
  replace R8 : Hid (Row V b8 (vB y) 33) := hK.row _ _ _ (by decide) R8.out
  replace R9 : Hid (Row V b9 LB 25) := hK.row _ _ _ (by decide) R9.out
  replace HG : Hid (Lg w0 V S (q + 1) f) := hG
  replace HK : Hid (Kp w V) := HK.out.trans hK
  clear hG hK HAR
  go_upto_region 2 with (first
    | (refine wpList_allocP rfl rfl ?_; intro XP q1 q2 q3; have RP1 : Hid (Row XP V.heap.size zP 58) := q1; have BP : Hid (Below V.heap.size V XP) := q2; have NE12 : Hid (XP.heap.size ≠ V.heap.size) := (by show _ ≠ _; rw [q3]; omega); clear q1 q2 q3; simp only [Act.put, List.setIfInBounds_toArray, List.set_cons_zero, List.set_cons_succ])
    | (refine wpList_allocK rfl rfl ?_; intro XK q1 q2 q3; have RK1 : Hid (Row XK XP.heap.size zK 44) := q1; have BK : Hid (Below XP.heap.size XP XK) := q2; have RP2 : Hid (Row XK V.heap.size zP 58) := Row.below RP1.out q2 RP1.out.lt; clear q1 q2 q3; simp only [Act.put, List.setIfInBounds_toArray, List.set_cons_zero, List.set_cons_succ])
    | (refine wpList_storeL rfl 58 (.tmp 11) (.tmp 18) rfl V.heap.size LP zP 58 rfl rfl RP2.out HLPN.out HLPI.out HLPO.out ?_; intro YP q1 q2; have HYP : Hid (YP = _) := q1; have RYP : Hid (Row YP V.heap.size LP 58) := q2; have RK2 : Hid (Row YP XP.heap.size zK 44) := (by rw [q1]; exact Row.setCells_other RK1.out _ _ _ NE12.out); clear q1 q2; simp only [Act.put])
    | (refine wpList_storeL rfl 44 (.tmp 12) (.tmp 19) rfl XP.heap.size LT zK 44 rfl rfl RK2.out HLTN.out HLTI.out HLTO.out ?_; intro YK q1 q2; have HYK : Hid (YK = _) := q1; have RYK : Hid (Row YK XP.heap.size LT 44) := q2; clear q1 q2; simp only [Act.put]))
  obtain ⟨p1, hp1⟩ : ∃ p, p = V.heap.size := ⟨_, rfl⟩
  obtain ⟨p2, hp2⟩ : ∃ p, p = XP.heap.size := ⟨_, rfl⟩
  have b12 : Below V.heap.size V YK := by rw [HYK.out, HYP.out]; exact below_setCells (below_setCells (BP.out.trans (BK.out.mono BP.out.size)) (Nat.le_refl _) _) BP.out.size _
  have Rp1 : Hid (Row YK p1 LP 58) := by rw [HYK.out, hp1]; exact Row.setCells_other RYP.out _ _ _ (Ne.symm NE12.out)
  have Rp2 : Hid (Row YK p2 LT 44) := by rw [hp2]; exact RYK.out
  have Np1p2 : Hid (p1 ≠ p2) := by rw [hp1, hp2]; exact Ne.symm NE12.out
  have Nb7p1 : Hid (b7 ≠ p1) := by show _ ≠ _; have := R7.out.lt; rw [hp1]; omega
  have Nb7p2 : Hid (b7 ≠ p2) := by show _ ≠ _; have := R7.out.lt; have := BP.out.size; rw [hp2]; omega
  have Nb8p1 : Hid (b8 ≠ p1) := by show _ ≠ _; have := R8.out.lt; rw [hp1]; omega
  have Nb8p2 : Hid (b8 ≠ p2) := by show _ ≠ _; have := R8.out.lt; have := BP.out.size; rw [hp2]; omega
  have Nb9p1 : Hid (b9 ≠ p1) := by show _ ≠ _; have := R9.out.lt; rw [hp1]; omega
  have Nb9p2 : Hid (b9 ≠ p2) := by show _ ≠ _; have := R9.out.lt; have := BP.out.size; rw [hp2]; omega
  replace R7 : Hid (Row YK b7 (vB x) 33) := Row.below R7.out b12 R7.out.lt
  replace R8 : Hid (Row YK b8 (vB y) 33) := Row.below R8.out b12 R8.out.lt
  replace R9 : Hid (Row YK b9 LB 25) := Row.below R9.out b12 R9.out.lt
  replace HG : Hid (Lg w0 YK S (q + 1) f) := HG.out.be b12
  replace HK : Hid (Kp w YK) := HK.out.trans (Kp.of_below b12)
  rw [← hp1, ← hp2]
  clear hp1 hp2 b12 BP BK RP1 RP2 RK1 RK2 NE12 HYP RYP HYK RYK
  have RA2 : Hid (YK.rangeAt p2 0 LT) := Rp2.out.all
  go_upto_region 6 with (first
    | (refine wpList_load_w rfl 44 (.tmp 12) rfl p2 0 rfl LT _ RA2.out Tryd.underlying44 rfl HLTI.out ?_; simp only [Act.put, List.setIfInBounds_toArray, List.set_cons_zero, List.set_cons_succ])
    | (refine wpList_bld rfl 44 #[] rfl #[] rfl LZ HBZ.out ?_; simp only [Act.put, List.setIfInBounds_toArray, List.set_cons_zero, List.set_cons_succ])
    | (refine wpList_cmpK rfl .eql (.tmp 26) (.tmp 27) _ rfl LT LZ rfl rfl false HC1.out ?_; simp only [Act.put, List.setIfInBounds_toArray, List.set_cons_zero, List.set_cons_succ]))
  have rp := Rp1.out
  have r7 := R7.out
  have r8 := R8.out
  have r9 := R9.out
  have hG := HG.out
  have hK := HK.out
  have hb1 := Below.refl YK.heap.size YK
  clear Rp1 Rp2 R7 R8 R9 HG HK RA2
  refine wp_named fun a0 ha0 => ?_
  have hsz : a0.tmps.size = 38 := by rw [ha0]; rfl
  have zs7 : a0.eval (.tmp 7) = .pointer (some ⟨b7, 0, none⟩) := by rw [ha0]; rfl
  have zs8 : a0.eval (.tmp 8) = .pointer (some ⟨b8, 0, none⟩) := by rw [ha0]; rfl
  have zs9 : a0.eval (.tmp 9) = .pointer (some ⟨b9, 0, none⟩) := by rw [ha0]; rfl
  have zs11 : a0.eval (.tmp 11) = .pointer (some ⟨p1, 0, none⟩) := by rw [ha0]; rfl
  obtain ⟨D, hD⟩ : ∃ D : List (Tmp × SP), D = [(29, SP.is (.agg LP.toArray)), (30, SP.is (.agg LP.toArray)), (31, SP.is (.agg (vB x).toArray)), (32, SP.is (.agg (vB y).toArray)), (33, SP.is (.string (lKt t x y))), (34, SP.is (.agg LB.toArray)), (35, SP.is (.agg N0.toArray)), (36, SP.any), (37, SP.is (.int .i64 0)), (10, SP.is (.int .i64 0))] := ⟨_, rfl⟩
  refine wp_region_then (by kernel_rfl) 8 (by decide) (by kernel_rfl) (fun listed ac W => Fp D a0 listed ac W ∧ Below YK.heap.size YK W ∧ Row W p1 LP 58 ∧ Row W b7 ((vB x)) 33 ∧ Row W b8 ((vB y)) 33 ∧ Row W b9 LB 25 ∧ Lg w0 W S (q + 1) f ∧ Kp w W ∧ (listed.getD 7 false = true → (SP.lns 1 5 (N0 ++ [])).P W (ac.eval (.tmp 36)))) (fun listed ac W => Fp D a0 listed ac W ∧ Lg w0 W S (q + 1 + 1) f2 ∧ Kp w W) ?_ ?_ ?_ ?_ ?_
  · exact ⟨Fp.start D a0 _ _, Below.drew hb1, Row.drew rp, Row.drew r7, Row.drew r8, Row.drew r9, hG.below (Below.drew (Below.refl _ _)), hK.below (Below.drew (Below.refl _ _)), (fun h => (start_no h).elim)⟩
  · clear ha0 hb1 rp r7 r8 r9 hG hK
    intro listed ac W k hl hI hdn hk hne hnl
    replace hl : listed.size = 10 := hl
    obtain ⟨hF, hb1, rp, r7, r8, r9, hG, hK, ti7⟩ := hI
    have hk1 : k < 10 := List.mem_range.1 (List.mem_filter.1 hk).1
    rcases (show k = 0 ∨ k = 1 ∨ k = 2 ∨ k = 3 ∨ k = 4 ∨ k = 5 ∨ k = 6 ∨ k = 7 ∨ k = 8 ∨ k = 9 by omega) with rfl | rfl | rfl | rfl | rfl | rfl | rfl | rfl | rfl | rfl
    · have hk3 := hk
      exact wpOp_plain rfl rfl (wp_load_mid 58 (.tmp 11) rfl p1 0 ((hF.keep 11 (by rw [hD]; rfl)).trans zs11) LP _ rp.all Tryd.underlying58 rfl HLPI.out ⟨(hF.put 0 29 (SP.is (.agg LP.toArray)) (.agg LP.toArray) (by rw [hD]; rfl) rfl (by rw [hD]; rfl) (by rw [hsz]; decide) (by rw [hl]; decide)), hb1, rp, r7, r8, r9, hG, hK, (fun h1 => by change (SP.lns 1 5 (N0 ++ [])).P _ ((ac.put (some 29) _).eval (.tmp 36)); rw [eval_put_other ac _ (by decide)]; exact ti7 (by rwa [getD_set _ _ _ (by decide)] at h1))⟩)
    · have hk3 := hk
      exact wpOp_plain rfl rfl (wp_load_mid 58 (.tmp 11) rfl p1 0 ((hF.keep 11 (by rw [hD]; rfl)).trans zs11) LP _ rp.all Tryd.underlying58 rfl HLPI.out ⟨(hF.put 1 30 (SP.is (.agg LP.toArray)) (.agg LP.toArray) (by rw [hD]; rfl) rfl (by rw [hD]; rfl) (by rw [hsz]; decide) (by rw [hl]; decide)), hb1, rp, r7, r8, r9, hG, hK, (fun h1 => by change (SP.lns 1 5 (N0 ++ [])).P _ ((ac.put (some 30) _).eval (.tmp 36)); rw [eval_put_other ac _ (by decide)]; exact ti7 (by rwa [getD_set _ _ _ (by decide)] at h1))⟩)
    · have hk3 := hk
      exact wpOp_plain rfl rfl (wp_load_mid 33 (.tmp 7) rfl b7 0 ((hF.keep 7 (by rw [hD]; rfl)).trans zs7) ((vB x)) _ r7.all Tryd.underlying33 rfl HIx.out ⟨(hF.put 2 31 (SP.is (.agg (vB x).toArray)) (.agg (vB x).toArray) (by rw [hD]; rfl) rfl (by rw [hD]; rfl) (by rw [hsz]; decide) (by rw [hl]; decide)), hb1, rp, r7, r8, r9, hG, hK, (fun h1 => by change (SP.lns 1 5 (N0 ++ [])).P _ ((ac.put (some 31) _).eval (.tmp 36)); rw [eval_put_other ac _ (by decide)]; exact ti7 (by rwa [getD_set _ _ _ (by decide)] at h1))⟩)
    · have hk3 := hk
      exact wpOp_plain rfl rfl (wp_load_mid 33 (.tmp 8) rfl b8 0 ((hF.keep 8 (by rw [hD]; rfl)).trans zs8) ((vB y)) _ r8.all Tryd.underlying33 rfl HIy.out ⟨(hF.put 3 32 (SP.is (.agg (vB y).toArray)) (.agg (vB y).toArray) (by rw [hD]; rfl) rfl (by rw [hD]; rfl) (by rw [hsz]; decide) (by rw [hl]; decide)), hb1, rp, r7, r8, r9, hG, hK, (fun h1 => by change (SP.lns 1 5 (N0 ++ [])).P _ ((ac.put (some 32) _).eval (.tmp 36)); rw [eval_put_other ac _ (by decide)]; exact ti7 (by rwa [getD_set _ _ _ (by decide)] at h1))⟩)
    · have hk3 := hk
      have ea0 := (hF.done 1 (30, SP.is (.agg LP.toArray)) (by rw [hD]; rfl) (ready_dep hk 1 (by kernel_rfl)))
      have ea1 := (hF.done 2 (31, SP.is (.agg (vB x).toArray)) (by rw [hD]; rfl) (ready_dep hk 2 (by kernel_rfl)))
      have ea2 := (hF.done 3 (32, SP.is (.agg (vB y).toArray)) (by rw [hD]; rfl) (ready_dep hk 3 (by kernel_rfl)))
      refine wpOp_plain rfl rfl (wp_fcall_v 35 #[.agg LP.toArray, .agg (vB x).toArray, .agg (vB y).toArray] rfl rfl (by show [ac.eval (.tmp 30), ac.eval (.tmp 31), ac.eval (.tmp 32)] = _; rw [show ac.eval (.tmp 30) = .agg LP.toArray from ea0, show ac.eval (.tmp 31) = .agg (vB x).toArray from ea1, show ac.eval (.tmp 32) = .agg (vB y).toArray from ea2]) (by go_simp) (((show Calls Tryd.prog 35 #[.agg LP.toArray, .agg (vB x).toArray, .agg (vB y).toArray] W _ from HKf.out W)).mono ?_))
      rintro e W2 ⟨rfl, hB⟩
      exact ⟨_, rfl, ((hF.world hB).put 4 33 (SP.is (.string (lKt t x y))) (.string (lKt t x y)) (by rw [hD]; rfl) rfl (by rw [hD]; rfl) (by rw [hsz]; decide) (by rw [hl]; decide)), hb1.trans (hB.mono hb1.size), Row.below rp hB (Row.lt rp), Row.below r7 hB (Row.lt r7), Row.below r8 hB (Row.lt r8), Row.below r9 hB (Row.lt r9), hG.below hB, hK.below hB, (fun h1 => by change (SP.lns 1 5 (N0 ++ [])).P _ ((ac.put (some 33) _).eval (.tmp 36)); rw [eval_put_other ac _ (by decide)]; exact (SP.lns 1 5 (N0 ++ [])).st _ _ _ hB (ti7 (by rwa [getD_set _ _ _ (by decide)] at h1)))⟩
    · have hk3 := hk
      exact wpOp_plain rfl rfl (wp_load_mid 25 (.tmp 9) rfl b9 0 ((hF.keep 9 (by rw [hD]; rfl)).trans zs9) LB _ r9.all Tryd.underlying25 rfl HLBI.out ⟨(hF.put 5 34 (SP.is (.agg LB.toArray)) (.agg LB.toArray) (by rw [hD]; rfl) rfl (by rw [hD]; rfl) (by rw [hsz]; decide) (by rw [hl]; decide)), hb1, rp, r7, r8, r9, hG, hK, (fun h1 => by change (SP.lns 1 5 (N0 ++ [])).P _ ((ac.put (some 34) _).eval (.tmp 36)); rw [eval_put_other ac _ (by decide)]; exact ti7 (by rwa [getD_set _ _ _ (by decide)] at h1))⟩)
    · have hk3 := hk
      have e33 := (hF.done 4 (33, SP.is (.string (lKt t x y))) (by rw [hD]; rfl) (ready_dep hk 4 (by kernel_rfl)))
      have e34 := (hF.done 5 (34, SP.is (.agg LB.toArray)) (by rw [hD]; rfl) (ready_dep hk 5 (by kernel_rfl)))
      exact wpOp_plain rfl rfl (wp_bldG 65 #[(0, .tmp 33), (1, .tmp 34)] rfl #[(0, .string (lKt t x y)), (1, .agg LB.toArray)] (by show [(0, ac.eval (.tmp 33)), (1, ac.eval (.tmp 34))] = _; rw [show ac.eval (.tmp 33) = .string (lKt t x y) from e33, show ac.eval (.tmp 34) = .agg LB.toArray from e34]) N0 HBL.out ⟨(hF.put 6 35 (SP.is (.agg N0.toArray)) (.agg N0.toArray) (by rw [hD]; rfl) rfl (by rw [hD]; rfl) (by rw [hsz]; decide) (by rw [hl]; decide)), hb1, rp, r7, r8, r9, hG, hK, (fun h1 => by change (SP.lns 1 5 (N0 ++ [])).P _ ((ac.put (some 35) _).eval (.tmp 36)); rw [eval_put_other ac _ (by decide)]; exact ti7 (by rwa [getD_set _ _ _ (by decide)] at h1))⟩)
    · have hk3 := hk
      have e35 := (hF.done 6 (35, SP.is (.agg N0.toArray)) (by rw [hD]; rfl) (ready_dep hk 6 (by kernel_rfl)))
      refine wpOp_plain rfl rfl (wp_buildL1 (.tmp 35) rfl N0 HN0N.out e35 ?_)
      intro W2 hR hB
      exact ⟨((hF.world hB).put 7 36 (SP.any) (.slice (some ⟨W.heap.size, 0, none⟩) 1 1) (by rw [hD]; rfl) trivial (by rw [hD]; rfl) (by rw [hsz]; decide) (by rw [hl]; decide)), hb1.trans (hB.mono hb1.size), Row.below rp hB (Row.lt rp), Row.below r7 hB (Row.lt r7), Row.below r8 hB (Row.lt r8), Row.below r9 hB (Row.lt r9), hG.below hB, hK.below hB, (fun _ => by change (SP.lns 1 5 (N0 ++ [])).P _ ((ac.put (some 36) _).eval (.tmp 36)); rw [eval_put_same ac _ (by rw [hF.size, hsz]; decide)]; exact ⟨W.heap.size, 1, N0, rfl, HCN.out, hR⟩)⟩
    · exact absurd rfl hne
    · exact absurd (ready_dep hk 8 (by kernel_rfl)) hnl
  · clear ha0 hb1 rp r7 r8 r9 hG hK
    intro listed ac W hl hI hdn hk
    replace hl : listed.size = 10 := hl
    obtain ⟨hF, hb1, rp, r7, r8, r9, hG, hK, ti7⟩ := hI
    have e29 := (hF.done 0 (29, SP.is (.agg LP.toArray)) (by rw [hD]; rfl) (ready_dep hk 0 (by kernel_rfl)))
    obtain ⟨g, cap, CU, e36, hC, hR⟩ := (ti7 (ready_dep hk 7 (by kernel_rfl)))
    refine wpOp_plain rfl rfl (wp_fcall_v 29 #[.agg LP.toArray, .slice (some ⟨g, 0, none⟩) 1 cap] rfl rfl (by show [ac.eval (.tmp 29), ac.eval (.tmp 36)] = _; rw [show ac.eval (.tmp 29) = .agg LP.toArray from e29, show ac.eval (.tmp 36) = .slice (some ⟨g, 0, none⟩) 1 cap from e36]) (by go_simp) ((HL2.out g cap CU W hC hR hG).mono ?_))
    rintro e W2 ⟨rfl, hG2, hK2⟩
    have hT : Fp D a0 listed ac W2 := hF.turn (by rw [hD]; simp only [List.forall_mem_cons, List.not_mem_nil, false_implies, implies_true, and_true]; exact ⟨fun _ h => h, fun _ h => h, fun _ h => h, fun _ h => h, fun _ h => h, fun _ h => h, fun _ h => h, fun _ h => h, fun _ h => h, fun _ h => h⟩)
    exact ⟨_, rfl, (hT.put 8 37 (SP.is (.int .i64 0)) _ (by rw [hD]; rfl) rfl (by rw [hD]; rfl) (by rw [hsz]; decide) (by rw [hl]; decide)), hG2, hK.trans hK2⟩
  · clear ha0 hb1 rp r7 r8 r9 hG hK
    intro listed ac W k hl hJ hdn hk hne hyl
    replace hl : listed.size = 10 := hl
    obtain ⟨hF, hG, hK⟩ := hJ
    have hk1 : k < 10 := List.mem_range.1 (List.mem_filter.1 hk).1
    rcases (show k = 0 ∨ k = 1 ∨ k = 2 ∨ k = 3 ∨ k = 4 ∨ k = 5 ∨ k = 6 ∨ k = 7 ∨ k = 8 ∨ k = 9 by omega) with rfl | rfl | rfl | rfl | rfl | rfl | rfl | rfl | rfl | rfl
    · exact absurd (hdn 8 hyl 0 (by kernel_rfl)) (not_yet hk)
    · exact absurd (hdn 4 (hdn 6 (hdn 7 (hdn 8 hyl 7 (by kernel_rfl)) 6 (by kernel_rfl)) 4 (by kernel_rfl)) 1 (by kernel_rfl)) (not_yet hk)
    · exact absurd (hdn 4 (hdn 6 (hdn 7 (hdn 8 hyl 7 (by kernel_rfl)) 6 (by kernel_rfl)) 4 (by kernel_rfl)) 2 (by kernel_rfl)) (not_yet hk)
    · exact absurd (hdn 4 (hdn 6 (hdn 7 (hdn 8 hyl 7 (by kernel_rfl)) 6 (by kernel_rfl)) 4 (by kernel_rfl)) 3 (by kernel_rfl)) (not_yet hk)
    · exact absurd (hdn 6 (hdn 7 (hdn 8 hyl 7 (by kernel_rfl)) 6 (by kernel_rfl)) 4 (by kernel_rfl)) (not_yet hk)
    · exact absurd (hdn 6 (hdn 7 (hdn 8 hyl 7 (by kernel_rfl)) 6 (by kernel_rfl)) 5 (by kernel_rfl)) (not_yet hk)
    · exact absurd (hdn 7 (hdn 8 hyl 7 (by kernel_rfl)) 6 (by kernel_rfl)) (not_yet hk)
    · exact absurd (hdn 8 hyl 7 (by kernel_rfl)) (not_yet hk)
    · exact absurd rfl hne
    · exact wpOp_plain rfl rfl (wp_assign_v (ac.eval (.tmp 37)) rfl rfl ⟨(hF.put 9 10 (SP.is (.int .i64 0)) _ (by rw [hD]; rfl) (hF.done 8 (37, SP.is (.int .i64 0)) (by rw [hD]; rfl) (ready_dep hk 8 (by kernel_rfl))) (by rw [hD]; rfl) (by rw [hsz]; decide) (by rw [hl]; decide)), hG, hK⟩)
  · clear hb1 rp r7 r8 r9 hG hK
    intro listed ac W hl hJ hr
    replace hl : listed.size = 10 := hl
    obtain ⟨hF, hG, hK⟩ := hJ
    have hall := all_listed (by kernel_rfl) hl hr
    have h29 : ac.eval (.tmp 29) = .agg LP.toArray := hF.done 0 (29, SP.is (.agg LP.toArray)) (by rw [hD]; rfl) (hall 0 (by decide))
    have h30 : ac.eval (.tmp 30) = .agg LP.toArray := hF.done 1 (30, SP.is (.agg LP.toArray)) (by rw [hD]; rfl) (hall 1 (by decide))
    have h31 : ac.eval (.tmp 31) = .agg (vB x).toArray := hF.done 2 (31, SP.is (.agg (vB x).toArray)) (by rw [hD]; rfl) (hall 2 (by decide))
    have h32 : ac.eval (.tmp 32) = .agg (vB y).toArray := hF.done 3 (32, SP.is (.agg (vB y).toArray)) (by rw [hD]; rfl) (hall 3 (by decide))
    have h33 : ac.eval (.tmp 33) = .string (lKt t x y) := hF.done 4 (33, SP.is (.string (lKt t x y))) (by rw [hD]; rfl) (hall 4 (by decide))
    have h34 : ac.eval (.tmp 34) = .agg LB.toArray := hF.done 5 (34, SP.is (.agg LB.toArray)) (by rw [hD]; rfl) (hall 5 (by decide))
    have h35 : ac.eval (.tmp 35) = .agg N0.toArray := hF.done 6 (35, SP.is (.agg N0.toArray)) (by rw [hD]; rfl) (hall 6 (by decide))
    obtain ⟨x36, h36⟩ : ∃ x, ac.eval (.tmp 36) = x := ⟨_, rfl⟩
    have h37 : ac.eval (.tmp 37) = .int .i64 0 := hF.done 8 (37, SP.is (.int .i64 0)) (by rw [hD]; rfl) (hall 8 (by decide))
    have h10 : ac.eval (.tmp 10) = .int .i64 0 := hF.done 9 (10, SP.is (.int .i64 0)) (by rw [hD]; rfl) (hall 9 (by decide))
    have ea := hF.lay [(29, .agg LP.toArray), (30, .agg LP.toArray), (31, .agg (vB x).toArray), (32, .agg (vB y).toArray), (33, .string (lKt t x y)), (34, .agg LB.toArray), (35, .agg N0.toArray), (36, x36), (37, .int .i64 0), (10, .int .i64 0)] (by rw [hD, hsz]; rfl) (by simp only [List.forall_mem_cons, List.not_mem_nil, false_implies, implies_true, and_true]; exact ⟨h29, h30, h31, h32, h33, h34, h35, h36, h37, h10⟩)
    rw [ha0] at ea
    simp only [List.foldl_cons, List.foldl_nil, List.setIfInBounds_toArray, List.set_cons_zero, List.set_cons_succ] at ea
    clear hF hall hr hl hD zs7 zs8 zs9 zs11 ha0 hsz h29 h30 h31 h32 h33 h34 h35 h36 h37 h10
    subst ea
    have HG : Hid (Lg w0 W S (q + 1 + 1) f2) := hG
    have HK : Hid (Kp w W) := hK
    clear hG hK
    go_wp2_with fail
    go_ret
    exact ⟨rfl, HG.out, HK.out⟩

end Go.Proofs.YtelioddogdcdoaaDoor
