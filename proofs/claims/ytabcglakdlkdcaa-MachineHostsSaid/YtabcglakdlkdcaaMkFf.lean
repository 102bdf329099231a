/-
  one step, whatever the instruction.
-/
import Derived.Test.YtabcglakdlkdcaaMkFd
import Derived.Test.YtabcglakdlkdcaaMkFb
import Derived.Test.YtabcglakdlkdcaaMkL
import Derived.Test.YtabcglakdlkdcaaMkEy

namespace Go.Proofs.Ytabcglakdlkdcaa
open Go Go.RowKit
open Sha
open Wd

/-- Behind a question. -/
def NxP (w : World) (hb : Nat) (rv qv iv : Value) (rs : List (Nat × Int)) (qs : List (List Value)) (inn : List (BitVec 8)) (q : List Value) (w' : World) : Prop := ∃ qv', Hst w' hb rv qv' iv rs (qs ++ [q]) inn ∧ Gro (Hq hb qv) w w' ∧ (∀ g, qv'.ownBlock = some g → qv.ownBlock = some g ∨ w.heap.size ≤ g)
def NextOK (inn : List (BitVec 8)) : Prop := ∀ (hb : Nat) (rv qv iv : Value) (rs : List (Nat × Int)) (qs : List (List Value)) (q : List Value), q.length = 30 → (∀ v ∈ q, v.oneCell' = true) → qs.length ≤ 1000 → ∀ w, Hst w hb rv qv iv rs qs inn → Calls Try.prog 109 #[.pointer (some ⟨hb, 0, none⟩), .agg q.toArray] w fun e w' => e = .returned (.tuple #[.agg (wq (rs.getD qs.length (0, 0)).1).toArray, .int .i64 (rs.getD qs.length (0, 0)).2]) ∧ NxP w hb rv qv iv rs qs inn q w'
theorem nextOK_nil : NextOK [] := fun hb rv qv iv rs qs q h1 h2 h3 w H => by
  refine Calls.mono (next_nil hb rv qv iv rs qs q h1 h2 h3 w H) ?_
  rintro e w' ⟨qv', q1, q2⟩
  exact ⟨q1, qv', q2⟩
section
variable {w X Y : World} {hb : Nat} {rv qv iv : Value} {rs : List (Nat × Int)} {qs : List (List Value)} {inn : List (BitVec 8)} {q : List Value}
theorem NxP.of (k : Below w.heap.size w X) (h : NxP X hb rv qv iv rs qs inn q Y) : NxP w hb rv qv iv rs qs inn q Y := by
  obtain ⟨qv', h1, h2, h3⟩ := h
  exact ⟨qv', h1, (Gro.of_below k).trans h2, fun g e => (h3 g e).imp id (fun z => Nat.le_trans k.size z)⟩
theorem NxP.be (h : NxP w hb rv qv iv rs qs inn q X) (k : Below X.heap.size X Y) : NxP w hb rv qv iv rs qs inn q Y := by
  obtain ⟨qv', h1, h2, h3⟩ := h
  exact ⟨qv', h1.below k, h2.below k, h3⟩
theorem NxP.own (h : NxP w hb rv qv iv rs qs inn q X) {b : Nat} {cs : List Value} (k : Gro (· = b) X Y) (r : Row X b cs 27) (hl : w.heap.size ≤ b) : NxP w hb rv qv iv rs qs inn q Y := by
  obtain ⟨qv', h1, h2, h3⟩ := h
  have kh : Kh X Y := fun bb cs t ht rr => k.row rr (fun e => by
    have hne : t ≠ 27 := by rcases ht with h | h | h | h <;> rw [h] <;> decide
    exact row_ne2 rr r hne e)
  exact ⟨qv', h1.kh kh, h2.then k (fun g e => .inr (by rw [e]; exact hl)), h3⟩
theorem NxP.row (h : NxP w hb rv qv iv rs qs inn q X) (H : Hst w hb rv qv iv rs qs inn) {b : Nat} {cs : List Value} {t : TypeId} (h1 : t ≠ tHo) (h2 : t ≠ tAk) (r : Row w b cs t) : Row X b cs t := by
  obtain ⟨qv', _, k, _⟩ := h
  refine k.row r fun e => ?_
  rcases e with e | e
  · exact row_ne2 r H.row h1 e
  · exact Lw.ne H.own r h2 b e rfl
end
section
variable {ops : Array Oper} {rest : List Oper} {op : Oper} {a : Act} {w : World} {Q : Exit → Act → World → Prop}
theorem wpList_bltH (hgd : op.guard = none) (ty : TypeId) (parts : Array (Nat × Operand)) (ho : op.op = .build ty parts) (vals : List (Nat × Value)) (hv : (parts.toList.map fun (p : Nat × Operand) => match p with | (i, x) => (i, a.eval x)) = vals) (L : List Value) (hr : Try.prog.built ty vals = some L.toArray) (h : wpList Try.prog ops Q rest (a.put op.dst (.agg L.toArray)) w) : wpList Try.prog ops Q (op :: rest) a w := by
  have hr := run_build (P := Try.prog) w ty vals.toArray _ hr
  have hv2 : (parts.map fun (p : Nat × Operand) => match p with | (i, x) => (i, a.eval x)) = vals.toArray := by
    apply Array.toList_inj.1
    rw [Array.toList_map]
    exact hv
  refine wpList_plain hgd fun K hK => ?_
  unfold Oper.wp execOp
  simp only [ho, hv2, Sem.run_bind, hr, Result.andThen_ok, Sem.run_pure, Oper.upon_value]
  exact hK _ _ h
end
theorem len20 {l : List Value} (h : l.length = 20) : ∃ u0 u1 u2 u3 u4 u5 u6 u7 u8 u9 u10 u11 u12 u13 u14 u15 u16 u17 u18 u19, l = [u0, u1, u2, u3, u4, u5, u6, u7, u8, u9, u10, u11, u12, u13, u14, u15, u16, u17, u18, u19] := by
  match l, h with
  | [u0, u1, u2, u3, u4, u5, u6, u7, u8, u9, u10, u11, u12, u13, u14, u15, u16, u17, u18, u19], _ => exact ⟨_, _, _, _, _, _, _, _, _, _, _, _, _, _, _, _, _, _, _, _, rfl⟩
theorem built_ld (x : Nat) : Try.prog.built tAk [(0, .int .i64 1), (1, .agg (wq x).toArray)] = some (aq 1 x 0 0 z20).toArray := by kernel_rfl
theorem built_sv (x y : Nat) : Try.prog.built tAk [(0, .int .i64 2), (1, .agg (wq x).toArray), (2, .agg (wq y).toArray)] = some (aq 2 x y 0 z20).toArray := by kernel_rfl
theorem built_hv (t : Nat) (who : List Value) (h : who.length = 20) : Try.prog.built tAk [(0, .int .i64 3), (3, .int .i64 (t : Int)), (4, .agg who.toArray)] = some (aq 3 0 0 t who).toArray := by
  obtain ⟨u0, u1, u2, u3, u4, u5, u6, u7, u8, u9, u10, u11, u12, u13, u14, u15, u16, u17, u18, u19, rfl⟩ := len20 h
  kernel_rfl
theorem built_sd (t x : Nat) (who : List Value) (h : who.length = 20) : Try.prog.built tAk [(0, .int .i64 4), (3, .int .i64 (t : Int)), (4, .agg who.toArray), (1, .agg (wq x).toArray)] = some (aq 4 x 0 t who).toArray := by
  obtain ⟨u0, u1, u2, u3, u4, u5, u6, u7, u8, u9, u10, u11, u12, u13, u14, u15, u16, u17, u18, u19, rfl⟩ := len20 h
  kernel_rfl
theorem aq_one (k a b t : Nat) (who : List Value) (h : ∀ v ∈ who, v.oneCell' = true) : ∀ v ∈ aq k a b t who, v.oneCell' = true := fun v hv => by
  unfold aq at hv
  rcases List.mem_cons.1 hv with rfl | hv
  · rfl
  rcases List.mem_append.1 hv with hv | hv
  · exact wq_mem a v hv
  rcases List.mem_append.1 hv with hv | hv
  · exact wq_mem b v hv
  rcases List.mem_cons.1 hv with rfl | hv
  · rfl
  · exact h v hv
theorem z20_one : ∀ v ∈ z20, v.oneCell' = true := fun v hv => by
  obtain rfl := List.eq_of_mem_replicate hv
  rfl
theorem adr_mem (x : Nat) : ∀ v ∈ adr x, v.oneCell' = true := fun v hv => vU_one _ v (List.mem_of_mem_drop hv)
set_option maxRecDepth 100000 in
set_option maxHeartbeats 4000000 in
theorem load_n {inn : List (BitVec 8)} (HN : NextOK inn) (hb : Nat) (rv qv iv : Value) (rs : List (Nat × Int)) (qs : List (List Value)) (x : Nat) (hn : qs.length ≤ 1000) (w : World) (H : Hst w hb rv qv iv rs qs inn) : Calls Try.prog 106 #[.pointer (some ⟨hb, 0, none⟩), .agg (wq x).toArray] w fun e w' => e = .returned (.tuple #[.agg (wq (rs.getD qs.length (0, 0)).1).toArray, .int .i64 (rs.getD qs.length (0, 0)).2]) ∧ NxP w hb rv qv iv rs qs inn (aq 1 x 0 0 z20) w' := by
  obtain ⟨LX, hLX⟩ : ∃ L, L = wq x := ⟨_, rfl⟩
  have HIX : Hid ((Try.prog.info? 27).map (·.size) = some LX.length) := by rw [hLX]; exact info_Wq _
  rw [← hLX]
  obtain ⟨q, hq⟩ : ∃ q, q = aq 1 x 0 0 z20 := ⟨_, rfl⟩
  obtain ⟨rp, hrp⟩ : ∃ p, p = rs.getD qs.length (0, 0) := ⟨_, rfl⟩
  obtain ⟨LV, hLV⟩ : ∃ L, L = wq rp.1 := ⟨_, rfl⟩
  obtain ⟨E, hE⟩ : ∃ E, E = rp.2 := ⟨_, rfl⟩
  have HLI : Hid ((Try.prog.info? 27).map (·.size) = some LV.length ∧ LV.length = zW.length ∧ LV.toArray.all (·.oneCell') = true) := by rw [hLV]; exact ⟨info_Wq _, wq_len _, wq_one _⟩
  have HNX : Hid (∀ X, Below w.heap.size w X → Calls Try.prog 109 #[.pointer (some ⟨hb, 0, none⟩), .agg q.toArray] X fun e w' => e = .returned (.tuple #[.agg LV.toArray, .int .i64 E]) ∧ NxP X hb rv qv iv rs qs inn q w') := fun X k => by
    rw [hLV, hE, hrp]
    exact HN hb rv qv iv rs qs q (by rw [hq]; exact aq_len _ _ _ _ _ (by simp)) (by rw [hq]; exact aq_one _ _ _ _ _ z20_one) hn X (H.below k)
  have HBU : Hid (Try.prog.built tAk [(0, .int .i64 1), (1, .agg LX.toArray)] = some q.toArray) := by show _ = _; rw [hq]; rw [hLX]; exact built_ld x
  have HHO : Hid (Hst w hb rv qv iv rs qs inn) := H
  rw [← hrp, ← hE, ← hq]
  rw [← hLV]
  clear HN H hn hrp hE hq hLV
  go_enter Try.func106, Try.ntmps106
  go_upto_region 1 with (first
    | (refine wpList_boxG 27 rfl (.tmp 1) rfl LX rfl ?_; intro X1 q1 q2 q3; have R1 : Hid (Row X1 w.heap.size LX 27) := q1; have B1 : Hid (Below w.heap.size w X1) := q2; clear q1 q2 q3; simp only [Act.put, List.setIfInBounds_toArray, List.set_cons_zero, List.set_cons_succ])
    | (refine wpList_allocW rfl rfl ?_; intro X2 q1 q2 q3; have R2 : Hid (Row X2 X1.heap.size zW 27) := q1; have B2 : Hid (Below X1.heap.size X1 X2) := q2; clear q1 q2 q3; simp only [Act.put, List.setIfInBounds_toArray, List.set_cons_zero, List.set_cons_succ]))
  obtain ⟨b1, hb1⟩ : ∃ b, b = w.heap.size := ⟨_, rfl⟩
  obtain ⟨b2, hb2⟩ : ∃ b, b = X1.heap.size := ⟨_, rfl⟩
  have C1 : Hid (Below w.heap.size w X1) := B1.out
  have C2 : Hid (Below w.heap.size w X2) := C1.out.trans (B2.out.mono C1.out.size)
  have S1 : Hid (Row X2 b1 LX 27) := by rw [hb1]; exact Row.below (R1.out) B2.out (R1.out).lt
  have M1 : Hid (w.heap.size ≤ b1) := by show _ ≤ _; rw [hb1]; exact Nat.le_refl _
  have S2 : Hid (Row X2 b2 zW 27) := by rw [hb2]; exact R2.out
  have M2 : Hid (w.heap.size ≤ b2) := by show _ ≤ _; rw [hb2]; exact C1.out.size
  have HC : Hid _ := HNX.out X2 C2.out
  rw [← hb1, ← hb2]
  clear hb1 R1 B1 hb2 R2 B2 HNX
  go_wp2_with (first
    | (refine wpList_load_w rfl 27 (.tmp 3) rfl b1 0 rfl LX _ S1.out.all Try.underlying27 rfl HIX.out ?_; simp only [Act.put, List.setIfInBounds_toArray, List.set_cons_zero, List.set_cons_succ])
    | (refine wpList_bltH rfl tAk _ rfl [(0, .int .i64 1), (1, .agg LX.toArray)] (rfl) q HBU.out ?_; simp only [Act.put, List.setIfInBounds_toArray, List.set_cons_zero, List.set_cons_succ])
    | (go_at_call 109; refine Calls.mono HC.out ?_; rintro e Y ⟨rfl, p⟩; have HP : Hid (NxP w hb rv qv iv rs qs inn q Y) := p.of C2.out; have Z2 : Hid (Row Y b2 zW 27) := p.row (HHO.out.below C2.out) (by decide) (by decide) S2.out; clear p)
    | (refine wpList_storeL rfl 27 (.tmp 4) (.tmp 10) rfl b2 LV zW 27 rfl rfl Z2.out HLI.out.2.1 HLI.out.1 HLI.out.2.2 ?_; intro Y2 q1 q2; have E2 : Hid (Y2 = _) := q1; have R9 : Hid (Row Y2 b2 LV 27) := q2; clear q1 q2; simp only [Act.put]))
  exact bodyPost_ret (results_row_tmp Try.results106 _ _ b2 27 LV (.int .i64 E) rfl rfl R9.out Try.underlying27 info_w4 HLI.out.2.1) rfl ⟨rfl, by rw [E2.out]; exact HP.out.own (gro_setCells b2 _ 0 Y Y (Gro.refl _ Y)) Z2.out M2.out⟩
set_option maxRecDepth 100000 in
set_option maxHeartbeats 4000000 in
theorem save_n {inn : List (BitVec 8)} (HN : NextOK inn) (hb : Nat) (rv qv iv : Value) (rs : List (Nat × Int)) (qs : List (List Value)) (x y : Nat) (hn : qs.length ≤ 1000) (w : World) (H : Hst w hb rv qv iv rs qs inn) : Calls Try.prog 107 #[.pointer (some ⟨hb, 0, none⟩), .agg (wq x).toArray, .agg (wq y).toArray] w fun e w' => e = .returned (.int .i64 (rs.getD qs.length (0, 0)).2) ∧ NxP w hb rv qv iv rs qs inn (aq 2 x y 0 z20) w' := by
  obtain ⟨LX, hLX⟩ : ∃ L, L = wq x := ⟨_, rfl⟩
  have HIX : Hid ((Try.prog.info? 27).map (·.size) = some LX.length) := by rw [hLX]; exact info_Wq _
  rw [← hLX]
  obtain ⟨LY, hLY⟩ : ∃ L, L = wq y := ⟨_, rfl⟩
  have HIY : Hid ((Try.prog.info? 27).map (·.size) = some LY.length) := by rw [hLY]; exact info_Wq _
  rw [← hLY]
  obtain ⟨q, hq⟩ : ∃ q, q = aq 2 x y 0 z20 := ⟨_, rfl⟩
  obtain ⟨rp, hrp⟩ : ∃ p, p = rs.getD qs.length (0, 0) := ⟨_, rfl⟩
  obtain ⟨LV, hLV⟩ : ∃ L, L = wq rp.1 := ⟨_, rfl⟩
  obtain ⟨E, hE⟩ : ∃ E, E = rp.2 := ⟨_, rfl⟩
  have HLI : Hid ((Try.prog.info? 27).map (·.size) = some LV.length ∧ LV.length = zW.length ∧ LV.toArray.all (·.oneCell') = true) := by rw [hLV]; exact ⟨info_Wq _, wq_len _, wq_one _⟩
  have HNX : Hid (∀ X, Below w.heap.size w X → Calls Try.prog 109 #[.pointer (some ⟨hb, 0, none⟩), .agg q.toArray] X fun e w' => e = .returned (.tuple #[.agg LV.toArray, .int .i64 E]) ∧ NxP X hb rv qv iv rs qs inn q w') := fun X k => by
    rw [hLV, hE, hrp]
    exact HN hb rv qv iv rs qs q (by rw [hq]; exact aq_len _ _ _ _ _ (by simp)) (by rw [hq]; exact aq_one _ _ _ _ _ z20_one) hn X (H.below k)
  have HBU : Hid (Try.prog.built tAk [(0, .int .i64 2), (1, .agg LX.toArray), (2, .agg LY.toArray)] = some q.toArray) := by show _ = _; rw [hq]; rw [hLX, hLY]; exact built_sv x y
  have HHO : Hid (Hst w hb rv qv iv rs qs inn) := H
  rw [← hrp, ← hE, ← hq]
  clear HN H hn hrp hE hq hLV
  go_enter Try.func107, Try.ntmps107
  go_upto_region 1 with (first
    | (refine wpList_boxG 27 rfl (.tmp 1) rfl LX rfl ?_; intro X1 q1 q2 q3; have R1 : Hid (Row X1 w.heap.size LX 27) := q1; have B1 : Hid (Below w.heap.size w X1) := q2; clear q1 q2 q3; simp only [Act.put, List.setIfInBounds_toArray, List.set_cons_zero, List.set_cons_succ])
    | (refine wpList_boxG 27 rfl (.tmp 2) rfl LY rfl ?_; intro X2 q1 q2 q3; have R2 : Hid (Row X2 X1.heap.size LY 27) := q1; have B2 : Hid (Below X1.heap.size X1 X2) := q2; clear q1 q2 q3; simp only [Act.put, List.setIfInBounds_toArray, List.set_cons_zero, List.set_cons_succ]))
  obtain ⟨b1, hb1⟩ : ∃ b, b = w.heap.size := ⟨_, rfl⟩
  obtain ⟨b2, hb2⟩ : ∃ b, b = X1.heap.size := ⟨_, rfl⟩
  have C1 : Hid (Below w.heap.size w X1) := B1.out
  have C2 : Hid (Below w.heap.size w X2) := C1.out.trans (B2.out.mono C1.out.size)
  have S1 : Hid (Row X2 b1 LX 27) := by rw [hb1]; exact Row.below (R1.out) B2.out (R1.out).lt
  have M1 : Hid (w.heap.size ≤ b1) := by show _ ≤ _; rw [hb1]; exact Nat.le_refl _
  have S2 : Hid (Row X2 b2 LY 27) := by rw [hb2]; exact R2.out
  have M2 : Hid (w.heap.size ≤ b2) := by show _ ≤ _; rw [hb2]; exact C1.out.size
  have HC : Hid _ := HNX.out X2 C2.out
  rw [← hb1, ← hb2]
  clear hb1 R1 B1 hb2 R2 B2 HNX
  go_wp2_with (first
    | (refine wpList_load_w rfl 27 (.tmp 4) rfl b1 0 rfl LX _ S1.out.all Try.underlying27 rfl HIX.out ?_; simp only [Act.put, List.setIfInBounds_toArray, List.set_cons_zero, List.set_cons_succ])
    | (refine wpList_load_w rfl 27 (.tmp 5) rfl b2 0 rfl LY _ S2.out.all Try.underlying27 rfl HIY.out ?_; simp only [Act.put, List.setIfInBounds_toArray, List.set_cons_zero, List.set_cons_succ])
    | (refine wpList_bltH rfl tAk _ rfl [(0, .int .i64 2), (1, .agg LX.toArray), (2, .agg LY.toArray)] (rfl) q HBU.out ?_; simp only [Act.put, List.setIfInBounds_toArray, List.set_cons_zero, List.set_cons_succ])
    | (go_at_call 109; refine Calls.mono HC.out ?_; rintro e Y ⟨rfl, p⟩; have HP : Hid (NxP w hb rv qv iv rs qs inn q Y) := p.of C2.out; clear p)
    | (refine wpList_allocW rfl rfl ?_; intro Y1 q1 q2 q3; have R8 : Hid (Row Y1 Y.heap.size zW 27) := q1; have B8 : Hid (Below Y.heap.size Y Y1) := q2; clear q1 q2 q3; simp only [Act.put, List.setIfInBounds_toArray, List.set_cons_zero, List.set_cons_succ])
    | (refine wpList_storeL rfl 27 (.tmp 7) (.tmp 15) rfl Y.heap.size LV zW 27 rfl rfl R8.out HLI.out.2.1 HLI.out.1 HLI.out.2.2 ?_; intro Y2 q1 q2; have E2 : Hid (Y2 = _) := q1; clear q1 q2; simp only [Act.put]))
  have HB8 : Below Y.heap.size Y Y2 := by rw [E2.out]; exact below_setCells B8.out (Nat.le_refl _) _
  have HF : Hid (NxP w hb rv qv iv rs qs inn q Y2) := HP.out.be HB8
  clear HB8 E2 R8 B8 HP
  go_ret
  exact ⟨rfl, HF.out⟩
set_option maxRecDepth 100000 in
set_option maxHeartbeats 4000000 in
theorem have_n {inn : List (BitVec 8)} (HN : NextOK inn) (hb : Nat) (rv qv iv : Value) (rs : List (Nat × Int)) (qs : List (List Value)) (t : Nat) (who : List Value) (hw : who.length = 20) (hwo : ∀ v ∈ who, v.oneCell' = true) (hn : qs.length ≤ 1000) (w : World) (H : Hst w hb rv qv iv rs qs inn) : Calls Try.prog 105 #[.pointer (some ⟨hb, 0, none⟩), .int .i64 (t : Int), .agg who.toArray] w fun e w' => e = .returned (.tuple #[.agg (wq (rs.getD qs.length (0, 0)).1).toArray, .int .i64 (rs.getD qs.length (0, 0)).2]) ∧ NxP w hb rv qv iv rs qs inn (aq 3 0 0 t who) w' := by
  have HIA : Hid ((Try.prog.info? 24).map (·.size) = some who.length) := by show _ = _; rw [hw]; kernel_rfl
  obtain ⟨q, hq⟩ : ∃ q, q = aq 3 0 0 t who := ⟨_, rfl⟩
  obtain ⟨rp, hrp⟩ : ∃ p, p = rs.getD qs.length (0, 0) := ⟨_, rfl⟩
  obtain ⟨LV, hLV⟩ : ∃ L, L = wq rp.1 := ⟨_, rfl⟩
  obtain ⟨E, hE⟩ : ∃ E, E = rp.2 := ⟨_, rfl⟩
  have HLI : Hid ((Try.prog.info? 27).map (·.size) = some LV.length ∧ LV.length = zW.length ∧ LV.toArray.all (·.oneCell') = true) := by rw [hLV]; exact ⟨info_Wq _, wq_len _, wq_one _⟩
  have HNX : Hid (∀ X, Below w.heap.size w X → Calls Try.prog 109 #[.pointer (some ⟨hb, 0, none⟩), .agg q.toArray] X fun e w' => e = .returned (.tuple #[.agg LV.toArray, .int .i64 E]) ∧ NxP X hb rv qv iv rs qs inn q w') := fun X k => by
    rw [hLV, hE, hrp]
    exact HN hb rv qv iv rs qs q (by rw [hq]; exact aq_len _ _ _ _ _ hw) (by rw [hq]; exact aq_one _ _ _ _ _ hwo) hn X (H.below k)
  have HBU : Hid (Try.prog.built tAk [(0, .int .i64 3), (3, .int .i64 (t : Int)), (4, .agg who.toArray)] = some q.toArray) := by show _ = _; rw [hq]; exact built_hv t who hw
  have HHO : Hid (Hst w hb rv qv iv rs qs inn) := H
  rw [← hrp, ← hE, ← hq]
  rw [← hLV]
  clear HN H hn hrp hE hq hLV
  go_enter Try.func105, Try.ntmps105
  go_upto_region 1 with (first
    | (refine wpList_boxG 24 rfl (.tmp 2) rfl who rfl ?_; intro X1 q1 q2 q3; have R1 : Hid (Row X1 w.heap.size who 24) := q1; have B1 : Hid (Below w.heap.size w X1) := q2; clear q1 q2 q3; simp only [Act.put, List.setIfInBounds_toArray, List.set_cons_zero, List.set_cons_succ])
    | (refine wpList_allocW rfl rfl ?_; intro X2 q1 q2 q3; have R2 : Hid (Row X2 X1.heap.size zW 27) := q1; have B2 : Hid (Below X1.heap.size X1 X2) := q2; clear q1 q2 q3; simp only [Act.put, List.setIfInBounds_toArray, List.set_cons_zero, List.set_cons_succ]))
  obtain ⟨b1, hb1⟩ : ∃ b, b = w.heap.size := ⟨_, rfl⟩
  obtain ⟨b2, hb2⟩ : ∃ b, b = X1.heap.size := ⟨_, rfl⟩
  have C1 : Hid (Below w.heap.size w X1) := B1.out
  have C2 : Hid (Below w.heap.size w X2) := C1.out.trans (B2.out.mono C1.out.size)
  have S1 : Hid (Row X2 b1 who 24) := by rw [hb1]; exact Row.below (R1.out) B2.out (R1.out).lt
  have M1 : Hid (w.heap.size ≤ b1) := by show _ ≤ _; rw [hb1]; exact Nat.le_refl _
  have S2 : Hid (Row X2 b2 zW 27) := by rw [hb2]; exact R2.out
  have M2 : Hid (w.heap.size ≤ b2) := by show _ ≤ _; rw [hb2]; exact C1.out.size
  have HC : Hid _ := HNX.out X2 C2.out
  rw [← hb1, ← hb2]
  clear hb1 R1 B1 hb2 R2 B2 HNX
  go_wp2_with (first
    | (refine wpList_load_w rfl 24 (.tmp 5) rfl b1 0 rfl who _ S1.out.all Try.underlying24 rfl HIA.out ?_; simp only [Act.put, List.setIfInBounds_toArray, List.set_cons_zero, List.set_cons_succ])
    | (refine wpList_bltH rfl tAk _ rfl [(0, .int .i64 3), (3, .int .i64 (t : Int)), (4, .agg who.toArray)] (rfl) q HBU.out ?_; simp only [Act.put, List.setIfInBounds_toArray, List.set_cons_zero, List.set_cons_succ])
    | (go_at_call 109; refine Calls.mono HC.out ?_; rintro e Y ⟨rfl, p⟩; have HP : Hid (NxP w hb rv qv iv rs qs inn q Y) := p.of C2.out; have Z2 : Hid (Row Y b2 zW 27) := p.row (HHO.out.below C2.out) (by decide) (by decide) S2.out; clear p)
    | (refine wpList_storeL rfl 27 (.tmp 6) (.tmp 13) rfl b2 LV zW 27 rfl rfl Z2.out HLI.out.2.1 HLI.out.1 HLI.out.2.2 ?_; intro Y2 q1 q2; have E2 : Hid (Y2 = _) := q1; have R9 : Hid (Row Y2 b2 LV 27) := q2; clear q1 q2; simp only [Act.put]))
  exact bodyPost_ret (results_row_tmp Try.results105 _ _ b2 27 LV (.int .i64 E) rfl rfl R9.out Try.underlying27 info_w4 HLI.out.2.1) rfl ⟨rfl, by rw [E2.out]; exact HP.out.own (gro_setCells b2 _ 0 Y Y (Gro.refl _ Y)) Z2.out M2.out⟩
set_option maxRecDepth 100000 in
set_option maxHeartbeats 4000000 in
theorem send_n {inn : List (BitVec 8)} (HN : NextOK inn) (hb : Nat) (rv qv iv : Value) (rs : List (Nat × Int)) (qs : List (List Value)) (t x : Nat) (who : List Value) (hw : who.length = 20) (hwo : ∀ v ∈ who, v.oneCell' = true) (hn : qs.length ≤ 1000) (w : World) (H : Hst w hb rv qv iv rs qs inn) : Calls Try.prog 108 #[.pointer (some ⟨hb, 0, none⟩), .int .i64 (t : Int), .agg who.toArray, .agg (wq x).toArray] w fun e w' => e = .returned (.int .i64 (rs.getD qs.length (0, 0)).2) ∧ NxP w hb rv qv iv rs qs inn (aq 4 x 0 t who) w' := by
  obtain ⟨LX, hLX⟩ : ∃ L, L = wq x := ⟨_, rfl⟩
  have HIX : Hid ((Try.prog.info? 27).map (·.size) = some LX.length) := by rw [hLX]; exact info_Wq _
  rw [← hLX]
  have HIA : Hid ((Try.prog.info? 24).map (·.size) = some who.length) := by show _ = _; rw [hw]; kernel_rfl
  obtain ⟨q, hq⟩ : ∃ q, q = aq 4 x 0 t who := ⟨_, rfl⟩
  obtain ⟨rp, hrp⟩ : ∃ p, p = rs.getD qs.length (0, 0) := ⟨_, rfl⟩
  obtain ⟨LV, hLV⟩ : ∃ L, L = wq rp.1 := ⟨_, rfl⟩
  obtain ⟨E, hE⟩ : ∃ E, E = rp.2 := ⟨_, rfl⟩
  have HLI : Hid ((Try.prog.info? 27).map (·.size) = some LV.length ∧ LV.length = zW.length ∧ LV.toArray.all (·.oneCell') = true) := by rw [hLV]; exact ⟨info_Wq _, wq_len _, wq_one _⟩
  have HNX : Hid (∀ X, Below w.heap.size w X → Calls Try.prog 109 #[.pointer (some ⟨hb, 0, none⟩), .agg q.toArray] X fun e w' => e = .returned (.tuple #[.agg LV.toArray, .int .i64 E]) ∧ NxP X hb rv qv iv rs qs inn q w') := fun X k => by
    rw [hLV, hE, hrp]
    exact HN hb rv qv iv rs qs q (by rw [hq]; exact aq_len _ _ _ _ _ hw) (by rw [hq]; exact aq_one _ _ _ _ _ hwo) hn X (H.below k)
  have HBU : Hid (Try.prog.built tAk [(0, .int .i64 4), (3, .int .i64 (t : Int)), (4, .agg who.toArray), (1, .agg LX.toArray)] = some q.toArray) := by show _ = _; rw [hq]; rw [hLX]; exact built_sd t x who hw
  have HHO : Hid (Hst w hb rv qv iv rs qs inn) := H
  rw [← hrp, ← hE, ← hq]
  clear HN H hn hrp hE hq hLV
  go_enter Try.func108, Try.ntmps108
  go_upto_region 1 with (first
    | (refine wpList_boxG 24 rfl (.tmp 2) rfl who rfl ?_; intro X1 q1 q2 q3; have R1 : Hid (Row X1 w.heap.size who 24) := q1; have B1 : Hid (Below w.heap.size w X1) := q2; clear q1 q2 q3; simp only [Act.put, List.setIfInBounds_toArray, List.set_cons_zero, List.set_cons_succ])
    | (refine wpList_boxG 27 rfl (.tmp 3) rfl LX rfl ?_; intro X2 q1 q2 q3; have R2 : Hid (Row X2 X1.heap.size LX 27) := q1; have B2 : Hid (Below X1.heap.size X1 X2) := q2; clear q1 q2 q3; simp only [Act.put, List.setIfInBounds_toArray, List.set_cons_zero, List.set_cons_succ]))
  obtain ⟨b1, hb1⟩ : ∃ b, b = w.heap.size := ⟨_, rfl⟩
  obtain ⟨b2, hb2⟩ : ∃ b, b = X1.heap.size := ⟨_, rfl⟩
  have C1 : Hid (Below w.heap.size w X1) := B1.out
  have C2 : Hid (Below w.heap.size w X2) := C1.out.trans (B2.out.mono C1.out.size)
  have S1 : Hid (Row X2 b1 who 24) := by rw [hb1]; exact Row.below (R1.out) B2.out (R1.out).lt
  have M1 : Hid (w.heap.size ≤ b1) := by show _ ≤ _; rw [hb1]; exact Nat.le_refl _
  have S2 : Hid (Row X2 b2 LX 27) := by rw [hb2]; exact R2.out
  have M2 : Hid (w.heap.size ≤ b2) := by show _ ≤ _; rw [hb2]; exact C1.out.size
  have HC : Hid _ := HNX.out X2 C2.out
  rw [← hb1, ← hb2]
  clear hb1 R1 B1 hb2 R2 B2 HNX
  go_wp2_with (first
    | (refine wpList_load_w rfl 24 (.tmp 6) rfl b1 0 rfl who _ S1.out.all Try.underlying24 rfl HIA.out ?_; simp only [Act.put, List.setIfInBounds_toArray, List.set_cons_zero, List.set_cons_succ])
    | (refine wpList_load_w rfl 27 (.tmp 7) rfl b2 0 rfl LX _ S2.out.all Try.underlying27 rfl HIX.out ?_; simp only [Act.put, List.setIfInBounds_toArray, List.set_cons_zero, List.set_cons_succ])
    | (refine wpList_bltH rfl tAk _ rfl [(0, .int .i64 4), (3, .int .i64 (t : Int)), (4, .agg who.toArray), (1, .agg LX.toArray)] (rfl) q HBU.out ?_; simp only [Act.put, List.setIfInBounds_toArray, List.set_cons_zero, List.set_cons_succ])
    | (go_at_call 109; refine Calls.mono HC.out ?_; rintro e Y ⟨rfl, p⟩; have HP : Hid (NxP w hb rv qv iv rs qs inn q Y) := p.of C2.out; clear p)
    | (refine wpList_allocW rfl rfl ?_; intro Y1 q1 q2 q3; have R8 : Hid (Row Y1 Y.heap.size zW 27) := q1; have B8 : Hid (Below Y.heap.size Y Y1) := q2; clear q1 q2 q3; simp only [Act.put, List.setIfInBounds_toArray, List.set_cons_zero, List.set_cons_succ])
    | (refine wpList_storeL rfl 27 (.tmp 9) (.tmp 18) rfl Y.heap.size LV zW 27 rfl rfl R8.out HLI.out.2.1 HLI.out.1 HLI.out.2.2 ?_; intro Y2 q1 q2; have E2 : Hid (Y2 = _) := q1; clear q1 q2; simp only [Act.put]))
  have HB8 : Below Y.heap.size Y Y2 := by rw [E2.out]; exact below_setCells B8.out (Nat.le_refl _) _
  have HF : Hid (NxP w hb rv qv iv rs qs inn q Y2) := HP.out.be HB8
  clear HB8 E2 R8 B8 HP
  go_ret
  exact ⟨rfl, HF.out⟩

end Go.Proofs.Ytabcglakdlkdcaa

namespace Go.Proofs.Ytabcglakdlkdcaa
open Go Go.RowKit
open Sha
open Wd

/-- The first m blocks of a world. -/
theorem cut_world (w : World) (m : Nat) (hm : m ≤ w.heap.size) : ∃ w1 : World, w1.heap.size = m ∧ Below w1.heap.size w1 w ∧ ∀ i, i < m → w1.heap[i]? = w.heap[i]? := by
  have hs : (w.heap.extract 0 m).size = m := by rw [Array.size_extract]; omega
  have hb : ∀ i, i < m → (w.heap.extract 0 m)[i]? = w.heap[i]? := fun i hi => by
    rw [Array.getElem?_extract]
    simp only [Nat.zero_add]
    rw [if_pos (by omega)]
  refine ⟨{ w with heap := w.heap.extract 0 m }, hs, ?_, hb⟩
  show Below (w.heap.extract 0 m).size _ _
  rw [hs]
  exact ⟨rfl, rfl, rfl, by show (w.heap.extract 0 m).size ≤ _; omega, fun i hi => (hb i hi).symm⟩
end Go.Proofs.Ytabcglakdlkdcaa

namespace Go.Proofs.Ytabcglakdlkdcaa
open Go Go.RowKit
open Sha
open Wd

/-- A run and its host, in memory: below wS the host's row alone may have turned. -/
def Lr (wS : World) (hb r T gs n : Nat) (pl : Value) (C : List Value) (av : Value) (ls : List Ins) (ags : List Nat) (rv iv : Value) (rs : List (Nat × Int)) (inn : List (BitVec 8)) (w : World) (stk : Value) (ss : List Nat) (l nx : Nat) (an : List Value) (qv : Value) (qs : List (List Value)) : Prop :=
  ∃ w1 : World, w1.heap.size = wS.heap.size ∧ Gro (· = hb) wS w1 ∧ Rn w w1 w r T gs n pl C (.iface 48 (.pointer (some ⟨hb, 0, none⟩))) av stk (ss) (l) (nx) an ls ags ∧ Hst w hb rv qv iv rs qs inn ∧ (∀ g, qv.ownBlock = some g → wS.heap.size ≤ g)
/-- Rows of other types stay. -/
def Kr (w w' : World) : Prop := ∀ (b : Nat) (cs : List Value) (t : TypeId), t ≠ 70 → t ≠ 27 → t ≠ tHo → t ≠ tAk → Row w b cs t → Row w' b cs t
theorem kh_ne {t : TypeId} (h : t = tHo ∨ t = tAk ∨ t = tYr ∨ t = 5) : t ≠ 70 ∧ t ≠ 27 := by
  rcases h with h | h | h | h <;> rw [h] <;> exact ⟨by decide, by decide⟩
section
variable {wS : World} {hb r T gs n : Nat} {pl : Value} {C : List Value} {av : Value} {ls : List Ins} {ags : List Nat} {rv iv : Value} {rs : List (Nat × Int)} {inn : List (BitVec 8)} {w0 w W W' : World} {stk : Value} {ss : List Nat} {l nx : Nat} {an : List Value} {qv : Value} {qs : List (List Value)} {q : List Value}
theorem Rn.kh (H : Rn w w0 W r T gs n pl C (.iface 48 (.pointer (some ⟨hb, 0, none⟩))) av stk (ss) (l) (nx) an ls ags) : Kh w W := fun _ _ _ ht rr => H.kp (kh_ne ht).1 (kh_ne ht).2 rr
theorem Rn.host (H : Rn w w0 W r T gs n pl C (.iface 48 (.pointer (some ⟨hb, 0, none⟩))) av stk (ss) (l) (nx) an ls ags) (hH : Hst W hb rv qv iv rs qs inn) (hN : NxP W hb rv qv iv rs qs inn q W') (a1 : w0.heap.size = wS.heap.size) (a2 : Gro (· = hb) wS w0) (a5 : ∀ g, qv.ownBlock = some g → wS.heap.size ≤ g) :
    ∃ w1 : World, w1.heap.size = wS.heap.size ∧ Gro (· = hb) wS w1 ∧ Rn W' w1 W' r T gs n pl C (.iface 48 (.pointer (some ⟨hb, 0, none⟩))) av stk (ss) (l) (nx) an ls ags := by
  have hN2 := hN
  obtain ⟨qv', _, k, _⟩ := hN2
  obtain ⟨w1, h1, h2, h3⟩ := cut_world W' w0.heap.size (Nat.le_trans H.be.size k.size)
  refine ⟨w1, h1.trans a1, ⟨?_, ?_, ?_, ?_, fun i hi hne => ?_⟩, hN.row hH (by decide) (by decide) H.row, H.clen, H.alen, Lw.rows H.st fun b cs r => hN.row hH (by decide) (by decide) r, hN.row hH (by decide) (by decide) H.tab, Lw.rows H.prg fun b cs r => hN.row hH (by decide) (by decide) r, hN.row hH (by decide) (by decide) H.sta, H.cargs, Lw.rows H.arg fun b cs r => hN.row hH (by decide) (by decide) r, H.apart, h2, by rw [h1]; exact H.rlo, by rw [h1]; exact H.slo, fun _ _ q => q⟩
  · exact h2.os.symm.trans (k.os.trans (H.be.os.trans a2.os))
  · exact h2.tape.symm.trans (k.tape.trans (H.be.tape.trans a2.tape))
  · exact h2.output.symm.trans (k.output.trans (H.be.output.trans a2.output))
  · rw [h1, a1]; exact Nat.le_refl _
  · have hi0 : i < w0.heap.size := by rw [a1]; exact hi
    rw [h3 i hi0, k.block i (Nat.lt_of_lt_of_le hi0 H.be.size) (fun e => by
      rcases e with e | e
      · exact hne e
      · have := a5 i e; omega), H.be.block i hi0, a2.block i hi hne]
end
/-- What one step leaves. -/
def UP (wS : World) (hb r T gs n : Nat) (pl : Value) (C : List Value) (av : Value) (ls : List Ins) (ags : List Nat) (rv iv : Value) (rs : List (Nat × Int)) (inn : List (BitVec 8)) (cl : Cl) (x : Ins) (st : List Nat) (l nx : Nat) (an : List Value) (qs : List (List Value)) (v : Int) (w' : World) : Prop :=
  match stU cl ags ls rs x st l nx qs.length with
  | (.error E, q) => v = E ∧ ∃ stk' ss' l' nx' an' qv', Lr wS hb r T gs n pl C av ls ags rv iv rs inn w' stk' (ss') (l') (nx') an' qv' (qs ++ q)
  | (.ok (st', nx'), q) => v = 0 ∧ ∃ stk' qv', Lr wS hb r T gs n pl C av ls ags rv iv rs inn w' stk' (st'.reverse) (l - gT x.c) (nx') (if x.c = 1 then wq (st.getD 0 0) else an) qv' (qs ++ q)
section
variable {wS : World} {hb r T gs n : Nat} {pl : Value} {C : List Value} {av : Value} {ls : List Ins} {ags : List Nat} {rv iv : Value} {rs : List (Nat × Int)} {inn : List (BitVec 8)} {cl : Cl}
theorem kr_of {w w1 w' : World} {stk : Value} {ss : List Nat} {l nx : Nat} {an : List Value} (H : Rn w w1 w' r T gs n pl C (.iface 48 (.pointer (some ⟨hb, 0, none⟩))) av stk (ss) (l) (nx) an ls ags) : Kr w w' := fun _ _ _ h1 h2 _ _ rr => H.kp h1 h2 rr
theorem step_u1 (_hcl : cl.In C) (_h8 : ags.length ≤ 8) (x : Ins) (_h4 : x.c = 4 → x.n ≤ 15) (_h5 : x.c = 5 → 1 ≤ x.n ∧ x.n ≤ 15) (_hj : x.c = 14 ∨ x.c = 15 → x.n < n ∧ ∃ m, stf ls x.n = m + 1 ∧ m ≤ 100000) (_h16 : x.c = 16 → x.n ≤ 1000) (st : List Nat) (l nx : Nat) (an : List Value) (stk qv : Value) (qs : List (List Value)) (_hst : ∀ a ∈ st, a < 2 ^ 256) (hl : l ≤ 10000) (hsl : st.length ≤ 64) (hnx : nx ≤ 1024) (_hq : qs.length ≤ 1000) (w : World) (H : Lr wS hb r T gs n pl C av ls ags rv iv rs inn w stk (st.reverse) (l) (nx) an qv (qs)) (hc1 : x.c = 1) : Calls Try.prog 47 #[.pointer (some ⟨r, 0, none⟩), .agg (ic x.c x.p x.a x.n).toArray] w fun e w' => ∃ v, e = .returned (.int .i64 v) ∧ Kr w w' ∧ UP wS hb r T gs n pl C av ls ags rv iv rs inn cl x st l nx an qs v w' := by
  obtain ⟨w1, a1, a2, a3, a4, a5⟩ := H
  rw [hc1]
  refine Calls.mono (sp_done r T gs n pl C (.iface 48 (.pointer (some ⟨hb, 0, none⟩))) av stk st l nx an ls ags x.p x.a x.n hl hsl hnx w w1 w a3) ?_
  rintro e w' ⟨v, rfl, q⟩
  have eT : tT x.c x.n = 1 := by rw [hc1]; rfl
  have eL : lT x.c x.n = 0 := by rw [hc1]; rfl
  have eG : gT x.c = 1 := by rw [hc1]; rfl
  have eS : stU cl ags ls rs x st l nx qs.length = if l < 1 then (.error 102, []) else if st.length < 1 ∨ 64 < st.length - 1 + 0 then (.error 103, []) else (.ok (st.drop 1, nx + 1), []) := by
    unfold stU
    rw [eG, eT, eL, if_pos hc1]
  split at q
  · rename_i h1
    rw [if_pos h1] at eS
    obtain ⟨rfl, stk', ss', l', nx', q⟩ := q
    refine ⟨102, rfl, kr_of q, ?_⟩
    unfold UP
    rw [eS]
    exact ⟨rfl, stk', ss', l', nx', an, qv, w1, a1, a2, q.rebase, by rw [List.append_nil]; exact a4.kh q.kh, a5⟩
  rename_i h1
  rw [if_neg h1] at eS
  split at q
  · rename_i h2
    rw [if_pos h2] at eS
    obtain ⟨rfl, stk', ss', l', nx', q⟩ := q
    refine ⟨103, rfl, kr_of q, ?_⟩
    unfold UP
    rw [eS]
    exact ⟨rfl, stk', ss', l', nx', an, qv, w1, a1, a2, q.rebase, by rw [List.append_nil]; exact a4.kh q.kh, a5⟩
  rename_i h2
  rw [if_neg h2] at eS
  obtain ⟨rfl, stk', q⟩ := q
  refine ⟨0, rfl, kr_of q, ?_⟩
  unfold UP
  rw [eS]
  refine ⟨rfl, stk', qv, w1, a1, a2, ?_, by rw [List.append_nil]; exact a4.kh q.kh, a5⟩
  rw [if_pos hc1, eG]
  exact q.rebase
theorem step_u23 (hcl : cl.In C) (h8 : ags.length ≤ 8) (x : Ins) (h4 : x.c = 4 → x.n ≤ 15) (h5 : x.c = 5 → 1 ≤ x.n ∧ x.n ≤ 15) (hj : x.c = 14 ∨ x.c = 15 → x.n < n ∧ ∃ m, stf ls x.n = m + 1 ∧ m ≤ 100000) (h16 : x.c = 16 → x.n ≤ 1000) (st : List Nat) (l nx : Nat) (an : List Value) (stk qv : Value) (qs : List (List Value)) (hst : ∀ a ∈ st, a < 2 ^ 256) (hl : l ≤ 10000) (hsl : st.length ≤ 64) (hnx : nx ≤ 1024) (_hq : qs.length ≤ 1000) (w : World) (H : Lr wS hb r T gs n pl C av ls ags rv iv rs inn w stk (st.reverse) (l) (nx) an qv (qs)) (hc : x.c < 24) (hc1 : x.c ≠ 1) : Calls Try.prog 47 #[.pointer (some ⟨r, 0, none⟩), .agg (ic x.c x.p x.a x.n).toArray] w fun e w' => ∃ v, e = .returned (.int .i64 v) ∧ Kr w w' ∧ UP wS hb r T gs n pl C av ls ags rv iv rs inn cl x st l nx an qs v w' := by
  obtain ⟨w1, a1, a2, a3, a4, a5⟩ := H
  refine Calls.mono (sp_any r T gs n pl C (.iface 48 (.pointer (some ⟨hb, 0, none⟩))) av stk st l nx an ls ags cl hcl x.c x.p x.a x.n hc hc1 h4 h5 hj h16 h8 hst hl hsl hnx w w1 w a3) ?_
  rintro e w' ⟨v, rfl, q⟩
  have eS : stU cl ags ls rs x st l nx qs.length = if l < gT x.c then (.error 102, []) else if st.length < tT x.c x.n ∨ 64 < st.length - tT x.c x.n + lT x.c x.n then (.error 103, []) else (exi cl ags ls x.c x.a x.n st (l - gT x.c) (nx + 1), []) := by
    unfold stU
    rw [if_neg hc1, if_pos hc]
  unfold StP at q
  split at q
  · rename_i h1
    rw [if_pos h1] at eS
    obtain ⟨rfl, stk', ss', l', nx', q⟩ := q
    refine ⟨102, rfl, kr_of q, ?_⟩
    unfold UP
    rw [eS]
    exact ⟨rfl, stk', ss', l', nx', an, qv, w1, a1, a2, q.rebase, by rw [List.append_nil]; exact a4.kh q.kh, a5⟩
  rename_i h1
  rw [if_neg h1] at eS
  split at q
  · rename_i h2
    rw [if_pos h2] at eS
    obtain ⟨rfl, stk', ss', l', nx', q⟩ := q
    refine ⟨103, rfl, kr_of q, ?_⟩
    unfold UP
    rw [eS]
    exact ⟨rfl, stk', ss', l', nx', an, qv, w1, a1, a2, q.rebase, by rw [List.append_nil]; exact a4.kh q.kh, a5⟩
  rename_i h2
  rw [if_neg h2] at eS
  cases hx : exi cl ags ls x.c x.a x.n st (l - gT x.c) (nx + 1) with
  | error E =>
    rw [hx] at q eS
    obtain ⟨rfl, stk', ss', nx', q⟩ := q
    refine ⟨v, rfl, kr_of q, ?_⟩
    unfold UP
    rw [eS]
    exact ⟨rfl, stk', ss', _, nx', an, qv, w1, a1, a2, q.rebase, by rw [List.append_nil]; exact a4.kh q.kh, a5⟩
  | ok y =>
    obtain ⟨st', nx'⟩ := y
    rw [hx] at q eS
    obtain ⟨rfl, stk', q⟩ := q
    refine ⟨0, rfl, kr_of q, ?_⟩
    unfold UP
    rw [eS]
    refine ⟨rfl, stk', qv, w1, a1, a2, ?_, by rw [List.append_nil]; exact a4.kh q.kh, a5⟩
    rw [if_neg hc1]
    exact q.rebase
theorem step_h24 (HN : NextOK inn) (_hcl : cl.In C) (_h8 : ags.length ≤ 8) (x : Ins) (_h4 : x.c = 4 → x.n ≤ 15) (_h5 : x.c = 5 → 1 ≤ x.n ∧ x.n ≤ 15) (_hj : x.c = 14 ∨ x.c = 15 → x.n < n ∧ ∃ m, stf ls x.n = m + 1 ∧ m ≤ 100000) (_h16 : x.c = 16 → x.n ≤ 1000) (st : List Nat) (l nx : Nat) (an : List Value) (stk qv : Value) (qs : List (List Value)) (_hst : ∀ a ∈ st, a < 2 ^ 256) (hl : l ≤ 10000) (hsl : st.length ≤ 64) (hnx : nx ≤ 1024) (hq : qs.length ≤ 1000) (w : World) (H : Lr wS hb r T gs n pl C av ls ags rv iv rs inn w stk (st.reverse) (l) (nx) an qv (qs)) (hc : x.c = 24) : Calls Try.prog 47 #[.pointer (some ⟨r, 0, none⟩), .agg (ic x.c x.p x.a x.n).toArray] w fun e w' => ∃ v, e = .returned (.int .i64 v) ∧ Kr w w' ∧ UP wS hb r T gs n pl C av ls ags rv iv rs inn cl x st l nx an qs v w' := by
  obtain ⟨w1, a1, a2, a3, a4, a5⟩ := H
  have eT : tT x.c x.n = 1 := by rw [hc]; rfl
  have eL : lT x.c x.n = 1 := by rw [hc]; rfl
  have eG : gT x.c = 200 := by rw [hc]; rfl
  have hne : ¬ x.c = 1 := by omega
  have eS : stU cl ags ls rs x st l nx qs.length = if l < 200 then (.error 102, []) else if st.length < 1 ∨ 64 < st.length - 1 + 1 then (.error 103, []) else exh rs 24 st (nx + 1) qs.length := by
    unfold stU
    rw [eG, eT, eL, if_neg hne, if_neg (by omega : ¬ x.c < 24), hc]
  rw [hc]
  refine Calls.mono (sp_load r T gs n pl C hb av stk st l nx an ls ags x.p x.a x.n (fun u E X w2 => (u, E) = rs.getD qs.length (0, 0) ∧ w2.heap.size = wS.heap.size ∧ Gro (· = hb) wS w2 ∧ Kr w X ∧ ∃ qv', Hst X hb rv qv' iv rs (qs ++ [aq 1 (st.getD 0 0) 0 0 z20]) inn ∧ (∀ g, qv'.ownBlock = some g → wS.heap.size ≤ g)) hl hsl hnx w w1 w a3 ?_) ?_
  · intro stk' W hW
    have hH := a4.kh hW.kh
    refine Calls.mono (load_n HN hb rv qv iv rs qs (st.getD 0 0) hq W hH) ?_
    rintro e w' ⟨rfl, hN⟩
    obtain ⟨w2, b1, b2, b3⟩ := hW.host hH hN a1 a2 a5
    have hN2 := hN
    obtain ⟨qv', c1, c2, c3⟩ := hN2
    refine ⟨_, _, rfl, w2, ⟨rfl, b1, b2, fun b cs t h1 h2 h3 h4 rr => hN.row hH h3 h4 (hW.kp h1 h2 rr), qv', c1, fun g e => ?_⟩, b3⟩
    rcases c3 g e with z | z
    · exact a5 g z
    · have := hW.be.size; omega
  rintro e w' ⟨v, rfl, q⟩
  split at q
  · rename_i h1
    rw [if_pos h1] at eS
    obtain ⟨rfl, stk', ss', l', nx', q⟩ := q
    refine ⟨102, rfl, kr_of q, ?_⟩
    unfold UP
    rw [eS]
    exact ⟨rfl, stk', ss', l', nx', an, qv, w1, a1, a2, q.rebase, by rw [List.append_nil]; exact a4.kh q.kh, a5⟩
  rename_i h1
  rw [if_neg h1] at eS
  split at q
  · rename_i h2
    rw [if_pos h2] at eS
    obtain ⟨rfl, stk', ss', l', nx', q⟩ := q
    refine ⟨103, rfl, kr_of q, ?_⟩
    unfold UP
    rw [eS]
    exact ⟨rfl, stk', ss', l', nx', an, qv, w1, a1, a2, q.rebase, by rw [List.append_nil]; exact a4.kh q.kh, a5⟩
  rename_i h2
  rw [if_neg h2] at eS
  unfold exh at eS
  rw [if_pos rfl] at eS
  obtain ⟨u, E, X, w2, ⟨p1, p2, p3, p4, qv', p5, p6⟩, q⟩ := q
  rw [← p1] at eS
  have kr : ∀ {ss : List Nat} {stk' : Value}, Rn X w2 w' r T gs n pl C (.iface 48 (.pointer (some ⟨hb, 0, none⟩))) av stk' (ss) (l - 200) (nx + 1) an ls ags → Kr w w' := fun q b cs t h1 h2 h3 h4 rr => q.kp h1 h2 (p4 b cs t h1 h2 h3 h4 rr)
  rcases q with ⟨hE, rfl, stk', q⟩ | ⟨hE, rfl, stk', q⟩
  · simp only [hE, if_true] at eS
    refine ⟨0, rfl, kr q, ?_⟩
    unfold UP
    rw [eS]
    refine ⟨rfl, stk', qv', w2, p2, p3, ?_, p5.kh q.kh, p6⟩
    rw [if_neg hne, eG]
    exact q.rebase
  · simp only [hE, if_false] at eS
    refine ⟨v, rfl, kr q, ?_⟩
    unfold UP
    rw [eS]
    exact ⟨rfl, stk', _, _, _, an, qv', w2, p2, p3, q.rebase, p5.kh q.kh, p6⟩
theorem step_h25 (HN : NextOK inn) (_hcl : cl.In C) (_h8 : ags.length ≤ 8) (x : Ins) (_h4 : x.c = 4 → x.n ≤ 15) (_h5 : x.c = 5 → 1 ≤ x.n ∧ x.n ≤ 15) (_hj : x.c = 14 ∨ x.c = 15 → x.n < n ∧ ∃ m, stf ls x.n = m + 1 ∧ m ≤ 100000) (_h16 : x.c = 16 → x.n ≤ 1000) (st : List Nat) (l nx : Nat) (an : List Value) (stk qv : Value) (qs : List (List Value)) (_hst : ∀ a ∈ st, a < 2 ^ 256) (hl : l ≤ 10000) (hsl : st.length ≤ 64) (hnx : nx ≤ 1024) (hq : qs.length ≤ 1000) (w : World) (H : Lr wS hb r T gs n pl C av ls ags rv iv rs inn w stk (st.reverse) (l) (nx) an qv (qs)) (hc : x.c = 25) : Calls Try.prog 47 #[.pointer (some ⟨r, 0, none⟩), .agg (ic x.c x.p x.a x.n).toArray] w fun e w' => ∃ v, e = .returned (.int .i64 v) ∧ Kr w w' ∧ UP wS hb r T gs n pl C av ls ags rv iv rs inn cl x st l nx an qs v w' := by
  obtain ⟨w1, a1, a2, a3, a4, a5⟩ := H
  have eT : tT x.c x.n = 2 := by rw [hc]; rfl
  have eL : lT x.c x.n = 0 := by rw [hc]; rfl
  have eG : gT x.c = 200 := by rw [hc]; rfl
  have hne : ¬ x.c = 1 := by omega
  have eS : stU cl ags ls rs x st l nx qs.length = if l < 200 then (.error 102, []) else if st.length < 2 ∨ 64 < st.length - 2 + 0 then (.error 103, []) else exh rs 25 st (nx + 1) qs.length := by
    unfold stU
    rw [eG, eT, eL, if_neg hne, if_neg (by omega : ¬ x.c < 24), hc]
  rw [hc]
  refine Calls.mono (sp_save r T gs n pl C hb av stk st l nx an ls ags x.p x.a x.n (fun E X w2 => E = (rs.getD qs.length (0, 0)).2 ∧ w2.heap.size = wS.heap.size ∧ Gro (· = hb) wS w2 ∧ Kr w X ∧ ∃ qv', Hst X hb rv qv' iv rs (qs ++ [aq 2 (st.getD 1 0) (st.getD 0 0) 0 z20]) inn ∧ (∀ g, qv'.ownBlock = some g → wS.heap.size ≤ g)) hl hsl hnx w w1 w a3 ?_) ?_
  · intro stk' W hW
    have hH := a4.kh hW.kh
    refine Calls.mono (save_n HN hb rv qv iv rs qs (st.getD 1 0) (st.getD 0 0) hq W hH) ?_
    rintro e w' ⟨rfl, hN⟩
    obtain ⟨w2, b1, b2, b3⟩ := hW.host hH hN a1 a2 a5
    have hN2 := hN
    obtain ⟨qv', c1, c2, c3⟩ := hN2
    refine ⟨_, rfl, w2, ⟨rfl, b1, b2, fun b cs t h1 h2 h3 h4 rr => hN.row hH h3 h4 (hW.kp h1 h2 rr), qv', c1, fun g e => ?_⟩, b3⟩
    rcases c3 g e with z | z
    · exact a5 g z
    · have := hW.be.size; omega
  rintro e w' ⟨v, rfl, q⟩
  split at q
  · rename_i h1
    rw [if_pos h1] at eS
    obtain ⟨rfl, stk', ss', l', nx', q⟩ := q
    refine ⟨102, rfl, kr_of q, ?_⟩
    unfold UP
    rw [eS]
    exact ⟨rfl, stk', ss', l', nx', an, qv, w1, a1, a2, q.rebase, by rw [List.append_nil]; exact a4.kh q.kh, a5⟩
  rename_i h1
  rw [if_neg h1] at eS
  split at q
  · rename_i h2
    rw [if_pos h2] at eS
    obtain ⟨rfl, stk', ss', l', nx', q⟩ := q
    refine ⟨103, rfl, kr_of q, ?_⟩
    unfold UP
    rw [eS]
    exact ⟨rfl, stk', ss', l', nx', an, qv, w1, a1, a2, q.rebase, by rw [List.append_nil]; exact a4.kh q.kh, a5⟩
  rename_i h2
  rw [if_neg h2] at eS
  unfold exh at eS
  rw [if_neg (by decide), if_pos rfl] at eS
  obtain ⟨w2, ⟨p1, p2, p3, p4, qv', p5, p6⟩, stk', q⟩ := q
  rw [← p1] at eS
  by_cases hE : v = 0
  · subst hE
    simp only [if_true] at eS
    refine ⟨0, rfl, p4, ?_⟩
    unfold UP
    rw [eS]
    refine ⟨rfl, stk', qv', w2, p2, p3, ?_, p5, p6⟩
    rw [if_neg hne, eG]
    exact q
  · simp only [hE, if_false] at eS
    refine ⟨v, rfl, p4, ?_⟩
    unfold UP
    rw [eS]
    exact ⟨rfl, stk', _, _, _, an, qv', w2, p2, p3, q, p5, p6⟩
theorem step_h26 (HN : NextOK inn) (_hcl : cl.In C) (_h8 : ags.length ≤ 8) (x : Ins) (_h4 : x.c = 4 → x.n ≤ 15) (_h5 : x.c = 5 → 1 ≤ x.n ∧ x.n ≤ 15) (_hj : x.c = 14 ∨ x.c = 15 → x.n < n ∧ ∃ m, stf ls x.n = m + 1 ∧ m ≤ 100000) (_h16 : x.c = 16 → x.n ≤ 1000) (st : List Nat) (l nx : Nat) (an : List Value) (stk qv : Value) (qs : List (List Value)) (hst : ∀ a ∈ st, a < 2 ^ 256) (hl : l ≤ 10000) (hsl : st.length ≤ 64) (hnx : nx ≤ 1024) (hq : qs.length ≤ 1000) (w : World) (H : Lr wS hb r T gs n pl C av ls ags rv iv rs inn w stk (st.reverse) (l) (nx) an qv (qs)) (hc : x.c = 26) : Calls Try.prog 47 #[.pointer (some ⟨r, 0, none⟩), .agg (ic x.c x.p x.a x.n).toArray] w fun e w' => ∃ v, e = .returned (.int .i64 v) ∧ Kr w w' ∧ UP wS hb r T gs n pl C av ls ags rv iv rs inn cl x st l nx an qs v w' := by
  obtain ⟨w1, a1, a2, a3, a4, a5⟩ := H
  have eT : tT x.c x.n = 2 := by rw [hc]; rfl
  have eL : lT x.c x.n = 1 := by rw [hc]; rfl
  have eG : gT x.c = 200 := by rw [hc]; rfl
  have hne : ¬ x.c = 1 := by omega
  have eS : stU cl ags ls rs x st l nx qs.length = if l < 200 then (.error 102, []) else if st.length < 2 ∨ 64 < st.length - 2 + 1 then (.error 103, []) else exh rs 26 st (nx + 1) qs.length := by
    unfold stU
    rw [eG, eT, eL, if_neg hne, if_neg (by omega : ¬ x.c < 24), hc]
  rw [hc]
  refine Calls.mono (sp_have r T gs n pl C hb av stk st l nx an ls ags x.p x.a x.n (fun u E X w2 => (u, E) = rs.getD qs.length (0, 0) ∧ w2.heap.size = wS.heap.size ∧ Gro (· = hb) wS w2 ∧ Kr w X ∧ ∃ qv', Hst X hb rv qv' iv rs (qs ++ [aq 3 0 0 (st.getD 1 0) (adr (st.getD 0 0))]) inn ∧ (∀ g, qv'.ownBlock = some g → wS.heap.size ≤ g)) hst hl hsl hnx w w1 w a3 ?_) ?_
  · intro stk' W hW
    have hH := a4.kh hW.kh
    refine Calls.mono (have_n HN hb rv qv iv rs qs (st.getD 1 0) (adr (st.getD 0 0)) (adr_len _) (adr_mem _) hq W hH) ?_
    rintro e w' ⟨rfl, hN⟩
    obtain ⟨w2, b1, b2, b3⟩ := hW.host hH hN a1 a2 a5
    have hN2 := hN
    obtain ⟨qv', c1, c2, c3⟩ := hN2
    refine ⟨_, _, rfl, w2, ⟨rfl, b1, b2, fun b cs t h1 h2 h3 h4 rr => hN.row hH h3 h4 (hW.kp h1 h2 rr), qv', c1, fun g e => ?_⟩, b3⟩
    rcases c3 g e with z | z
    · exact a5 g z
    · have := hW.be.size; omega
  rintro e w' ⟨v, rfl, q⟩
  split at q
  · rename_i h1
    rw [if_pos h1] at eS
    obtain ⟨rfl, stk', ss', l', nx', q⟩ := q
    refine ⟨102, rfl, kr_of q, ?_⟩
    unfold UP
    rw [eS]
    exact ⟨rfl, stk', ss', l', nx', an, qv, w1, a1, a2, q.rebase, by rw [List.append_nil]; exact a4.kh q.kh, a5⟩
  rename_i h1
  rw [if_neg h1] at eS
  split at q
  · rename_i h2
    rw [if_pos h2] at eS
    obtain ⟨rfl, stk', ss', l', nx', q⟩ := q
    refine ⟨103, rfl, kr_of q, ?_⟩
    unfold UP
    rw [eS]
    exact ⟨rfl, stk', ss', l', nx', an, qv, w1, a1, a2, q.rebase, by rw [List.append_nil]; exact a4.kh q.kh, a5⟩
  rename_i h2
  rw [if_neg h2] at eS
  unfold exh at eS
  rw [if_neg (by decide), if_neg (by decide), if_pos rfl] at eS
  rcases q with ⟨h6, rfl, stk', q⟩ | ⟨h6, q⟩
  · rw [if_neg h6] at eS
    refine ⟨104, rfl, kr_of q, ?_⟩
    unfold UP
    rw [eS]
    exact ⟨rfl, stk', _, _, _, an, qv, w1, a1, a2, q.rebase, by rw [List.append_nil]; exact a4.kh q.kh, a5⟩
  rw [if_pos h6] at eS
  obtain ⟨u, E, X, w2, ⟨p1, p2, p3, p4, qv', p5, p6⟩, q⟩ := q
  rw [← p1] at eS
  have kr : ∀ {ss : List Nat} {stk' : Value}, Rn X w2 w' r T gs n pl C (.iface 48 (.pointer (some ⟨hb, 0, none⟩))) av stk' (ss) (l - 200) (nx + 1) an ls ags → Kr w w' := fun q b cs t h1 h2 h3 h4 rr => q.kp h1 h2 (p4 b cs t h1 h2 h3 h4 rr)
  rcases q with ⟨hE, rfl, stk', q⟩ | ⟨hE, rfl, stk', q⟩
  · simp only [hE, if_true] at eS
    refine ⟨0, rfl, kr q, ?_⟩
    unfold UP
    rw [eS]
    refine ⟨rfl, stk', qv', w2, p2, p3, ?_, p5.kh q.kh, p6⟩
    rw [if_neg hne, eG]
    exact q.rebase
  · simp only [hE, if_false] at eS
    refine ⟨v, rfl, kr q, ?_⟩
    unfold UP
    rw [eS]
    exact ⟨rfl, stk', _, _, _, an, qv', w2, p2, p3, q.rebase, p5.kh q.kh, p6⟩
theorem step_h27 (HN : NextOK inn) (_hcl : cl.In C) (_h8 : ags.length ≤ 8) (x : Ins) (_h4 : x.c = 4 → x.n ≤ 15) (_h5 : x.c = 5 → 1 ≤ x.n ∧ x.n ≤ 15) (_hj : x.c = 14 ∨ x.c = 15 → x.n < n ∧ ∃ m, stf ls x.n = m + 1 ∧ m ≤ 100000) (_h16 : x.c = 16 → x.n ≤ 1000) (st : List Nat) (l nx : Nat) (an : List Value) (stk qv : Value) (qs : List (List Value)) (hst : ∀ a ∈ st, a < 2 ^ 256) (hl : l ≤ 10000) (hsl : st.length ≤ 64) (hnx : nx ≤ 1024) (hq : qs.length ≤ 1000) (w : World) (H : Lr wS hb r T gs n pl C av ls ags rv iv rs inn w stk (st.reverse) (l) (nx) an qv (qs)) (hc : x.c = 27) : Calls Try.prog 47 #[.pointer (some ⟨r, 0, none⟩), .agg (ic x.c x.p x.a x.n).toArray] w fun e w' => ∃ v, e = .returned (.int .i64 v) ∧ Kr w w' ∧ UP wS hb r T gs n pl C av ls ags rv iv rs inn cl x st l nx an qs v w' := by
  obtain ⟨w1, a1, a2, a3, a4, a5⟩ := H
  have eT : tT x.c x.n = 3 := by rw [hc]; rfl
  have eL : lT x.c x.n = 0 := by rw [hc]; rfl
  have eG : gT x.c = 500 := by rw [hc]; rfl
  have hne : ¬ x.c = 1 := by omega
  have eS : stU cl ags ls rs x st l nx qs.length = if l < 500 then (.error 102, []) else if st.length < 3 ∨ 64 < st.length - 3 + 0 then (.error 103, []) else exh rs 27 st (nx + 1) qs.length := by
    unfold stU
    rw [eG, eT, eL, if_neg hne, if_neg (by omega : ¬ x.c < 24), hc]
  rw [hc]
  refine Calls.mono (sp_send r T gs n pl C hb av stk st l nx an ls ags x.p x.a x.n (fun E X w2 => E = (rs.getD qs.length (0, 0)).2 ∧ w2.heap.size = wS.heap.size ∧ Gro (· = hb) wS w2 ∧ Kr w X ∧ ∃ qv', Hst X hb rv qv' iv rs (qs ++ [aq 4 (st.getD 0 0) 0 (st.getD 2 0) (adr (st.getD 1 0))]) inn ∧ (∀ g, qv'.ownBlock = some g → wS.heap.size ≤ g)) hst hl hsl hnx w w1 w a3 ?_) ?_
  · intro stk' W hW
    have hH := a4.kh hW.kh
    refine Calls.mono (send_n HN hb rv qv iv rs qs (st.getD 2 0) (st.getD 0 0) (adr (st.getD 1 0)) (adr_len _) (adr_mem _) hq W hH) ?_
    rintro e w' ⟨rfl, hN⟩
    obtain ⟨w2, b1, b2, b3⟩ := hW.host hH hN a1 a2 a5
    have hN2 := hN
    obtain ⟨qv', c1, c2, c3⟩ := hN2
    refine ⟨_, rfl, w2, ⟨rfl, b1, b2, fun b cs t h1 h2 h3 h4 rr => hN.row hH h3 h4 (hW.kp h1 h2 rr), qv', c1, fun g e => ?_⟩, b3⟩
    rcases c3 g e with z | z
    · exact a5 g z
    · have := hW.be.size; omega
  rintro e w' ⟨v, rfl, q⟩
  split at q
  · rename_i h1
    rw [if_pos h1] at eS
    obtain ⟨rfl, stk', ss', l', nx', q⟩ := q
    refine ⟨102, rfl, kr_of q, ?_⟩
    unfold UP
    rw [eS]
    exact ⟨rfl, stk', ss', l', nx', an, qv, w1, a1, a2, q.rebase, by rw [List.append_nil]; exact a4.kh q.kh, a5⟩
  rename_i h1
  rw [if_neg h1] at eS
  split at q
  · rename_i h2
    rw [if_pos h2] at eS
    obtain ⟨rfl, stk', ss', l', nx', q⟩ := q
    refine ⟨103, rfl, kr_of q, ?_⟩
    unfold UP
    rw [eS]
    exact ⟨rfl, stk', ss', l', nx', an, qv, w1, a1, a2, q.rebase, by rw [List.append_nil]; exact a4.kh q.kh, a5⟩
  rename_i h2
  rw [if_neg h2] at eS
  unfold exh at eS
  rw [if_neg (by decide), if_neg (by decide), if_neg (by decide)] at eS
  rcases q with ⟨h6, rfl, stk', q⟩ | ⟨h6, q⟩
  · rw [if_neg h6] at eS
    refine ⟨104, rfl, kr_of q, ?_⟩
    unfold UP
    rw [eS]
    exact ⟨rfl, stk', _, _, _, an, qv, w1, a1, a2, q.rebase, by rw [List.append_nil]; exact a4.kh q.kh, a5⟩
  rw [if_pos h6] at eS
  obtain ⟨w2, ⟨p1, p2, p3, p4, qv', p5, p6⟩, stk', q⟩ := q
  rw [← p1] at eS
  by_cases hE : v = 0
  · subst hE
    simp only [if_true] at eS
    refine ⟨0, rfl, p4, ?_⟩
    unfold UP
    rw [eS]
    refine ⟨rfl, stk', qv', w2, p2, p3, ?_, p5, p6⟩
    rw [if_neg hne, eG]
    exact q
  · simp only [hE, if_false] at eS
    refine ⟨v, rfl, p4, ?_⟩
    unfold UP
    rw [eS]
    exact ⟨rfl, stk', _, _, _, an, qv', w2, p2, p3, q, p5, p6⟩
theorem step_u (HN : NextOK inn) (hcl : cl.In C) (h8 : ags.length ≤ 8) (x : Ins) (h4 : x.c = 4 → x.n ≤ 15) (h5 : x.c = 5 → 1 ≤ x.n ∧ x.n ≤ 15) (hj : x.c = 14 ∨ x.c = 15 → x.n < n ∧ ∃ m, stf ls x.n = m + 1 ∧ m ≤ 100000) (h16 : x.c = 16 → x.n ≤ 1000) (st : List Nat) (l nx : Nat) (an : List Value) (stk qv : Value) (qs : List (List Value)) (hst : ∀ a ∈ st, a < 2 ^ 256) (hl : l ≤ 10000) (hsl : st.length ≤ 64) (hnx : nx ≤ 1024) (hq : qs.length ≤ 1000) (w : World) (H : Lr wS hb r T gs n pl C av ls ags rv iv rs inn w stk (st.reverse) (l) (nx) an qv (qs)) (hc : x.c < 28) : Calls Try.prog 47 #[.pointer (some ⟨r, 0, none⟩), .agg (ic x.c x.p x.a x.n).toArray] w fun e w' => ∃ v, e = .returned (.int .i64 v) ∧ Kr w w' ∧ UP wS hb r T gs n pl C av ls ags rv iv rs inn cl x st l nx an qs v w' := by
  by_cases h1 : x.c = 1
  · exact step_u1 hcl h8 x h4 h5 hj h16 st l nx an stk qv qs hst hl hsl hnx hq w H h1
  by_cases h2 : x.c < 24
  · exact step_u23 hcl h8 x h4 h5 hj h16 st l nx an stk qv qs hst hl hsl hnx hq w H h2 h1
  rcases (show x.c = 24 ∨ x.c = 25 ∨ x.c = 26 ∨ x.c = 27 by omega) with h | h | h | h
  · exact step_h24 HN hcl h8 x h4 h5 hj h16 st l nx an stk qv qs hst hl hsl hnx hq w H h
  · exact step_h25 HN hcl h8 x h4 h5 hj h16 st l nx an stk qv qs hst hl hsl hnx hq w H h
  · exact step_h26 HN hcl h8 x h4 h5 hj h16 st l nx an stk qv qs hst hl hsl hnx hq w H h
  · exact step_h27 HN hcl h8 x h4 h5 hj h16 st l nx an stk qv qs hst hl hsl hnx hq w H h
end

end Go.Proofs.Ytabcglakdlkdcaa
