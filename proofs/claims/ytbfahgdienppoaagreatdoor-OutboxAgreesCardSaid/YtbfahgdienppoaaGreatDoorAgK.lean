/-
  the law OutboxAgrees: a state's outbox and a book side by side.
-/
import Derived.Test.YtbfahgdienppoaaGreatDoorAgF

namespace Go.Proofs.YtbfahgdienppoaaGreatDoor
open Go Go.RowKit Go.Maps
open Sha

theorem row_ty {w : World} {b : Nat} {cs ds : List Value} {t u : TypeId} (h : Row w b cs t) (k : Row w b ds u) : t = u := by
  have := h.symm.trans k
  simp only [Option.some.injEq, Obj.cells.injEq] at this
  exact this.2.1
/-- Blocks that are no state's. -/
def NoSt (w : World) (R : Nat → Prop) : Prop := ∀ g, R g → ∃ cs t, Row w g cs t ∧ t ≠ tT ∧ t ≠ tS ∧ t ≠ tC ∧ t ≠ 5
theorem NoSt.row {w : World} {R : Nat → Prop} (h : NoSt w R) {g : Nat} {cs : List Value} {t : TypeId} (r : Row w g cs t) (ht : t = tT ∨ t = tS ∨ t = tC ∨ t = 5) : ¬ R g := fun q => by
  obtain ⟨ds, u, r2, h1, h2, h3, h4⟩ := h g q
  have e := row_ty r r2
  subst e
  rcases ht with e | e | e | e
  · exact h1 e
  · exact h2 e
  · exact h3 e
  · exact h4 e
theorem NoSt.bw {w : World} {R : Nat → Prop} (h : NoSt w R) {v : Value} {d : List (BitVec 8)} (b : Bw w v d) : ∀ g, v.ownBlock = some g → ¬ R g := fun g e q => by
  obtain ⟨ds, u, r2, _, _, _, h4⟩ := h g q
  exact Bw.ne b r2 h4 g e rfl
theorem LsS.gro {w0 w w' : World} {S T m k : Nat} {E : DataW Value} {f : ByteArray → List (BitVec 8)} {R : Nat → Prop} (h : LsS w0 w S T m k E f) (q : Gro R w w') (hR : NoSt w R) (h0 : ∀ g, R g → w0.heap.size ≤ g) : LsS w0 w' S T m k E f :=
  ⟨q.row h.tab (hR.row h.tab (.inl rfl)), ⟨q.row h.sv.row (hR.row h.sv.row (.inr (.inl rfl))), Mp.block h.sv.map (q.block m (Mp.lt h.sv.map) (fun e => by obtain ⟨cs, t, r, _⟩ := hR m e; exact Mp.ne h.sv.map r rfl))⟩, h.isM, h.lo, h.bel.trans (q.to_below h.bel.size h0), fun s hs => by
    rcases h.at_ s hs with e | ⟨C, v, A, c, e, r, b, l⟩
    · exact .inl e
    · exact .inr ⟨C, v, A, c, e, q.row r (hR.row r (.inr (.inr (.inl rfl)))), Bw.gro b q (hR.bw b), l⟩, h.inj, h.len⟩
theorem LgS.gro {w0 w w' : World} {S n : Nat} {f : ByteArray → List (BitVec 8)} {R : Nat → Prop} (h : LgS w0 w S n f) (q : Gro R w w') (hR : NoSt w R) (h0 : ∀ g, R g → w0.heap.size ≤ g) : LgS w0 w' S n f := by
  obtain ⟨T, m, k, E, hq, h⟩ := h
  exact ⟨T, m, k, E, hq, h.gro q hR h0⟩
theorem LgS.sets {w0 w : World} {S n : Nat} {f : ByteArray → List (BitVec 8)} (h : LgS w0 w S n f) {b o : Nat} {vs cs : List Value} {t : TypeId} (r : Row w b cs t) (hb : w0.heap.size ≤ b) (h1 : t ≠ tT) (h2 : t ≠ tS) (h3 : t ≠ tC) (h4 : t ≠ 5) : LgS w0 (w.setCells b o vs) S n f :=
  h.gro (R := fun g => g = b) (gro_over (Gro.refl _ _) b o vs rfl) (fun g e => by subst e; exact ⟨cs, t, r, h1, h2, h3, h4⟩) (fun g e => by subst e; exact hb)
theorem Kp.sets {w W : World} (h : Kp w W) {b o : Nat} {vs : List Value} (hb : w.heap.size ≤ b) : Kp w (W.setCells b o vs) :=
  ⟨fun g cs t ht r => Row.setCells_other (h.row g cs t ht r) _ _ _ (by have := r.lt; omega), by rw [size_setCells]; exact h.size⟩
def oK : ByteArray := ⟨#[111]⟩
theorem oK_key : isK oK.size = true := by decide +kernel
set_option maxRecDepth 100000 in
set_option maxHeartbeats 2000000 in
/-- ask: the log that stands there. -/
theorem oask_any (w0 : World) (S q : Nat) (f : ByteArray → List (BitVec 8)) (hq : q < 1000000) (n : Nat) (hn : n < 261) (F : List (List (BitVec 8))) (hF : F.length = pc n) (h32 : ∀ d ∈ F, d.length = 32) (hf : f oK = bxB n F) (w : World) (h : LgS w0 w S q f) :
    Calls Tryz.prog 23 #[.pointer (some ⟨S, 0, none⟩)] w fun e w' => ∃ P v, e = .returned (.tuple #[.agg #[.pointer (some ⟨P, 0, none⟩)], .int .i64 0]) ∧ Lg w' P n v F ∧ w.heap.size ≤ P ∧ Fresh w.heap.size v ∧ LgS w0 w' S (q + 1) f ∧ Kp w w' := by
  obtain ⟨L, hL⟩ : ∃ L, L = (bxB n F).length := ⟨_, rfl⟩
  have HG : Hid (∀ W, Below w.heap.size w W → Calls Tryz.prog 44 #[.pointer (some ⟨S, 0, none⟩), .string ⟨#[111]⟩] W fun e w' => ∃ A c, e = .returned (.tuple #[.slice A L c, .int .i64 0]) ∧ Bw w' (.slice A L c) (bxB n F) ∧ LgS w0 w' S (q + 1) f ∧ Kp W w') := fun W hW => by
    refine (get_lg w0 S q f hq oK oK_key L (bxB n F) hf hL.symm W (h.be hW)).mono ?_
    rintro e w' ⟨A, c, h1, h2, _, h4, h5⟩
    exact ⟨A, c, h1, h2, h4, h5⟩
  have HRB : Hid (∀ W A c, Bw W (.slice A L c) (bxB n F) → Calls Tryz.prog 45 #[.slice A L c] W fun e w' => ∃ P v, e = .returned (.tuple #[.agg #[.pointer (some ⟨P, 0, none⟩)], .int .i64 0]) ∧ Lg w' P n v F ∧ W.heap.size ≤ P ∧ Fresh W.heap.size v ∧ Below W.heap.size W w') := fun W A c hb => readBox_any n hn F hF h32 A L c hL W hb
  have HW0 : Hid (w0.heap.size ≤ w.heap.size) := h.bel.size
  clear hL hq hn hF h32 hf h
  go_enter Tryz.func23, Tryz.ntmps23
  go_wp2_with (first
    | (refine wpList_allocBx rfl rfl ?_; intro X1 q1 q2 q3; have R1 : Hid (Row X1 w.heap.size [.pointer none] tBx) := q1; have B1 : Hid (Below w.heap.size w X1) := q2; clear q1 q2 q3; simp only [Act.put, List.setIfInBounds_toArray, List.set_cons_zero, List.set_cons_succ])
    | (go_at_call 44; refine Calls.mono (HG.out X1 B1.out) ?_; rintro e X2 ⟨A2, c2, rfl, p1, p2, p3⟩; have W2 : Hid (Bw X2 (.slice A2 L c2) (bxB n F)) := p1; have S2 : Hid (LgS w0 X2 S (q + 1) f) := p2; have K2 : Hid (Kp X1 X2) := p3; have R2 : Hid (Row X2 w.heap.size [.pointer none] tBx) := p3.row _ _ _ (by decide) R1.out; clear p1 p2 p3)
    | (go_at_call 45; refine Calls.mono (HRB.out X2 A2 c2 W2.out) ?_; rintro e X3 ⟨P, v, rfl, p1, p2, p3, p4⟩; have L3 : Hid (Lg X3 P n v F) := p1; have F3 : Hid (X2.heap.size ≤ P ∧ Fresh X2.heap.size v) := ⟨p2, p3⟩; have B3 : Hid (Below X2.heap.size X2 X3) := p4; have S3 : Hid (LgS w0 X3 S (q + 1) f) := S2.out.be p4; have R3 : Hid (Row X3 w.heap.size [.pointer none] tBx) := Row.below R2.out p4 R2.out.lt; clear p1 p2 p3 p4)
    | (refine wpList_storeL rfl tBx (.tmp 2) (.tmp 20) rfl w.heap.size [.pointer (some ⟨P, 0, none⟩)] [.pointer none] tBx rfl rfl R3.out rfl info_bx (one_ptr _) ?_; intro X4 q1 q2; have R4 : Hid (Row X4 w.heap.size [.pointer (some ⟨P, 0, none⟩)] tBx) := q2; have G4 : Hid (X4 = _) := q1; clear q1 q2; simp only [Act.put]))
  have hx12 : w.heap.size ≤ X2.heap.size := Nat.le_trans B1.out.size K2.out.size
  have hne : P ≠ w.heap.size := by have := F3.out.1; have := R2.out.lt; omega
  have hne2 : ∀ k, v.ownBlock = some k → k ≠ w.heap.size := fun k e => by have := F3.out.2 k e; have := R2.out.lt; omega
  have hL4 : Lg X4 P n v F := by
    rw [G4.out]
    exact ⟨Row.setCells_other L3.out.row _ _ _ hne, L3.out.own.sets_far (fun k e => hne2 k e), L3.out.dl⟩
  have hS4 : LgS w0 X4 S (q + 1) f := by rw [G4.out]; exact S3.out.sets R3.out HW0.out (by decide) (by decide) (by decide) (by decide)
  have hK4 : Kp w X4 := by rw [G4.out]; exact (((Kp.of_below B1.out).trans K2.out).trans (Kp.of_below B3.out)).sets (Nat.le_refl _)
  exact bodyPost_ret (results_rowS_tmp Tryz.results23 _ _ w.heap.size tBx [.pointer (some ⟨P, 0, none⟩)] (.int .i64 0) rfl rfl R4.out Tryz.underlying83 info_bx) rfl ⟨P, v, rfl, hL4, Nat.le_trans hx12 F3.out.1, F3.out.2.more hx12, hS4, hK4⟩

end Go.Proofs.YtbfahgdienppoaaGreatDoor

namespace Go.Proofs.YtbfahgdienppoaaGreatDoor
open Go Go.RowKit Go.Maps
open Sha

theorem flat_take (F : List (List (BitVec 8))) (j : Nat) (h : j < F.length) : (F.take (j + 1)).flatten = (F.take j).flatten ++ F.getD j [] := by
  rw [List.take_add_one, List.getElem?_eq_getElem h, List.flatten_append, List.getD_eq_getElem?_getD, List.getElem?_eq_getElem h]
  simp
theorem flat_take_len (F : List (List (BitVec 8))) (h : ∀ d ∈ F, d.length = 32) (j : Nat) (hj : j ≤ F.length) : (F.take j).flatten.length = j * 32 := by
  rw [flat_len _ (fun d hd => h d (List.mem_of_mem_take hd)), List.length_take]
  congr 1
  omega
set_option maxRecDepth 100000 in
set_option maxHeartbeats 2000000 in
/-- lay: what stands there is the log's. -/
theorem olay_any (w0 : World) (S q : Nat) (f : ByteArray → List (BitVec 8)) (hq : q < 1000000) (n P : Nat) (v : Value) (F : List (List (BitVec 8))) (hF : F.length ≤ 100) (w : World) (h : LgS w0 w S q f) (hL : Lg w P n v F) :
    Calls Tryz.prog 26 #[.agg #[.pointer (some ⟨P, 0, none⟩)], .pointer (some ⟨S, 0, none⟩)] w fun e w' => e = .returned (.int .i64 0) ∧ LgS w0 w' S (q + 1) (upd f oK (be8 n ++ F.flatten)) ∧ Kp w w' := by
  have HLG : Hid (∀ W, Below w.heap.size w W → Lg W P n v F) := fun W hW => hL.be hW
  have HSZ : Hid (∀ W, Below w.heap.size w W → Calls Tryz.prog 24 #[.pointer (some ⟨P, 0, none⟩)] W fun e w' => e = .returned (.int .i64 (n : Int)) ∧ w' = W) := fun W hW => lsize_any P n v W (hL.be hW).row
  have HFR : Hid (∀ W, Below w.heap.size w W → Calls Tryz.prog 50 #[.pointer (some ⟨P, 0, none⟩)] W fun e w' => ∃ A c, e = .returned (.slice A F.length c) ∧ Ow w' (.slice A F.length c) F.length (vB F.flatten) ∧ Below W.heap.size W w') := fun W hW => by
    refine (lfront_any P n v F hF W (hL.be hW)).mono ?_
    rintro e w' ⟨v', rfl, h1, h2, h3⟩
    obtain ⟨A, c, e2, _⟩ := Ow.form h1
    subst e2
    exact ⟨A, c, rfl, h1, h3⟩
  obtain ⟨m, hm⟩ : ∃ m, m = F.length := ⟨_, rfl⟩
  have HM : Hid (m = F.length) := hm
  have hmb : m ≤ 100 := by omega
  have HST : Hid (LgS w0 w S q f) := h
  have HQ : Hid (q < 1000000) := hq
  have H32 : Hid (∀ d ∈ F, d.length = 32) := hL.dl
  rw [← hm] at HFR
  clear hq hF h hL hm
  go_enter Tryz.func26, Tryz.ntmps26
  go_wp2_with (first
    | (refine wpList_boxG tBx rfl (.tmp 0) rfl [.pointer (some ⟨P, 0, none⟩)] rfl ?_; intro X1 q1 q2 q3; have R1 : Hid (Row X1 w.heap.size [.pointer (some ⟨P, 0, none⟩)] tBx) := q1; have B1 : Hid (Below w.heap.size w X1) := q2; have c1 := q1.cell 0 _ rfl; clear q1 q2 q3; simp only [Act.put, List.setIfInBounds_toArray, List.set_cons_zero, List.set_cons_succ])
    | (go_at_call 24; refine Calls.mono (HSZ.out X1 B1.out) ?_; rintro e X ⟨rfl, hqq⟩; obtain rfl := hqq.symm)
    | (go_at_call 49; refine Calls.mono (oeight_any n X1) ?_; rintro e X2 ⟨A2, k2, rfl, p1, p2, p3⟩; have W2 : Hid (Bw X2 (.slice A2 8 k2) (be8 n)) := p1; have F2 : Hid (Fresh w.heap.size (.slice A2 8 k2)) := p2.more B1.out.size; have B2 : Hid (Below w.heap.size w X2) := B1.out.trans (p3.mono B1.out.size); have c2 := cell_be c1 p3; clear p1 p2 p3 c1)
    | (go_at_call 50; refine Calls.mono (HFR.out X2 B2.out) ?_; rintro e X3 ⟨A3, k3, rfl, p1, p3⟩; have O3 : Hid (Ow X3 (.slice A3 m k3) m (vB F.flatten)) := (by rw [HM.out] at p1 ⊢; exact p1); have W3 : Hid (Bw X3 (.slice A2 8 k2) (be8 n)) := Bw.be W2.out p3; have B3 : Hid (Below w.heap.size w X3) := B2.out.trans (p3.mono B2.out.size); clear p1 p3 c2))
  clear HSZ HFR HLG
  go_loopw [5, 16] (fun v5 v16 wr => ∃ (j : Nat) (A : Option Addr) (T c : Nat), j ≤ m ∧ v16 = .int .i64 (j : Int) ∧ v5 = .slice A T c ∧ Hid (T = 8 + j * 32) ∧ Hid (Bw wr (.slice A T c) (be8 n ++ (F.take j).flatten)) ∧ Hid (Fresh w.heap.size (.slice A T c)) ∧ Hid (Below w.heap.size w wr) ∧ Hid (Ow wr (.slice A3 m k3) m (vB F.flatten))) (fun _ v16 _ => m - (intOf v16).toNat)
  case atStart => exact ⟨0, A2, 8, k2, Nat.zero_le _, rfl, rfl, rfl, by show Bw _ _ _; rw [List.take_zero, List.flatten_nil, List.append_nil]; exact W3.out, F2, B3, O3⟩
  case round =>
    obtain ⟨j, A, T, k, hj, rfl, rfl, HT, HW, HF, HB, HO⟩ := hrel
    clear W2 F2 B2 W3 B3 O3 B1 R1
    by_cases hjm : j < m
    · obtain ⟨g, c', e, _⟩ := Lw.open HO.out (by omega)
      simp only [Value.slice.injEq] at e
      obtain ⟨rfl, _, rfl⟩ := e
      have hjF : j < F.length := by have := HM.out; omega
      obtain ⟨d, hd⟩ : ∃ d, d = F.getD j [] := ⟨_, rfl⟩
      have HD : Hid (d = F.getD j []) := hd
      have HD32 : Hid (d.length = 32) := by
        show _ = _
        rw [hd, List.getD_eq_getElem?_getD, List.getElem?_eq_getElem hjF]
        exact H32.out _ (List.getElem_mem hjF)
      have HRG : Hid (wr.rangeAt g (0 + j * 32) (vB d)) := by
        rw [Nat.zero_add, hd]
        exact Ow.at HO.out HM.out.symm H32.out j hjm
      have HID : Hid ((Tryz.prog.info? 53).map (·.size) = some (vB d).length) := dl_info HD32.out
      have HLD : Hid ((vB d).length = (vB (List.replicate 32 0#8)).length) := by show _ = _; rw [vB_length, vB_length, HD32.out]; rfl
      have HLT : Hid ((be8 n ++ (F.take j).flatten).length = T) := by show _ = _; rw [List.length_append, be8_len, flat_take_len F H32.out j (by omega), HT.out]
      have HLK : Hid ((be8 n ++ (F.take j).flatten).length + 32 ≤ 140737488355328) := by show _ ≤ _; rw [HLT.out, HT.out]; omega
      clear hd hjF
      go_upto_region 6 with (first
        | (refine wpList_index_s rfl 63 53 (.tmp 14) (.tmp 16) rfl g 0 m k3 j 32 rfl rfl hjm Tryz.underlying63 info_dig ?_; simp only [Act.put, List.setIfInBounds_toArray, List.set_cons_zero, List.set_cons_succ])
        | (refine wpList_load_w rfl 53 (.tmp 18) rfl g (0 + j * 32) rfl (vB d) _ HRG.out Tryz.underlying53 rfl HID.out ?_; simp only [Act.put, List.setIfInBounds_toArray, List.set_cons_zero, List.set_cons_succ])
        | (refine wpList_allocDg rfl rfl ?_; intro Y1 q1 q2; have RZ : Hid (Row Y1 wr.heap.size (vB (List.replicate 32 0#8)) 53) := q1; have BZ : Hid (Below wr.heap.size wr Y1) := q2; clear q1 q2; simp only [Act.put, List.setIfInBounds_toArray, List.set_cons_zero, List.set_cons_succ])
        | (refine wpList_storeL rfl 53 (.tmp 7) (.tmp 19) rfl wr.heap.size (vB d) (vB (List.replicate 32 0#8)) 53 rfl rfl RZ.out HLD.out HID.out (vB_all11 d) ?_; intro Y2 q1 q2; have p : Below wr.heap.size wr Y2 := (by rw [q1]; exact below_setCells BZ.out (Nat.le_refl _) _); have BY : Hid (Below wr.heap.size wr Y2) := p; have SY : Hid (SlAt Y2 (.slice (some ⟨wr.heap.size, 0, none⟩) 32 32) d) := .inr ⟨wr.heap.size, 0, 32, by rw [HD32.out], by rw [HD32.out]; exact Nat.le_refl _, q2.all⟩; clear p q1 q2; simp only [Act.put])
        | (refine wpList_slice_all rfl 53 5 32 (.tmp 7) wr.heap.size 0 rfl rfl Tryz.underlying53 info_u8 ?_; simp only [Act.put, List.setIfInBounds_toArray, List.set_cons_zero, List.set_cons_succ])
        | (refine wpList_app rfl (.tmp 20) (.tmp 21) rfl (.slice A T k) (be8 n ++ (F.take j).flatten) d rfl (Bw.be HW.out BY.out) (some ⟨wr.heap.size, 0, none⟩) 32 32 HD32.out rfl SY.out (fun h => by cases h) HLK.out ?_; intro v3 X4 q1 q2 q3; obtain ⟨A4, c4, e4, _, _⟩ := Bw.form q1; rw [List.length_append, HLT.out, HD32.out] at e4; subst e4; have W4 : Hid (Bw X4 (.slice A4 (T + 32) c4) ((be8 n ++ (F.take j).flatten) ++ d)) := q1; have G4 : Hid (Y2.grownBy X4 (Value.slice A T k).ownBlock) := q2; have O4 : Hid ((Value.slice A4 (T + 32) c4).ownBlock = (Value.slice A T k).ownBlock ∨ (Value.slice A4 (T + 32) c4).ownBlock = some Y2.heap.size) := q3; clear q1 q2 q3; simp only [Act.put, List.setIfInBounds_toArray, List.set_cons_zero, List.set_cons_succ]))
      go_wp2_with fail
      go_roundw
      case rel =>
        have hB2 := HB.out.trans (BY.out.mono HB.out.size)
        refine ⟨j + 1, A4, T + 32, c4, hjm, rfl, rfl, ?_, ?_, ?_, ?_, ?_⟩
        · show _ = _; rw [HT.out]; omega
        · show Bw _ _ _
          rw [flat_take F j (by have := HM.out; omega), ← HD.out, ← List.append_assoc]
          exact W4.out
        · intro g' e
          rcases O4.out with h | h
          · rw [h] at e; exact HF.out g' e
          · rw [h] at e; cases e; exact hB2.size
        · exact below_gb hB2 G4.out HF.out
        · exact Lw.gb (Lw.be HO.out BY.out) G4.out (fun g' e1 e2 => bl_ne (Bw.be HW.out BY.out) (Lw.be HO.out BY.out) (by decide) g' e2.symm e1.symm)
      case measure => simp [intOf]; omega
    · obtain rfl : j = m := by omega
      have HTK : Hid (F.take j = F) := by rw [HM.out]; exact List.take_length
      have HLN : Hid ((be8 n ++ F.flatten).length = T) := by show _ = _; rw [List.length_append, be8_len, flat_len F H32.out, HT.out, HM.out]
      rw [HTK.out] at HW
      have HPT : Hid _ := put_lg w0 S q f HQ.out oK oK_key A T k (be8 n ++ F.flatten) HLN.out (by have := HT.out; omega) (fun e => by obtain ⟨A9, k9, e9, h9, h8⟩ := Bw.form HW.out; rw [HLN.out] at e9 h9; simp only [Value.slice.injEq] at e9; have := h8 (e9.1 ▸ e); have := HT.out; omega) wr (HST.out.be HB.out) (fun W kp => Bw.sl (kp.bw HW.out))
      go_wp2_with (go_at_call 51; refine Calls.mono HPT.out ?_; rintro e X9 ⟨rfl, p1, p2⟩; have S9 : Hid (LgS w0 X9 S (q + 1) (upd f oK (be8 n ++ F.flatten))) := p1; have K9 : Hid (Kp wr X9) := p2; clear p1 p2)
      go_ret
      exact ⟨rfl, S9.out, (Kp.of_below HB.out).trans K9.out⟩

end Go.Proofs.YtbfahgdienppoaaGreatDoor

namespace Go.Proofs.YtbfahgdienppoaaGreatDoor
open Go Go.RowKit Go.Maps
open Sha

set_option maxRecDepth 100000 in
set_option maxHeartbeats 2000000 in
theorem lroot_nil (P : Nat) (m : Int) (A : Option Addr) (c : Nat) (dr : List (BitVec 8)) (hdr : dr = dig []) (w : World) (hK : Tab w 2) (h : Row w P [.int .i64 m, .slice A 0 c] tL) :
    Calls Tryz.prog 39 #[.pointer (some ⟨P, 0, none⟩)] w fun e w' => e = .returned (.agg (vB dr).toArray) ∧ Below w.heap.size w w' := by
  have h32 : dr.length = 32 := by rw [hdr]; exact dig_length _
  have HRT : Hid (∀ X, Below w.heap.size w X → Calls Tryz.prog 41 #[.slice none 0 0] X fun e w' => e = .returned (.agg (vB dr).toArray) ∧ Below X.heap.size X w') := fun X hX => root_nil none 0 dr hdr X (hK.below hX hK.lt)
  have HRW : Hid (∀ X, Below w.heap.size w X → X.cell? ⟨P, 1, none⟩ = some (.slice A 0 c)) := fun X hX => (Row.below h hX h.lt).cell 1 _ rfl
  have HI : Hid ((Tryz.prog.info? 53).map (·.size) = some (vB dr).length) := info_dg11 dr h32
  have HLL : Hid ((vB dr).length = (vB (List.replicate 32 0#8)).length) := by show _ = _; rw [vB_length, vB_length, h32]; rfl
  have H32 : Hid (dr.length = 32) := h32
  clear hdr hK h h32
  go_enter Tryz.func39, Tryz.ntmps39
  go_wp2_with (first
    | (refine wpList_allocDg rfl rfl ?_; intro X0 q1 q2; have R0 : Hid (Row X0 w.heap.size (vB (List.replicate 32 0#8)) 53) := q1; have B0 : Hid (Below w.heap.size w X0) := q2; have c0 := HRW.out X0 q2; clear q1 q2; simp only [Act.put, List.setIfInBounds_toArray, List.set_cons_zero, List.set_cons_succ])
    | (go_at_call 41; refine Calls.mono (HRT.out X0 B0.out) ?_; rintro e X1 ⟨rfl, q⟩; have R1 : Hid (Row X1 w.heap.size (vB (List.replicate 32 0#8)) 53) := Row.below R0.out q R0.out.lt; have B1 : Hid (Below w.heap.size w X1) := B0.out.trans (q.mono B0.out.size); clear q)
    | (refine wpList_storeL rfl 53 (.tmp 2) (.tmp 17) rfl w.heap.size (vB dr) (vB (List.replicate 32 0#8)) 53 rfl rfl R1.out HLL.out HI.out (vB_all11 dr) ?_; intro X9 q1 q2; have E9 : Hid (X9 = _) := q1; have R9 : Hid (Row X9 w.heap.size (vB dr) 53) := q2; clear q1 q2; simp only [Act.put]))
  have hE : Below w.heap.size w X9 := by rw [E9.out]; exact below_setCells B1.out (Nat.le_refl _) _
  exact bodyPost_ret (results_row Tryz.results39 _ _ w.heap.size 53 (vB dr) rfl R9.out Tryz.underlying53 info_dig (by rw [vB_length, H32.out])) rfl ⟨rfl, hE⟩
/-- The log's root. -/
theorem lroot_any (P n : Nat) (v : Value) (ts : List (List (BitVec 8))) (hts : ts.length = n) (hn : n < 261) (dr : List (BitVec 8)) (hdr : dr = rt ts) (w : World) (hK : Tab w 2) (h : Lg w P n v (fr 0 n ts)) :
    Calls Tryz.prog 39 #[.pointer (some ⟨P, 0, none⟩)] w fun e w' => e = .returned (.agg (vB dr).toArray) ∧ Below w.heap.size w w' := by
  by_cases h0 : n = 0
  · subst h0
    rw [fr_zero] at h
    obtain ⟨A, c, e, _⟩ := Ow.form h.own
    subst e
    exact lroot_nil P _ A c dr (by rw [hdr]; exact rt_nil _ hts) w hK h.row
  · obtain ⟨G, z, e, hf⟩ := fr_root n 0 ts (by omega) (by rw [hts]; omega) (by omega)
    rw [e] at h
    have hl : (G ++ [z]).length = pc n := by rw [← e, fr_len]
    have := (pos_pc n h0 hn).2
    exact lroot_some P n v G z G.length rfl (by simp at hl; omega) dr (by rw [hdr, hf]) w hK h

section
variable {w0 w : World} {S q : Nat} {f : ByteArray → List (BitVec 8)} {n : Nat} {ts : List (List (BitVec 8))}
/-- A state whose outbox has these leaves' bytes. -/
structure Ob (w0 w : World) (S q : Nat) (f : ByteArray → List (BitVec 8)) (n : Nat) (ts : List (List (BitVec 8))) : Prop where
  st : LgS w0 w S q f
  at_ : f oK = bxB n (fr 0 n ts)
  len : ts.length = n
  few : n < 261
theorem Ob.be {w' : World} (h : Ob w0 w S q f n ts) (k : Below w.heap.size w w') : Ob w0 w' S q f n ts := ⟨h.st.be k, h.at_, h.len, h.few⟩
theorem oask_ob (hq : q < 1000000) (h : Ob w0 w S q f n ts) :
    Calls Tryz.prog 23 #[.pointer (some ⟨S, 0, none⟩)] w fun e w' => ∃ P v, e = .returned (.tuple #[.agg #[.pointer (some ⟨P, 0, none⟩)], .int .i64 0]) ∧ Lg w' P n v (fr 0 n ts) ∧ w.heap.size ≤ P ∧ Fresh w.heap.size v ∧ Ob w0 w' S (q + 1) f n ts ∧ Kp w w' := by
  refine (oask_any w0 S q f hq n h.few (fr 0 n ts) (fr_len n 0 ts) (fr_dl n 0 ts) h.at_ w h.st).mono ?_
  rintro e w' ⟨P, v, h1, h2, h3, h4, h5, h6⟩
  exact ⟨P, v, h1, h2, h3, h4, ⟨h5, h.at_, h.len, h.few⟩, h6⟩
end
set_option maxRecDepth 100000 in
set_option maxHeartbeats 2000000 in
theorem osize_any (w0 : World) (S q : Nat) (f : ByteArray → List (BitVec 8)) (hq : q < 1000000) (n : Nat) (ts : List (List (BitVec 8))) (w : World) (h : Ob w0 w S q f n ts) :
    Calls Tryz.prog 14 #[.pointer (some ⟨S, 0, none⟩)] w fun e w' => e = .returned (.tuple #[.int .i64 (n : Int), .int .i64 0]) ∧ Ob w0 w' S (q + 1) f n ts ∧ Kp w w' := by
  have HA : Hid _ := oask_ob hq h
  have H0 : Hid (w0.heap.size ≤ w.heap.size) := h.st.bel.size
  have HSZ : Hid (∀ P v W, Lg W P n v (fr 0 n ts) → Calls Tryz.prog 24 #[.pointer (some ⟨P, 0, none⟩)] W fun e w' => e = .returned (.int .i64 (n : Int)) ∧ w' = W) := fun P v W hL => lsize_any P n v W hL.row
  clear hq h
  go_enter Tryz.func14, Tryz.ntmps14
  go_wp2_with (first
    | (go_at_call 23; refine Calls.mono HA.out ?_; rintro e X1 ⟨P, v, rfl, p1, p2, p3, p4, p5⟩; have L1 : Hid (Lg X1 P n v (fr 0 n ts)) := p1; have F1 : Hid (w.heap.size ≤ P ∧ Fresh w.heap.size v) := ⟨p2, p3⟩; have S1 : Hid (Ob w0 X1 S (q + 1) f n ts) := p4; have K1 : Hid (Kp w X1) := p5; clear p1 p2 p3 p4 p5)
    | (refine wpList_allocBx rfl rfl ?_; intro X2 q1 q2 q3; have R2 : Hid (Row X2 X1.heap.size [.pointer none] tBx) := q1; have B2 : Hid (Below X1.heap.size X1 X2) := q2; clear q1 q2 q3; simp only [Act.put, List.setIfInBounds_toArray, List.set_cons_zero, List.set_cons_succ])
    | (refine wpList_storeL rfl tBx (.tmp 4) (.tmp 9) rfl X1.heap.size [.pointer (some ⟨P, 0, none⟩)] [.pointer none] tBx rfl rfl R2.out rfl info_bx (one_ptr _) ?_; intro X3 q1 q2; have B3 : Hid (Below X1.heap.size X1 X3) := (by rw [q1]; exact below_setCells B2.out (Nat.le_refl _) _); have c3 := q2.cell 0 _ rfl; have L3 : Hid (Lg X3 P n v (fr 0 n ts)) := L1.out.be B3.out; clear q1 q2; simp only [Act.put])
    | (go_at_call 24; refine Calls.mono (HSZ.out P v X3 L3.out) ?_; rintro e X ⟨rfl, hq⟩; obtain rfl := hq.symm))
  go_ret2
  exact ⟨rfl, S1.out.be B3.out, K1.out.trans (Kp.of_below B3.out)⟩
set_option maxRecDepth 100000 in
set_option maxHeartbeats 2000000 in
theorem oroot_any (w0 : World) (S q : Nat) (f : ByteArray → List (BitVec 8)) (hq : q < 1000000) (n : Nat) (ts : List (List (BitVec 8))) (dr : List (BitVec 8)) (hdr : dr = rt ts) (w : World) (hT : Tab w0 2) (h : Ob w0 w S q f n ts) :
    Calls Tryz.prog 15 #[.pointer (some ⟨S, 0, none⟩)] w fun e w' => e = .returned (.tuple #[.agg (vB dr).toArray, .int .i64 0]) ∧ Ob w0 w' S (q + 1) f n ts ∧ Kp w w' := by
  have h32 : dr.length = 32 := by rw [hdr]; exact rt_length _
  have HA : Hid (∀ W, Below w.heap.size w W → Calls Tryz.prog 23 #[.pointer (some ⟨S, 0, none⟩)] W fun e w' => ∃ P v, e = .returned (.tuple #[.agg #[.pointer (some ⟨P, 0, none⟩)], .int .i64 0]) ∧ Lg w' P n v (fr 0 n ts) ∧ W.heap.size ≤ P ∧ Fresh W.heap.size v ∧ Ob w0 w' S (q + 1) f n ts ∧ Kp W w') := fun W hW => oask_ob hq (h.be hW)
  have H0 : Hid (w0.heap.size ≤ w.heap.size) := h.st.bel.size
  have HRT : Hid (∀ P v W, Lg W P n v (fr 0 n ts) → Ob w0 W S (q + 1) f n ts → Calls Tryz.prog 39 #[.pointer (some ⟨P, 0, none⟩)] W fun e w' => e = .returned (.agg (vB dr).toArray) ∧ Below W.heap.size W w') := fun P v W hL hO => lroot_any P n v ts h.len h.few dr hdr W (hT.below hO.st.bel hT.lt) hL
  have HI : Hid ((Tryz.prog.info? 53).map (·.size) = some (vB dr).length) := info_dg11 dr h32
  have HLL : Hid ((vB dr).length = (vB (List.replicate 32 0#8)).length) := by show _ = _; rw [vB_length, vB_length, h32]; rfl
  clear hq h hT hdr h32
  go_enter Tryz.func15, Tryz.ntmps15
  go_wp2_with (first
    | (refine wpList_allocDg rfl rfl ?_; intro X0 q1 q2; have R0 : Hid (Row X0 w.heap.size (vB (List.replicate 32 0#8)) 53) := q1; have B0 : Hid (Below w.heap.size w X0) := q2; clear q1 q2; simp only [Act.put, List.setIfInBounds_toArray, List.set_cons_zero, List.set_cons_succ])
    | (go_at_call 23; refine Calls.mono (HA.out X0 B0.out) ?_; rintro e X1 ⟨P, v, rfl, p1, p2, p3, p4, p5⟩; have L1 : Hid (Lg X1 P n v (fr 0 n ts)) := p1; have S1 : Hid (Ob w0 X1 S (q + 1) f n ts) := p4; have K1 : Hid (Kp X0 X1) := p5; have R1 : Hid (Row X1 w.heap.size (vB (List.replicate 32 0#8)) 53) := p5.row _ _ _ (by decide) R0.out; clear p1 p2 p3 p4 p5)
    | (refine wpList_allocBx rfl rfl ?_; intro X2 q1 q2 q3; have R2 : Hid (Row X2 X1.heap.size [.pointer none] tBx) := q1; have B2 : Hid (Below X1.heap.size X1 X2) := q2; clear q1 q2 q3; simp only [Act.put, List.setIfInBounds_toArray, List.set_cons_zero, List.set_cons_succ])
    | (refine wpList_storeL rfl tBx (.tmp 4) (.tmp 9) rfl X1.heap.size [.pointer (some ⟨P, 0, none⟩)] [.pointer none] tBx rfl rfl R2.out rfl info_bx (one_ptr _) ?_; intro X3 q1 q2; have B3 : Hid (Below X1.heap.size X1 X3) := (by rw [q1]; exact below_setCells B2.out (Nat.le_refl _) _); have c3 := q2.cell 0 _ rfl; have L3 : Hid (Lg X3 P n v (fr 0 n ts)) := L1.out.be B3.out; have S3 : Hid (Ob w0 X3 S (q + 1) f n ts) := S1.out.be B3.out; have R3 : Hid (Row X3 w.heap.size (vB (List.replicate 32 0#8)) 53) := Row.below R1.out B3.out R1.out.lt; clear q1 q2; simp only [Act.put])
    | (go_at_call 39; refine Calls.mono (HRT.out P v X3 L3.out S3.out) ?_; rintro e X4 ⟨rfl, p⟩; have B4 : Hid (Below X1.heap.size X1 X4) := B3.out.trans (p.mono B3.out.size); have R4 : Hid (Row X4 w.heap.size (vB (List.replicate 32 0#8)) 53) := Row.below R3.out p R3.out.lt; clear p)
    | (refine wpList_storeL rfl 53 (.tmp 2) (.tmp 17) rfl w.heap.size (vB dr) (vB (List.replicate 32 0#8)) 53 rfl rfl R4.out HLL.out HI.out (vB_all11 dr) ?_; intro X9 q1 q2; have E9 : Hid (X9 = _) := q1; have R9 : Hid (Row X9 w.heap.size (vB dr) 53) := q2; clear q1 q2; simp only [Act.put]))
  have hO4 := S1.out.be B4.out
  have hO9 : Ob w0 X9 S (q + 1) f n ts := ⟨by rw [E9.out]; exact hO4.st.sets R4.out H0.out (by decide) (by decide) (by decide) (by decide), hO4.at_, hO4.len, hO4.few⟩
  have hK9 : Kp w X9 := by rw [E9.out]; exact (((Kp.of_below B0.out).trans K1.out).trans (Kp.of_below B4.out)).sets (Nat.le_refl _)
  exact bodyPost_ret (results_rowA_tmp11 Tryz.results15 _ _ w.heap.size 53 (vB dr) (.int .i64 0) rfl rfl R9.out Tryz.underlying53 HI.out) rfl ⟨rfl, hO9, hK9⟩

end Go.Proofs.YtbfahgdienppoaaGreatDoor

namespace Go.Proofs.YtbfahgdienppoaaGreatDoor
open Go Go.RowKit Go.Maps
open Sha

section
variable {ops : Array Oper} {rest : List Oper} {op : Oper} {a : Act} {w : World} {Q : Exit → Act → World → Prop}
theorem wpList_setI (hw : op.guard = none) (x y : Operand) (ho : op.op = .store 3 x y) (b i : Nat) (z : Int) (cs : List Value) (t : TypeId) (hx : a.eval x = .pointer (some ⟨b, i, none⟩)) (hy : a.eval y = .int .i64 z) (r : Row w b cs t) (hl : i < cs.length)
    (h : ∀ X, X = w.setCell ⟨b, i, none⟩ (.int .i64 z) → Row X b (cs.set i (.int .i64 z)) t → wpList Tryz.prog ops Q rest (a.put op.dst undef) X) : wpList Tryz.prog ops Q (op :: rest) a w :=
  wpList_store1 hw 3 x y ho b i (.int .i64 z) hx hy rfl (r.there i 1 (by omega)) (by kernel_rfl) rfl (h _ rfl (r.set i _))
end
theorem lf_set0 (ix ix' en tk : Int) (rc : List (BitVec 8)) (am : List Nat) : (lf ix en tk rc am).set 0 (.int .i64 ix') = lf ix' en tk rc am := rfl
theorem gro_ofT {R : Nat → Prop} {w w' : World} (h : GroT R w w') : Gro R w w' := ⟨h.os, h.tape, h.output, h.size, h.block⟩
theorem gro_toT {R : Nat → Prop} {w w' : World} (h : Gro R w w') : GroT R w w' := ⟨h.os, h.tape, h.output, h.size, h.block⟩
theorem Kp.gro {R : Nat → Prop} {w W W' : World} (h : Kp w W) (k : Gro R W W') (hR : ∀ g, R g → w.heap.size ≤ g) : Kp w W' :=
  ⟨fun g cs t ht r => k.row (h.row g cs t ht r) (fun q => by have := hR g q; have := r.lt; omega), Nat.le_trans h.size k.size⟩
theorem ow_row {w : World} {v : Value} {n : Nat} {xs : List Value} (h : Ow w v n xs) {g : Nat} (e : v.ownBlock = some g) : ∃ cs, Row w g cs 53 := by
  rcases h.2 with ⟨h1, _⟩ | ⟨g', cap, cur, hv, _, hh, _⟩
  · rw [h1] at e; simp [Value.ownBlock] at e
  · rw [hv] at e
    simp only [Value.ownBlock, Option.some.injEq] at e
    subst e
    exact ⟨cur.toList, by unfold Row; rw [hh]⟩
theorem lg_nost {w : World} {P n : Nat} {v : Value} {F : List (List (BitVec 8))} (h : Lg w P n v F) : NoSt w (fun k => k = P ∨ v.ownBlock = some k) := fun g e => by
  rcases e with e | e
  · subst e; exact ⟨_, _, h.row, by decide, by decide, by decide, by decide⟩
  · obtain ⟨cs, r⟩ := ow_row h.own e
    exact ⟨cs, _, r, by decide, by decide, by decide, by decide⟩
theorem fr_more (n : Nat) (ts : List (List (BitVec 8))) (x : List (BitVec 8)) (h : ts.length = n) (hn : n < 261) : addF (t1 n) (fr 0 n ts) (dig ([0#8] ++ x)) = fr 0 (n + 1) (ts ++ [x]) := by
  have q := fr_add n 0 ts [x] (by rw [h]; omega) rfl (by rw [List.length_append, h]; simp; omega)
  rw [← q]
  rw [rt_one [x] rfl]
  rfl
set_option maxRecDepth 100000 in
set_option maxHeartbeats 4000000 in
theorem oadd_any (w0 : World) (S q : Nat) (f : ByteArray → List (BitVec 8)) (hq : q < 999990) (n : Nat) (hn : n < 260) (ts : List (List (BitVec 8))) (en tk : Int) (rc : List (BitVec 8)) (am : List Nat) (hrc : rc.length = 20) (ham : am.length = 4) (hq4 : ∀ x ∈ am, x < 18446744073709551616) (hm0 : may 0 en tk am = true) (hm : may (n : Int) en tk am = true) (L : List Value) (hL : L = lf 0 en tk rc am) (w : World) (hT : Tab w0 2) (h64 : TabAt 1 Lib.deBruijn64tab w0) (hd64 : 1 < w0.heap.size) (h : Ob w0 w S q f n ts) :
    Calls Tryz.prog 10 #[.pointer (some ⟨S, 0, none⟩), .agg L.toArray] w fun e w' => e = .returned (.tuple #[.int .i64 (n : Int), .int .i64 0]) ∧ (∃ f', Ob w0 w' S (q + 2) f' (n + 1) (ts ++ [lfb (n : Int) en tk rc am])) ∧ Kp w w' := by
  obtain ⟨tx, htx⟩ : ∃ tx, tx = lfb (n : Int) en tk rc am := ⟨_, rfl⟩
  obtain ⟨L2, hL2⟩ : ∃ L2, L2 = lf (n : Int) en tk rc am := ⟨_, rfl⟩
  have H0 : Hid (w0.heap.size ≤ w.heap.size) := h.st.bel.size
  have HMB : Hid (∀ X, Calls Tryz.prog 22 #[.agg L.toArray] X fun e w' => e = .returned (.bool true) ∧ Below X.heap.size X w') := fun X => by have := mayBe_any 0 en tk rc am hrc ham L hL X; rwa [hm0] at this
  have HBY : Hid (∀ X, Calls Tryz.prog 12 #[.agg L2.toArray] X fun e w' => ∃ A k cap, e = .returned (.tuple #[.slice A k cap, .int .i64 0]) ∧ Bw w' (.slice A k cap) tx ∧ Below X.heap.size X w') := fun X => by
    refine (bytes_ok (n : Int) en tk rc am hrc ham hq4 hm L2 hL2 X).mono ?_
    rintro e w' ⟨A, k, cap, h1, h2, h3, h4, h5⟩
    rw [htx]
    exact ⟨A, k, cap, h2, h3, h5⟩
  have HA : Hid (∀ W, Below w.heap.size w W → Calls Tryz.prog 23 #[.pointer (some ⟨S, 0, none⟩)] W fun e w' => ∃ P v, e = .returned (.tuple #[.agg #[.pointer (some ⟨P, 0, none⟩)], .int .i64 0]) ∧ Lg w' P n v (fr 0 n ts) ∧ W.heap.size ≤ P ∧ Fresh W.heap.size v ∧ Ob w0 w' S (q + 1) f n ts ∧ Kp W w') := fun W hW => oask_ob (by omega) (h.be hW)
  have HSZ : Hid (∀ P v W, Lg W P n v (fr 0 n ts) → Calls Tryz.prog 24 #[.pointer (some ⟨P, 0, none⟩)] W fun e w' => e = .returned (.int .i64 (n : Int)) ∧ w' = W) := fun P v W hl => lsize_any P n v W hl.row
  have HAD : Hid (∀ P v W A k c, Lg W P n v (fr 0 n ts) → w.heap.size ≤ P → Fresh w.heap.size v → Ob w0 W S (q + 1) f n ts → w.heap.size ≤ W.heap.size → Bw W (.slice A k c) tx → Calls Tryz.prog 25 #[.pointer (some ⟨P, 0, none⟩), .slice A k c] W fun e w' => e = .returned (.int .i64 (n : Int)) ∧ ∃ v', Lg w' P (n + 1) v' (fr 0 (n + 1) (ts ++ [tx])) ∧ Gro (fun k => k = P ∨ v.ownBlock = some k) W w') := fun P v W A k c h1 h2 h3 h4 h5 h6 => by
    have hlen := fr_len n 0 ts
    have hpc : pc n ≤ 9 := by
      by_cases h0 : n = 0
      · subst h0; decide +kernel
      · exact (pos_pc n h0 (by omega)).2
    refine (ladd_any w.heap.size P n v (fr 0 n ts) (by rw [hlen]; omega) (by omega) (by rw [hlen]; exact t1_le n) h2 (freshS h3) (Nat.lt_of_lt_of_le hT.lt H0.out) (Nat.lt_of_lt_of_le hd64 H0.out) (.slice A k c) tx (dig ([0#8] ++ tx)) rfl (by have := lfb_len (n : Int) en tk rc am hrc; rw [htx]; omega) W h5 (hT.below h4.st.bel hT.lt) (fun j hj => (h4.st.bel.cell (p := ⟨_, j, none⟩) hd64).trans (h64 j hj)) (slT (Bw.sl h6)) h1).mono ?_
    rintro e w' ⟨he, v', q1, _, q3⟩
    rw [fr_more n ts tx h.len (by omega)] at q1
    exact ⟨he, v', q1, gro_ofT q3⟩
  have HLY : Hid (∀ P v W, Lg W P (n + 1) v (fr 0 (n + 1) (ts ++ [tx])) → LgS w0 W S (q + 1) f → Calls Tryz.prog 26 #[.agg #[.pointer (some ⟨P, 0, none⟩)], .pointer (some ⟨S, 0, none⟩)] W fun e w' => e = .returned (.int .i64 0) ∧ LgS w0 w' S (q + 1 + 1) (upd f oK (be8 (n + 1) ++ (fr 0 (n + 1) (ts ++ [tx])).flatten)) ∧ Kp W w') := fun P v W h1 h2 => olay_any w0 S (q + 1) f (by omega) (n + 1) P v _ (by rw [fr_len]; have := (pos_pc (n + 1) (by omega) (by omega)).2; omega) W h2 h1
  have HI : Hid ((Tryz.prog.info? 39).map (·.size) = some L.length) := by rw [hL]; exact info_lf hrc ham
  have HI2 : Hid ((Tryz.prog.info? 39).map (·.size) = some L2.length) := by rw [hL2]; exact info_lf hrc ham
  have HS0 : Hid (L.set 0 (.int .i64 (n : Int)) = L2) := by show _ = _; rw [hL, hL2]; rfl
  have HC0 : Hid (L[0]? = some (.int .i64 0)) := by rw [hL]; rfl
  have HC2 : Hid (L2[0]? = some (.int .i64 (n : Int))) := by rw [hL2]; rfl
  have HL1 : Hid (0 < L.length) := by show _ < _; rw [hL, lf_len hrc ham]; decide
  have HTL : Hid (ts.length = n) := h.len
  have hn40 : ¬ ((n : Int) = 1099511627776) := by omega
  have HN : Hid (n < 260) := hn
  rw [← htx]
  clear hq hn hm0 hm hL hL2 htx hrc ham hq4 hT h64 hd64 h
  go_enter Tryz.func10, Tryz.ntmps10
  go_upto_region 1 with (refine wpList_boxG 39 rfl (.tmp 1) rfl L rfl ?_; intro X1 q1 q2 q3; have R1 : Hid (Row X1 w.heap.size L 39) := q1; have B1 : Hid (Below w.heap.size w X1) := q2; clear q1 q2 q3; simp only [Act.put, List.setIfInBounds_toArray, List.set_cons_zero, List.set_cons_succ])
  obtain ⟨x0, hx0⟩ : ∃ x0, x0 = w.heap.size := ⟨_, rfl⟩
  have HX0 : Hid (x0 = w.heap.size) := hx0
  rw [← hx0] at R1 ⊢
  clear hx0
  have c1 := R1.out.cell 0 _ HC0.out
  go_upto_region 5 with (first
    | (refine wpList_load_w rfl 39 (.tmp 3) rfl x0 0 rfl L _ R1.out.all Tryz.underlying39 rfl HI.out ?_; simp only [Act.put, List.setIfInBounds_toArray, List.set_cons_zero, List.set_cons_succ])
    | (go_at_call 22; refine Calls.mono (HMB.out X1) ?_; rintro e X2 ⟨rfl, p⟩; have R2 : Hid (Row X2 x0 L 39) := Row.below R1.out p R1.out.lt; have B2 : Hid (Below w.heap.size w X2) := B1.out.trans (p.mono B1.out.size); clear p))
  clear c1 R1 B1
  go_upto_region 8 with (first
    | (go_at_call 23; refine Calls.mono (HA.out X2 B2.out) ?_; rintro e X3 ⟨P, v, rfl, p1, p2, p3, p4, p5⟩; have L3 : Hid (Lg X3 P n v (fr 0 n ts)) := p1; have F3 : Hid (w.heap.size ≤ P ∧ x0 < P ∧ Fresh w.heap.size v ∧ ∀ g, v.ownBlock = some g → x0 < g) := ⟨Nat.le_trans B2.out.size p2, Nat.lt_of_lt_of_le R2.out.lt p2, p3.more B2.out.size, fun g e => Nat.lt_of_lt_of_le R2.out.lt (p3 g e)⟩; have S3 : Hid (Ob w0 X3 S (q + 1) f n ts) := p4; have K3 : Hid (Kp w X3) := (Kp.of_below B2.out).trans p5; have R3 : Hid (Row X3 x0 L 39) := p5.row _ _ _ (by decide) R2.out; clear p1 p2 p3 p4 p5)
    | (refine wpList_allocBx rfl rfl ?_; intro X4 q1 q2 q3; have R4 : Hid (Row X4 X3.heap.size [.pointer none] tBx) := q1; have B4 : Hid (Below X3.heap.size X3 X4) := q2; clear q1 q2 q3; simp only [Act.put, List.setIfInBounds_toArray, List.set_cons_zero, List.set_cons_succ])
    | (refine wpList_storeL rfl tBx (.tmp 6) (.tmp 25) rfl X3.heap.size [.pointer (some ⟨P, 0, none⟩)] [.pointer none] tBx rfl rfl R4.out rfl info_bx (one_ptr _) ?_; intro X5 q1 q2; have p : Below X3.heap.size X3 X5 := (by rw [q1]; exact below_setCells B4.out (Nat.le_refl _) _); have L5 : Hid (Lg X5 P n v (fr 0 n ts)) := L3.out.be p; have S5 : Hid (Ob w0 X5 S (q + 1) f n ts) := S3.out.be p; have K5 : Hid (Kp w X5) := K3.out.trans (Kp.of_below p); have R5 : Hid (Row X5 x0 L 39) := Row.below R3.out p R3.out.lt; have Q5 : Hid (Row X5 X3.heap.size [.pointer (some ⟨P, 0, none⟩)] tBx) := q2; have E5 : Hid (x0 < X3.heap.size ∧ P < X3.heap.size ∧ ∀ g, v.ownBlock = some g → g < X3.heap.size) := ⟨R3.out.lt, L3.out.row.lt, fun g e => Ow.lt L3.out.own g e⟩; clear p q1 q2; simp only [Act.put]))
  obtain ⟨y6, hy6⟩ : ∃ y6, y6 = X3.heap.size := ⟨_, rfl⟩
  rw [← hy6] at Q5 E5 ⊢
  clear hy6 L3 S3 K3 R3 R4 B4 R2 B2
  have c5 := Q5.out.cell 0 _ rfl
  go_upto_region 10 with (go_at_call 24; refine Calls.mono (HSZ.out P v X5 L5.out) ?_; rintro e X ⟨rfl, hqq⟩; obtain rfl := hqq.symm)
  go_upto_region 11 with (first
    | (go_at_call 24; refine Calls.mono (HSZ.out P v X5 L5.out) ?_; rintro e X ⟨rfl, hqq⟩; obtain rfl := hqq.symm)
    | (refine wpList_setI rfl (.tmp 39) (.tmp 38) rfl x0 0 (n : Int) L 39 rfl rfl R5.out HL1.out ?_; intro X6 q1 q2; rw [HS0.out] at q2; have p : Gro (fun g => g = x0) X5 X6 := (by rw [q1]; exact (Gro.refl _ _).set x0 0 _ rfl); have R6 : Hid (Row X6 x0 L2 39) := q2; have L6 : Hid (Lg X6 P n v (fr 0 n ts)) := L5.out.gro (gro_toT p) (fun e => by have := F3.out.2.1; omega) (fun g e1 e2 => by have := F3.out.2.2.2 g e1; omega); have S6 : Hid (Ob w0 X6 S (q + 1) f n ts) := ⟨S5.out.st.gro p (fun g e => by subst e; exact ⟨_, _, R5.out, by decide, by decide, by decide, by decide⟩) (fun g e => by subst e; rw [HX0.out]; exact H0.out), S5.out.at_, S5.out.len, S5.out.few⟩; have K6 : Hid (Kp w X6) := K5.out.gro p (fun g e => by subst e; rw [HX0.out]; exact Nat.le_refl _); have Q6 : Hid (Row X6 y6 [.pointer (some ⟨P, 0, none⟩)] tBx) := p.row Q5.out (fun e => by have := E5.out.1; omega); clear p q1 q2; simp only [Act.put]))
  clear c5 L5 S5 K5 R5 Q5
  go_upto_region 14 with (first
    | (refine wpList_load_w rfl 39 (.tmp 3) rfl x0 0 rfl L2 _ R6.out.all Tryz.underlying39 rfl HI2.out ?_; simp only [Act.put, List.setIfInBounds_toArray, List.set_cons_zero, List.set_cons_succ])
    | (go_at_call 12; refine Calls.mono (HBY.out X6) ?_; rintro e X7 ⟨A7, k7, c7, rfl, p1, p⟩; have W7 : Hid (Bw X7 (.slice A7 k7 c7) tx) := p1; have L7 : Hid (Lg X7 P n v (fr 0 n ts)) := L6.out.be p; have S7 : Hid (Ob w0 X7 S (q + 1) f n ts) := S6.out.be p; have K7 : Hid (Kp w X7) := K6.out.trans (Kp.of_below p); have R7 : Hid (Row X7 x0 L2 39) := Row.below R6.out p R6.out.lt; have Q7 : Hid (Row X7 y6 [.pointer (some ⟨P, 0, none⟩)] tBx) := Row.below Q6.out p Q6.out.lt; clear p p1))
  clear L6 S6 K6 R6 Q6
  have c7' := Q7.out.cell 0 _ rfl
  go_upto_region 15 with (go_at_call 25; refine Calls.mono (HAD.out P v X7 A7 k7 c7 L7.out F3.out.1 F3.out.2.2.1 S7.out K7.out.size W7.out) ?_; rintro e X8 ⟨rfl, v8, p1, p⟩; have L8 : Hid (Lg X8 P (n + 1) v8 (fr 0 (n + 1) (ts ++ [tx]))) := p1; have S8 : Hid (LgS w0 X8 S (q + 1) f) := S7.out.st.gro p (lg_nost L7.out) (fun g e => e.elim (fun e => by rw [e]; exact Nat.le_trans H0.out F3.out.1) (fun e => Nat.le_trans H0.out (F3.out.2.2.1 g e))); have K8 : Hid (Kp w X8) := K7.out.gro p (fun g e => e.elim (fun e => by rw [e]; exact F3.out.1) (fun e => F3.out.2.2.1 g e)); have R8 : Hid (Row X8 x0 L2 39) := p.row R7.out (fun e => e.elim (fun e => by have := F3.out.2.1; omega) (fun e => by have := F3.out.2.2.2 x0 e; omega)); have Q8 : Hid (Row X8 y6 [.pointer (some ⟨P, 0, none⟩)] tBx) := p.row Q7.out (fun e => e.elim (fun e => by have := E5.out.2.1; omega) (fun e => by have := E5.out.2.2 y6 e; omega)); clear p p1)
  clear L7 S7 K7 R7 Q7 c7' W7
  go_upto_region 18 with (first
    | (refine wpList_load_w rfl tBx (.tmp 6) rfl y6 0 rfl [.pointer (some ⟨P, 0, none⟩)] _ Q8.out.all Tryz.underlying83 rfl info_bx ?_; simp only [Act.put, List.setIfInBounds_toArray, List.set_cons_zero, List.set_cons_succ])
    | (go_at_call 26; refine Calls.mono (HLY.out P v8 X8 L8.out S8.out) ?_; rintro e X9 ⟨rfl, p1, p⟩; have S9 : Hid (LgS w0 X9 S (q + 1 + 1) (upd f oK (be8 (n + 1) ++ (fr 0 (n + 1) (ts ++ [tx])).flatten))) := p1; have K9 : Hid (Kp w X9) := K8.out.trans p; have R9 : Hid (Row X9 x0 L2 39) := p.row _ _ _ (by decide) R8.out; clear p p1))
  have c9 := R9.out.cell 0 _ HC2.out
  go_wp2_with fail
  go_ret2
  exact ⟨rfl, ⟨_, S9.out, by rw [upd_same, bxB_some (by omega)], by rw [List.length_append, HTL.out]; rfl, by have := HN.out; omega⟩, K9.out⟩

end Go.Proofs.YtbfahgdienppoaaGreatDoor

namespace Go.Proofs.YtbfahgdienppoaaGreatDoor
open Go Go.RowKit Go.Maps
open Sha

abbrev tLf : TypeId := 39
abbrev tDg : TypeId := 53
theorem Kp.lw {w w' : World} {e : TypeId} {s n : Nat} {v : Value} {xs : List Value} (h : Kp w w') (k : Lw w e s v n xs) (he : e ≠ tC) : Lw w' e s v n xs := by
  obtain ⟨h1, h2⟩ := k
  refine ⟨h1, ?_⟩
  rcases h2 with h2 | ⟨g, cap, cur, hv, hg, hh, r⟩
  · exact .inl h2
  · have q := h.row g cur.toList e he (by unfold Row; rw [hh])
    exact .inr ⟨g, cap, cur, hv, hg, by unfold Row at q; rw [q], r⟩
theorem Bk.kp {w0 w w' : World} {B : Nat} {v : Value} {ts : List (List (BitVec 8))} (h : Bk w0 w B v ts) (k : Kp w w') (hb : Below w0.heap.size w0 w') : Bk w0 w' B v ts := by
  obtain ⟨cs, h1, h2⟩ := h.own
  exact ⟨k.row _ _ _ (by decide) h.row, ⟨cs, k.lw h1 (by decide), fun i d hd => by obtain ⟨u, q1, q2⟩ := h2 i d hd; exact ⟨u, q1, k.bw q2⟩⟩, h.b0, h.v0, hb⟩
theorem lw_row {w : World} {e : TypeId} {s n : Nat} {v : Value} {xs : List Value} (h : Lw w e s v n xs) {g : Nat} (q : v.ownBlock = some g) : ∃ cs, Row w g cs e := by
  rcases h.2 with ⟨h1, _⟩ | ⟨g', cap, cur, hv, _, hh, _⟩
  · rw [h1] at q; simp [Value.ownBlock] at q
  · rw [hv] at q
    simp only [Value.ownBlock, Option.some.injEq] at q
    subst q
    exact ⟨cur.toList, by unfold Row; rw [hh]⟩
theorem bk_rows {w0 w : World} {B : Nat} {v : Value} {ts : List (List (BitVec 8))} (h : Bk w0 w B v ts) : ∀ g, (g = B ∨ v.ownBlock = some g) → ∃ cs t, Row w g cs t ∧ (t = 61 ∨ t = 46) := fun g e => by
  rcases e with e | e
  · subst e; exact ⟨_, _, h.row, .inl rfl⟩
  · obtain ⟨cs, h1, _⟩ := h.own
    obtain ⟨ds, r⟩ := lw_row h1 e
    exact ⟨ds, _, r, .inr rfl⟩
/-- Leaves and digests stay. -/
structure Kr (w w' : World) : Prop where
  row : ∀ b cs t, (t = tLf ∨ t = tDg) → Row w b cs t → Row w' b cs t
  size : w.heap.size ≤ w'.heap.size
theorem Kr.be {w w' : World} (h : Below w.heap.size w w') : Kr w w' := ⟨fun _ _ _ _ r => Row.below r h r.lt, h.size⟩
theorem Kr.kp {w w' : World} (h : Kp w w') : Kr w w' := ⟨fun b cs t ht r => h.row b cs t (by rcases ht with e | e <;> rw [e] <;> decide) r, h.size⟩
theorem Kr.lf {w w' : World} (h : Kr w w') {b : Nat} {cs : List Value} (r : Row w b cs tLf) : Row w' b cs tLf := h.row _ _ _ (.inl rfl) r
theorem Kr.dg {w w' : World} (h : Kr w w') {b : Nat} {cs : List Value} (r : Row w b cs tDg) : Row w' b cs tDg := h.row _ _ _ (.inr rfl) r
/-- Both: the state's outbox has the texts ts, the book us. -/
structure Two (w0 w : World) (S B q n : Nat) (ts us : List (List (BitVec 8))) : Prop where
  ob : ∃ f, Ob w0 w S q f n ts
  bk : ∃ v, Bk w0 w B v us
section
variable {w0 w w' : World} {S B q n : Nat} {ts us : List (List (BitVec 8))}
theorem Two.bel (h : Two w0 w S B q n ts us) : Below w0.heap.size w0 w := by obtain ⟨v, k⟩ := h.bk; exact k.be
theorem Two.be (h : Two w0 w S B q n ts us) (k : Below w.heap.size w w') : Two w0 w' S B q n ts us := by
  obtain ⟨f, h1⟩ := h.ob
  obtain ⟨v, h2⟩ := h.bk
  exact ⟨⟨f, h1.be k⟩, ⟨v, h2.keep k⟩⟩
theorem Two.sets (h : Two w0 w S B q n ts us) {b o : Nat} {vs cs : List Value} (r : Row w b cs tLf) (hb : w0.heap.size ≤ b) : Two w0 (w.setCells b o vs) S B q n ts us := by
  obtain ⟨f, h1⟩ := h.ob
  obtain ⟨v, h2⟩ := h.bk
  refine ⟨⟨f, h1.st.sets r hb (by decide) (by decide) (by decide) (by decide), h1.at_, h1.len, h1.few⟩, ⟨v, ?_⟩⟩
  have hg : Gro (fun g => g = b) w (w.setCells b o vs) := gro_over (Gro.refl _ _) b o vs rfl
  obtain ⟨cs', q1, q2⟩ := h2.own
  refine ⟨Row.setCells_other h2.row _ _ _ (fun e => by subst e; exact absurd (row_ty r h2.row) (by decide)), ⟨cs', Lw.gro q1 hg (fun g e1 e2 => by subst e2; obtain ⟨ds, r2⟩ := lw_row q1 e1; exact absurd (row_ty r r2) (by decide)), fun i d hd => ?_⟩, h2.b0, h2.v0, below_setCells h2.be hb vs⟩
  obtain ⟨u, p1, p2⟩ := q2 i d hd
  exact ⟨u, p1, Bw.gro p2 hg (fun g e1 e2 => by subst e2; exact Bw.ne p2 r (by decide) _ e1 rfl)⟩
end
theorem size_two (w0 : World) (S B q n : Nat) (ts us : List (List (BitVec 8))) (hq : q < 1000000) (w : World) (h : Two w0 w S B q n ts us) :
    Calls Tryz.prog 14 #[.pointer (some ⟨S, 0, none⟩)] w fun e w' => e = .returned (.tuple #[.int .i64 (n : Int), .int .i64 0]) ∧ Two w0 w' S B (q + 1) n ts us ∧ Kr w w' := by
  obtain ⟨f, h1⟩ := h.ob
  obtain ⟨v, h2⟩ := h.bk
  refine (osize_any w0 S q f hq n ts w h1).mono ?_
  rintro e w' ⟨e1, e2, e3⟩
  exact ⟨e1, ⟨⟨f, e2⟩, ⟨v, h2.kp e3 e2.st.bel⟩⟩, Kr.kp e3⟩
theorem root_two (w0 : World) (S B q n : Nat) (ts us : List (List (BitVec 8))) (hq : q < 1000000) (dr : List (BitVec 8)) (hdr : dr = rt ts) (w : World) (hT : Tab w0 2) (h : Two w0 w S B q n ts us) :
    Calls Tryz.prog 15 #[.pointer (some ⟨S, 0, none⟩)] w fun e w' => e = .returned (.tuple #[.agg (vB dr).toArray, .int .i64 0]) ∧ Two w0 w' S B (q + 1) n ts us ∧ Kr w w' := by
  obtain ⟨f, h1⟩ := h.ob
  obtain ⟨v, h2⟩ := h.bk
  refine (oroot_any w0 S q f hq n ts dr hdr w hT h1).mono ?_
  rintro e w' ⟨e1, e2, e3⟩
  exact ⟨e1, ⟨⟨f, e2⟩, ⟨v, h2.kp e3 e2.st.bel⟩⟩, Kr.kp e3⟩
theorem add_two (w0 : World) (S B q n : Nat) (ts us : List (List (BitVec 8))) (hq : q < 999990) (hn : n < 260) (r : Rwv) (hr : r.Ok) (L : List Value) (hL : L = rwl r 0) (w : World) (hT : Tab w0 2) (h64 : TabAt 1 Lib.deBruijn64tab w0) (hd64 : 1 < w0.heap.size) (h : Two w0 w S B q n ts us) :
    Calls Tryz.prog 10 #[.pointer (some ⟨S, 0, none⟩), .agg L.toArray] w fun e w' => e = .returned (.tuple #[.int .i64 (n : Int), .int .i64 0]) ∧ Two w0 w' S B (q + 2) (n + 1) (ts ++ [rwt r n]) us ∧ Kr w w' := by
  obtain ⟨f, h1⟩ := h.ob
  obtain ⟨v, h2⟩ := h.bk
  refine (oadd_any w0 S q f hq n hn ts _ _ r.rc (am9 r.am) hr.rc (am9_len hr.am) (am9_q hr.q) (rw_may r 0 (by decide)) (rw_may r n (by omega)) L hL w hT h64 hd64 h1).mono ?_
  rintro e w' ⟨e1, ⟨f', e2⟩, e3⟩
  exact ⟨e1, ⟨⟨f', e2⟩, ⟨v, h2.kp e3 e2.st.bel⟩⟩, Kr.kp e3⟩
theorem put_two (w0 : World) (S B q n : Nat) (ts : List (List (BitVec 8))) (rs : List Rwv) (r : Rwv) (hr : r.Ok) (hl : rs.length ≤ 100000) (i : Nat) (hi : i = rs.length) (L : List Value) (hL : L = rwl r i) (w : World) (h : Two w0 w S B q n ts (bts rs)) :
    Calls Tryz.prog 11 #[.pointer (some ⟨B, 0, none⟩), .agg L.toArray] w fun e w' => e = .returned (.int .i64 0) ∧ Two w0 w' S B q n ts (bts (rs ++ [r])) ∧ Kr w w' := by
  obtain ⟨f, h1⟩ := h.ob
  obtain ⟨v, h2⟩ := h.bk
  refine (put_rw w0 B v rs r hr hl i hi L hL w h2).mono ?_
  rintro e w' ⟨e1, v', e2, e3, _⟩
  have hR := bk_rows h2
  have hN : NoSt w (fun g => g = B ∨ v.ownBlock = some g) := fun g e => by
    obtain ⟨cs, t, r, ht⟩ := hR g e
    refine ⟨cs, t, r, ?_⟩
    rcases ht with rfl | rfl <;> decide
  exact ⟨e1, ⟨⟨f, h1.st.gro e3 hN (fun g e => e.elim (fun e => by rw [e]; exact h2.b0) (fun e => h2.v0 g e)), h1.at_, h1.len, h1.few⟩, ⟨v', e2⟩⟩, ⟨fun b cs t ht r => e3.row r (fun q => by
    obtain ⟨ds, u, r2, hu⟩ := hR b q
    have := row_ty r r2
    subst this
    rcases ht with e | e <;> rcases hu with e2 | e2 <;> rw [e] at e2 <;> exact absurd e2 (by decide)), e3.size⟩⟩

end Go.Proofs.YtbfahgdienppoaaGreatDoor
