/-
  LadderBytes: the document's formed, Bytes.
-/
import Derived.Test.YtfommclhnfcioaaDwB
import Derived.Test.YtfommclhnfcioaaLbA

namespace Go.Proofs.Ytfommclhnfcioaa
open Go Go.RowKit
open Sha

theorem fb_wd (l : List Nat) (i k : Nat) (hk : k < 8) (u : Int) (hu : u = ((l.getD i 0 / 256 ^ k : Nat) : Int) % 256) : (Value.int .u8 u) = .int .u8 (c (fb l (8 * i + k))) := by
  subst hu
  unfold fb c
  rw [show (8 * i + k) / 8 = i by omega, show (8 * i + k) % 8 = k by omega, BitVec.toNat_ofNat, show (2 : Nat) ^ (k * 8) = 256 ^ k by rw [show (256 : Nat) = 2 ^ 8 by decide, ← Nat.pow_mul, Nat.mul_comm]]
  rfl
theorem vQ_at (l : List Nat) (i : Nat) (h : i < l.length) : (vQ l)[i]? = some (.int .u64 ((l.getD i 0 : Nat) : Int)) := by
  unfold vQ
  rw [List.getElem?_map, List.getD_eq_getElem?_getD, List.getElem?_eq_getElem h]
  rfl
end Go.Proofs.Ytfommclhnfcioaa

namespace Go.Proofs.Ytfommclhnfcioaa
open Go Go.RowKit
open Sha

/-- The document's writer: what was laid, and the fault. -/
structure Dw (w0 w : World) (Dp : Nat) (v : Value) (bs : List (BitVec 8)) (E : Int) : Prop where
  row : Row w Dp [v, .int .i64 E] 89
  bw : Bw w v bs
  fr : Fresh w0.heap.size v
  d0 : w0.heap.size ≤ Dp
  be : Below w0.heap.size w0 w
theorem Dw.keep {w0 w w' : World} {Dp : Nat} {v : Value} {bs : List (BitVec 8)} {E : Int} (h : Dw w0 w Dp v bs E) (k : Below w.heap.size w w') : Dw w0 w' Dp v bs E :=
  ⟨Row.below h.row k h.row.lt, Bw.be h.bw k, h.fr, h.d0, h.be.trans (k.mono h.be.size)⟩
theorem info_sl1 : (Try.prog.info? 26).map (·.size) = some 1 := by kernel_rfl
set_option maxRecDepth 100000 in
set_option maxHeartbeats 4000000 in
theorem lay_doc (w0 : World) (Dp : Nat) (v : Value) (bs : List (BitVec 8)) (E : Int) (d : List (BitVec 8)) (A : Option Addr) (n cap : Nat) (hn : d.length = n) (hnil : A = none → cap = 0) (hs : bs.length + n ≤ 4194304) (w : World) (h : Dw w0 w Dp v bs E) (hd : ∀ W, Below w.heap.size w W → SlAt W (.slice A n cap) d) :
    Calls Try.prog 76 #[.pointer (some ⟨Dp, 0, none⟩), .slice A n cap] w fun e w' => e = .returned (.tuple #[]) ∧ ∃ v', Dw w0 w' Dp v' (if E = 0 then bs ++ d else bs) E ∧ Gro (fun g => g = Dp ∨ v.ownBlock = some g) w w' := by
  have HH : Hid (Dw w0 w Dp v bs E) := h
  obtain ⟨Av, cv, hv, hvc, _⟩ := Bw.form h.bw
  subst hv
  have c0 := h.row.cell 0 _ rfl
  have c1 := h.row.cell 1 _ rfl
  obtain ⟨N, hN⟩ : ∃ N, N = bs.length := ⟨_, rfl⟩
  have HNN : Hid (N = bs.length) := hN
  rw [← hN] at c0
  by_cases hE : E = 0
  · have HW : Hid (Bw w (.slice Av N cv) bs) := by rw [hN]; exact h.bw
    have HSD : Hid (SlAt w (.slice A n cap) d) := hd w (Below.refl _ _)
    have HNL : Hid (A = none → cap = 0) := hnil
    have HDN : Hid (d.length = n) := hn
    have HKL : Hid (bs.length + n ≤ 140737488355328) := by show _ ≤ _; omega
    have el : ¬ ((4194304 : Int) < (N : Int) + (n : Int)) := by omega
    have hN2 : N ≤ 4194304 := by omega
    have hn2 : n ≤ 4194304 := by omega
    have HR : Hid (Row w Dp [.slice Av N cv, .int .i64 0] 89) := by rw [hN, ← hE]; exact h.row
    subst hE
    clear h hd hnil hn hs hN hvc
    go_enter Try.func76, Try.ntmps76
    go_wp2_with (first
      | (refine wpList_app rfl (.tmp 25) (.tmp 26) rfl (.slice Av N cv) bs d rfl HW.out A n cap HDN.out rfl HSD.out HNL.out HKL.out ?_; intro v4 X4 q1 q2 q3; have W4 : Hid (Bw X4 v4 (bs ++ d)) := q1; have G4 : Hid (w.grownBy X4 (Value.slice Av N cv).ownBlock) := q2; have O4 : Hid (v4.ownBlock = (Value.slice Av N cv).ownBlock ∨ v4.ownBlock = some w.heap.size) := q3; have R4 : Hid (Row X4 Dp [.slice Av N cv, .int .i64 0] 89) := row_gb HR.out q2 (some_ne (Bw.ne HW.out HR.out (by decide))); clear q1 q2 q3; obtain ⟨A5, c5, e5, _, _⟩ := Bw.form W4.out; subst e5; simp only [Act.put, List.setIfInBounds_toArray, List.set_cons_zero, List.set_cons_succ])
      | (refine wpList_set1 rfl 26 (.tmp 29) (.tmp 27) rfl Dp 0 (.slice A5 (bs ++ d).length c5) [.slice Av N cv, .int .i64 0] 89 rfl rfl rfl R4.out (Nat.succ_pos _) info_sl1 rfl ?_; intro X6 q1 q2 q3; have R6 : Hid (Row X6 Dp [.slice A5 (bs ++ d).length c5, .int .i64 0] 89) := q1; have G6 : Hid (Gro (· = Dp) X4 X6) := q2; clear q1 q2 q3; simp only [Act.put]))
    go_end0
    have hG : Gro (fun g => g = Dp ∨ (Value.slice Av N cv).ownBlock = some g) w X6 := Gro.trans (Gro.grown (Gro.refl _ _) G4.out (fun g e => .inl (.inr e))) (Gro.mono G6.out (fun g e => .inl e))
    refine ⟨rfl, ⟨.slice A5 (bs ++ d).length c5, ⟨R6.out, ?_, ?_, HH.out.d0, ?_⟩⟩, by rw [← HNN.out]; exact hG⟩
    · exact Bw.gro W4.out G6.out (Bw.ne W4.out R4.out (by decide))
    · intro g e
      rcases O4.out with q | q
      · exact HH.out.fr g (by rw [← HNN.out, ← q]; exact e)
      · rw [q] at e; cases e; exact HH.out.be.size
    · refine HH.out.be.trans (hG.to_below HH.out.be.size (fun g q => ?_))
      rcases q with q | q
      · rw [q]; exact HH.out.d0
      · exact HH.out.fr g (by rw [← HNN.out]; exact q)
  · have ex : (E != 0) = true := by simpa using hE
    have HE : Hid (¬ E = 0) := hE
    clear h hd hnil hn hs hN hvc hE
    go_enter Try.func76, Try.ntmps76
    go_wp2
    refine bodyPost_ret (results_none rfl _ _ _) rfl ?_
    exact ⟨rfl, ⟨_, HH.out⟩, Gro.refl _ _⟩

end Go.Proofs.Ytfommclhnfcioaa

namespace Go.Proofs.Ytfommclhnfcioaa
open Go Go.RowKit
open Sha

def dB (bs : List (BitVec 8)) (E : Int) (d : List (BitVec 8)) : List (BitVec 8) := if E = 0 then bs ++ d else bs
def dnE (E n : Int) : Int := if E = 0 then (if n < 0 then 32 else 0) else E
def dnB (bs : List (BitVec 8)) (E n : Int) : List (BitVec 8) := if E = 0 ∧ 0 ≤ n then bs ++ nf n else bs
theorem dB_len (bs : List (BitVec 8)) (E : Int) (d : List (BitVec 8)) : (dB bs E d).length ≤ bs.length + d.length := by
  unfold dB
  split
  · rw [List.length_append]; exact Nat.le_refl _
  · omega
theorem dnB_len (bs : List (BitVec 8)) (E n : Int) : (dnB bs E n).length ≤ bs.length + 33 := by
  have := nf_len n
  unfold dnB
  split
  · rw [List.length_append]; omega
  · omega
set_option maxRecDepth 100000 in
set_option maxHeartbeats 4000000 in
theorem dw_byte (w0 : World) (Dp : Nat) (v : Value) (bs : List (BitVec 8)) (E : Int) (hs : bs.length ≤ 1000000) (x : BitVec 8) (y : Int) (hy : y = c x) (w : World) (h : Dw w0 w Dp v bs E) : Calls Try.prog 41 #[.pointer (some ⟨Dp, 0, none⟩), .int .u8 y] w fun e w' => e = .returned (.tuple #[]) ∧ ∃ v', Dw w0 w' Dp v' (dB bs E [x]) E := by
  have HH : Hid (Dw w0 w Dp v bs E) := h
  have HY : Hid (y = c x) := hy
  have HS : Hid (bs.length + 1 ≤ 4194304) := by show _ ≤ _; omega
  clear h hy hs
  go_enter Try.func41, Try.ntmps41
  go_wp2_with (first
    | (refine wpList_buildOne 26 5 Try.underlying26 u8_open4 rfl (.tmp 5) rfl (.int .u8 y) rfl rfl ?_; intro X1 q1 q2 q3; have C1 : Hid _ := lay_doc w0 Dp v bs E [x] (some ⟨w.heap.size, 0, none⟩) 1 1 rfl (fun hh => by cases hh) HS.out X1 (HH.out.keep q2) (fun W hW => sl_row (d := [x]) (by have r := Row.below q1 hW q1.lt; rw [HY.out] at r; exact r)); clear q1 q2 q3; simp only [Act.put, List.setIfInBounds_toArray, List.set_cons_zero, List.set_cons_succ])
    | (go_at_call 76; refine Calls.mono C1.out ?_; rintro e X2 ⟨rfl, v2, q, _⟩; have D2 : Hid (Dw w0 X2 Dp v2 (dB bs E [x]) E) := q; clear q))
  go_end0
  exact ⟨rfl, _, D2.out⟩
set_option maxRecDepth 100000 in
set_option maxHeartbeats 4000000 in
theorem dw_number (w0 : World) (Dp : Nat) (v : Value) (bs : List (BitVec 8)) (E : Int) (hs : bs.length ≤ 1000000) (n : Int) (hn : n < 9223372036854775808) (w : World) (h : Dw w0 w Dp v bs E) : Calls Try.prog 42 #[.pointer (some ⟨Dp, 0, none⟩), .int .i64 n] w fun e w' => e = .returned (.tuple #[]) ∧ ∃ v', Dw w0 w' Dp v' (dnB bs E n) (dnE E n) := by
  have HH : Hid (Dw w0 w Dp v bs E) := h
  have c1 := h.row.cell 1 _ rfl
  by_cases hE : E = 0
  · subst hE
    by_cases hn0 : n < 0
    · have HR : Hid (Row w Dp [v, .int .i64 0] 89) := h.row
      have e1 : Hid (dnB bs 0 n = bs ∧ dnE 0 n = 32) := ⟨by unfold dnB; rw [if_neg (by omega)], by unfold dnE; rw [if_pos rfl, if_pos hn0]⟩
      clear h hs hn
      go_enter Try.func42, Try.ntmps42
      go_wp2_with (refine wpList_set1 rfl 28 (.tmp 13) _ rfl Dp 1 (.int .i64 32) [v, .int .i64 0] 89 rfl rfl rfl HR.out (by decide : 1 < 2) (by kernel_rfl) rfl ?_; intro X6 q1 q2 q3; have R6 : Hid (Row X6 Dp [v, .int .i64 32] 89) := q1; have G6 : Hid (Gro (· = Dp) w X6) := q2; clear q1 q2 q3; simp only [Act.put])
      refine bodyPost_ret (results_none rfl _ _ _) rfl ?_
      refine ⟨rfl, v, ?_⟩
      rw [e1.out.1, e1.out.2]
      exact ⟨R6.out, Bw.gro HH.out.bw G6.out (Bw.ne HH.out.bw HR.out (by decide)), HH.out.fr, HH.out.d0, HH.out.be.trans (G6.out.to_below HH.out.be.size (fun g e => by rw [e]; exact HH.out.d0))⟩
    · obtain ⟨m, rfl⟩ : ∃ m : Nat, n = (m : Int) := ⟨n.toNat, by omega⟩
      obtain ⟨k, hk⟩ : ∃ k, k = nb m 0 0 0 := ⟨_, rfl⟩
      have HND : Hid (∀ X, Calls Try.prog 77 #[.int .i64 (m : Int)] X fun e w' => ∃ A c, e = .returned (.slice A (k + 1) c) ∧ Bw w' (.slice A (k + 1) c) (nf (m : Int)) ∧ Fresh X.heap.size (.slice A (k + 1) c) ∧ Below X.heap.size X w') := fun X => by rw [hk]; exact number_doc m (by omega) X
      have HWL : Hid ((nf (m : Int)).length = k + 1) := by show _ = _; rw [hk]; exact fm_len _ _
      have HS : Hid (bs.length + (k + 1) ≤ 4194304) := by show _ ≤ _; have := nb_le m 0 0 0; omega
      have e1 : Hid (dnB bs 0 (m : Int) = dB bs 0 (nf (m : Int)) ∧ dnE 0 (m : Int) = 0) := ⟨by unfold dnB dB; rw [if_pos ⟨rfl, by omega⟩, if_pos rfl], by unfold dnE; rw [if_pos rfl, if_neg hn0]⟩
      clear h hs hn hk
      go_enter Try.func42, Try.ntmps42
      go_wp2_with (first
        | (go_at_call 77; refine Calls.mono (HND.out w) ?_; rintro e X2 ⟨A2, c2, rfl, q1, q2, q3⟩; obtain ⟨_, _, e2, _, n2⟩ := Bw.form q1; rw [HWL.out] at e2; simp only [Value.slice.injEq] at e2; obtain ⟨rfl, _, rfl⟩ := e2; have C2 : Hid _ := lay_doc w0 Dp v bs 0 (nf (m : Int)) A2 (k + 1) c2 HWL.out n2 HS.out X2 (HH.out.keep q3) (fun W hW => Bw.sl (Bw.be q1 hW)); clear q1 q2 q3 n2)
        | (go_at_call 76; refine Calls.mono C2.out ?_; rintro e X3 ⟨rfl, v3, q, _⟩; have D3 : Hid (Dw w0 X3 Dp v3 (dB bs 0 (nf (m : Int))) 0) := q; clear q))
      first | go_end0 | refine bodyPost_ret (results_none rfl _ _ _) rfl ?_
      exact ⟨rfl, v3, by rw [e1.out.1, e1.out.2]; exact D3.out⟩
  · have ex : (E != 0) = true := by simpa using hE
    have e1 : Hid (dnB bs E n = bs ∧ dnE E n = E) := ⟨by unfold dnB; rw [if_neg (fun q => hE q.1)], by unfold dnE; rw [if_neg hE]⟩
    clear h hs hn hE
    go_enter Try.func42, Try.ntmps42
    go_wp2
    refine bodyPost_ret (results_none rfl _ _ _) rfl ?_
    exact ⟨rfl, v, by rw [e1.out.1, e1.out.2]; exact HH.out⟩

end Go.Proofs.Ytfommclhnfcioaa

namespace Go.Proofs.Ytfommclhnfcioaa
open Go Go.RowKit
open Sha

set_option maxRecDepth 100000 in
set_option maxHeartbeats 4000000 in
theorem formed_any (c : Cm) (hw : c.Wf) (L : List Value) (hL : L = c.cells) (w : World) : Calls Try.prog 40 #[.agg L.toArray] w fun e w' => e = .returned (.bool (mayB c)) ∧ Below w.heap.size w w' := by
  obtain ⟨B, hB⟩ : ∃ B, B = mayB c := ⟨_, rfl⟩
  rw [← hB]
  have HL : Hid (L = c.cells) := hL
  have HW : Hid c.Wf := hw
  clear hL hw
  by_cases h1 : 0 ≤ c.n
  · by_cases h2 : c.n ≤ 1099511627776
    · by_cases h3 : 0 ≤ c.k
      · by_cases h4 : c.k ≤ 1099511627776
        · have HB : Hid (B = true) := by show _ = _; rw [hB, mayB, decide_eq_true h1, decide_eq_true h2, decide_eq_true h3, decide_eq_true h4]; rfl
          clear hB
          go_enter Try.func40, Try.ntmps40
          go_wp2_with (refine wpList_bxG tC rfl (.tmp 0) rfl L rfl ?_; intro X q1 q2 _; rw [HL.out] at q1; have c0 := q1.cell 0 _ (Cm.at_n c); have c1 := q1.cell 65 _ (Cm.at_k HW.out); have B1 : Hid (Below w.heap.size w X) := q2; clear q1 q2; simp only [Act.put, List.setIfInBounds_toArray, List.set_cons_zero, List.set_cons_succ])
          go_ret
          exact ⟨by rw [HB.out]; rfl, B1.out⟩
        · have HB : Hid (B = false) := by show _ = _; rw [hB, mayB, decide_eq_false h4, Bool.and_false]
          clear hB
          go_enter Try.func40, Try.ntmps40
          go_wp2_with (refine wpList_bxG tC rfl (.tmp 0) rfl L rfl ?_; intro X q1 q2 _; rw [HL.out] at q1; have c0 := q1.cell 0 _ (Cm.at_n c); have c1 := q1.cell 65 _ (Cm.at_k HW.out); have B1 : Hid (Below w.heap.size w X) := q2; clear q1 q2; simp only [Act.put, List.setIfInBounds_toArray, List.set_cons_zero, List.set_cons_succ])
          go_ret
          exact ⟨by rw [HB.out]; rfl, B1.out⟩
      · have HB : Hid (B = false) := by show _ = _; rw [hB, mayB, decide_eq_false h3, Bool.and_false, Bool.false_and]
        clear hB
        go_enter Try.func40, Try.ntmps40
        go_wp2_with (refine wpList_bxG tC rfl (.tmp 0) rfl L rfl ?_; intro X q1 q2 _; rw [HL.out] at q1; have c0 := q1.cell 0 _ (Cm.at_n c); have c1 := q1.cell 65 _ (Cm.at_k HW.out); have B1 : Hid (Below w.heap.size w X) := q2; clear q1 q2; simp only [Act.put, List.setIfInBounds_toArray, List.set_cons_zero, List.set_cons_succ])
        go_ret
        exact ⟨by rw [HB.out]; rfl, B1.out⟩
    · have HB : Hid (B = false) := by show _ = _; rw [hB, mayB, decide_eq_false h2, Bool.and_false, Bool.false_and, Bool.false_and]
      clear hB
      go_enter Try.func40, Try.ntmps40
      go_wp2_with (refine wpList_bxG tC rfl (.tmp 0) rfl L rfl ?_; intro X q1 q2 _; rw [HL.out] at q1; have c0 := q1.cell 0 _ (Cm.at_n c); have c1 := q1.cell 65 _ (Cm.at_k HW.out); have B1 : Hid (Below w.heap.size w X) := q2; clear q1 q2; simp only [Act.put, List.setIfInBounds_toArray, List.set_cons_zero, List.set_cons_succ])
      go_ret
      exact ⟨by rw [HB.out]; rfl, B1.out⟩
  · have HB : Hid (B = false) := by show _ = _; rw [hB, mayB, decide_eq_false h1, Bool.false_and, Bool.false_and, Bool.false_and]
    clear hB
    go_enter Try.func40, Try.ntmps40
    go_wp2_with (refine wpList_bxG tC rfl (.tmp 0) rfl L rfl ?_; intro X q1 q2 _; rw [HL.out] at q1; have c0 := q1.cell 0 _ (Cm.at_n c); have c1 := q1.cell 65 _ (Cm.at_k HW.out); have B1 : Hid (Below w.heap.size w X) := q2; clear q1 q2; simp only [Act.put, List.setIfInBounds_toArray, List.set_cons_zero, List.set_cons_succ])
    go_ret
    exact ⟨by rw [HB.out]; rfl, B1.out⟩
set_option maxRecDepth 100000 in
set_option maxHeartbeats 4000000 in
theorem dw_digest (w0 : World) (Dp : Nat) (v : Value) (bs : List (BitVec 8)) (E : Int) (hs : bs.length ≤ 1000000) (d : List (BitVec 8)) (hd : d.length = 32) (w : World) (h : Dw w0 w Dp v bs E) : Calls Try.prog 43 #[.pointer (some ⟨Dp, 0, none⟩), .agg (vB d).toArray] w fun e w' => e = .returned (.tuple #[]) ∧ ∃ v', Dw w0 w' Dp v' (dB bs E d) E := by
  have HH : Hid (Dw w0 w Dp v bs E) := h
  have HD : Hid (d.length = 32) := hd
  have HS : Hid (bs.length + 32 ≤ 4194304) := by show _ ≤ _; omega
  obtain ⟨L, hL⟩ : ∃ L, L = vB d := ⟨_, rfl⟩
  have HL : Hid (L = vB d) := hL
  rw [← hL]
  clear h hd hs hL
  go_enter Try.func43, Try.ntmps43
  go_wp2_with (first
    | (refine wpList_boxG 23 rfl (.tmp 1) rfl L rfl ?_; intro X1 q1 q2 q3; rw [HL.out] at q1; have C1 : Hid _ := lay_doc w0 Dp v bs E d (some ⟨w.heap.size, 0, none⟩) 32 32 HD.out (fun hh => by cases hh) HS.out X1 (HH.out.keep q2) (fun W hW => by have r := sl_row (Row.below q1 hW q1.lt); rw [HD.out] at r; exact r); clear q1 q2 q3; simp only [Act.put, List.setIfInBounds_toArray, List.set_cons_zero, List.set_cons_succ])
    | (refine wpList_slice_all rfl 23 5 32 (.tmp 3) w.heap.size 0 rfl rfl Try.underlying23 info_u1 ?_; simp only [Act.put, List.setIfInBounds_toArray, List.set_cons_zero, List.set_cons_succ])
    | (go_at_call 76; refine Calls.mono C1.out ?_; rintro e X2 ⟨rfl, v2, q, _⟩; have D2 : Hid (Dw w0 X2 Dp v2 (dB bs E d) E) := q; clear q))
  go_end0
  exact ⟨rfl, _, D2.out⟩
theorem built_dw : Try.prog.built 89 [] = some ([.slice none 0 0, .int .i64 0] : List Value).toArray := by kernel_rfl
theorem dB_0 (bs d : List (BitVec 8)) : dB bs 0 d = bs ++ d := by unfold dB; rw [if_pos rfl]
theorem dnB_0 (bs : List (BitVec 8)) (n : Int) (h : 0 ≤ n) : dnB bs 0 n = bs ++ nf n := by unfold dnB; rw [if_pos ⟨rfl, h⟩]
theorem dnE_0 (n : Int) (h : 0 ≤ n) : dnE 0 n = 0 := by unfold dnE; rw [if_pos rfl, if_neg (by omega)]
set_option maxRecDepth 100000 in
set_option maxHeartbeats 4000000 in
theorem ddone_ok (w0 : World) (P : Nat) (v : Value) (bs : List (BitVec 8)) (w : World) (h : Dw w0 w P v bs 0) : Calls Try.prog 44 #[.pointer (some ⟨P, 0, none⟩)] w fun e w' => e = .returned (.tuple #[v, .int .i64 0]) ∧ w' = w := by
  obtain ⟨A8, c8, e8, _, _⟩ := Bw.form h.bw
  obtain ⟨n8, hn8⟩ : ∃ n, n = bs.length := ⟨_, rfl⟩
  rw [← hn8] at e8
  subst e8
  have c0 := h.row.cell 0 _ rfl
  have c1 := h.row.cell 1 _ rfl
  clear hn8 h
  go_enter Try.func44, Try.ntmps44
  go_wp2
  go_ret2
  exact ⟨rfl, rfl⟩
set_option maxRecDepth 100000 in
set_option maxHeartbeats 4000000 in
theorem dbytes_no (c : Cm) (hw : c.Wf) (hm : mayB c = false) (L : List Value) (hL : L = c.cells) (w : World) : Calls Try.prog 11 #[.agg L.toArray] w fun e w' => e = .returned (.tuple #[.slice none 0 0, .int .i64 160]) ∧ Below w.heap.size w w' := by
  have HM : Hid (∀ X, Calls Try.prog 40 #[.agg L.toArray] X fun e w' => e = .returned (.bool false) ∧ Below X.heap.size X w') := fun X => by have := formed_any c hw L hL X; rwa [hm] at this
  have HI : Hid ((Try.prog.info? tC).map (·.size) = some L.length) := by rw [hL]; exact Cm.info hw
  clear hL
  go_enter Try.func11, Try.ntmps11
  go_wp2_with (first
    | (refine wpList_bxG tC rfl (.tmp 0) rfl L rfl ?_; intro X1 q1 q2 q3; have R1 : Hid (Row X1 w.heap.size L tC) := q1; have B1 : Hid (Below w.heap.size w X1) := q2; clear q1 q2 q3; simp only [Act.put, List.setIfInBounds_toArray, List.set_cons_zero, List.set_cons_succ])
    | (refine wpList_ldS rfl tC (.tmp 1) rfl w.heap.size 0 rfl L _ R1.out.all Try.underlying25 rfl HI.out ?_; simp only [Act.put, List.setIfInBounds_toArray, List.set_cons_zero, List.set_cons_succ])
    | (go_at_call 40; refine Calls.mono (HM.out X1) ?_; rintro e X2 ⟨rfl, q⟩; have B2 : Hid (Below w.heap.size w X2) := B1.out.trans (q.mono B1.out.size); clear q))
  go_ret2
  exact ⟨rfl, B2.out⟩
set_option maxRecDepth 100000 in
set_option maxHeartbeats 4000000 in
theorem dbytes_ok (c : Cm) (hw : c.Wf) (hm : mayB c = true) (L : List Value) (hL : L = c.cells) (w : World) : Calls Try.prog 11 #[.agg L.toArray] w fun e w' => ∃ v, e = .returned (.tuple #[v, .int .i64 0]) ∧ Bw w' v (cmb c) ∧ Fresh w.heap.size v ∧ Below w.heap.size w w' := by
  have HM : Hid (∀ X, Calls Try.prog 40 #[.agg L.toArray] X fun e w' => e = .returned (.bool true) ∧ Below X.heap.size X w') := fun X => by have := formed_any c hw L hL X; rwa [hm] at this
  have HI : Hid ((Try.prog.info? tC).map (·.size) = some L.length) := by rw [hL]; exact Cm.info hw
  have HIS : Hid ((Try.prog.info? 23).map (·.size) = some (vB c.s).length) := info_Dg _ hw.ls
  have HIO : Hid ((Try.prog.info? 23).map (·.size) = some (vB c.o).length) := info_Dg _ hw.lo
  have HL : Hid (L = c.cells) := hL
  have HW : Hid c.Wf := hw
  have HIN : Hid (0 ≤ c.n ∧ c.n < 9223372036854775808 ∧ 0 ≤ c.k ∧ c.k < 9223372036854775808) := may_cm hm
  clear hL hw hm
  go_enter Try.func11, Try.ntmps11
  go_upto_region 3 with (first
    | (refine wpList_bxG tC rfl (.tmp 0) rfl L rfl ?_; intro X1 q1 q2 q3; have R1 : Hid (Row X1 w.heap.size L tC) := q1; have B1 : Hid (Below w.heap.size w X1) := q2; clear q1 q2 q3; simp only [Act.put, List.setIfInBounds_toArray, List.set_cons_zero, List.set_cons_succ])
    | (refine wpList_ldS rfl tC (.tmp 1) rfl w.heap.size 0 rfl L _ R1.out.all Try.underlying25 rfl HI.out ?_; simp only [Act.put, List.setIfInBounds_toArray, List.set_cons_zero, List.set_cons_succ])
    | (go_at_call 40; refine Calls.mono (HM.out X1) ?_; rintro e X2 ⟨rfl, q⟩; have R2 : Hid (Row X2 w.heap.size L tC) := Row.below R1.out q R1.out.lt; have B2 : Hid (Below w.heap.size w X2) := B1.out.trans (q.mono B1.out.size); clear q))
  go_upto_region 4 with (first
    | (refine wpList_blt rfl 89 _ rfl [] rfl [.slice none 0 0, .int .i64 0] built_dw ?_; simp only [Act.put, List.setIfInBounds_toArray, List.set_cons_zero, List.set_cons_succ])
    | (refine wpList_bxG 89 rfl (.tmp 8) rfl [.slice none 0 0, .int .i64 0] rfl ?_; intro X3 q1 q2 q3; have M3' : Hid (Dw X2 X3 X2.heap.size (.slice none 0 0) [] 0) := ⟨q1, Bw.nil _, (fun g e => by cases e), Nat.le_refl _, q2⟩; clear q1 q2 q3; simp only [Act.put, List.setIfInBounds_toArray, List.set_cons_zero, List.set_cons_succ]))
  obtain ⟨b, hb⟩ : ∃ b, b = w.heap.size := ⟨_, rfl⟩
  have hR2 := R2.out
  rw [HL.out] at hR2
  have hlt : b < X2.heap.size := by rw [hb]; exact hR2.lt
  rw [← hb] at hR2
  have RL : Hid (∀ Y, Below X2.heap.size X2 Y → Row Y b c.cells tC) := fun Y k => Row.below hR2 k hlt
  obtain ⟨P, hP⟩ : ∃ P, P = X2.heap.size := ⟨_, rfl⟩
  have M3 : Hid (Dw X2 X3 P (.slice none 0 0) [] 0) := by rw [hP]; exact M3'.out
  rw [← hP, ← hb]
  have LN : Hid (([65#8] : List (BitVec 8)).length ≤ 1000000 ∧ ([65#8] ++ nf c.n).length ≤ 1000000 ∧ ([65#8] ++ nf c.n ++ c.s).length ≤ 1000000 ∧ ([65#8] ++ nf c.n ++ c.s ++ c.o).length ≤ 1000000 ∧ (cmb c).length ≤ 1000000) := by
    have h1 := nf_len c.n
    have h4 := cmb_len HW.out
    have h5 := HW.out.ls
    have h6 := HW.out.lo
    simp only [List.length_append, List.length_singleton]
    refine ⟨?_, ?_, ?_, ?_, ?_⟩ <;> omega
  clear hb hP hR2 hlt R2 R1 B1 HM HL HI M3'
  go_upto_region 5 with (go_at_call 41; refine Calls.mono (dw_byte X2 P (.slice none 0 0) [] 0 (Nat.zero_le _) 65#8 65 rfl X3 M3.out) ?_; rintro e X4 ⟨rfl, v4, q⟩; have M4 : Hid (Dw X2 X4 P v4 [65#8] 0) := q; have c0 := (RL.out X4 q.be).cell 0 _ (Cm.at_n c); clear q M3)
  go_upto_region 6 with (go_at_call 42; refine Calls.mono (dw_number X2 P v4 [65#8] 0 LN.out.1 c.n HIN.out.2.1 X4 M4.out) ?_; rintro e X5 ⟨rfl, v5, q⟩; have M5 : Hid (Dw X2 X5 P v5 ([65#8] ++ nf c.n) 0) := (by have q0 := q; rw [show dnE 0 c.n = 0 from dnE_0 _ HIN.out.1, dnB_0 _ _ HIN.out.1] at q0; exact q0); have RS : Hid (X5.rangeAt b 1 (vB c.s)) := (RL.out X5 q.be).range 1 _ (fun j u hj => Cm.at_s j u hj); clear q M4 c0)
  go_upto_region 7 with (first
    | (refine wpList_ldS rfl 23 (.tmp 17) rfl b 1 rfl (vB c.s) _ RS.out Try.underlying23 rfl HIS.out ?_; simp only [Act.put, List.setIfInBounds_toArray, List.set_cons_zero, List.set_cons_succ])
    | (go_at_call 43; refine Calls.mono (dw_digest X2 P v5 ([65#8] ++ nf c.n) 0 LN.out.2.1 c.s HW.out.ls X5 M5.out) ?_; rintro e X6 ⟨rfl, v6, q⟩; have M6 : Hid (Dw X2 X6 P v6 ([65#8] ++ nf c.n ++ c.s) 0) := (by have q0 := q; rw [dB_0] at q0; exact q0); have RO : Hid (X6.rangeAt b 33 (vB c.o)) := (RL.out X6 q.be).range 33 _ (fun j u hj => Cm.at_o HW.out j u hj); clear q M5 RS))
  go_upto_region 8 with (first
    | (refine wpList_ldS rfl 23 (.tmp 21) rfl b 33 rfl (vB c.o) _ RO.out Try.underlying23 rfl HIO.out ?_; simp only [Act.put, List.setIfInBounds_toArray, List.set_cons_zero, List.set_cons_succ])
    | (go_at_call 43; refine Calls.mono (dw_digest X2 P v6 ([65#8] ++ nf c.n ++ c.s) 0 LN.out.2.2.1 c.o HW.out.lo X6 M6.out) ?_; rintro e X7 ⟨rfl, v7, q⟩; have M7 : Hid (Dw X2 X7 P v7 ([65#8] ++ nf c.n ++ c.s ++ c.o) 0) := (by have q0 := q; rw [dB_0] at q0; exact q0); have c1 := (RL.out X7 q.be).cell 65 _ (Cm.at_k HW.out); clear q M6 RO))
  go_upto_region 9 with (go_at_call 42; refine Calls.mono (dw_number X2 P v7 ([65#8] ++ nf c.n ++ c.s ++ c.o) 0 LN.out.2.2.2.1 c.k HIN.out.2.2.2 X7 M7.out) ?_; rintro e X9 ⟨rfl, v9, q⟩; have M9 : Hid (Dw X2 X9 P v9 (cmb c) 0) := (by have q0 := q; rw [show dnE 0 c.k = 0 from dnE_0 _ HIN.out.2.2.1, dnB_0 _ _ HIN.out.2.2.1] at q0; exact q0); clear q M7 c1)
  go_wp2_with (go_at_call 44; refine Calls.mono (ddone_ok X2 P v9 _ X9 M9.out) ?_; rintro e Y ⟨rfl, rfl⟩)
  go_ret2
  exact ⟨_, rfl, M9.out.bw, M9.out.fr.more B2.out.size, B2.out.trans (M9.out.be.mono B2.out.size)⟩

end Go.Proofs.Ytfommclhnfcioaa
