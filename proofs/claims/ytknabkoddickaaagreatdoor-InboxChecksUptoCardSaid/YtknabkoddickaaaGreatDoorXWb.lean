/-
  wire.Writer, whatever was laid: Byte, Flag, Digest, Address, Bytes.
-/
import Derived.Test.YtknabkoddickaaaGreatDoorXWr2

namespace Go.Proofs.YtknabkoddickaaaGreatDoor
open Go Go.RowKit
open Sha

set_option maxRecDepth 100000 in
theorem open_no (P : Nat) (v : Value) (f : Int) (hf : ¬ f = 0) (w : World) (h : Row w P [v, .int .i64 f] 165) :
    Calls Tryz.prog 135 #[.pointer (some ⟨P, 0, none⟩)] w fun e w' => e = .returned (.bool false) ∧ w' = w := by
  have g1 := h.cell 1 _ rfl
  have hb : (f == 0) = false := by simp [hf]
  clear h
  go_enter Tryz.func135, Tryz.ntmps135
  go_wp2
  go_ret
  exact ⟨rfl, rfl⟩
/-- A writer, written into. -/
theorem Wr.closed {w : World} {P : Nat} {v : Value} {f : Int} (h : Row w P [v, .int .i64 f] 165) (e : Int) : Wr ((w.setCell ⟨P, 0, none⟩ (.slice none 0 0)).setCell ⟨P, 1, none⟩ (.int .i64 e)) P none 0 [] e :=
  ⟨(h.set 0 _).set 1 _, Bw.nil _⟩

set_option maxRecDepth 100000 in
theorem fail_open (P : Nat) (v : Value) (e : Int) (w : World) (h : Row w P [v, .int .i64 0] 165) :
    Calls Tryz.prog 116 #[.pointer (some ⟨P, 0, none⟩), .int .i64 e] w fun r w' => r = .returned (.tuple #[]) ∧ Wr w' P none 0 [] e ∧ Gro (fun g => g = P) w w' := by
  have g0 := h.cell 0 _ rfl
  have g1 := h.cell 1 _ rfl
  have f0 := h.thaw 0
  have f1 := h.thaw 1
  have HW : Hid _ := Wr.closed h e
  have HG : Hid (Gro (fun g => g = P) w ((w.setCell ⟨P, 0, none⟩ (.slice none 0 0)).setCell ⟨P, 1, none⟩ (.int .i64 e))) := ((Gro.refl (fun g => g = P) w).set P 0 _ rfl).set P 1 _ rfl
  have HO : Hid _ := open_ok P v w h
  clear h
  go_enter Tryz.func116, Tryz.ntmps116
  go_wp2_with (go_at_call 135; refine Calls.mono HO.out ?_; rintro r w2 ⟨rfl, rfl⟩)
  go_end0
  exact ⟨rfl, HW.out, HG.out⟩
set_option maxRecDepth 100000 in
theorem fail_shut (P : Nat) (v : Value) (e f : Int) (hf : ¬ f = 0) (w : World) (h : Row w P [v, .int .i64 f] 165) :
    Calls Tryz.prog 116 #[.pointer (some ⟨P, 0, none⟩), .int .i64 e] w fun r w' => r = .returned (.tuple #[]) ∧ w' = w := by
  have HO : Hid _ := open_no P v f hf w h
  clear h
  go_enter Tryz.func116, Tryz.ntmps116
  go_wp2_with (go_at_call 135; refine Calls.mono HO.out ?_; rintro r w2 ⟨rfl, rfl⟩)
  go_end0
  exact ⟨rfl, rfl⟩

/-- What a writer has laid behind one value more; its fault. -/
def wrB (bs : List (BitVec 8)) (f : Int) (d : List (BitVec 8)) : List (BitVec 8) := if f = 0 then (if bs.length + d.length ≤ 4194304 then bs ++ d else []) else bs
def wrF (bs : List (BitVec 8)) (f : Int) (d : List (BitVec 8)) : Int := if f = 0 then (if bs.length + d.length ≤ 4194304 then 0 else 30) else f

set_option maxRecDepth 100000 in
theorem lay_no (P : Nat) (v x : Value) (f : Int) (hf : ¬ f = 0) (w : World) (h : Row w P [v, .int .i64 f] 165) :
    Calls Tryz.prog 113 #[.pointer (some ⟨P, 0, none⟩), x] w fun r w' => r = .returned (.tuple #[]) ∧ w' = w := by
  have HO : Hid _ := open_no P v f hf w h
  clear h
  go_enter Tryz.func113, Tryz.ntmps113
  go_wp2_with (go_at_call 135; refine Calls.mono HO.out ?_; rintro r w2 ⟨rfl, rfl⟩)
  first | go_end0 | refine bodyPost_ret (results_none rfl _ _ _) rfl ?_
  exact ⟨rfl, rfl⟩

set_option maxRecDepth 100000 in
set_option maxHeartbeats 4000000 in
theorem lay_long (P : Nat) (A : Option Addr) (cap : Nat) (bs : List (BitVec 8)) (b : Nat) (vs : List Value) (ps : List (List (BitVec 8))) (n : Nat) (hn : ps.length = n) (hn2 : n ≤ 1000000) (hT : ¬ bs.length + ps.flatten.length ≤ 4194304) (hT2 : ps.flatten.length ≤ 1099511627776) (hT3 : bs.length ≤ 4194304) (w : World) 
    (hw : Wr w P A cap bs 0) (hS : Ls w b vs ps) :
    Calls Tryz.prog 113 #[.pointer (some ⟨P, 0, none⟩), .slice (some ⟨b, 0, none⟩) n n] w fun e w' => e = .returned (.tuple #[]) ∧ Wr w' P none 0 [] 30 ∧ Gro (fun g => g = P) w w' := by
  have HO : Hid (∀ v w, Row w P [v, .int .i64 0] 165 → _) := fun v w h => open_ok P v w h
  have HS : Hid (Ls w b vs ps) := hS
  have HN : Hid (ps.length = n) := hn
  clear hS hn
  obtain ⟨L, hL⟩ : ∃ L, L = bs.length := ⟨_, rfl⟩
  obtain ⟨T, hTT⟩ : ∃ T, T = ps.flatten.length := ⟨_, rfl⟩
  have hLT : ¬ L + T ≤ 4194304 := by rw [hL, hTT]; exact hT
  have hT4 : T ≤ 1099511627776 := by rw [hTT]; exact hT2
  have hL4 : L ≤ 4194304 := by rw [hL]; exact hT3
  clear hT hT2 hT3
  have g0 := hw.1.cell 0 _ rfl
  have HW : Hid (Wr w P A cap bs 0) := hw
  clear hw
  rw [← hL] at g0
  have HL : Hid (L = bs.length) := hL
  have HTT : Hid (T = ps.flatten.length) := hTT
  clear hL hTT
  go_enter Tryz.func113, Tryz.ntmps113
  go_wp2_with (refine (HO.out _ _ HW.out.1).mono ?_; rintro e w2 ⟨rfl, rfl⟩)
  go_loopw [4, 6, 14] (fun s _ i wr => ∃ t : Nat, t ≤ n ∧ i = .int .i64 (t : Int) ∧ s = .int .i64 ((sums ps t : Nat) : Int) ∧ wr = w2) (fun _ _ i _ => n - (intOf i).toNat)
  case atStart => exact ⟨0, Nat.zero_le _, rfl, rfl, rfl⟩
  case round =>
    obtain ⟨t, ht, rfl, rfl, hwr⟩ := hrel
    replace hwr := hwr.symm
    subst hwr
    have hst : sums ps t ≤ T := by rw [HTT.out]; exact sums_le ps t
    by_cases hlt : t < n
    · have hst2 : sums ps (t + 1) ≤ T := by rw [HTT.out]; exact sums_le ps (t + 1)
      rw [sums_succ ps t (by rw [HN.out]; exact hlt)] at hst2
      obtain ⟨Ap, cp, hc, _, _⟩ := Ls.at HS.out t (by rw [HN.out]; exact hlt)
      have E : Hid (sums ps (t + 1) = sums ps t + (ps.getD t []).length) := sums_succ ps t (by rw [HN.out]; exact hlt)
      generalize (ps.getD t []).length = m at *
      generalize hs0 : sums ps t = s0 at *
      clear hs0
      go_wp2
      exact ⟨⟨t + 1, hlt, by go_num, by rw [E.out]; go_num, trivial⟩, by simp [intOf]; omega⟩
    · obtain rfl : t = n := by omega
      have es : sums ps t = T := by rw [HTT.out]; unfold sums; rw [List.take_of_length_le (by rw [HN.out]; exact Nat.le_refl _)]
      rw [es]
      have hno : 4194304 - (L : Int) < (T : Int) := by omega
      clear hst es hlt
      go_wp2_with fail
      refine (fail_open P _ 30 w2 HW.out.1).mono ?_
      rintro e w3 ⟨rfl, hw3, hg3⟩
      have HW3 : Hid (Wr _ _ _ _ _ _) := hw3
      have HG3 : Hid (Gro _ _ _) := hg3
      clear hw3 hg3
      go_wp2_with fail
      first | go_end0 | refine bodyPost_ret (results_none rfl _ _ _) rfl ?_
      exact ⟨rfl, HW3.out, HG3.out⟩

theorem lay_any (P : Nat) (A : Option Addr) (cap : Nat) (bs : List (BitVec 8)) (f : Int) (b : Nat) (vs : List Value) (ps : List (List (BitVec 8))) (n : Nat) (hn : ps.length = n) (hn2 : n ≤ 1000000) (hT : ps.flatten.length ≤ 1099511627776) (hB : bs.length ≤ 4194304) (w : World) (R : Nat → Prop) (hR : R = fun g => g = P ∨ (Value.slice A bs.length cap).ownBlock = some g)
    (hw : Wr w P A cap bs f) (hS : ∀ W, Gro R w W → Ls W b vs ps) :
    Calls Tryz.prog 113 #[.pointer (some ⟨P, 0, none⟩), .slice (some ⟨b, 0, none⟩) n n] w fun e w' => e = .returned (.tuple #[]) ∧ (∃ A' cap', Wr w' P A' cap' (wrB bs f ps.flatten) (wrF bs f ps.flatten) ∧ Frm (.slice A bs.length cap) w.heap.size (.slice A' (wrB bs f ps.flatten).length cap')) ∧ Gro R w w' := by
  unfold wrB wrF
  by_cases hf : f = 0
  · subst hf
    rw [if_pos rfl, if_pos rfl]
    by_cases h : bs.length + ps.flatten.length ≤ 4194304
    · rw [if_pos h, if_pos h]
      exact lay_ok P A cap bs b vs ps n hn hn2 h w R hR hw hS
    · rw [if_neg h, if_neg h]
      refine (lay_long P A cap bs b vs ps n hn hn2 h hT hB w hw (hS w (Gro.refl _ _))).mono ?_
      rintro e w' ⟨rfl, h1, h2⟩
      exact ⟨rfl, ⟨none, 0, h1, fun g e => by simp [Value.ownBlock] at e⟩, h2.mono (fun g e => by rw [hR]; exact .inl e)⟩
  · rw [if_neg hf, if_neg hf]
    refine (lay_no P _ _ f hf w hw.1).mono ?_
    rintro e w' ⟨rfl, rfl⟩
    exact ⟨rfl, ⟨A, cap, hw, Frm.refl _ _⟩, Gro.refl _ _⟩

set_option maxRecDepth 100000 in
set_option maxHeartbeats 4000000 in
theorem wide_any (P : Nat) (A : Option Addr) (cap : Nat) (bs : List (BitVec 8)) (f : Int) (m0 m1 m2 m3 : Nat) (ha : m0 < 18446744073709551616) (hb : m1 < 18446744073709551616) (hc : m2 < 18446744073709551616) (hd : m3 < 18446744073709551616) (k : Nat) (hk : k = nb m0 m1 m2 m3) (hT : bs.length ≤ 4194304) (w : World) (R : Nat → Prop) (hR : R = fun g => g = P ∨ (Value.slice A bs.length cap).ownBlock = some g)
    (hw : Wr w P A cap bs f) :
    Calls Tryz.prog 85 #[.pointer (some ⟨P, 0, none⟩), .agg (q4 m0 m1 m2 m3).toArray] w fun e w' => e = .returned (.tuple #[]) ∧ (∃ A' cap', Wr w' P A' cap' (wrB bs f (fm [m0, m1, m2, m3] k)) (wrF bs f (fm [m0, m1, m2, m3] k)) ∧ Frm (.slice A bs.length cap) w.heap.size (.slice A' (wrB bs f (fm [m0, m1, m2, m3] k)).length cap')) ∧ Gro R w w' := by
  have hk32 : k ≤ 32 := by rw [hk]; exact nb_le m0 m1 m2 m3
  have HF : Hid (∀ w, _) := fun w => formOf_any m0 m1 m2 m3 ha hb hc hd k hk w
  have HT : Hid (bs.length ≤ 4194304) := hT
  have HR : Hid (R = fun g => g = P ∨ (Value.slice A bs.length cap).ownBlock = some g) := hR
  clear hk ha hb hc hd hT hR
  have b0 : Below w.heap.size w (w.alloc (Obj.cells (q4 m0 m1 m2 m3).toArray 43)) := (Below.refl _ _).alloc (Nat.le_refl _) _
  have r0 : Row (w.alloc (Obj.cells (q4 m0 m1 m2 m3).toArray 43)) w.heap.size (q4 m0 m1 m2 m3) 43 := Row.new' rfl rfl
  replace hw := hw.be b0
  go_enter Tryz.func85, Tryz.ntmps85
  go_wp2_with (refine wpList_load_w rfl 43 (.tmp 3) rfl w.heap.size 0 rfl (q4 m0 m1 m2 m3) _ r0.all Tryz.underlying43 rfl info_q ?_; simp only [Act.put, List.setIfInBounds_toArray, List.set_cons_zero, List.set_cons_succ])
  refine (HF.out _).mono ?_
  rintro e V ⟨rfl, hB⟩
  replace b0 := b0.trans (hB.mono b0.size)
  replace hw := hw.be hB
  clear hB r0
  generalize hcs : vB (fl [m0, m1, m2, m3] k k) = cs
  have hcl : cs.length = 33 := by rw [← hcs, vB_length, fl_len]
  have hone : cs.toArray.all (·.oneCell') = true := by rw [← hcs]; exact all_oneCell_toArray (vB_one _)
  have hi' : (Tryz.prog.info? 156).map (·.size) = some cs.toArray.size := by rw [info_f, List.size_toArray, hcl]
  have n0 : Row (V.alloc (Obj.cells z33.toArray 156)) V.heap.size z33 156 := Row.new' rfl rfl
  have T0 := n0.there 0 cs.toArray.size (by rw [List.size_toArray, hcl]; decide)
  replace n0 := n0.over (vs := cs) (by rw [hcl]; rfl)
  have hB : Below V.heap.size V ((V.alloc (Obj.cells z33.toArray 156)).setCells V.heap.size 0 cs) := below_setCells ((Below.refl _ _).alloc (Nat.le_refl _) (Obj.cells z33.toArray 156)) (b := V.heap.size) (o := 0) (Nat.le_refl _) cs
  replace b0 := b0.trans (hB.mono b0.size)
  replace hw := hw.be hB
  have HCS : Hid (vB (fl [m0, m1, m2, m3] k k) = cs) := hcs
  clear hB hcs
  have HI' : Hid _ := hi'
  have HO : Hid _ := hone
  clear hi' hone hcl
  go_wp2_with (first
    | (refine wpList_slice_arr rfl 156 5 33 (.tmp 4) (.tmp 12) N4 0 (k + 1) _ (by omega) (by omega) rfl rfl rfl Tryz.underlying156 info_u8 ?_; simp only [Act.put, List.setIfInBounds_toArray, List.set_cons_zero, List.set_cons_succ])
    | (refine wpList_store_mid rfl 156 (.tmp 4) (.tmp 9) rfl V.heap.size 0 cs.toArray rfl rfl T0 HI'.out HO.out ?_; simp only [Act.put]; clear T0; (change wpList _ _ _ _ _ ((V.alloc (Obj.cells z33.toArray 156)).setCells V.heap.size 0 cs)); (generalize ((V.alloc (Obj.cells z33.toArray 156)).setCells V.heap.size 0 cs) = X at *); (generalize hN : V.heap.size = N4 at *; clear hN)))
  rw [← HCS.out] at n0
  have b1 : Below X.heap.size X (X.alloc (Obj.cells #[Value.slice (some ⟨N4, 0, none⟩) (k + 1) 33] 44)) := (Below.refl _ _).alloc (Nat.le_refl _) _
  have rb : Row (X.alloc (Obj.cells #[Value.slice (some ⟨N4, 0, none⟩) (k + 1) 33] 44)) X.heap.size [.slice (some ⟨N4, 0, none⟩) (k + 1) 33] 44 := Row.new' rfl rfl
  replace hw := hw.be b1
  replace n0 := Row.below n0 b1 n0.lt
  replace b0 := b0.trans (b1.mono b0.size)
  clear b1
  generalize X.alloc (Obj.cells #[Value.slice (some ⟨N4, 0, none⟩) (k + 1) 33] 44) = Y at *
  generalize X.heap.size = NX at *
  refine (lay_any P A cap bs f NX [.slice (some ⟨N4, 0, none⟩) (k + 1) 33] [fm [m0, m1, m2, m3] k] 1 rfl (by decide) (by simp [fm_len]; omega) HT.out Y R HR.out hw (fun W hGW => ⟨hGW.row rb ?_, rfl, fun i hi => ?_⟩)).mono ?_
  · rw [HR.out]
    rintro (e | e)
    · exact row_ne rb hw.1 (by decide) e
    · exact Bw.ne hw.2 rb (by decide) _ e rfl
  · obtain rfl : i = 0 := by simp at hi; omega
    have rW := hGW.row n0 (by
      rw [HR.out]
      rintro (e | e)
      · exact row_ne n0 hw.1 (by decide) e
      · exact Bw.ne hw.2 n0 (by decide) _ e rfl)
    exact ⟨sl_form hk32 rW, fun A n c e => by simp only [List.getD_cons_zero, Value.slice.injEq] at e; intro e0; rw [e0] at e; simp at e⟩
  rintro e Z ⟨rfl, ⟨A', cap', hw', hf'⟩, hG⟩
  rw [show [fm [m0, m1, m2, m3] k].flatten = fm [m0, m1, m2, m3] k by simp] at hw' hf'
  have HW' : Hid _ := hw'
  have HF' : Hid _ := hf'
  have HG : Hid (Gro R w Z) := (Gro.of_below b0).trans hG
  have HS : Hid (w.heap.size ≤ Y.heap.size) := b0.size
  clear hw' hf' hG hw n0 rb b0
  go_wp2_with fail
  go_end0
  exact ⟨rfl, ⟨A', cap', HW'.out, fun g e => by rcases HF'.out g e with q | q; exact .inl q; exact .inr (Nat.le_trans HS.out q)⟩, HG.out⟩

set_option maxRecDepth 100000 in
set_option maxHeartbeats 1000000 in
theorem number_in (P : Nat) (A : Option Addr) (cap : Nat) (bs : List (BitVec 8)) (f : Int) (n : Nat) (hn : n < 9223372036854775808) (k : Nat) (hk : k = nb n 0 0 0) (hT : bs.length ≤ 4194304) (w : World) (R : Nat → Prop) (hR : R = fun g => g = P ∨ (Value.slice A bs.length cap).ownBlock = some g)
    (hw : Wr w P A cap bs f) :
    Calls Tryz.prog 71 #[.pointer (some ⟨P, 0, none⟩), .int .i64 (n : Int)] w fun e w' => e = .returned (.tuple #[]) ∧ (∃ A' cap', Wr w' P A' cap' (wrB bs f (fm [n, 0, 0, 0] k)) (wrF bs f (fm [n, 0, 0, 0] k)) ∧ Frm (.slice A bs.length cap) w.heap.size (.slice A' (wrB bs f (fm [n, 0, 0, 0] k)).length cap')) ∧ Gro R w w' := by
  have HC : Hid _ := wide_any P A cap bs f n 0 0 0 (by omega) (by omega) (by omega) (by omega) k hk hT w R hR hw
  have h0 : ¬ (n : Int) < 0 := by omega
  clear hw hR hT hk
  go_enter Tryz.func71, Tryz.ntmps71
  go_wp2_with fail
  refine Calls.mono HC.out ?_
  rintro e w' ⟨rfl, h1, h2⟩
  have H1 : Hid _ := h1
  have H2 : Hid _ := h2
  clear h1 h2
  go_wp2_with fail
  go_end0
  exact ⟨rfl, H1.out, H2.out⟩


/-- What a writer has laid behind a number more; its fault. -/
def nuB (bs : List (BitVec 8)) (f n : Int) : List (BitVec 8) := if f = 0 then (if n < 0 then [] else wrB bs f (fm [n.toNat, 0, 0, 0] (nb n.toNat 0 0 0))) else bs
def nuF (bs : List (BitVec 8)) (f n : Int) : Int := if f = 0 then (if n < 0 then 32 else wrF bs f (fm [n.toNat, 0, 0, 0] (nb n.toNat 0 0 0))) else f
set_option maxRecDepth 100000 in
set_option maxHeartbeats 1000000 in
theorem number_neg (P : Nat) (A : Option Addr) (cap : Nat) (bs : List (BitVec 8)) (f n : Int) (hn : n < 0) (w : World) (hw : Wr w P A cap bs f) :
    Calls Tryz.prog 71 #[.pointer (some ⟨P, 0, none⟩), .int .i64 n] w fun e w' => e = .returned (.tuple #[]) ∧ (∃ A' cap', Wr w' P A' cap' (nuB bs f n) (nuF bs f n) ∧ Frm (.slice A bs.length cap) w.heap.size (.slice A' (nuB bs f n).length cap')) ∧ Gro (fun g => g = P) w w' := by
  have HC : Hid (Calls Tryz.prog 116 #[.pointer (some ⟨P, 0, none⟩), .int .i64 32] w fun e w' => e = .returned (.tuple #[]) ∧ (∃ A' cap', Wr w' P A' cap' (nuB bs f n) (nuF bs f n) ∧ Frm (.slice A bs.length cap) w.heap.size (.slice A' (nuB bs f n).length cap')) ∧ Gro (fun g => g = P) w w') := by
    unfold nuB nuF
    by_cases hf : f = 0
    · subst hf
      rw [if_pos rfl, if_pos rfl, if_pos hn, if_pos hn]
      refine (fail_open P _ 32 w hw.1).mono ?_
      rintro e w' ⟨rfl, h1, h2⟩
      exact ⟨rfl, ⟨none, 0, h1, fun g e => by simp [Value.ownBlock] at e⟩, h2⟩
    · rw [if_neg hf, if_neg hf]
      refine (fail_shut P _ 32 f hf w hw.1).mono ?_
      rintro e w' ⟨rfl, rfl⟩
      exact ⟨rfl, ⟨A, cap, hw, Frm.refl _ _⟩, Gro.refl _ _⟩
  clear hw
  go_enter Tryz.func71, Tryz.ntmps71
  go_wp2_with fail
  refine Calls.mono HC.out ?_
  rintro e w' ⟨rfl, h1, h2⟩
  have H1 : Hid _ := h1
  have H2 : Hid _ := h2
  clear h1 h2
  go_wp2_with fail
  first | go_end0 | refine bodyPost_ret (results_none rfl _ _ _) rfl ?_
  exact ⟨rfl, H1.out, H2.out⟩
theorem number_any (P : Nat) (A : Option Addr) (cap : Nat) (bs : List (BitVec 8)) (f n : Int) (hn : n < 9223372036854775808) (hT : bs.length ≤ 4194304) (w : World) (R : Nat → Prop) (hR : R = fun g => g = P ∨ (Value.slice A bs.length cap).ownBlock = some g) (hw : Wr w P A cap bs f) :
    Calls Tryz.prog 71 #[.pointer (some ⟨P, 0, none⟩), .int .i64 n] w fun e w' => e = .returned (.tuple #[]) ∧ (∃ A' cap', Wr w' P A' cap' (nuB bs f n) (nuF bs f n) ∧ Frm (.slice A bs.length cap) w.heap.size (.slice A' (nuB bs f n).length cap')) ∧ Gro R w w' := by
  by_cases h : n < 0
  · refine (number_neg P A cap bs f n h w hw).mono ?_
    rintro e w' ⟨rfl, h1, h2⟩
    exact ⟨rfl, h1, h2.mono (fun g e => by rw [hR]; exact .inl e)⟩
  · obtain ⟨m, rfl⟩ : ∃ m : Nat, n = (m : Int) := ⟨n.toNat, by omega⟩
    have e1 : nuB bs f (m : Int) = wrB bs f (fm [m, 0, 0, 0] (nb m 0 0 0)) := by
      unfold nuB
      by_cases hf : f = 0
      · rw [if_pos hf, if_neg h, Int.toNat_natCast]
      · rw [if_neg hf]; unfold wrB; rw [if_neg hf]
    have e2 : nuF bs f (m : Int) = wrF bs f (fm [m, 0, 0, 0] (nb m 0 0 0)) := by
      unfold nuF
      by_cases hf : f = 0
      · rw [if_pos hf, if_neg h, Int.toNat_natCast]
      · rw [if_neg hf]; unfold wrF; rw [if_neg hf]
    rw [e1, e2]
    exact number_in P A cap bs f m (by omega) _ rfl hT w R hR hw

end Go.Proofs.YtknabkoddickaaaGreatDoor

namespace Go.Proofs.YtknabkoddickaaaGreatDoor
open Go Go.RowKit
open Sha

/-- What a writer may change. -/
abbrev Rw (P : Nat) (A : Option Addr) (cap : Nat) (bs : List (BitVec 8)) : Nat → Prop := fun g => g = P ∨ (Value.slice A bs.length cap).ownBlock = some g
/-- A writer behind one value more. -/
def Beh (w w' : World) (P : Nat) (A : Option Addr) (cap : Nat) (bs : List (BitVec 8)) (f : Int) (d : List (BitVec 8)) : Prop :=
  (∃ A' cap', Wr w' P A' cap' (wrB bs f d) (wrF bs f d) ∧ Frm (.slice A bs.length cap) w.heap.size (.slice A' (wrB bs f d).length cap')) ∧ Gro (Rw P A cap bs) w w'
theorem Beh.after {w w1 w' : World} {P : Nat} {A : Option Addr} {cap : Nat} {bs d : List (BitVec 8)} {f : Int} (k : Below w.heap.size w w1) (h : Beh w1 w' P A cap bs f d) : Beh w w' P A cap bs f d := by
  obtain ⟨⟨A', cap', h1, h2⟩, h3⟩ := h
  exact ⟨⟨A', cap', h1, fun g e => by rcases h2 g e with q | q; exact .inl q; exact .inr (Nat.le_trans k.size q)⟩, (Gro.of_below k).trans h3⟩
/-- A block that is no writer's. -/
theorem Wr.not {w : World} {P : Nat} {A : Option Addr} {cap : Nat} {bs : List (BitVec 8)} {f : Int} (h : Wr w P A cap bs f) {b : Nat} {cs : List Value} {t : TypeId} (r : Row w b cs t) (h1 : t ≠ 165) (h2 : t ≠ 5) : ¬ Rw P A cap bs b := by
  rintro (e | e)
  · exact row_ne r h.1 h1 e
  · exact Bw.ne h.2 r h2 _ e rfl
theorem one_lays (P : Nat) (A : Option Addr) (cap : Nat) (bs : List (BitVec 8)) (f : Int) (b : Nat) (v : Value) (d : List (BitVec 8)) (hd : d.length ≤ 1099511627776) (hB : bs.length ≤ 4194304) (w : World) (hw : Wr w P A cap bs f) (rb : Row w b [v] 44) (hv : ∀ W, Gro (Rw P A cap bs) w W → SlAt W v d) (hnl : Nl v) :
    Calls Tryz.prog 113 #[.pointer (some ⟨P, 0, none⟩), .slice (some ⟨b, 0, none⟩) 1 1] w fun e w' => e = .returned (.tuple #[]) ∧ Beh w w' P A cap bs f d := by
  have e1 : [d].flatten = d := by simp
  refine (lay_any P A cap bs f b [v] [d] 1 rfl (by decide) (by rw [e1]; exact hd) hB w (Rw P A cap bs) rfl hw (fun W hG => ⟨hG.row rb (hw.not rb (by decide) (by decide)), rfl, fun i hi => ?_⟩)).mono ?_
  · obtain rfl : i = 0 := by simp at hi; omega
    exact ⟨hv W hG, hnl⟩
  · rintro e w' ⟨rfl, h1, h2⟩
    rw [e1] at h1
    exact ⟨rfl, h1, h2⟩
theorem nl_some (g o n c : Nat) : Nl (.slice (some ⟨g, o, none⟩) n c) := fun A _ _ e h => by
  simp only [Value.slice.injEq] at e
  rw [h] at e
  cases e.1
theorem sl_row {w : World} {g : Nat} {d : List (BitVec 8)} {t : TypeId} (r : Row w g (vB d) t) : SlAt w (.slice (some ⟨g, 0, none⟩) d.length d.length) d := .inr ⟨g, 0, d.length, rfl, Nat.le_refl _, r.all⟩

set_option maxRecDepth 100000 in
set_option maxHeartbeats 1000000 in
theorem byte_any (P : Nat) (A : Option Addr) (cap : Nat) (bs : List (BitVec 8)) (f : Int) (hB : bs.length ≤ 4194304) (x : BitVec 8) (y : Int) (hy : y = c x) (w : World) (hw : Wr w P A cap bs f) :
    Calls Tryz.prog 99 #[.pointer (some ⟨P, 0, none⟩), .int .u8 y] w fun e w' => e = .returned (.tuple #[]) ∧ Beh w w' P A cap bs f [x] := by
  have b1 : Below w.heap.size w (w.alloc (Obj.cells #[.int .u8 y] 5)) := (Below.refl _ _).alloc (Nat.le_refl _) _
  have b2 := b1.alloc b1.size (Obj.cells #[.slice (some ⟨w.heap.size, 0, none⟩) 1 1] 44)
  have r1 : Row ((w.alloc (Obj.cells #[.int .u8 y] 5)).alloc (Obj.cells #[.slice (some ⟨w.heap.size, 0, none⟩) 1 1] 44)) w.heap.size [.int .u8 y] 5 := (Row.new' rfl rfl).alloc _
  have r2 : Row ((w.alloc (Obj.cells #[.int .u8 y] 5)).alloc (Obj.cells #[.slice (some ⟨w.heap.size, 0, none⟩) 1 1] 44)) (w.heap.size + 1) [.slice (some ⟨w.heap.size, 0, none⟩) 1 1] 44 := Row.new' (by simp) rfl
  have hno : ¬ Rw P A cap bs w.heap.size := by
    rintro (e | e)
    · have := hw.1.lt; omega
    · have := Bw.lt hw.2 _ e; omega
  have HC : Hid _ := one_lays P A cap bs f (w.heap.size + 1) (.slice (some ⟨w.heap.size, 0, none⟩) 1 1) [x] (by simp) hB _ (hw.be b2) r2 (fun W hG => by
    have := hG.row r1 hno
    rw [hy] at this
    exact sl_row (d := [x]) this) (nl_some _ _ _ _)
  have HB : Hid _ := b2
  clear b1 b2 r1 r2 hno hw hy
  go_enter Tryz.func99, Tryz.ntmps99
  go_wp2_with fail
  refine Calls.mono HC.out ?_
  rintro e w' ⟨rfl, h1⟩
  have H1 : Hid _ := h1.after HB.out
  clear h1
  go_wp2_with fail
  go_end0
  exact ⟨rfl, H1.out⟩

section
variable {P : Program} {ops : Array Oper} {rest : List Oper} {op : Oper} {a : Act} {w : World} {Q : Exit → Act → World → Prop}
theorem wpList_slice_all (hw : Region.wanted op (yielded ops a.tmps) = true) (t e : TypeId) (n : Nat) (x : Operand) (b f : Nat) (ho : op.op = .slice t x none none none) (hx : a.eval x = .pointer (some ⟨b, f, none⟩))
    (hu : P.underlying t = some (.array n e)) (hs : (P.info? e).map (·.size) = some 1) (h : wpList P ops Q rest (a.put op.dst (.slice (some ⟨b, f, none⟩) n n)) w) : wpList P ops Q (op :: rest) a w :=
  BigFrame.wpList_want hw fun K hK => by
    cases hq : P.info? e with
    | none => simp [hq] at hs
    | some i =>
      have h1 : i.size = 1 := by simpa [hq] using hs
      have hr : (Instr.sliceAt t (.pointer (some ⟨b, f, none⟩)) none none none).run P w = .ok (.slice (some ⟨b, f, none⟩) n n) w := by
        simp [Instr.sliceAt, Instr.sureAddr, run_underlying hu, Instr.sliceBounds, sizeOf, typeInfo, hq, Addr.add_mid]
      unfold Oper.wp execOp
      simp only [ho, hx, Option.map_none, Sem.run_bind, hr, Result.andThen_ok, Sem.run_pure, Oper.upon_value]
      exact hK _ _ h
end

set_option maxRecDepth 100000 in
set_option maxHeartbeats 1000000 in
theorem address_lays (P : Nat) (A : Option Addr) (cap : Nat) (bs : List (BitVec 8)) (f : Int) (hB : bs.length ≤ 4194304) (d : List (BitVec 8)) (hd : d.length = 20) (w : World) (hw : Wr w P A cap bs f) :
    Calls Tryz.prog 64 #[.pointer (some ⟨P, 0, none⟩), .agg (vB d).toArray] w fun e w' => e = .returned (.tuple #[]) ∧ Beh w w' P A cap bs f d := by
  have b1 : Below w.heap.size w (w.alloc (Obj.cells (vB d).toArray 40)) := (Below.refl _ _).alloc (Nat.le_refl _) _
  have b2 := b1.alloc b1.size (Obj.cells #[.slice (some ⟨w.heap.size, 0, none⟩) 20 20] 44)
  have r1 : Row ((w.alloc (Obj.cells (vB d).toArray 40)).alloc (Obj.cells #[.slice (some ⟨w.heap.size, 0, none⟩) 20 20] 44)) w.heap.size (vB d) 40 := (Row.new' rfl rfl).alloc _
  have r2 : Row ((w.alloc (Obj.cells (vB d).toArray 40)).alloc (Obj.cells #[.slice (some ⟨w.heap.size, 0, none⟩) 20 20] 44)) (w.heap.size + 1) [.slice (some ⟨w.heap.size, 0, none⟩) 20 20] 44 := Row.new' (by simp) rfl
  have HC : Hid _ := one_lays P A cap bs f (w.heap.size + 1) (.slice (some ⟨w.heap.size, 0, none⟩) 20 20) d (by omega) hB _ (hw.be b2) r2 (fun W hG => by
    have q := sl_row (hG.row r1 ((hw.be b2).not r1 (by decide) (by decide)))
    rw [hd] at q
    exact q) (nl_some _ _ _ _)
  have HB : Hid _ := b2
  clear b1 b2 r1 r2 hw
  go_enter Tryz.func64, Tryz.ntmps64
  go_wp2_with (refine wpList_slice_all rfl 40 5 20 (.tmp 3) w.heap.size 0 rfl rfl Tryz.underlying40 info_u8 ?_; simp only [Act.put, List.setIfInBounds_toArray, List.set_cons_zero, List.set_cons_succ])
  refine Calls.mono HC.out ?_
  rintro e w' ⟨rfl, h1⟩
  have H1 : Hid _ := h1.after HB.out
  clear h1
  go_wp2_with fail
  go_end0
  exact ⟨rfl, H1.out⟩

set_option maxRecDepth 100000 in
set_option maxHeartbeats 4000000 in
theorem bytes_lays (P : Nat) (A : Option Addr) (cap : Nat) (bs : List (BitVec 8)) (f : Int) (hB : bs.length ≤ 4194304) (d : List (BitVec 8)) (n : Nat) (hd : d.length = n) (hn : n ≤ 140737488351232) (B : Option Addr) (cb : Nat) (hnil : B = none → cb = 0) (k : Nat) (hk : k = nb n 0 0 0) (w : World) (hw : Wr w P A cap bs f) (hv : ∀ W, Gro (Rw P A cap bs) w W → SlAt W (.slice B n cb) d) (hlong : n + 33 ≤ 1099511627776) :
    Calls Tryz.prog 95 #[.pointer (some ⟨P, 0, none⟩), .slice B n cb] w fun e w' => e = .returned (.tuple #[]) ∧ Beh w w' P A cap bs f (fm [n, 0, 0, 0] k ++ d) := by
  have hk32 : k ≤ 32 := by rw [hk]; exact nb_le n 0 0 0
  have HF : Hid (∀ w, _) := fun w => formOf_any n 0 0 0 (by omega) (by omega) (by omega) (by omega) k hk w
  have HW : Hid (Wr w P A cap bs f) := hw
  have HV : Hid (∀ W, Gro (Rw P A cap bs) w W → SlAt W (.slice B n cb) d) := hv
  have HB : Hid (bs.length ≤ 4194304) := hB
  have HD : Hid (d.length = n) := hd
  have HNIL : Hid (B = none → cb = 0) := hnil
  clear hk hw hv hB hd hnil
  go_enter Tryz.func95, Tryz.ntmps95
  go_wp2_with fail
  refine (HF.out w).mono ?_
  rintro e V ⟨rfl, hB1⟩
  have b0 : Below w.heap.size w V := hB1
  have hw := HW.out.be hB1
  clear hB1
  generalize hcs : vB (fl [n, 0, 0, 0] k k) = cs
  have hcl : cs.length = 33 := by rw [← hcs, vB_length, fl_len]
  have hone : cs.toArray.all (·.oneCell') = true := by rw [← hcs]; exact all_oneCell_toArray (vB_one _)
  have hi' : (Tryz.prog.info? 156).map (·.size) = some cs.toArray.size := by rw [info_f, List.size_toArray, hcl]
  have n0 : Row (V.alloc (Obj.cells z33.toArray 156)) V.heap.size z33 156 := Row.new' rfl rfl
  have T0 := n0.there 0 cs.toArray.size (by rw [List.size_toArray, hcl]; decide)
  replace n0 := n0.over (vs := cs) (by rw [hcl]; rfl)
  have hB : Below V.heap.size V ((V.alloc (Obj.cells z33.toArray 156)).setCells V.heap.size 0 cs) := below_setCells ((Below.refl _ _).alloc (Nat.le_refl _) (Obj.cells z33.toArray 156)) (b := V.heap.size) (o := 0) (Nat.le_refl _) cs
  replace b0 := b0.trans (hB.mono b0.size)
  replace hw := hw.be hB
  have HCS : Hid (vB (fl [n, 0, 0, 0] k k) = cs) := hcs
  clear hB hcs
  have HI' : Hid _ := hi'
  have HO : Hid _ := hone
  clear hi' hone hcl
  go_wp2_with (first
    | (refine wpList_slice_arr rfl 156 5 33 (.tmp 4) (.tmp 15) N4 0 (k + 1) _ (by omega) (by omega) rfl rfl rfl Tryz.underlying156 info_u8 ?_; simp only [Act.put, List.setIfInBounds_toArray, List.set_cons_zero, List.set_cons_succ])
    | (refine wpList_store_mid rfl 156 (.tmp 4) (.tmp 12) rfl V.heap.size 0 cs.toArray rfl rfl T0 HI'.out HO.out ?_; simp only [Act.put]; clear T0; (change wpList _ _ _ _ _ ((V.alloc (Obj.cells z33.toArray 156)).setCells V.heap.size 0 cs)); (generalize ((V.alloc (Obj.cells z33.toArray 156)).setCells V.heap.size 0 cs) = X at *); (generalize hN : V.heap.size = N4 at *; clear hN)))
  rw [← HCS.out] at n0
  have b1 : Below X.heap.size X (X.alloc (Obj.cells #[Value.slice (some ⟨N4, 0, none⟩) (k + 1) 33, Value.slice B n cb] 44)) := (Below.refl _ _).alloc (Nat.le_refl _) _
  have rb : Row (X.alloc (Obj.cells #[Value.slice (some ⟨N4, 0, none⟩) (k + 1) 33, Value.slice B n cb] 44)) X.heap.size [.slice (some ⟨N4, 0, none⟩) (k + 1) 33, .slice B n cb] 44 := Row.new' rfl rfl
  replace hw := hw.be b1
  replace n0 := Row.below n0 b1 n0.lt
  replace b0 := b0.trans (b1.mono b0.size)
  clear b1
  generalize X.alloc (Obj.cells #[Value.slice (some ⟨N4, 0, none⟩) (k + 1) 33, Value.slice B n cb] 44) = Y at *
  generalize X.heap.size = NX at *
  have e1 : [fm [n, 0, 0, 0] k, d].flatten = fm [n, 0, 0, 0] k ++ d := by simp
  refine (lay_any P A cap bs f NX [.slice (some ⟨N4, 0, none⟩) (k + 1) 33, .slice B n cb] [fm [n, 0, 0, 0] k, d] 2 rfl (by decide) (by rw [e1, List.length_append, fm_len, HD.out]; omega) HB.out Y (Rw P A cap bs) rfl hw (fun W hGW => ⟨hGW.row rb (hw.not rb (by decide) (by decide)), rfl, fun i hi => ?_⟩)).mono ?_
  · rcases (show i = 0 ∨ i = 1 by simp at hi; omega) with rfl | rfl
    · exact ⟨sl_form hk32 (hGW.row n0 (hw.not n0 (by decide) (by decide))), nl_some _ _ _ _⟩
    · exact ⟨HV.out W ((Gro.of_below b0).trans hGW), fun A' n' c' e h => by
        simp only [List.getD_cons_succ, List.getD_cons_zero, Value.slice.injEq] at e
        rw [← e.2.2]; exact HNIL.out (e.1.trans h)⟩
  rintro e Z ⟨rfl, h1, h2⟩
  rw [e1] at h1
  have H1 : Hid _ := Beh.after b0 (show Beh Y Z P A cap bs f (fm [n, 0, 0, 0] k ++ d) from ⟨h1, h2⟩)
  clear h1 h2 hw n0 rb b0 e1
  go_wp2_with fail
  go_end0
  exact ⟨rfl, H1.out⟩

end Go.Proofs.YtknabkoddickaaaGreatDoor
