/-
  wire.Writer: Wide, Number, Done.
-/
import Derived.Test.YtfommclhnfcioaaXForm

namespace Go.Proofs.Ytfommclhnfcioaa
open Go Go.RowKit
open Sha

theorem info_w2 : (Try.prog.info? 119).map (·.size) = some 2 := by kernel_rfl
theorem info_slb : (Try.prog.info? 26).map (·.size) = some 1 := by kernel_rfl
/-- A writer that has laid bytes. -/
def Wr (w : World) (P : Nat) (A : Option Addr) (cap : Nat) (bs : List (BitVec 8)) (f : Int) : Prop := Row w P [.slice A bs.length cap, .int .i64 f] 119 ∧ Bw w (.slice A bs.length cap) bs
def Nl (v : Value) : Prop := ∀ A n c, v = .slice A n c → A = none → c = 0
/-- The parts of one value. -/
def Ls (w : World) (b : Nat) (vs : List Value) (ps : List (List (BitVec 8))) : Prop := Row w b vs 26 ∧ vs.length = ps.length ∧ ∀ i, i < ps.length → SlAt w (vs.getD i undef) (ps.getD i []) ∧ Nl (vs.getD i undef)
theorem Ls.at {w : World} {b : Nat} {vs : List Value} {ps : List (List (BitVec 8))} (h : Ls w b vs ps) (i : Nat) (hi : i < ps.length) : ∃ A c, w.cell? ⟨b, i, none⟩ = some (.slice A (ps.getD i []).length c) ∧ SlAt w (.slice A (ps.getD i []).length c) (ps.getD i []) ∧ (A = none → c = 0) := by
  obtain ⟨h1, h2, h3⟩ := h
  obtain ⟨h4, h5⟩ := h3 i hi
  have hc := h1.cell i (vs.getD i undef) (by rw [List.getD_eq_getElem?_getD, List.getElem?_eq_getElem (by omega)]; rfl)
  obtain ⟨A, c, e⟩ : ∃ A c, vs.getD i undef = .slice A (ps.getD i []).length c := by
    rcases h4 with ⟨q1, A, c, q2⟩ | ⟨b', o', c, q2, _⟩
    · exact ⟨A, c, by rw [q2, q1]; rfl⟩
    · exact ⟨_, c, q2⟩
  rw [e] at hc h4
  exact ⟨A, c, hc, h4, h5 A _ c e⟩
/-- In the list's own block, or in a new one. -/
def Frm (a : Value) (N : Nat) (v : Value) : Prop := ∀ g, v.ownBlock = some g → a.ownBlock = some g ∨ N ≤ g
theorem Frm.refl (a : Value) (N : Nat) : Frm a N a := fun _ e => .inl e
/-- How many bytes the first have. -/
def sums (ps : List (List (BitVec 8))) (t : Nat) : Nat := (ps.take t).flatten.length
theorem sums_succ (ps : List (List (BitVec 8))) (t : Nat) (h : t < ps.length) : sums ps (t + 1) = sums ps t + (ps.getD t []).length := by
  unfold sums
  rw [List.take_succ_eq_append_getElem h, List.flatten_append, List.length_append]
  simp [h]
theorem flat_succ (ps : List (List (BitVec 8))) (t : Nat) (h : t < ps.length) : (ps.take (t + 1)).flatten = (ps.take t).flatten ++ ps.getD t [] := by
  rw [List.take_succ_eq_append_getElem h, List.flatten_append]
  simp [h]
theorem sums_le (ps : List (List (BitVec 8))) (t : Nat) : sums ps t ≤ ps.flatten.length := by
  unfold sums
  have e : ps.flatten = (ps.take t).flatten ++ (ps.drop t).flatten := by rw [← List.flatten_append, List.take_append_drop]
  rw [e, List.length_append]; omega

set_option maxRecDepth 100000 in
theorem newWriter_any (w : World) :
    Calls Try.prog 35 #[] w fun e w' => e = .returned (.pointer (some ⟨w.heap.size, 0, none⟩)) ∧ Wr w' w.heap.size none 0 [] 0 ∧ Below w.heap.size w w' := by
  go_enter Try.func35, Try.ntmps35
  go_wp2
  go_ret
  exact ⟨rfl, ⟨Row.new' rfl rfl, Bw.nil _⟩, (Below.refl _ _).alloc (Nat.le_refl _) _⟩

set_option maxRecDepth 100000 in
theorem open_ok (P : Nat) (v : Value) (w : World) (h : Row w P [v, .int .i64 0] 119) :
    Calls Try.prog 94 #[.pointer (some ⟨P, 0, none⟩)] w fun e w' => e = .returned (.bool true) ∧ w' = w := by
  have g1 := h.cell 1 _ rfl
  clear h
  go_enter Try.func94, Try.ntmps94
  go_wp2
  go_ret
  exact ⟨rfl, rfl⟩

set_option maxRecDepth 100000 in
set_option maxHeartbeats 4000000 in
theorem lay_ok (P : Nat) (A : Option Addr) (cap : Nat) (bs : List (BitVec 8)) (b : Nat) (vs : List Value) (ps : List (List (BitVec 8))) (n : Nat) (hn : ps.length = n) (hn2 : n ≤ 1000000) (hT : bs.length + ps.flatten.length ≤ 4194304) (w : World) (R : Nat → Prop) (hR : R = fun g => g = P ∨ (Value.slice A bs.length cap).ownBlock = some g)
    (hw : Wr w P A cap bs 0) (hS : ∀ W, Gro R w W → Ls W b vs ps) :
    Calls Try.prog 73 #[.pointer (some ⟨P, 0, none⟩), .slice (some ⟨b, 0, none⟩) n n] w fun e w' => e = .returned (.tuple #[]) ∧ (∃ A' cap', Wr w' P A' cap' (bs ++ ps.flatten) 0 ∧ ∀ g, (Value.slice A' (bs ++ ps.flatten).length cap').ownBlock = some g → (Value.slice A bs.length cap).ownBlock = some g ∨ w.heap.size ≤ g) ∧ Gro R w w' := by
  have HO : Hid (∀ v w, Row w P [v, .int .i64 0] 119 → _) := fun v w h => open_ok P v w h
  have HS : Hid (∀ W, _ → _) := hS
  have HN : Hid (ps.length = n) := hn
  have HT : Hid (bs.length + ps.flatten.length ≤ 4194304) := hT
  have RP : Hid (R P) := by rw [hR]; exact .inl rfl
  have RV : Hid (∀ g, (Value.slice A bs.length cap).ownBlock = some g → R g) := fun g e => by rw [hR]; exact .inr e
  clear hS hn hR
  obtain ⟨L, hL⟩ : ∃ L, L = bs.length := ⟨_, rfl⟩
  obtain ⟨T, hTT⟩ : ∃ T, T = ps.flatten.length := ⟨_, rfl⟩
  have hLT : L + T ≤ 4194304 := by rw [hL, hTT]; exact hT
  clear hT
  have g0 := hw.1.cell 0 _ rfl
  have HW : Hid (Wr w P A cap bs 0) := hw
  have WV : Hid (∀ g, (Value.slice A bs.length cap).ownBlock = some g → g < w.heap.size) := Bw.lt hw.2
  clear hw
  rw [← hL] at g0
  have HL : Hid (L = bs.length) := hL
  have HTT : Hid (T = ps.flatten.length) := hTT
  clear hL hTT
  go_enter Try.func73, Try.ntmps73
  go_wp2_with (refine (HO.out _ _ HW.out.1).mono ?_; rintro e w2 ⟨rfl, rfl⟩)
  go_loopw [4, 6, 14] (fun s _ i wr => ∃ t : Nat, t ≤ n ∧ i = .int .i64 (t : Int) ∧ s = .int .i64 ((sums ps t : Nat) : Int) ∧ wr = w2) (fun _ _ i _ => n - (intOf i).toNat)
  case atStart => exact ⟨0, Nat.zero_le _, rfl, rfl, rfl⟩
  case round =>
    obtain ⟨t, ht, rfl, rfl, hwr⟩ := hrel
    replace hwr := hwr.symm
    subst hwr
    have hst : sums ps t ≤ T := by rw [HTT.out]; exact sums_le ps t
    by_cases hlt : t < n
    · have hst2 : sums ps (t + 1) ≤ T := by rw [HTT.out]; exact sums_le ps (t + 1)
      rw [sums_succ ps t (by rw [HN.out]; exact hlt)] at hst2
      obtain ⟨Ap, cp, hc, _, _⟩ := Ls.at (HS.out _ (Gro.refl _ _)) t (by rw [HN.out]; exact hlt)
      have E : Hid (sums ps (t + 1) = sums ps t + (ps.getD t []).length) := sums_succ ps t (by rw [HN.out]; exact hlt)
      generalize (ps.getD t []).length = m at *
      generalize hs0 : sums ps t = s0 at *
      clear hs0
      go_wp2
      exact ⟨⟨t + 1, hlt, by go_num, by rw [E.out]; go_num, trivial⟩, by simp [intOf]; omega⟩
    · obtain rfl : t = n := by omega
      have es : sums ps t = T := by rw [HTT.out]; unfold sums; rw [List.take_of_length_le (by rw [HN.out]; exact Nat.le_refl _)]
      rw [es]
      have hno : ¬ (4194304 - (L : Int) < (T : Int)) := by omega
      clear hst es hlt
      go_wp2
      go_loopw [8, 35] (fun _ i wr => ∃ (s : Nat) (A' : Option Addr) (cap' : Nat), s ≤ t ∧ i = .int .i64 (s : Int) ∧ Wr wr P A' cap' (bs ++ (ps.take s).flatten) 0 ∧ Frm (.slice A bs.length cap) w2.heap.size (.slice A' (bs ++ (ps.take s).flatten).length cap') ∧ Gro R w2 wr) (fun _ i _ => t - (intOf i).toNat)
      case atStart => exact ⟨0, A, cap, Nat.zero_le _, rfl, by simpa using HW.out, by simpa using Frm.refl _ _, Gro.refl _ _⟩
      case round =>
        clear g0 HW
        obtain ⟨s, A', cap', hs, rfl, hw, hf, hG⟩ := hrel
        have HWR : Hid _ := hw
        have HF : Hid _ := hf
        have HG : Hid _ := hG
        by_cases hlt : s < t
        · obtain ⟨Ap, cp, hc, hsl, hnil⟩ := Ls.at (HS.out _ hG) s (by rw [HN.out]; exact hlt)
          have hst2 : sums ps (s + 1) ≤ T := by rw [HTT.out]; exact sums_le ps (s + 1)
          rw [sums_succ ps s (by rw [HN.out]; exact hlt)] at hst2
          have g0 := hw.1.cell 0 _ rfl
          have hbw := hw.2
          have rP := hw.1
          have hbound : (bs ++ (ps.take s).flatten).length + (ps.getD s []).length ≤ 140737488355328 := by
            rw [List.length_append, ← HL.out]
            unfold sums at hst2
            omega
          have EF : Hid ((ps.take (s + 1)).flatten = (ps.take s).flatten ++ ps.getD s []) := flat_succ ps s (by rw [HN.out]; exact hlt)
          generalize ps.getD s [] = d at *
          generalize hl : bs ++ (ps.take s).flatten = l at *
          have HBW : Hid _ := hbw
          have HBO : Hid _ := hbound
          have HRP : Hid _ := rP
          have HSL : Hid _ := hsl
          have HNL : Hid _ := hnil
          have HLE : Hid (bs ++ (ps.take s).flatten = l) := hl
          clear hbw hw hf hG hbound hsl hnil rP hst2 hl
          go_wp2_with (refine wpList_app rfl (.tmp 43) (.tmp 44) rfl _ l d rfl HBW.out Ap d.length cp rfl rfl HSL.out HNL.out HBO.out ?_; intro v' w' q1 q2 q3; obtain ⟨Ax, cx, ex, _⟩ := Bw.form q1; subst ex; have rP' := Gro.row (Gro.grown (Gro.refl _ _) q2 (fun g e => .inl e)) HRP.out (fun e => Bw.ne HBW.out HRP.out (by decide) _ e rfl); have gP := Row.cell rP' 0 _ rfl; have fP := Row.thaw rP' 0; have rQ := Row.set rP' 0 (.slice Ax (l ++ d).length cx); have RP' : Hid _ := rP'; clear rP'; have Q1 : Hid _ := q1; have Q2 : Hid _ := q2; have Q3 : Hid _ := q3; have RQ : Hid _ := rQ; clear q1 q2 q3 rQ; simp only [Act.put, List.setIfInBounds_toArray, List.set_cons_zero, List.set_cons_succ])
          have e : bs ++ (ps.take (s + 1)).flatten = l ++ d := by rw [EF.out, ← HLE.out, List.append_assoc]
          refine ⟨⟨s + 1, Ax, cx, hlt, by go_num, ?_, ?_, ?_⟩, by simp [intOf]; omega⟩
          · rw [e, ← List.length_append]
            exact ⟨RQ.out, Bw.set_other Q1.out (Bw.ne Q1.out RP'.out (by decide))⟩
          · intro g eg
            rw [e] at eg
            rcases Q3.out with q | q
            · exact HF.out g (q.symm.trans eg)
            · have e2 : some wr.heap.size = some g := q.symm.trans eg
              simp only [Option.some.injEq] at e2
              exact .inr (by rw [← e2]; exact HG.out.size)
          · refine (HG.out.grown Q2.out (fun g eg => ?_)).set P 0 _ RP.out
            rcases HF.out g eg with q | q
            · exact .inl (RV.out g q)
            · exact .inr q
        · obtain rfl : s = t := by omega
          go_wp2
          go_end0
          have e : bs ++ (ps.take s).flatten = bs ++ ps.flatten := by rw [List.take_of_length_le (by rw [HN.out]; exact Nat.le_refl _)]
          rw [← e]
          exact ⟨rfl, ⟨A', cap', HWR.out, HF.out⟩, HG.out⟩

end Go.Proofs.Ytfommclhnfcioaa

namespace Go.Proofs.Ytfommclhnfcioaa
open Go Go.RowKit
open Sha

theorem Wr.be {w w' : World} {P : Nat} {A : Option Addr} {cap : Nat} {bs : List (BitVec 8)} {f : Int} (h : Wr w P A cap bs f) (k : Below w.heap.size w w') : Wr w' P A cap bs f := ⟨Row.below h.1 k h.1.lt, Bw.be h.2 k⟩
theorem row_ne {w : World} {b c : Nat} {cs ds : List Value} {t u : TypeId} (h : Row w b cs t) (k : Row w c ds u) (htu : t ≠ u) : b ≠ c := fun e => by
  subst e
  have := h.symm.trans k
  simp only [Option.some.injEq, Obj.cells.injEq] at this
  exact htu this.2.1
theorem sl_form {w : World} {g k : Nat} {l : List Nat} (hk : k ≤ 32) (r : Row w g (vB (fl l k k)) 144) : SlAt w (.slice (some ⟨g, 0, none⟩) (k + 1) 33) (fm l k) :=
  .inr ⟨g, 0, 33, by rw [fm_len], by rw [fm_len]; omega, fun j v hj => r.all j v (by
    rw [← fl_end l k hk] at hj
    unfold vB at hj ⊢
    rw [List.map_take, List.getElem?_take] at hj
    split at hj
    · exact hj
    · cases hj)⟩

section
variable {P : Program} {ops : Array Oper} {rest : List Oper} {op : Oper} {a : Act} {w : World} {Q : Exit → Act → World → Prop}
theorem wpList_slice_arr (hw : Region.wanted op (yielded ops a.tmps) = true) (t e : TypeId) (n : Nat) (x z : Operand) (b f k : Nat) (l : Int) (hl : l = (k : Int)) (hk : k ≤ n) (ho : op.op = .slice t x none (some z) none) (hx : a.eval x = .pointer (some ⟨b, f, none⟩)) (hz : a.eval z = .int .i64 l)
    (hu : P.underlying t = some (.array n e)) (hs : (P.info? e).map (·.size) = some 1) (h : wpList P ops Q rest (a.put op.dst (.slice (some ⟨b, f, none⟩) k n)) w) : wpList P ops Q (op :: rest) a w :=
  BigFrame.wpList_want hw fun K hK => by
    subst hl
    cases hq : P.info? e with
    | none => simp [hq] at hs
    | some i =>
      have h1 : i.size = 1 := by simpa [hq] using hs
      have hr : (Instr.sliceAt t (.pointer (some ⟨b, f, none⟩)) none (some (.int .i64 (k : Int))) none).run P w = .ok (.slice (some ⟨b, f, none⟩) k n) w := by
        simp [Instr.sliceAt, Instr.sureAddr, run_underlying hu, Instr.sliceBounds, Instr.sliceBound, asIntOf, sizeOf, typeInfo, hq, hk, Addr.add_mid]
      unfold Oper.wp execOp
      simp only [ho, hx, hz, Option.map_some, Option.map_none, Sem.run_bind, hr, Result.andThen_ok, Sem.run_pure, Oper.upon_value]
      exact hK _ _ h
end
set_option maxRecDepth 100000 in
set_option maxHeartbeats 4000000 in
theorem wide_ok (P : Nat) (A : Option Addr) (cap : Nat) (bs : List (BitVec 8)) (m0 m1 m2 m3 : Nat) (ha : m0 < 18446744073709551616) (hb : m1 < 18446744073709551616) (hc : m2 < 18446744073709551616) (hd : m3 < 18446744073709551616) (k : Nat) (hk : k = nb m0 m1 m2 m3) (hT : bs.length + (k + 1) ≤ 4194304) (w : World) (R : Nat → Prop) (hR : R = fun g => g = P ∨ (Value.slice A bs.length cap).ownBlock = some g)
    (hw : Wr w P A cap bs 0) :
    Calls Try.prog 75 #[.pointer (some ⟨P, 0, none⟩), .agg (q4 m0 m1 m2 m3).toArray] w fun e w' => e = .returned (.tuple #[]) ∧ (∃ A' cap', Wr w' P A' cap' (bs ++ fm [m0, m1, m2, m3] k) 0 ∧ Frm (.slice A bs.length cap) w.heap.size (.slice A' (bs ++ fm [m0, m1, m2, m3] k).length cap')) ∧ Gro R w w' := by
  have hk32 : k ≤ 32 := by rw [hk]; exact nb_le m0 m1 m2 m3
  have HF : Hid (∀ w, _) := fun w => formOf_any m0 m1 m2 m3 ha hb hc hd k hk w
  have HT : Hid (bs.length + (k + 1) ≤ 4194304) := hT
  have HR : Hid (R = fun g => g = P ∨ (Value.slice A bs.length cap).ownBlock = some g) := hR
  clear hk ha hb hc hd hT hR
  have b0 : Below w.heap.size w (w.alloc (Obj.cells (q4 m0 m1 m2 m3).toArray 125)) := (Below.refl _ _).alloc (Nat.le_refl _) _
  have r0 : Row (w.alloc (Obj.cells (q4 m0 m1 m2 m3).toArray 125)) w.heap.size (q4 m0 m1 m2 m3) 125 := Row.new' rfl rfl
  replace hw := hw.be b0
  go_enter Try.func75, Try.ntmps75
  go_wp2_with (refine wpList_load_w rfl 125 (.tmp 3) rfl w.heap.size 0 rfl (q4 m0 m1 m2 m3) _ r0.all Try.underlying125 rfl info_q ?_; simp only [Act.put, List.setIfInBounds_toArray, List.set_cons_zero, List.set_cons_succ])
  refine (HF.out _).mono ?_
  rintro e V ⟨rfl, hB⟩
  replace b0 := b0.trans (hB.mono b0.size)
  replace hw := hw.be hB
  clear hB r0
  generalize hcs : vB (fl [m0, m1, m2, m3] k k) = cs
  have hcl : cs.length = 33 := by rw [← hcs, vB_length, fl_len]
  have hone : cs.toArray.all (·.oneCell') = true := by rw [← hcs]; exact all_oneCell_toArray (vB_one _)
  have hi' : (Try.prog.info? 144).map (·.size) = some cs.toArray.size := by rw [info_f, List.size_toArray, hcl]
  have n0 : Row (V.alloc (Obj.cells z33.toArray 144)) V.heap.size z33 144 := Row.new' rfl rfl
  have T0 := n0.there 0 cs.toArray.size (by rw [List.size_toArray, hcl]; decide)
  replace n0 := n0.over (vs := cs) (by rw [hcl]; rfl)
  have hB : Below V.heap.size V ((V.alloc (Obj.cells z33.toArray 144)).setCells V.heap.size 0 cs) := below_setCells ((Below.refl _ _).alloc (Nat.le_refl _) (Obj.cells z33.toArray 144)) (b := V.heap.size) (o := 0) (Nat.le_refl _) cs
  replace b0 := b0.trans (hB.mono b0.size)
  replace hw := hw.be hB
  have HCS : Hid (vB (fl [m0, m1, m2, m3] k k) = cs) := hcs
  clear hB hcs
  have HI' : Hid _ := hi'
  have HO : Hid _ := hone
  clear hi' hone hcl
  go_wp2_with (first
    | (refine wpList_slice_arr rfl 144 5 33 (.tmp 4) (.tmp 12) N4 0 (k + 1) _ (by omega) (by omega) rfl rfl rfl Try.underlying144 info_u8 ?_; simp only [Act.put, List.setIfInBounds_toArray, List.set_cons_zero, List.set_cons_succ])
    | (refine wpList_store_mid rfl 144 (.tmp 4) (.tmp 9) rfl V.heap.size 0 cs.toArray rfl rfl T0 HI'.out HO.out ?_; simp only [Act.put]; clear T0; (change wpList _ _ _ _ _ ((V.alloc (Obj.cells z33.toArray 144)).setCells V.heap.size 0 cs)); (generalize ((V.alloc (Obj.cells z33.toArray 144)).setCells V.heap.size 0 cs) = X at *); (generalize hN : V.heap.size = N4 at *; clear hN)))
  rw [← HCS.out] at n0
  have b1 : Below X.heap.size X (X.alloc (Obj.cells #[Value.slice (some ⟨N4, 0, none⟩) (k + 1) 33] 26)) := (Below.refl _ _).alloc (Nat.le_refl _) _
  have rb : Row (X.alloc (Obj.cells #[Value.slice (some ⟨N4, 0, none⟩) (k + 1) 33] 26)) X.heap.size [.slice (some ⟨N4, 0, none⟩) (k + 1) 33] 26 := Row.new' rfl rfl
  replace hw := hw.be b1
  replace n0 := Row.below n0 b1 n0.lt
  replace b0 := b0.trans (b1.mono b0.size)
  clear b1
  generalize X.alloc (Obj.cells #[Value.slice (some ⟨N4, 0, none⟩) (k + 1) 33] 26) = Y at *
  generalize X.heap.size = NX at *
  refine (lay_ok P A cap bs NX [.slice (some ⟨N4, 0, none⟩) (k + 1) 33] [fm [m0, m1, m2, m3] k] 1 rfl (by decide) (by simpa [fm_len] using HT.out) Y R HR.out hw (fun W hGW => ⟨hGW.row rb ?_, rfl, fun i hi => ?_⟩)).mono ?_
  · rw [HR.out]
    rintro (e | e)
    · exact row_ne rb hw.1 (by decide) e
    · exact Bw.ne hw.2 rb (by decide) _ e rfl
  · obtain rfl : i = 0 := by simp at hi; omega
    have rW := hGW.row n0 (by
      rw [HR.out]
      rintro (e | e)
      · exact row_ne n0 hw.1 (by decide) e
      · exact Bw.ne hw.2 n0 (by decide) _ e rfl)
    exact ⟨sl_form hk32 rW, fun A n c e => by simp only [List.getD_cons_zero, Value.slice.injEq] at e; intro e0; rw [e0] at e; simp at e⟩
  rintro e Z ⟨rfl, ⟨A', cap', hw', hf'⟩, hG⟩
  rw [show [fm [m0, m1, m2, m3] k].flatten = fm [m0, m1, m2, m3] k by simp] at hw' hf'
  have HW' : Hid _ := hw'
  have HF' : Hid _ := hf'
  have HG : Hid (Gro R w Z) := (Gro.of_below b0).trans hG
  have HS : Hid (w.heap.size ≤ Y.heap.size) := b0.size
  clear hw' hf' hG hw n0 rb b0
  go_wp2_with fail
  go_end0
  exact ⟨rfl, ⟨A', cap', HW'.out, fun g e => by rcases HF'.out g e with q | q; exact .inl q; exact .inr (Nat.le_trans HS.out q)⟩, HG.out⟩

set_option maxRecDepth 100000 in
set_option maxHeartbeats 1000000 in
theorem number_ok (P : Nat) (A : Option Addr) (cap : Nat) (bs : List (BitVec 8)) (n : Nat) (hn : n < 9223372036854775808) (k : Nat) (hk : k = nb n 0 0 0) (hT : bs.length + (k + 1) ≤ 4194304) (w : World) (R : Nat → Prop) (hR : R = fun g => g = P ∨ (Value.slice A bs.length cap).ownBlock = some g)
    (hw : Wr w P A cap bs 0) :
    Calls Try.prog 37 #[.pointer (some ⟨P, 0, none⟩), .int .i64 (n : Int)] w fun e w' => e = .returned (.tuple #[]) ∧ (∃ A' cap', Wr w' P A' cap' (bs ++ fm [n, 0, 0, 0] k) 0 ∧ Frm (.slice A bs.length cap) w.heap.size (.slice A' (bs ++ fm [n, 0, 0, 0] k).length cap')) ∧ Gro R w w' := by
  have HC : Hid _ := wide_ok P A cap bs n 0 0 0 (by omega) (by omega) (by omega) (by omega) k hk hT w R hR hw
  have h0 : ¬ (n : Int) < 0 := by omega
  clear hw hR hT hk
  go_enter Try.func37, Try.ntmps37
  go_wp2_with fail
  refine Calls.mono HC.out ?_
  rintro e w' ⟨rfl, h1, h2⟩
  have H1 : Hid _ := h1
  have H2 : Hid _ := h2
  clear h1 h2
  go_wp2_with fail
  go_end0
  exact ⟨rfl, H1.out, H2.out⟩

set_option maxRecDepth 100000 in
set_option maxHeartbeats 1000000 in
theorem done_ok (P : Nat) (A : Option Addr) (cap : Nat) (bs : List (BitVec 8)) (hl : bs.length ≤ 140737488355328) (w : World) (hw : Wr w P A cap bs 0) :
    Calls Try.prog 39 #[.pointer (some ⟨P, 0, none⟩)] w fun e w' => ∃ A' cap', e = .returned (.tuple #[.slice A' bs.length cap', .int .i64 0]) ∧ Bw w' (.slice A' bs.length cap') bs ∧ Fresh w.heap.size (.slice A' bs.length cap') ∧ Below w.heap.size w w' := by
  have g0 := hw.1.cell 0 _ rfl
  have g1 := hw.1.cell 1 _ rfl
  obtain ⟨A0, c0, e0, _, hnil⟩ := Bw.form hw.2
  simp only [Value.slice.injEq, true_and] at e0
  obtain ⟨rfl, rfl⟩ := e0
  have HSL : Hid _ := Bw.sl hw.2
  have HNL : Hid _ := hnil
  have HL : Hid (([] : List (BitVec 8)).length + bs.length ≤ 140737488355328) := by show 0 + _ ≤ _; omega
  clear hw hnil hl
  go_enter Try.func39, Try.ntmps39
  go_wp2_with (refine wpList_app rfl _ (.tmp 18) rfl (.slice none 0 0) [] bs rfl (Bw.nil w) A bs.length cap rfl rfl HSL.out HNL.out HL.out ?_; intro v' w' q1 q2 q3; obtain ⟨Ax, cx, ex, _⟩ := Bw.form q1; subst ex; rw [List.nil_append] at q1; have Q1 : Hid _ := q1; have Q2 : Hid _ := q2; have Q3 : Hid _ := q3; clear q1 q2 q3; simp only [Act.put, List.setIfInBounds_toArray, List.set_cons_zero, List.set_cons_succ])
  go_ret2
  refine ⟨Ax, cx, rfl, Q1.out, fun g e => ?_, (Below.refl _ _).grown Q2.out (Nat.le_refl _) (fun k hk => by simp [Value.ownBlock] at hk)⟩
  rcases Q3.out with q | q
  · have e2 := q.symm.trans e
    simp [Value.ownBlock] at e2
  · have e2 := q.symm.trans e
    simp only [Option.some.injEq] at e2
    omega

end Go.Proofs.Ytfommclhnfcioaa
