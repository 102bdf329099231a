/-
  wire.Writer: Wide, Number, Done.
-/
import Derived.Test.YtekgojokhjihfaaDoorXWr
namespace Go.Proofs.YtekgojokhjihfaaDoor
open Go Go.RowKit
open Sha

theorem Wr.be {w w' : World} {P : Nat} {A : Option Addr} {cap : Nat} {bs : List (BitVec 8)} {f : Int} (h : Wr w P A cap bs f) (k : Below w.heap.size w w') : Wr w' P A cap bs f := ⟨Row.below h.1 k h.1.lt, Bw.be h.2 k⟩
theorem row_ne {w : World} {b c : Nat} {cs ds : List Value} {t u : TypeId} (h : Row w b cs t) (k : Row w c ds u) (htu : t ≠ u) : b ≠ c := fun e => by
  subst e
  have := h.symm.trans k
  simp only [Option.some.injEq, Obj.cells.injEq] at this
  exact htu this.2.1
theorem sl_form {w : World} {g k : Nat} {l : List Nat} (hk : k ≤ 32) (r : Row w g (vB (fl l k k)) 103) : SlAt w (.slice (some ⟨g, 0, none⟩) (k + 1) 33) (fm l k) :=
  .inr ⟨g, 0, 33, by rw [fm_len], by rw [fm_len]; omega, fun j v hj => r.all j v (by
    rw [← fl_end l k hk] at hj
    unfold vB at hj ⊢
    rw [List.map_take, List.getElem?_take] at hj
    split at hj
    · exact hj
    · cases hj)⟩

section
variable {P : Program} {ops : Array Oper} {rest : List Oper} {op : Oper} {a : Act} {w : World} {Q : Exit → Act → World → Prop}
theorem wpList_slice_arr (hw : Region.wanted op (yielded ops a.tmps) = true) (t e : TypeId) (n : Nat) (x z : Operand) (b f k : Nat) (l : Int) (hl : l = (k : Int)) (hk : k ≤ n) (ho : op.op = .slice t x none (some z) none) (hx : a.eval x = .pointer (some ⟨b, f, none⟩)) (hz : a.eval z = .int .i64 l)
    (hu : P.underlying t = some (.array n e)) (hs : (P.info? e).map (·.size) = some 1) (h : wpList P ops Q rest (a.put op.dst (.slice (some ⟨b, f, none⟩) k n)) w) : wpList P ops Q (op :: rest) a w :=
  BigFrame.wpList_want hw fun K hK => by
    subst hl
    cases hq : P.info? e with
    | none => simp [hq] at hs
    | some i =>
      have h1 : i.size = 1 := by simpa [hq] using hs
      have hr : (Instr.sliceAt t (.pointer (some ⟨b, f, none⟩)) none (some (.int .i64 (k : Int))) none).run P w = .ok (.slice (some ⟨b, f, none⟩) k n) w := by
        simp [Instr.sliceAt, Instr.sureAddr, run_underlying hu, Instr.sliceBounds, Instr.sliceBound, asIntOf, sizeOf, typeInfo, hq, hk, Addr.add_mid]
      unfold Oper.wp execOp
      simp only [ho, hx, hz, Option.map_some, Option.map_none, Sem.run_bind, hr, Result.andThen_ok, Sem.run_pure, Oper.upon_value]
      exact hK _ _ h
end
set_option maxRecDepth 100000 in
set_option maxHeartbeats 4000000 in
theorem wide_ok (P : Nat) (A : Option Addr) (cap : Nat) (bs : List (BitVec 8)) (m0 m1 m2 m3 : Nat) (ha : m0 < 18446744073709551616) (hb : m1 < 18446744073709551616) (hc : m2 < 18446744073709551616) (hd : m3 < 18446744073709551616) (k : Nat) (hk : k = nb m0 m1 m2 m3) (hT : bs.length + (k + 1) ≤ 4194304) (w : World) (R : Nat → Prop) (hR : R = fun g => g = P ∨ (Value.slice A bs.length cap).ownBlock = some g)
    (hw : Wr w P A cap bs 0) :
    Calls Tryd.prog 31 #[.pointer (some ⟨P, 0, none⟩), .agg (q4 m0 m1 m2 m3).toArray] w fun e w' => e = .returned (.tuple #[]) ∧ (∃ A' cap', Wr w' P A' cap' (bs ++ fm [m0, m1, m2, m3] k) 0 ∧ Frm (.slice A bs.length cap) w.heap.size (.slice A' (bs ++ fm [m0, m1, m2, m3] k).length cap')) ∧ Gro R w w' := by
  have hk32 : k ≤ 32 := by rw [hk]; exact nb_le m0 m1 m2 m3
  have HF : Hid (∀ w, _) := fun w => formOf_any m0 m1 m2 m3 ha hb hc hd k hk w
  have HT : Hid (bs.length + (k + 1) ≤ 4194304) := hT
  have HR : Hid (R = fun g => g = P ∨ (Value.slice A bs.length cap).ownBlock = some g) := hR
  clear hk ha hb hc hd hT hR
  have b0 : Below w.heap.size w (w.alloc (Obj.cells (q4 m0 m1 m2 m3).toArray 30)) := (Below.refl _ _).alloc (Nat.le_refl _) _
  have r0 : Row (w.alloc (Obj.cells (q4 m0 m1 m2 m3).toArray 30)) w.heap.size (q4 m0 m1 m2 m3) 30 := Row.new' rfl rfl
  replace hw := hw.be b0
  go_enter Tryd.func31, Tryd.ntmps31
  go_wp2_with (refine wpList_load_w rfl 30 (.tmp 3) rfl w.heap.size 0 rfl (q4 m0 m1 m2 m3) _ r0.all Tryd.underlying30 rfl info_q ?_; simp only [Act.put, List.setIfInBounds_toArray, List.set_cons_zero, List.set_cons_succ])
  refine (HF.out _).mono ?_
  rintro e V ⟨rfl, hB⟩
  replace b0 := b0.trans (hB.mono b0.size)
  replace hw := hw.be hB
  clear hB r0
  generalize hcs : vB (fl [m0, m1, m2, m3] k k) = cs
  have hcl : cs.length = 33 := by rw [← hcs, vB_length, fl_len]
  have hone : cs.toArray.all (·.oneCell') = true := by rw [← hcs]; exact all_oneCell_toArray (vB_one _)
  have hi' : (Tryd.prog.info? 103).map (·.size) = some cs.toArray.size := by rw [info_f, List.size_toArray, hcl]
  have n0 : Row (V.alloc (Obj.cells z33.toArray 103)) V.heap.size z33 103 := Row.new' rfl rfl
  have T0 := n0.there 0 cs.toArray.size (by rw [List.size_toArray, hcl]; decide)
  replace n0 := n0.over (vs := cs) (by rw [hcl]; rfl)
  have hB : Below V.heap.size V ((V.alloc (Obj.cells z33.toArray 103)).setCells V.heap.size 0 cs) := below_setCells ((Below.refl _ _).alloc (Nat.le_refl _) (Obj.cells z33.toArray 103)) (b := V.heap.size) (o := 0) (Nat.le_refl _) cs
  replace b0 := b0.trans (hB.mono b0.size)
  replace hw := hw.be hB
  have HCS : Hid (vB (fl [m0, m1, m2, m3] k k) = cs) := hcs
  clear hB hcs
  have HI' : Hid _ := hi'
  have HO : Hid _ := hone
  clear hi' hone hcl
  go_wp2_with (first
    | (refine wpList_slice_arr rfl 103 5 33 (.tmp 4) (.tmp 12) N4 0 (k + 1) _ (by omega) (by omega) rfl rfl rfl Tryd.underlying103 info_u8 ?_; simp only [Act.put, List.setIfInBounds_toArray, List.set_cons_zero, List.set_cons_succ])
    | (refine wpList_store_mid rfl 103 (.tmp 4) (.tmp 9) rfl V.heap.size 0 cs.toArray rfl rfl T0 HI'.out HO.out ?_; simp only [Act.put]; clear T0; (change wpList _ _ _ _ _ ((V.alloc (Obj.cells z33.toArray 103)).setCells V.heap.size 0 cs)); (generalize ((V.alloc (Obj.cells z33.toArray 103)).setCells V.heap.size 0 cs) = X at *); (generalize hN : V.heap.size = N4 at *; clear hN)))
  rw [← HCS.out] at n0
  have b1 : Below X.heap.size X (X.alloc (Obj.cells #[Value.slice (some ⟨N4, 0, none⟩) (k + 1) 33] 48)) := (Below.refl _ _).alloc (Nat.le_refl _) _
  have rb : Row (X.alloc (Obj.cells #[Value.slice (some ⟨N4, 0, none⟩) (k + 1) 33] 48)) X.heap.size [.slice (some ⟨N4, 0, none⟩) (k + 1) 33] 48 := Row.new' rfl rfl
  replace hw := hw.be b1
  replace n0 := Row.below n0 b1 n0.lt
  replace b0 := b0.trans (b1.mono b0.size)
  clear b1
  generalize X.alloc (Obj.cells #[Value.slice (some ⟨N4, 0, none⟩) (k + 1) 33] 48) = Y at *
  generalize X.heap.size = NX at *
  refine (lay_ok P A cap bs NX [.slice (some ⟨N4, 0, none⟩) (k + 1) 33] [fm [m0, m1, m2, m3] k] 1 rfl (by decide) (by simpa [fm_len] using HT.out) Y R HR.out hw (fun W hGW => ⟨hGW.row rb ?_, rfl, fun i hi => ?_⟩)).mono ?_
  · rw [HR.out]
    rintro (e | e)
    · exact row_ne rb hw.1 (by decide) e
    · exact Bw.ne hw.2 rb (by decide) _ e rfl
  · obtain rfl : i = 0 := by simp at hi; omega
    have rW := hGW.row n0 (by
      rw [HR.out]
      rintro (e | e)
      · exact row_ne n0 hw.1 (by decide) e
      · exact Bw.ne hw.2 n0 (by decide) _ e rfl)
    exact ⟨sl_form hk32 rW, fun A n c e => by simp only [List.getD_cons_zero, Value.slice.injEq] at e; intro e0; rw [e0] at e; simp at e⟩
  rintro e Z ⟨rfl, ⟨A', cap', hw', hf'⟩, hG⟩
  rw [show [fm [m0, m1, m2, m3] k].flatten = fm [m0, m1, m2, m3] k by simp] at hw' hf'
  have HW' : Hid _ := hw'
  have HF' : Hid _ := hf'
  have HG : Hid (Gro R w Z) := (Gro.of_below b0).trans hG
  have HS : Hid (w.heap.size ≤ Y.heap.size) := b0.size
  clear hw' hf' hG hw n0 rb b0
  go_wp2_with fail
  go_end0
  exact ⟨rfl, ⟨A', cap', HW'.out, fun g e => by rcases HF'.out g e with q | q; exact .inl q; exact .inr (Nat.le_trans HS.out q)⟩, HG.out⟩

set_option maxRecDepth 100000 in
set_option maxHeartbeats 1000000 in
theorem number_ok (P : Nat) (A : Option Addr) (cap : Nat) (bs : List (BitVec 8)) (n : Nat) (hn : n < 9223372036854775808) (k : Nat) (hk : k = nb n 0 0 0) (hT : bs.length + (k + 1) ≤ 4194304) (w : World) (R : Nat → Prop) (hR : R = fun g => g = P ∨ (Value.slice A bs.length cap).ownBlock = some g)
    (hw : Wr w P A cap bs 0) :
    Calls Tryd.prog 29 #[.pointer (some ⟨P, 0, none⟩), .int .i64 (n : Int)] w fun e w' => e = .returned (.tuple #[]) ∧ (∃ A' cap', Wr w' P A' cap' (bs ++ fm [n, 0, 0, 0] k) 0 ∧ Frm (.slice A bs.length cap) w.heap.size (.slice A' (bs ++ fm [n, 0, 0, 0] k).length cap')) ∧ Gro R w w' := by
  have HC : Hid _ := wide_ok P A cap bs n 0 0 0 (by omega) (by omega) (by omega) (by omega) k hk hT w R hR hw
  have h0 : ¬ (n : Int) < 0 := by omega
  clear hw hR hT hk
  go_enter Tryd.func29, Tryd.ntmps29
  go_wp2_with fail
  refine Calls.mono HC.out ?_
  rintro e w' ⟨rfl, h1, h2⟩
  have H1 : Hid _ := h1
  have H2 : Hid _ := h2
  clear h1 h2
  go_wp2_with fail
  go_end0
  exact ⟨rfl, H1.out, H2.out⟩

set_option maxRecDepth 100000 in
set_option maxHeartbeats 1000000 in
theorem done_ok (P : Nat) (A : Option Addr) (cap : Nat) (bs : List (BitVec 8)) (hl : bs.length ≤ 140737488355328) (w : World) (hw : Wr w P A cap bs 0) :
    Calls Tryd.prog 32 #[.pointer (some ⟨P, 0, none⟩)] w fun e w' => ∃ A' cap', e = .returned (.tuple #[.slice A' bs.length cap', .int .i64 0]) ∧ Bw w' (.slice A' bs.length cap') bs ∧ Fresh w.heap.size (.slice A' bs.length cap') ∧ Below w.heap.size w w' := by
  have g0 := hw.1.cell 0 _ rfl
  have g1 := hw.1.cell 1 _ rfl
  obtain ⟨A0, c0, e0, _, hnil⟩ := Bw.form hw.2
  simp only [Value.slice.injEq, true_and] at e0
  obtain ⟨rfl, rfl⟩ := e0
  have HSL : Hid _ := Bw.sl hw.2
  have HNL : Hid _ := hnil
  have HL : Hid (([] : List (BitVec 8)).length + bs.length ≤ 140737488355328) := by show 0 + _ ≤ _; omega
  clear hw hnil hl
  go_enter Tryd.func32, Tryd.ntmps32
  go_wp2_with (refine wpList_app rfl _ (.tmp 18) rfl (.slice none 0 0) [] bs rfl (Bw.nil w) A bs.length cap rfl rfl HSL.out HNL.out HL.out ?_; intro v' w' q1 q2 q3; obtain ⟨Ax, cx, ex, _⟩ := Bw.form q1; subst ex; rw [List.nil_append] at q1; have Q1 : Hid _ := q1; have Q2 : Hid _ := q2; have Q3 : Hid _ := q3; clear q1 q2 q3; simp only [Act.put, List.setIfInBounds_toArray, List.set_cons_zero, List.set_cons_succ])
  go_ret2
  refine ⟨Ax, cx, rfl, Q1.out, fun g e => ?_, (Below.refl _ _).grown Q2.out (Nat.le_refl _) (fun k hk => by simp [Value.ownBlock] at hk)⟩
  rcases Q3.out with q | q
  · have e2 := q.symm.trans e
    simp [Value.ownBlock] at e2
  · have e2 := q.symm.trans e
    simp only [Option.some.injEq] at e2
    omega

end Go.Proofs.YtekgojokhjihfaaDoor
