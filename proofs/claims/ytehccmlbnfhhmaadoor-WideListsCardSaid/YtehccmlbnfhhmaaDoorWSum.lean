/-
  wide.Sum, of a list of numbers wherever it lies.
-/
import Derived.Test.YtehccmlbnfhhmaaDoorWKn
namespace Go.Proofs.YtehccmlbnfhhmaaDoor
open Go Go.RowKit
open Wd
namespace Wd
def sumR (xs : List Nat) : Nat := if xs.sum < 2 ^ 256 then xs.sum else 0
def sumE (xs : List Nat) : Int := if xs.sum < 2 ^ 256 then 0 else 22
theorem sum_more (xs : List Nat) (t : Nat) (h : t < xs.length) : (xs.take (t + 1)).sum = (xs.take t).sum + xs.getD t 0 := by
  rw [List.take_succ_eq_append_getElem h, List.sum_append]
  simp [h]
theorem sum_take (xs : List Nat) (t : Nat) : (xs.take t).sum ≤ xs.sum := by
  have := congrArg List.sum (List.take_append_drop t xs)
  rw [List.sum_append] at this
  omega
theorem wid_lt {xs : List Nat} (hxs : ∀ x ∈ xs, x < 2 ^ 256) (i : Nat) : xs.getD i 0 < 2 ^ 256 := by
  rw [List.getD_eq_getElem?_getD]
  cases h : xs[i]? with
  | none => decide
  | some x => exact hxs x (List.mem_of_getElem? h)
end Wd

/-- A list of numbers, by its address. -/
def Ws (W : World) (A : Option Addr) (xs : List Nat) : Prop := ∀ i, i < xs.length → ∃ b o, A = some ⟨b, o, none⟩ ∧ W.rangeAt b (o + i * 4) (vQ (dgs (xs.getD i 0) 4)) ∧ b < W.heap.size
theorem Ws.below {W W' : World} {A : Option Addr} {xs : List Nat} (h : Ws W A xs) (hB : Below W.heap.size W W') : Ws W' A xs := fun i hi => by
  obtain ⟨b, o, e, h1, h2⟩ := h i hi
  exact ⟨b, o, e, fun j v hj => (hB.cell (p := ⟨b, o + i * 4 + j, none⟩) h2).trans (h1 j v hj), Nat.lt_of_lt_of_le h2 hB.size⟩

section
variable {ops : Array Oper} {rest : List Oper} {op : Oper} {a : Act} {w : World} {Q : Exit → Act → World → Prop}
theorem run_indexAt_ws (w : World) (b o n c t : Nat) (ht : t < n) : (Instr.indexAt 26 (.slice (some ⟨b, o, none⟩) n c) (.int .i64 (t : Int))).run Tryd.prog w = .ok (.pointer (some ⟨b, o + t * 4, none⟩)) w := by
  have hs : (Tryd.prog.info? 24).map (·.size) = some 4 := by kernel_rfl
  cases hi : Tryd.prog.info? 24 with
  | none => rw [hi] at hs; cases hs
  | some ie =>
    rw [hi] at hs
    have h4 : ie.size = 4 := by simpa using hs
    simp [Instr.indexAt, run_underlying Tryd.underlying26, asIntOf, ht, sizeOf, typeInfo, hi, h4, Addr.add_mid]
theorem wpList_index_ws (hgd : op.guard = none) (x y : Operand) (ho : op.op = .indexAddr 26 x y) (b o n c t : Nat) (hx : a.eval x = .slice (some ⟨b, o, none⟩) n c) (hy : a.eval y = .int .i64 (t : Int)) (ht : t < n)
    (h : wpList Tryd.prog ops Q rest (a.put op.dst (.pointer (some ⟨b, o + t * 4, none⟩))) w) : wpList Tryd.prog ops Q (op :: rest) a w :=
  wpList_plain hgd fun _ hK => by
    unfold Oper.wp execOp
    simp only [ho, hx, hy, Sem.run_bind, run_indexAt_ws w b o n c t ht, Result.andThen_ok]
    exact hK _ _ h
end

set_option maxRecDepth 100000 in
set_option maxHeartbeats 4000000 in
theorem sum_ws (xs : List Nat) (hxs : ∀ x ∈ xs, x < 2 ^ 256) (hlen : xs.length ≤ 4398046511104) (A : Option Addr) (cap : Nat) (w : World) (h : Ws w A xs) :
    Calls Tryd.prog 30 #[.slice A xs.length cap] w fun e w' => e = .returned (.tuple #[.agg (vQ (dgs (sumR xs) 4)).toArray, .int .i64 (sumE xs)]) ∧ Below w.heap.size w w' := by
  have HW : Hid (Ws w A xs) := h
  have HX : Hid (∀ i, xs.getD i 0 < 2 ^ 256) := fun i => wid_lt hxs i
  have HM : Hid (∀ t, t < xs.length → (xs.take (t + 1)).sum = (xs.take t).sum + xs.getD t 0) := fun t ht => sum_more xs t ht
  have HT : Hid (∀ t, (xs.take t).sum ≤ xs.sum) := sum_take xs
  have HL : Hid ((xs.take xs.length).sum = xs.sum) := by show _ = _; rw [List.take_length]
  clear h hxs
  obtain ⟨n, hn⟩ : ∃ n, n = xs.length := ⟨_, rfl⟩
  have HN : Hid (n = xs.length) := hn
  rw [← hn] at hlen HM HL ⊢
  clear hn
  go_enter Tryd.func30, Tryd.ntmps30
  go_wp2
  go_loopw [6, 7, 10] (fun _ _ iv wr => ∃ t : Nat, t ≤ n ∧ iv = .int .i64 (t : Int) ∧ Below w.heap.size w wr ∧ Row wr w.heap.size (vQ (List.replicate 4 0)) 24 ∧ Row wr (w.heap.size + 1) (vQ (dgs (xs.take t).sum 4)) 24 ∧ Hid ((xs.take t).sum < 2 ^ 256)) (fun _ _ iv _ => n - (intOf iv).toNat)
  case atStart =>
    exact ⟨0, by omega, rfl, ((Below.refl _ _).alloc (Nat.le_refl _) _).alloc (by simp) _, (Row.new' rfl rfl).alloc _, by rw [show (xs.take 0).sum = 0 from rfl, dgs_zero]; exact Row.new' (by simp) rfl, show (xs.take 0).sum < 2 ^ 256 by simp⟩
  case round =>
    obtain ⟨t, ht, rfl, hb, r2, r4, hS⟩ := hrel
    by_cases hlt : t < n
    · obtain ⟨b, o, rfl, rg, hbw⟩ := (HW.out.below hb) t (by rw [← HN.out]; exact hlt)
      have hlt' : (t : Int) < (n : Int) := by omega
      have hm := HM.out t hlt
      obtain ⟨x, ex⟩ : ∃ x, x = xs.getD t 0 := ⟨_, rfl⟩
      have HXx : Hid (x < 2 ^ 256) := by show x < _; rw [ex]; exact HX.out t
      rw [← ex] at rg hm
      obtain ⟨m, em⟩ : ∃ m, m = (xs.take t).sum := ⟨_, rfl⟩
      rw [← em] at r4 hm hS
      obtain ⟨cx, Hx⟩ : ∃ c, Wc c x := ⟨_, rfl⟩
      obtain ⟨cm, Hm⟩ : ∃ c, Wc c m := ⟨_, rfl⟩
      rw [← show cx = vQ (dgs x 4) from Hx] at rg
      rw [← show cm = vQ (dgs m 4) from Hm] at r4
      have HMM : Hid ((xs.take (t + 1)).sum = m + x) := hm
      clear hm ex em ht hbw
      have n6 : Row (wr.alloc (Obj.cells #[Value.int IntKind.u64 0, Value.int IntKind.u64 0, Value.int IntKind.u64 0, Value.int IntKind.u64 0] 24)) wr.heap.size (vQ (List.replicate 4 0)) 24 := Row.new' rfl rfl
      have T6 := Hx.there n6 rfl
      replace n6 := n6.over (vs := cx) (by rw [Hx.len]; rfl)
      have hB : Below wr.heap.size wr ((wr.alloc (Obj.cells #[Value.int IntKind.u64 0, Value.int IntKind.u64 0, Value.int IntKind.u64 0, Value.int IntKind.u64 0] 24)).setCells wr.heap.size 0 cx) := below_setCells ((Below.refl _ _).alloc (Nat.le_refl _) _) (b := wr.heap.size) (o := 0) (Nat.le_refl _) cx
      replace r2 := Row.below r2 hB (Row.lt r2)
      replace r4 := Row.below r4 hB (Row.lt r4)
      replace hb := hb.trans (hB.mono hb.size)
      clear hB
      go_wp2_with (first
        | (refine wpList_index_ws rfl (.tmp 8) (.tmp 10) rfl b o n cap t rfl rfl hlt ?_; simp only [Act.put, List.setIfInBounds_toArray, List.set_cons_zero, List.set_cons_succ])
        | (refine wpList_load_w rfl 24 (.tmp 12) rfl b (o + t * 4) rfl cx _ rg Tryd.underlying24 rfl Hx.info ?_; simp only [Act.put, List.setIfInBounds_toArray, List.set_cons_zero, List.set_cons_succ])
        | (refine wpList_store_mid rfl 24 (.tmp 6) (.tmp 13) rfl wr.heap.size 0 cx.toArray rfl rfl T6 Hx.info' Hx.one ?_; simp only [Act.put]; clear T6 rg; (change wpList _ _ _ _ _ ((wr.alloc (Obj.cells #[Value.int IntKind.u64 0, Value.int IntKind.u64 0, Value.int IntKind.u64 0, Value.int IntKind.u64 0] 24)).setCells wr.heap.size 0 cx)); (generalize ((wr.alloc (Obj.cells #[Value.int IntKind.u64 0, Value.int IntKind.u64 0, Value.int IntKind.u64 0, Value.int IntKind.u64 0] 24)).setCells wr.heap.size 0 cx) = X1 at *); (generalize hN0 : wr.heap.size = N6 at *; clear hN0))
        | (refine wpList_load_w rfl 24 (.tmp 4) rfl (w.heap.size + 1) 0 rfl cm _ r4.all Tryd.underlying24 rfl Hm.info ?_; simp only [Act.put, List.setIfInBounds_toArray, List.set_cons_zero, List.set_cons_succ])
        | (refine wpList_load_w rfl 24 (.tmp 6) rfl N6 0 rfl cx _ n6.all Tryd.underlying24 rfl Hx.info ?_; simp only [Act.put, List.setIfInBounds_toArray, List.set_cons_zero, List.set_cons_succ]))
      by_cases hs : m + x < 2 ^ 256
      · refine (add_c Hm Hx hS.out HXx.out (if_pos hs) (if_pos hs) _).mono ?_
        rintro e V ⟨c1, H1, rfl, hB⟩
        replace r2 := Row.below r2 hB (Row.lt r2)
        replace r4 := Row.below r4 hB (Row.lt r4)
        replace hb := hb.trans (hB.mono hb.size)
        clear hB n6
        have T4 := H1.there r4 (by rw [Hm.len])
        have fin := r4.over (vs := c1) (by rw [H1.len, Hm.len])
        have r2' := Row.setCells_other r2 (w.heap.size + 1) 0 c1 (by omega)
        have hbf := below_setCells hb (b := w.heap.size + 1) (o := 0) (by omega) c1
        have HSS : Hid (m + x < 2 ^ 256) := hs
        clear r4 hb hs
        go_wp2_with (refine wpList_store_mid rfl 24 (.tmp 4) (.tmp 18) rfl (w.heap.size + 1) 0 c1.toArray rfl rfl T4 H1.info' H1.one ?_; simp only [Act.put])
        refine ⟨⟨t + 1, hlt, by go_num, hbf, r2', ?_, ?_⟩, by simp [intOf]; omega⟩
        · rw [HMM.out, ← show c1 = vQ (dgs (m + x) 4) from H1]; exact fin
        · show (xs.take (t + 1)).sum < 2 ^ 256
          rw [HMM.out]; exact HSS.out
      · refine (add_c Hm Hx hS.out HXx.out (if_neg hs) (if_neg hs) _).mono ?_
        rintro e V ⟨c1, H1, rfl, hB⟩
        replace r2 := Row.below r2 hB (Row.lt r2)
        replace r4 := Row.below r4 hB (Row.lt r4)
        replace hb := hb.trans (hB.mono hb.size)
        clear hB n6
        have T4 := H1.there r4 (by rw [Hm.len])
        have r2' := Row.setCells_other r2 (w.heap.size + 1) 0 c1 (by omega)
        have hb' := below_setCells hb (b := w.heap.size + 1) (o := 0) (by omega) c1
        have T2 := r2'.there 0 (vQ (List.replicate 4 0)).toArray.size (Nat.le_refl 4)
        have fin := r2'.over (vs := vQ (List.replicate 4 0)) rfl
        have hbf := below_setCells hb' (b := w.heap.size) (o := 0) (by omega) (vQ (List.replicate 4 0))
        have HSS : Hid (¬ xs.sum < 2 ^ 256) := fun hh => hs (by have h1 := HT.out (t + 1); have h2 := HMM.out; omega)
        clear r2 r4 hb r2' hb' hs
        go_wp2_with (first
          | (refine wpList_store_mid rfl 24 (.tmp 4) (.tmp 18) rfl (w.heap.size + 1) 0 c1.toArray rfl rfl T4 H1.info' H1.one ?_; simp only [Act.put])
          | (refine wpList_store_mid rfl 24 (.tmp 2) (.tmp 22) rfl w.heap.size 0 (vQ (List.replicate 4 0)).toArray rfl rfl T2 info_w4 (all_oneCell_toArray (vQ_one _)) ?_; simp only [Act.put]))
        exact bodyPost_ret (results_row_tmp Tryd.results30 _ _ w.heap.size 24 (vQ (List.replicate 4 0)) (.int .i64 22) rfl rfl fin Tryd.underlying24 info_w4 rfl) rfl ⟨by rw [show sumR xs = 0 from if_neg HSS.out, show sumE xs = 22 from if_neg HSS.out, dgs_zero], hbf⟩
    · obtain rfl : t = n := by omega
      have hlt' : ¬ (t : Int) < (t : Int) := by omega
      have hS2 := hS.out
      rw [HL.out] at r4 hS2
      have HSS : Hid (xs.sum < 2 ^ 256) := hS2
      obtain ⟨cm, Hm⟩ : ∃ c, Wc c xs.sum := ⟨_, rfl⟩
      rw [← show cm = vQ (dgs xs.sum 4) from Hm] at r4
      have T2 := Hm.there r2 rfl
      have fin := r2.over (vs := cm) (by rw [Hm.len]; rfl)
      have hbf := below_setCells hb (b := w.heap.size) (o := 0) (by omega) cm
      clear ht hlt hS hS2 HL
      go_wp2_with (first
        | (refine wpList_load_w rfl 24 (.tmp 4) rfl (w.heap.size + 1) 0 rfl cm _ r4.all Tryd.underlying24 rfl Hm.info ?_; simp only [Act.put, List.setIfInBounds_toArray, List.set_cons_zero, List.set_cons_succ])
        | (refine wpList_store_mid rfl 24 (.tmp 2) (.tmp 25) rfl w.heap.size 0 cm.toArray rfl rfl T2 Hm.info' Hm.one ?_; simp only [Act.put]))
      exact bodyPost_ret (results_row_tmp Tryd.results30 _ _ w.heap.size 24 cm (.int .i64 0) rfl rfl fin Tryd.underlying24 info_w4 Hm.len) rfl ⟨by rw [show sumR xs = xs.sum from if_pos HSS.out, show sumE xs = 0 from if_pos HSS.out, ← show cm = vQ (dgs xs.sum 4) from Hm], hbf⟩

theorem sum_c {xs : List Nat} (hxs : ∀ x ∈ xs, x < 2 ^ 256) (hlen : xs.length ≤ 4398046511104) {A : Option Addr} {n : Nat} (hn : xs.length = n) (cap : Nat) {r : Nat} {E : Int} (hr : sumR xs = r) (hE : sumE xs = E) (w : World) (h : Ws w A xs) : Calls Tryd.prog 30 #[.slice A n cap] w fun e w' => ∃ c, Wc c r ∧ e = .returned (.tuple #[.agg c.toArray, .int .i64 E]) ∧ Below w.heap.size w w' := by
  subst hr hE hn
  exact (sum_ws xs hxs hlen A cap w h).mono fun e w' h => ⟨_, rfl, h.1, h.2⟩

end Go.Proofs.YtehccmlbnfhhmaaDoor
