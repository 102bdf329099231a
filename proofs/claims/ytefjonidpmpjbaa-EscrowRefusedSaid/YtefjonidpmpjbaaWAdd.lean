/-
  wide.Add, wide.Sub.
-/
import Derived.Test.YtefjonidpmpjbaaWNum
import Derived.Test.YtefjonidpmpjbaaMem
import Derived.Test.YtefjonidpmpjbaaTail
import Derived.Test.YtefjonidpmpjbaaProg
import Derived.Laws.Externs
import Derived.BigQuiet
import Derived.Shelf.Spec.BitsCarry
namespace Go.Proofs.Ytefjonidpmpjbaa
open Go Go.RowKit
open Wd

theorem add64_run (x y c : Nat) (hc : c ≤ 1) (w : World) : (callFunc 63 #[.int .u64 (x : Int), .int .u64 (y : Int), .int .u64 (c : Int)]).run Try.prog w =
    .ok (.value (.tuple #[.int .u64 (((x + y + c) % 18446744073709551616 : Nat) : Int), .int .u64 (((x + y + c) / 18446744073709551616 : Nat) : Int)])) w := by
  rw [run_callFunc_extern Try.func63 (by kernel_rfl) (by kernel_rfl) (by kernel_rfl) (e := add64Entry) (by kernel_rfl), run_add64 x y c (by omega) (by omega) (by omega) (by omega)]
  simp only [Result.andThen]
  congr 5 <;> omega
theorem sub64_run (x y c : Nat) (hc : c ≤ 1) (w : World) : (callFunc 64 #[.int .u64 (x : Int), .int .u64 (y : Int), .int .u64 (c : Int)]).run Try.prog w =
    .ok (.value (.tuple #[.int .u64 (((x + 18446744073709551616 - y - c) % 18446744073709551616 : Nat) : Int), .int .u64 ((if x < y + c then 1 else 0 : Nat) : Int)])) w := by
  rw [run_callFunc_extern Try.func64 (by kernel_rfl) (by kernel_rfl) (by kernel_rfl) (e := sub64Entry) (by kernel_rfl), run_sub64 x y c hc]
  rfl

theorem results_row_tmp {P : Program} {fn : Func} {p q : Tmp} {ty : TypeId} {n : Nat} {e : TypeId} (h : fn.results = #[.cell p ty, .tmp q]) (tmps : Array Value) (w : World) (g : Nat) (t : TypeId) (cs : List Value) (v : Value)
    (hp : tmps.getD p undef = .pointer (some ⟨g, 0, none⟩)) (hv : tmps.getD q undef = v) (hg : Row w g cs t) (hu : P.underlying ty = some (.array n e)) (hi : (P.info? ty).map (·.size) = some n) (hl : cs.length = n) :
    (results fn tmps).run P w = .ok (.tuple #[.agg cs.toArray, v]) w := by
  have hp' : tmps[p]?.getD undef = .pointer (some ⟨g, 0, none⟩) := by simpa using hp
  have hv' : tmps[q]?.getD undef = v := by simpa using hv
  have hr := run_loadVar_row (P := P) w g t ty cs.toArray (0, 0) (.array n e) hg hu rfl (by simp [hi, hl])
  simp [results, h, hp', hv', asAddr, hr]

theorem info_w4 : (Try.prog.info? 33).map (·.size) = some 4 := by kernel_rfl

set_option maxRecDepth 100000 in
set_option maxHeartbeats 1000000 in
theorem add_any (a b : Nat) (ha : a < 2 ^ 256) (hb : b < 2 ^ 256) (w : World) :
    Calls Try.prog 51 #[.agg (vQ (dgs a 4)).toArray, .agg (vQ (dgs b 4)).toArray] w fun e w' => e = .returned (.tuple #[.agg (vQ (dgs (addR a b) 4)).toArray, .int .i64 (addE a b)]) ∧ Below w.heap.size w w' := by
  have HC4 : Hid (car a b 4 = if a + b < 2 ^ 256 then 0 else 1) := car_four a b ha hb
  clear ha hb
  go_enter Try.func51, Try.ntmps51
  go_wp2
  go_loopw [7, 8, 9] (fun c _ i wr => ∃ t : Nat, t ≤ 4 ∧ i = .int .i64 (t : Int) ∧ c = .int .u64 ((car a b t : Nat) : Int) ∧ Below w.heap.size w wr ∧ Row wr w.heap.size (vQ (dgs a 4)) 33 ∧ Row wr (w.heap.size + 1) (vQ (dgs b 4)) 33 ∧ Row wr (w.heap.size + 1 + 1) (vQ (List.replicate 4 0)) 33 ∧ Row wr (w.heap.size + 1 + 1 + 1) (vQ (dgs (a + b) t ++ List.replicate (4 - t) 0)) 33)
    (fun _ _ i _ => 4 - (intOf i).toNat)
  case atStart =>
    refine ⟨0, by omega, rfl, by rw [car_zero]; rfl, ((((Below.refl _ _).alloc (Nat.le_refl _) _).alloc (by simp) _).alloc (by simp; omega) _).alloc (by simp; omega) _, ?_, ?_, ?_, ?_⟩
    · exact (((Row.new' rfl rfl).alloc _).alloc _).alloc _
    · exact ((Row.new' (by simp) rfl).alloc _).alloc _
    · exact (Row.new' (by simp) rfl).alloc _
    · exact Row.new' (by simp) rfl
  case round =>
    obtain ⟨t, ht, rfl, rfl, hb, h0, h1, h2, h3⟩ := hrel
    by_cases hlt : t < 4
    · have g0 := h0.cell t _ (vQ_get _ t (by rw [dgs_length]; exact hlt))
      have g1 := h1.cell t _ (vQ_get _ t (by rw [dgs_length]; exact hlt))
      have g3 := h3.cell t _ (vQ_get _ t (by rw [List.length_append, dgs_length, List.length_replicate]; omega))
      have gf := h3.thaw t
      rw [dgs_getD _ _ _ hlt] at g0 g1
      have hst := add_step a b t hlt
      have hc1 := car_le a b t
      have HST : Hid _ := hst
      generalize (dgs (a + b) t ++ List.replicate (4 - t) 0).getD t 0 = z at g3
      generalize lim a t = x at g0 HST
      generalize lim b t = y at g1 HST
      generalize car a b t = cc at hc1 HST
      have H64 : Hid _ := add64_run x y cc hc1
      clear hst
      go_wp2
      have h64 := H64.out
      go_region
      have e1 : ((x : Int) + (y : Int) + (cc : Int)) % 18446744073709551616 = ((lim (a + b) t : Nat) : Int) := by rw [← HST.out.1]; omega
      have e2 : ((x : Int) + (y : Int) + (cc : Int)) / 18446744073709551616 = ((car a b (t + 1) : Nat) : Int) := by rw [← HST.out.2]; omega
      clear h64 H64
      go_wp2
      refine ⟨⟨t + 1, hlt, by go_num, by rw [e2], ?_, ?_, ?_, ?_, ?_⟩, by simp [intOf]; omega⟩
      · exact Below.drew (Below.setCell hb (by simp; omega) _)
      · exact Row.drew (Row.set_other h0 _ _ _ (by omega))
      · exact Row.drew (Row.set_other h1 _ _ _ (by omega))
      · exact Row.drew (Row.set_other h2 _ _ _ (by omega))
      · have := h3.set t (.int .u64 ((lim (a + b) t : Nat) : Int))
        rw [vQ_set, fill _ t 4 _ (dgs_length _ _) hlt, ← dgs_succ] at this
        exact Row.drew this
    · have e4 : (t : Int) = 4 := by omega
      have et : t = 4 := by omega
      rw [et] at h3
      rw [show car a b t = car a b 4 by rw [et], e4]
      clear e4 et ht hlt
      have h3' : Row wr (w.heap.size + 1 + 1 + 1) (vQ (dgs (a + b) 4)) 33 := by simpa using h3
      clear h3
      by_cases hc : a + b < 2 ^ 256
      · have hcar : car a b 4 = 0 := by rw [HC4.out, if_pos hc]
        rw [hcar]
        have HR : Hid (a + b < 2 ^ 256) := hc
        obtain ⟨cs, hcs⟩ : ∃ cs, cs = vQ (dgs (a + b) 4) := ⟨_, rfl⟩
        have hl : cs.length = 4 := by rw [hcs, vQ_length, dgs_length]
        rw [← hcs] at h3'
        have i4 : (Try.prog.info? 33).map (·.size) = some cs.length := by rw [info_w4, hl]
        have i4' : (Try.prog.info? 33).map (·.size) = some cs.toArray.size := by rw [info_w4]; simp [hl]
        have hone := all_oneCell_toArray (show ∀ v ∈ cs, v.oneCell' = true by rw [hcs]; exact vQ_one _)
        have T := h2.there 0 cs.toArray.size (by simp [hl, vQ_length])
        have fin := h2.over (vs := cs) (by rw [hl]; rfl)
        have hbf := below_setCells hb (b := w.heap.size + 1 + 1) (o := 0) (by omega) cs
        have HE : Hid (vQ (dgs (a + b) 4) = cs) := hcs.symm
        have HL : Hid (cs.length = 4) := hl
        clear hcs hl hb hc HC4 hcar
        go_wp2_with (first
          | (refine wpList_load_mid rfl 33 (.tmp 6) rfl (w.heap.size + 1 + 1 + 1) 0 rfl cs _ h3'.all Try.underlying33 rfl i4 ?_; simp only [Act.put, List.setIfInBounds_toArray, List.set_cons_zero, List.set_cons_succ])
          | (refine wpList_store_mid rfl 33 (.tmp 4) (.tmp 29) rfl (w.heap.size + 1 + 1) 0 cs.toArray rfl rfl T i4' hone ?_; simp only [Act.put]))
        exact bodyPost_ret (results_row_tmp Try.results51 _ _ (w.heap.size + 1 + 1) 33 cs (.int .i64 0) rfl rfl fin Try.underlying33 info_w4 HL.out) rfl ⟨by rw [show addR a b = a + b from if_pos HR.out, show addE a b = 0 from if_pos HR.out, HE.out], hbf⟩
      · have hcar : car a b 4 = 1 := by rw [HC4.out, if_neg hc]
        rw [hcar]
        have HR : Hid (¬ a + b < 2 ^ 256) := hc
        have T := h2.there 0 (vQ (List.replicate 4 0)).toArray.size (Nat.le_refl 4)
        have fin := h2.over (vs := vQ (List.replicate 4 0)) rfl
        have hbf := below_setCells hb (b := w.heap.size + 1 + 1) (o := 0) (by omega) (vQ (List.replicate 4 0))
        clear hb hc HC4 hcar
        go_wp2_with (refine wpList_store_mid rfl 33 (.tmp 4) (.tmp 28) rfl (w.heap.size + 1 + 1) 0 (vQ (List.replicate 4 0)).toArray rfl rfl T info_w4 (all_oneCell_toArray (vQ_one _)) ?_; simp only [Act.put])
        exact bodyPost_ret (results_row_tmp Try.results51 _ _ (w.heap.size + 1 + 1) 33 (vQ (List.replicate 4 0)) (.int .i64 22) rfl rfl fin Try.underlying33 info_w4 rfl) rfl ⟨by rw [show addR a b = 0 from if_neg HR.out, show addE a b = 22 from if_neg HR.out, dgs_zero], hbf⟩

end Go.Proofs.Ytefjonidpmpjbaa
