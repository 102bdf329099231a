/-
  wide.Text.
-/
import Derived.Test.YtehccmlbnfhhmaaDoorWCut
import Derived.Test.YtehccmlbnfhhmaaDoorWFmt
import Derived.Test.YtehccmlbnfhhmaaDoorWTextM
import Derived.Test.YtehccmlbnfhhmaaDoorWHalf
import Derived.Test.YtehccmlbnfhhmaaDoorWInv
namespace Go.Proofs.YtehccmlbnfhhmaaDoor
open Go Go.RowKit
open Wd
open Go.Lib (decDigits nDigits)

theorem gPow : Tryd.prog.globalNamed "internal/strconv.uint64pow10" = some 2 := by kernel_rfl
/-- The table of powers. -/
def P10 (w : World) : Prop := Lib.TabIs Tryd.prog w "internal/strconv.uint64pow10" .u64 Lib.pow10Tab
theorem P10.below {w w' : World} (h : P10 w) (hb : Below w.heap.size w w') : P10 w' := by
  unfold P10 Lib.TabIs World.var? at *
  rw [gPow] at *
  simp only [Option.bind_some] at h ⊢
  have hlt : 2 < w.heap.size := by
    rcases Nat.lt_or_ge 2 w.heap.size with h' | h'
    · exact h'
    · rw [Array.getElem?_eq_none h'] at h; simp at h
  rw [hb.block _ hlt]
  exact h

theorem join3 (a b c : List UInt8) : (⟨a.toArray⟩ : ByteArray) ++ (⟨b.toArray⟩ : ByteArray) ++ (⟨c.toArray⟩ : ByteArray) = ⟨(a ++ (b ++ c)).toArray⟩ := by
  apply ByteArray.ext
  simp
theorem nought_cut (n : Nat) (h : n ≤ 19) : (⟨#[48, 48, 48, 48, 48, 48, 48, 48, 48, 48, 48, 48, 48, 48, 48, 48, 48, 48, 48]⟩ : ByteArray).extract n 19 = ⟨(List.replicate (19 - n) (48 : UInt8)).toArray⟩ := by
  have : ∀ k : Fin 20, (⟨#[48, 48, 48, 48, 48, 48, 48, 48, 48, 48, 48, 48, 48, 48, 48, 48, 48, 48, 48]⟩ : ByteArray).extract k.val 19 = ⟨(List.replicate (19 - k.val) (48 : UInt8)).toArray⟩ := by decide
  exact this ⟨n, by omega⟩

theorem slice_noughts (W : World) (n : Nat) (h : n ≤ 19) : (Instr.slice 9 (.string ⟨#[48, 48, 48, 48, 48, 48, 48, 48, 48, 48, 48, 48, 48, 48, 48, 48, 48, 48, 48]⟩) (some (.int .i64 (n : Int))) none none).run Tryd.prog W = .ok (.string ⟨(List.replicate (19 - n) (48 : UInt8)).toArray⟩) W := by
  rw [run_slice_string_l W 9 _ Tryd.underlying9 .i64 (n : Int) (by omega) (by show (n : Int) ≤ 19; omega), ← nought_cut n h]
  rfl

set_option maxRecDepth 100000 in
set_option maxHeartbeats 2000000 in
theorem text_step (a : Nat) (ha : a < 2 ^ 256) (ih : ¬ a / 10000000000000000000 = 0 → ∀ w, P10 w → Calls Tryd.prog 39 #[.agg (vQ (dgs (a / 10000000000000000000) 4)).toArray] w fun e w' => e = .returned (.string ⟨(decDigits (a / 10000000000000000000)).toArray⟩) ∧ Below w.heap.size w w') (w : World) (hp : P10 w) :
    Calls Tryd.prog 39 #[.agg (vQ (dgs a 4)).toArray] w fun e w' => e = .returned (.string ⟨(decDigits a).toArray⟩) ∧ Below w.heap.size w w' := by
  have HC : Hid (∀ w, _) := cutDigits_any a ha
  have hlo : a % 10000000000000000000 < 18446744073709551616 := Nat.lt_of_lt_of_le (Nat.mod_lt _ (by decide)) (by decide)
  have HF : Hid (∀ w, P10 w → Calls Tryd.prog 60 #[.int .u64 ((a % 10000000000000000000 : Nat) : Int), .int .i64 10] w fun e w' => e = .returned (.string ⟨(Lib.decDigits (a % 10000000000000000000)).toArray⟩) ∧ Below w.heap.size w w') := fun w h => fmt_any _ hlo w h
  have hq256 : a / 10000000000000000000 < 2 ^ 256 := Nat.lt_of_le_of_lt (Nat.div_le_self _ _) ha
  have HZ : Hid (∀ w, _) := isZero_any (a / 10000000000000000000) hq256
  have HI : Hid (¬ a / 10000000000000000000 = 0 → ∀ w, P10 w → Calls Tryd.prog 39 #[.agg (vQ (dgs (a / 10000000000000000000) 4)).toArray] w fun e w' => e = .returned (.string ⟨(decDigits (a / 10000000000000000000)).toArray⟩) ∧ Below w.heap.size w w') := ih
  have HP : Hid (P10 w) := hp
  have HSM : Hid (a / 10000000000000000000 = 0 → decDigits (a % 10000000000000000000) = decDigits a) := fun h => by rw [show a % 10000000000000000000 = a by omega]
  have HBG : Hid (¬ a / 10000000000000000000 = 0 → decDigits a = decDigits (a / 10000000000000000000) ++ (List.replicate (19 - (decDigits (a % 10000000000000000000)).length) 48 ++ decDigits (a % 10000000000000000000))) := fun h => text_cut a (by omega)
  have hql : (decDigits (a / 10000000000000000000)).length ≤ 78 := by
    rw [Lib.decDigits_length]
    exact nDigits_le 78 _ (by decide) (Nat.lt_of_lt_of_le hq256 (by decide))
  have hdl : (decDigits (a % 10000000000000000000)).length ≤ 19 := by
    rw [Lib.decDigits_length]
    exact nDigits_le 19 _ (by decide) (Nat.lt_of_lt_of_le (Nat.mod_lt _ (by decide)) (by decide))
  obtain ⟨dt, hdt⟩ : ∃ dt, dt = decDigits (a % 10000000000000000000) := ⟨_, rfl⟩
  obtain ⟨dq, hdq⟩ : ∃ dq, dq = decDigits (a / 10000000000000000000) := ⟨_, rfl⟩
  obtain ⟨da, hda⟩ : ∃ da, da = decDigits a := ⟨_, rfl⟩
  rw [← hdt] at HF HSM HBG hdl
  rw [← hdq] at HI HBG hql
  rw [← hda] at HSM HBG ⊢
  obtain ⟨lo, hlo'⟩ : ∃ lo, lo = a % 10000000000000000000 := ⟨_, rfl⟩
  obtain ⟨q, hq⟩ : ∃ q, q = a / 10000000000000000000 := ⟨_, rfl⟩
  rw [← hlo', ← hq] at HC
  rw [← hlo'] at HF
  rw [← hq] at HZ HI HSM HBG
  obtain ⟨ca, hca⟩ : ∃ ca, ca = vQ (dgs a 4) := ⟨_, rfl⟩
  obtain ⟨cq, hcq⟩ : ∃ cq, cq = vQ (dgs q 4) := ⟨_, rfl⟩
  rw [← hca, ← hcq] at HC
  rw [← hcq] at HZ HI
  rw [← hca]
  have la : ca.length = 4 := by rw [hca, vQ_length, dgs_length]
  have lq : cq.length = 4 := by rw [hcq, vQ_length, dgs_length]
  have ia : (Tryd.prog.info? 24).map (·.size) = some ca.length := by rw [info_w4, la]
  have iq : (Tryd.prog.info? 24).map (·.size) = some cq.length := by rw [info_w4, lq]
  have iq' : (Tryd.prog.info? 24).map (·.size) = some cq.toArray.size := by rw [info_w4]; simp [lq]
  have oq := all_oneCell_toArray (show ∀ v ∈ cq, v.oneCell' = true by rw [hcq]; exact vQ_one _)
  have HLQ : Hid (cq.length = 4) := lq
  clear hca hcq hq hlo' hda hdq hdt hq256 hlo ha hp la lq ih
  have r0 : Row (w.alloc (Obj.cells ca.toArray 24)) w.heap.size ca 24 := Row.new w ca _
  have hb0 : Below w.heap.size w (w.alloc (Obj.cells ca.toArray 24)) := (Below.refl _ _).alloc (Nat.le_refl _) _
  go_enter Tryd.func39, Tryd.ntmps39
  go_wp2_with (refine wpList_load_mid rfl 24 (.tmp 1) rfl w.heap.size 0 rfl ca _ r0.all Tryd.underlying24 rfl ia ?_; simp only [Act.put, List.setIfInBounds_toArray, List.set_cons_zero, List.set_cons_succ])
  refine (HC.out _).mono ?_
  rintro e W1 ⟨rfl, hB1⟩
  have hb1 := hb0.trans (hB1.mono hb0.size)
  clear hB1 hb0 r0
  have n3 : Row (W1.alloc (Obj.cells #[Value.int IntKind.u64 0, Value.int IntKind.u64 0, Value.int IntKind.u64 0, Value.int IntKind.u64 0] 24)) W1.heap.size (vQ (List.replicate 4 0)) 24 := Row.new' rfl rfl
  have T3 := n3.there 0 cq.toArray.size (by simp [HLQ.out, vQ_length])
  have r3 := n3.over (vs := cq) (by rw [HLQ.out]; rfl)
  have hb2 : Below w.heap.size w ((W1.alloc (Obj.cells #[Value.int IntKind.u64 0, Value.int IntKind.u64 0, Value.int IntKind.u64 0, Value.int IntKind.u64 0] 24)).setCells W1.heap.size 0 cq) := below_setCells (hb1.alloc hb1.size _) hb1.size _
  clear n3 hb1
  go_wp2_with (refine wpList_store_mid rfl 24 (.tmp 3) (.tmp 9) rfl W1.heap.size 0 cq.toArray rfl rfl T3 iq' oq ?_; simp only [Act.put]; clear T3; (change wpList _ _ _ _ _ ((W1.alloc (Obj.cells #[Value.int IntKind.u64 0, Value.int IntKind.u64 0, Value.int IntKind.u64 0, Value.int IntKind.u64 0] 24)).setCells W1.heap.size 0 cq)); (generalize ((W1.alloc (Obj.cells #[Value.int IntKind.u64 0, Value.int IntKind.u64 0, Value.int IntKind.u64 0, Value.int IntKind.u64 0] 24)).setCells W1.heap.size 0 cq) = W2 at *))
  generalize W1.heap.size = N3 at *
  refine (HF.out W2 (HP.out.below hb2)).mono ?_
  rintro e W3 ⟨rfl, hB3⟩
  have hb3 := hb2.trans (hB3.mono hb2.size)
  replace r3 := Row.below r3 hB3 (Row.lt r3)
  clear hB3 hb2
  go_wp2_with (refine wpList_load_mid rfl 24 (.tmp 3) rfl N3 0 rfl cq _ r3.all Tryd.underlying24 rfl iq ?_; simp only [Act.put, List.setIfInBounds_toArray, List.set_cons_zero, List.set_cons_succ])
  refine (HZ.out W3).mono ?_
  rintro e W4 ⟨rfl, hB4⟩
  have hb4 := hb3.trans (hB4.mono hb3.size)
  replace r3 := Row.below r3 hB4 (Row.lt r3)
  clear hB4 hb3
  by_cases hz : q = 0
  · have hd : decide (q = 0) = true := decide_eq_true hz
    rw [hd]
    have HE : Hid (dt = da) := HSM.out hz
    clear hz hd
    go_wp2
    go_ret
    exact ⟨by rw [← HE.out]; rfl, hb4⟩
  · have hd : decide (q = 0) = false := decide_eq_false hz
    rw [hd]
    have HE : Hid (da = dq ++ (List.replicate (19 - dt.length) 48 ++ dt)) := HBG.out hz
    have HI2 : Hid _ := HI.out hz
    have HI2 : Hid _ := HI.out hz
    clear hz hd
    go_wp2
    refine wp_region_inv (by kernel_rfl) (fun listed a W => ∃ (b0 b1 b2 b3 b4 b5 b6 b7 b8 : Bool) (x2 x16 x17 x18 x19 x20 x21 x22 x23 : Value), listed = #[b0, b1, b2, b3, b4, b5, b6, b7, b8] ∧ a = { tmps := #[.agg ca.toArray, .pointer (some ⟨w.heap.size, 0, none⟩), x2, .pointer (some ⟨N3, 0, none⟩), .int .u64 (lo : Int), .string ⟨dt.toArray⟩, .tuple #[.agg cq.toArray, .int .u64 (lo : Int)], .agg ca.toArray, .tuple #[.agg cq.toArray, .int .u64 (lo : Int)], .agg cq.toArray, .int .u64 (lo : Int), .int .u64 (lo : Int), .string ⟨dt.toArray⟩, .agg cq.toArray, .bool false, undef, x16, x17, x18, x19, x20, x21, x22, x23], defers := [] } ∧ Below w.heap.size w W ∧ Row W N3 cq 24 ∧ (b0 = true → x16 = .agg cq.toArray) ∧ (b1 = true → x17 = .string ⟨dq.toArray⟩) ∧ (b2 = true → x18 = .string ⟨dt.toArray⟩) ∧ (b3 = true → x19 = .int .i64 (dt.length : Int)) ∧ (b4 = true → x20 = .string ⟨(List.replicate (19 - dt.length) (48 : UInt8)).toArray⟩) ∧ (b5 = true → x21 = .string ⟨(dq ++ List.replicate (19 - dt.length) (48 : UInt8)).toArray⟩) ∧ (b6 = true → x22 = .string ⟨dt.toArray⟩) ∧ (b7 = true → x23 = .string ⟨(dq ++ List.replicate (19 - dt.length) (48 : UInt8) ++ dt).toArray⟩) ∧ (b8 = true → x2 = .string ⟨(dq ++ List.replicate (19 - dt.length) (48 : UInt8) ++ dt).toArray⟩)) ?_ ?_ ?_
    · exact ⟨false, false, false, false, false, false, false, false, false, .string ⟨#[]⟩, undef, undef, undef, undef, undef, undef, undef, undef, rfl, rfl, Below.drew hb4, Row.drew r3, (fun h => by cases h), (fun h => by cases h), (fun h => by cases h), (fun h => by cases h), (fun h => by cases h), (fun h => by cases h), (fun h => by cases h), (fun h => by cases h), (fun h => by cases h)⟩
    · clear hb4 r3 
      intro listed a W k hI hk
      obtain ⟨b0, b1, b2, b3, b4, b5, b6, b7, b8, x2, x16, x17, x18, x19, x20, x21, x22, x23, rfl, rfl, hb4, r3, f0, f1, f2, f3, f4, f5, f6, f7, f8⟩ := hI
      have hk2 := (List.mem_filter.1 hk).2
      have hk1 : k < 9 := List.mem_range.1 (List.mem_filter.1 hk).1
      clear hk
      rcases (show k = 0 ∨ k = 1 ∨ k = 2 ∨ k = 3 ∨ k = 4 ∨ k = 5 ∨ k = 6 ∨ k = 7 ∨ k = 8 by omega) with rfl | rfl | rfl | rfl | rfl | rfl | rfl | rfl | rfl
      · exact wpOp_plain rfl rfl (wp_load_mid 24 (.tmp 3) rfl N3 0 rfl cq _ r3.all Tryd.underlying24 rfl iq ⟨true, b1, b2, b3, b4, b5, b6, b7, b8, x2, .agg cq.toArray, x17, x18, x19, x20, x21, x22, x23, rfl, rfl, hb4, r3, fun _ => rfl, f1, f2, f3, f4, f5, f6, f7, f8⟩)
      · simp [Region.binds] at hk2
        obtain rfl := f0 (by simp [hk2])
        refine wpOp_plain rfl rfl (wp_fcall 39 #[.agg cq.toArray] (by go_simp) ((HI2.out W (HP.out.below hb4)).mono ?_))
        rintro e W2 ⟨rfl, hB2⟩
        exact ⟨_, rfl, b0, true, b2, b3, b4, b5, b6, b7, b8, x2, .agg cq.toArray, .string ⟨dq.toArray⟩, x18, x19, x20, x21, x22, x23, rfl, rfl, hb4.trans (hB2.mono hb4.size), Row.below r3 hB2 (Row.lt r3), fun _ => rfl, fun _ => rfl, f2, f3, f4, f5, f6, f7, f8⟩
      · skip
        exact wpOp_plain rfl rfl (wp_move (.tmp 5) rfl ⟨b0, b1, true, b3, b4, b5, b6, b7, b8, x2, x16, x17, .string ⟨dt.toArray⟩, x19, x20, x21, x22, x23, rfl, rfl, hb4, r3, f0, f1, fun _ => rfl, f3, f4, f5, f6, f7, f8⟩)
      · simp [Region.binds] at hk2
        obtain rfl := f2 (by simp [hk2])
        exact wpOp_plain rfl rfl (wp_pure (v := .int .i64 (dt.length : Int)) (by go_simp) ⟨b0, b1, b2, true, b4, b5, b6, b7, b8, x2, x16, x17, .string ⟨dt.toArray⟩, .int .i64 (dt.length : Int), x20, x21, x22, x23, rfl, rfl, hb4, r3, f0, f1, fun _ => rfl, fun _ => rfl, f4, f5, f6, f7, f8⟩)
      · simp [Region.binds] at hk2
        obtain rfl := f3 (by simp [hk2])
        exact wpOp_plain rfl rfl (wp_pure (v := .string ⟨(List.replicate (19 - dt.length) (48 : UInt8)).toArray⟩) (by have h := slice_noughts W dt.length hdl; go_simp) ⟨b0, b1, b2, b3, true, b5, b6, b7, b8, x2, x16, x17, x18, .int .i64 (dt.length : Int), .string ⟨(List.replicate (19 - dt.length) (48 : UInt8)).toArray⟩, x21, x22, x23, rfl, rfl, hb4, r3, f0, f1, f2, fun _ => rfl, fun _ => rfl, f5, f6, f7, f8⟩)
      · simp [Region.binds] at hk2
        obtain rfl := f1 (by simp [hk2])
        obtain rfl := f4 (by simp [hk2])
        exact wpOp_plain rfl rfl (wp_pure (v := .string ⟨(dq ++ List.replicate (19 - dt.length) (48 : UInt8)).toArray⟩) (by go_simp; rw [if_neg (by omega)]; exact congrArg (fun x => Result.ok (Next.value (Value.string x)) W) (by apply ByteArray.ext; simp [ByteArray.data_append])) ⟨b0, b1, b2, b3, b4, true, b6, b7, b8, x2, x16, .string ⟨dq.toArray⟩, x18, x19, .string ⟨(List.replicate (19 - dt.length) (48 : UInt8)).toArray⟩, .string ⟨(dq ++ List.replicate (19 - dt.length) (48 : UInt8)).toArray⟩, x22, x23, rfl, rfl, hb4, r3, f0, fun _ => rfl, f2, f3, fun _ => rfl, fun _ => rfl, f6, f7, f8⟩)
      · skip
        exact wpOp_plain rfl rfl (wp_move (.tmp 5) rfl ⟨b0, b1, b2, b3, b4, b5, true, b7, b8, x2, x16, x17, x18, x19, x20, x21, .string ⟨dt.toArray⟩, x23, rfl, rfl, hb4, r3, f0, f1, f2, f3, f4, f5, fun _ => rfl, f7, f8⟩)
      · simp [Region.binds] at hk2
        obtain rfl := f5 (by simp [hk2])
        obtain rfl := f6 (by simp [hk2])
        exact wpOp_plain rfl rfl (wp_pure (v := .string ⟨(dq ++ List.replicate (19 - dt.length) (48 : UInt8) ++ dt).toArray⟩) (by have h := run_string_add_lists (P := Tryd.prog) W (dq ++ List.replicate (19 - dt.length) (48 : UInt8)) dt (by rw [List.length_append, List.length_replicate]; omega) (by omega); go_simp) ⟨b0, b1, b2, b3, b4, b5, b6, true, b8, x2, x16, x17, x18, x19, x20, .string ⟨(dq ++ List.replicate (19 - dt.length) (48 : UInt8)).toArray⟩, .string ⟨dt.toArray⟩, .string ⟨(dq ++ List.replicate (19 - dt.length) (48 : UInt8) ++ dt).toArray⟩, rfl, rfl, hb4, r3, f0, f1, f2, f3, f4, fun _ => rfl, fun _ => rfl, fun _ => rfl, f8⟩)
      · simp [Region.binds] at hk2
        obtain rfl := f7 (by simp [hk2])
        exact wpOp_plain rfl rfl (wp_assign (.tmp 23) rfl ⟨b0, b1, b2, b3, b4, b5, b6, b7, true, .string ⟨(dq ++ List.replicate (19 - dt.length) (48 : UInt8) ++ dt).toArray⟩, x16, x17, x18, x19, x20, x21, x22, .string ⟨(dq ++ List.replicate (19 - dt.length) (48 : UInt8) ++ dt).toArray⟩, rfl, rfl, hb4, r3, f0, f1, f2, f3, f4, f5, f6, fun _ => rfl, fun _ => rfl⟩)
    · clear hb4 r3 
      intro listed a W hI hr
      obtain ⟨b0, b1, b2, b3, b4, b5, b6, b7, b8, x2, x16, x17, x18, x19, x20, x21, x22, x23, rfl, rfl, hb4, r3, f0, f1, f2, f3, f4, f5, f6, f7, f8⟩ := hI
      have hr2 := List.filter_eq_nil_iff.1 hr
      obtain rfl : b0 = true := by have := hr2 0 (List.mem_range.2 (by decide)); simpa [Region.binds] using this
      obtain rfl : b1 = true := by have := hr2 1 (List.mem_range.2 (by decide)); simpa [Region.binds] using this
      obtain rfl : b2 = true := by have := hr2 2 (List.mem_range.2 (by decide)); simpa [Region.binds] using this
      obtain rfl : b3 = true := by have := hr2 3 (List.mem_range.2 (by decide)); simpa [Region.binds] using this
      obtain rfl : b4 = true := by have := hr2 4 (List.mem_range.2 (by decide)); simpa [Region.binds] using this
      obtain rfl : b5 = true := by have := hr2 5 (List.mem_range.2 (by decide)); simpa [Region.binds] using this
      obtain rfl : b6 = true := by have := hr2 6 (List.mem_range.2 (by decide)); simpa [Region.binds] using this
      obtain rfl : b7 = true := by have := hr2 7 (List.mem_range.2 (by decide)); simpa [Region.binds] using this
      obtain rfl : b8 = true := by have := hr2 8 (List.mem_range.2 (by decide)); simpa [Region.binds] using this
      obtain rfl := f8 rfl
      clear hr hr2 f0 f1 f2 f3 f4 f5 f6 f7 f8
      go_wp2
      go_ret
      exact ⟨by rw [HE.out, List.append_assoc]; rfl, hb4⟩

theorem text_any (a : Nat) : a < 2 ^ 256 → ∀ w, P10 w → Calls Tryd.prog 39 #[.agg (vQ (dgs a 4)).toArray] w fun e w' => e = .returned (.string ⟨(decDigits a).toArray⟩) ∧ Below w.heap.size w w' := by
  induction a using Nat.strongRecOn with
  | ind a ih =>
    intro ha w hp
    exact text_step a ha (fun hq w hp => ih _ (by omega) (by omega) w hp) w hp

end Go.Proofs.YtehccmlbnfhhmaaDoor
