/-
  Bits: the digest of the first n bits.
-/
import Derived.Test.YtihigbkanbabeaaDoorSub
namespace Go.Proofs.YtihigbkanbabeaaDoor
open Go Go.RowKit
open Sha

namespace Sha
/-- What waits behind the whole bytes of n bits. -/
def btail (d : List (BitVec 8)) (n : Nat) : List (BitVec 8) :=
  if n % 8 = 0 then hwait (d.take (n / 8)) else (hwait (d.take (n / 8))).set (n / 8 % 64) (d.getD (n / 8) 0 &&& ~~~(255#8 >>> (n % 8)))
def dbits (d : List (BitVec 8)) (n : Nat) : List (BitVec 8) := (fin (hst (d.take (n / 8))) (btail d n) n).bytes
theorem btail_length (d : List (BitVec 8)) (n : Nat) : (btail d n).length = 64 := by
  unfold btail; split
  · exact hwait_length _
  · rw [List.length_set, hwait_length]
theorem dbits_length (d : List (BitVec 8)) (n : Nat) : (dbits d n).length = 32 := St.bytes_length _
/-- Of whole bytes it is their digest. -/
theorem dbits_whole (d : List (BitVec 8)) (n : Nat) (h : n % 8 = 0) (hn : n / 8 ≤ d.length) : dbits d n = dig (d.take (n / 8)) := by
  unfold dbits dig btail
  rw [if_pos h, List.length_take, show 8 * min (n / 8) d.length = n by omega]
end Sha

theorem results_row_tmp {P : Program} {fn : Func} {p q : Tmp} {ty : TypeId} {n : Nat} {e : TypeId} (h : fn.results = #[.cell p ty, .tmp q]) (tmps : Array Value) (w : World) (g : Nat) (t : TypeId) (cs : List Value) (v : Value)
    (hp : tmps.getD p undef = .pointer (some ⟨g, 0, none⟩)) (hv : tmps.getD q undef = v) (hg : Row w g cs t) (hu : P.underlying ty = some (.array n e)) (hi : (P.info? ty).map (·.size) = some n) (hl : cs.length = n) :
    (results fn tmps).run P w = .ok (.tuple #[.agg cs.toArray, v]) w := by
  have hp' : tmps[p]?.getD undef = .pointer (some ⟨g, 0, none⟩) := by simpa using hp
  have hv' : tmps[q]?.getD undef = v := by simpa using hv
  have hr := run_loadVar_row (P := P) w g t ty cs.toArray (0, 0) (.array n e) hg hu rfl (by simp [hi, hl])
  simp [results, h, hp', hv', asAddr, hr]

theorem mask_byte (y : BitVec 8) (k : Nat) : bits BinOp.andNot IntKind.u8 (c y) (255 / 2 ^ k) = c (y &&& ~~~(255#8 >>> k)) := by
  have h : (255 : Int) / 2 ^ k = (((255#8 >>> k).toNat : Nat) : Int) := by
    rw [BitVec.toNat_ushiftRight, Nat.shiftRight_eq_div_pow]; simp
  rw [h]
  unfold c
  rw [u8_andNot_nat _ _ y.isLt (BitVec.isLt _), BitVec.toNat_and, BitVec.toNat_not]

section
variable {P : Program} {ops : Array Oper} {rest : List Oper} {op : Oper} {a : Act} {w : World} {Q : Exit → Act → World → Prop}
theorem run_slice_h (w0 w : World) (t e : TypeId) (A : Option Addr) (n cap : Nat) (d : List (BitVec 8)) (hv : SlAt w0 (.slice A n cap) d) (k : Nat) (hk : k ≤ d.length) (hu : P.underlying t = some (.slice e)) (hs : (P.info? e).map (·.size) = some 1) :
    ∃ B c, (Instr.sliceAt t (.slice A n cap) none (some (.int .i64 (k : Int))) none).run P w = .ok (.slice B k c) w ∧ SlAt w0 (.slice B k c) (d.take k) := by
  cases hq : P.info? e with
  | none => simp [hq] at hs
  | some inf =>
    rcases hv with ⟨rfl, A', c', hv⟩ | ⟨ab, ao, c, hv, hc, hr⟩
    · simp only [Value.slice.injEq] at hv
      obtain ⟨rfl, rfl, rfl⟩ := hv
      obtain rfl : k = 0 := by simpa using hk
      exact ⟨_, cap, by simp [Instr.sliceAt, Instr.slice, run_underlying hu, Instr.sliceBounds, Instr.sliceBound, asIntOf, sizeOf, typeInfo, hq]; rfl, .inl ⟨by simp, _, _, rfl⟩⟩
    · simp only [Value.slice.injEq] at hv
      obtain ⟨rfl, rfl, rfl⟩ := hv
      have hkc : k ≤ cap := by omega
      refine ⟨some ⟨ab, ao, none⟩, cap, by simp [Instr.sliceAt, Instr.slice, run_underlying hu, Instr.sliceBounds, Instr.sliceBound, asIntOf, sizeOf, typeInfo, hq, hkc, Addr.add], .inr ⟨ab, ao, cap, ?_, ?_, ?_⟩⟩
      · rw [List.length_take, show min k d.length = k by omega]
      · rw [List.length_take]; omega
      · intro j v hj
        have hjl : j < k := by have := (List.getElem?_eq_some_iff.1 hj).1; rw [vB_length, List.length_take] at this; omega
        refine hr j v ?_
        rw [← hj]; simp only [vB, List.map_take]
        rw [List.getElem?_take_of_lt hjl]
theorem wpList_slice_h (hgd : op.guard = none) (t : TypeId) (x z : Operand) (ho : op.op = .slice t x none (some z) none) (w0 : World) (e : TypeId) (A : Option Addr) (n cap : Nat) (d : List (BitVec 8)) (hv : SlAt w0 (.slice A n cap) d)
    (k : Nat) (l : Int) (hl : l = (k : Int)) (hx : a.eval x = .slice A n cap) (hz : a.eval z = .int .i64 l) (hk : k ≤ d.length) (hu : P.underlying t = some (.slice e)) (hs : (P.info? e).map (·.size) = some 1)
    (h : ∀ B c, SlAt w0 (.slice B k c) (d.take k) → wpList P ops Q rest (a.put op.dst (.slice B k c)) w) : wpList P ops Q (op :: rest) a w :=
  wpList_plain hgd fun _ hK => by
    subst hl
    obtain ⟨B, c, hr, hS⟩ := run_slice_h (P := P) w0 w t e A n cap d hv k hk hu hs
    unfold Oper.wp execOp
    simp only [ho, hx, hz, Option.map_some, Option.map_none, Sem.run_bind, hr, Result.andThen_ok, Sem.run_pure, Oper.upon_value]
    exact hK _ _ (h _ _ hS)
end

set_option maxRecDepth 100000 in
set_option maxHeartbeats 1000000 in
theorem bits_bad (d : List (BitVec 8)) (hd : d.length < 576460752303423488) (A : Option Addr) (cap : Nat) (n : Int) (h1 : -9223372036854775808 ≤ n) (h2 : n ≤ 9223372036854775807) (hbad : n < 0 ∨ 8 * (d.length : Int) < n) (w : World) :
    Calls Tryd.prog 20 #[.slice A d.length cap, .int .i64 n] w fun e w' => e = .returned (.tuple #[.agg (vB (List.replicate 32 0#8)).toArray, .int .i64 11]) ∧ Below w.heap.size w w' := by
  by_cases hn : n < 0
  · clear hbad
    go_enter Tryd.func20, Tryd.ntmps20
    go_wp2_with (refine wpList_store_mid rfl 26 (.tmp 4) (.tmp 19) rfl w.heap.size 0 (vB (List.replicate 32 0#8)).toArray rfl rfl (digest_there w (List.replicate 32 0#8) rfl) info_dig (all_oneCell_toArray (vB_one _)) ?_; simp only [Act.put])
    obtain ⟨hB, hR⟩ := digest_laid (W := w) (List.replicate 32 0#8) rfl (Below.refl _ w)
    exact bodyPost_ret (results_row_tmp Tryd.results20 _ _ w.heap.size 26 (vB (List.replicate 32 0#8)) (.int .i64 11) rfl rfl hR Tryd.underlying26 info_dig rfl) rfl ⟨rfl, hB⟩
  · have hn2 : 8 * (d.length : Int) < n := by omega
    clear hbad
    go_enter Tryd.func20, Tryd.ntmps20
    go_wp2_with (refine wpList_store_mid rfl 26 (.tmp 4) (.tmp 19) rfl w.heap.size 0 (vB (List.replicate 32 0#8)).toArray rfl rfl (digest_there w (List.replicate 32 0#8) rfl) info_dig (all_oneCell_toArray (vB_one _)) ?_; simp only [Act.put])
    obtain ⟨hB, hR⟩ := digest_laid (W := w) (List.replicate 32 0#8) rfl (Below.refl _ w)
    exact bodyPost_ret (results_row_tmp Tryd.results20 _ _ w.heap.size 26 (vB (List.replicate 32 0#8)) (.int .i64 11) rfl rfl hR Tryd.underlying26 info_dig rfl) rfl ⟨rfl, hB⟩

set_option maxRecDepth 100000 in
set_option maxHeartbeats 1000000 in
theorem bits_ok (d dd : List (BitVec 8)) (hd : d.length < 576460752303423488) (A : Option Addr) (cap n : Nat) (hn : n ≤ 8 * d.length) (hdd : dd = dbits d n) (w : World) (hK : Tab w 1) (hv : SlAt w (.slice A d.length cap) d) :
    Calls Tryd.prog 20 #[.slice A d.length cap, .int .i64 (n : Int)] w fun e w' => e = .returned (.tuple #[.agg (vB dd).toArray, .int .i64 0]) ∧ Below w.heap.size w w' := by
  have HDL : Hid (dd.length = 32) := by rw [hdd]; exact dbits_length _ _
  obtain ⟨s, hs⟩ : ∃ s, s = hst (d.take (n / 8)) := ⟨_, rfl⟩
  obtain ⟨t, ht⟩ : ∃ t, t = hwait (d.take (n / 8)) := ⟨_, rfl⟩
  have HTL : Hid (t.length = 64) := by rw [ht]; exact hwait_length _
  obtain ⟨t2, ht2⟩ : ∃ t2, t2 = btail d n := ⟨_, rfl⟩
  have HT2L : Hid (t2.length = 64) := by rw [ht2]; exact btail_length _ _
  have HF : Hid ((fin s t2 n).bytes = dd) := by rw [hs, ht2, hdd]; rfl
  have HB : Hid (t2 = if n % 8 = 0 then t else t.set (n / 8 % 64) (d.getD (n / 8) 0 &&& ~~~(255#8 >>> (n % 8)))) := by rw [ht2, ht]; rfl
  have hz8 : n / 8 ≤ d.length := by omega
  have hlt8 : (d.take (n / 8)).length = n / 8 := by rw [List.length_take]; omega
  have HS : Hid (s = hst (d.take (n / 8))) := hs
  have HT : Hid (t = hwait (d.take (n / 8))) := ht
  have HL8 : Hid _ := hlt8
  have hi1 : (Tryd.prog.info? 59).map (·.size) = some (vB t).length := by rw [info_b64, vB_length, HTL.out]
  have hi1' : (Tryd.prog.info? 59).map (·.size) = some (vB t).toArray.size := by rw [info_b64]; simp [vB_length, HTL.out]
  have hi2 : (Tryd.prog.info? 59).map (·.size) = some (vB t2).length := by rw [info_b64, vB_length, HT2L.out]
  have hi5 : (Tryd.prog.info? 26).map (·.size) = some (vB dd).toArray.size := by rw [info_dig]; simp [vB_length, HDL.out]
  clear hdd hs ht ht2 hlt8
  go_enter Tryd.func20, Tryd.ntmps20
  go_wp2_with fail
  refine (new_any _).mono ?_
  rintro e w1 ⟨b, rfl, hb1, hH1, hB1⟩
  have hN : w.heap.size + 1 ≤ b := by simpa using hb1
  have hBw : Below w.heap.size w w1 := ((Below.refl _ _).alloc (Nat.le_refl _) _).trans (hB1.mono (by simp))
  have r0 : Row w1 w.heap.size (vB (List.replicate 32 0#8)) 26 := Row.below (Row.new' rfl rfl) hB1 (by simp)
  have hg : 1 ≠ b := by have := hK.lt; omega
  clear hB1 hb1
  go_wp2_with (refine wpList_slice_h rfl 22 (.tmp 26) (.tmp 27) rfl w 5 A d.length cap d hv (n / 8) _ (by omega) rfl rfl hz8 Tryd.underlying22 info_u8 ?_; intro B1 q1 hS1; simp only [Act.put, List.setIfInBounds_toArray, List.set_cons_zero, List.set_cons_succ])
  refine (write_old [] (d.take (n / 8)) (by rw [HL8.out]; simp; omega) b _ w w1 (hK.below hBw hK.lt) hg hH1 hS1 hBw (by omega)).mono ?_
  rintro e w2 ⟨rfl, hH2, hU2⟩
  have hBw2 := But.below hBw hU2 (by omega) hBw.size
  have r02 := r0.but hU2 (by omega)
  rw [List.nil_append] at hH2
  unfold HAt at hH2
  rw [← HS.out, ← HT.out, HL8.out] at hH2
  clear hBw r0 hH1 hU2 hS1
  have hbl := hH2.lt
  have T9 := Row.there (Row.new w2 (vB noughts) 59) 0 (vB t).toArray.size (by rw [vB_noughts_length]; simp [vB_length, HTL.out])
  by_cases h8 : n % 8 = 0
  · have ht2 : t2 = t := by have := HB.out; rw [if_pos h8] at this; exact this
    go_wp2_with (first
      | (refine wpList_load_mid rfl 59 (.tmp 32) rfl b 8 rfl (vB t) _ (hH2.range 8 _ (hcells_wait _ _ _)) Tryd.underlying59 rfl hi1 ?_; simp only [Act.put, List.setIfInBounds_toArray, List.set_cons_zero, List.set_cons_succ])
      | (refine wpList_store_mid rfl 59 (.tmp 9) (.tmp 33) rfl w2.heap.size 0 (vB t).toArray rfl rfl T9 hi1' (all_oneCell_toArray (vB_one t)) ?_; simp only [Act.put]; (have r9 := Row.over (Row.new w2 (vB noughts) 59) (vs := vB t) (by rw [vB_length, HTL.out]; rfl)); (have hS3 := below_setCells ((Below.refl _ w2).alloc (Nat.le_refl _) (Obj.cells (vB noughts).toArray 59)) (b := w2.heap.size) (o := 0) (Nat.le_refl _) (vB t)); (change wpList _ _ _ _ _ (World.setCells (w2.alloc (Obj.cells (vB noughts).toArray 59)) w2.heap.size 0 (vB t))); clear T9; (have hH3 := hH2.below hS3 hbl); (have r03 := r02.below hS3 (Row.lt r02)); (have hBw3 := hBw2.trans (hS3.mono hBw2.size)); (have hp9 : Hid (b < w2.heap.size) := hbl); clear hS3 hH2 r02 hBw2 hbl; (generalize World.setCells (w2.alloc (Obj.cells (vB noughts).toArray 59)) w2.heap.size 0 (vB t) = w3 at *); (generalize w2.heap.size = p9 at *); clear w2))
    rw [← ht2] at r9
    have hT3 : Tab w3 1 := hK.below hBw3 hK.lt
    have hbl := hH3.lt
    have h9l := r9.lt
    have h0l := r03.lt
    refine wp_region_quiet_tail (C := fun w' => Below w3.heap.size w3 w') 7 (by kernel_rfl) (by kernel_rfl) ((Below.refl _ _).drew) ?_
    simp only [List.take_succ_cons, List.take_zero, List.drop_succ_cons, List.drop_zero]
    refine quiet_copy rfl (.tmp 8) (.inl rfl) ?_
    simp only [Act.put, List.setIfInBounds_toArray, List.set_cons_zero, List.set_cons_succ]
    refine quiet_val rfl (.pointer (some ⟨b, 0, none⟩)) (fun w' _ => by go_simp) ?_
    simp only [Act.put, List.setIfInBounds_toArray, List.set_cons_zero, List.set_cons_succ]
    refine quiet_val rfl (.pointer (some ⟨b, 0, none⟩)) (fun w' _ => by go_simp) ?_
    simp only [Act.put, List.setIfInBounds_toArray, List.set_cons_zero, List.set_cons_succ]
    refine quiet_load rfl 58 (.tmp 48) rfl b 0 rfl (vW s.list) _ (fun w' hw' => (hH3.below hw' hbl).range 0 _ (hcells_state _ _ _)) Tryd.underlying58 rfl info_arr8 ?_
    simp only [Act.put, List.setIfInBounds_toArray, List.set_cons_zero, List.set_cons_succ]
    refine quiet_load rfl 59 (.tmp 9) rfl p9 0 rfl (vB t2) _ (fun w' hw' => (r9.below hw' h9l).all) Tryd.underlying59 rfl hi2 ?_
    simp only [Act.put, List.setIfInBounds_toArray, List.set_cons_zero, List.set_cons_succ]
    refine quiet_copy rfl (.tmp 1) (.inl rfl) ?_
    simp only [Act.put, List.setIfInBounds_toArray, List.set_cons_zero, List.set_cons_succ]
    refine quiet_call rfl 36 #[.agg (vW s.list).toArray, .agg (vB t2).toArray, .int .i64 (n : Int)] (.agg (vB dd).toArray) (fun w' _ => by go_simp) (fun w' hw' => (finish_d s t2 dd HT2L.out n (by omega) HF.out w' (hT3.below hw' hT3.lt)).mono (fun e w'' h => ⟨h.1, hw'.trans (h.2.mono hw'.size)⟩)) ?_
    simp only [Act.put, List.setIfInBounds_toArray, List.set_cons_zero, List.set_cons_succ]
    refine wpQuiet_nil ?_
    intro w' hw'
    have q0 := r03.below hw' h0l
    have qB := hBw3.trans (hw'.mono hBw3.size)
    refine wpList_store_mid rfl 26 (.tmp 4) (.tmp 52) rfl w.heap.size 0 (vB dd).toArray rfl rfl (q0.there 0 _ (by simp [vB_length, HDL.out])) hi5 (all_oneCell_toArray (vB_one dd)) ?_
    simp only [Act.put]
    have nf := q0.over (vs := vB dd) (by rw [vB_length, HDL.out]; rfl)
    have nB := below_setCells qB (b := w.heap.size) (o := 0) (Nat.le_refl _) (vB dd)
    go_wp2
    exact bodyPost_ret (results_row_tmp Tryd.results20 _ _ w.heap.size 26 (vB dd) (.int .i64 0) rfl rfl nf Tryd.underlying26 info_dig (by rw [vB_length, HDL.out])) rfl ⟨rfl, nB⟩
  · go_wp2_with (first
      | (refine wpList_load_mid rfl 59 (.tmp 32) rfl b 8 rfl (vB t) _ (hH2.range 8 _ (hcells_wait _ _ _)) Tryd.underlying59 rfl hi1 ?_; simp only [Act.put, List.setIfInBounds_toArray, List.set_cons_zero, List.set_cons_succ])
      | (refine wpList_store_mid rfl 59 (.tmp 9) (.tmp 33) rfl w2.heap.size 0 (vB t).toArray rfl rfl T9 hi1' (all_oneCell_toArray (vB_one t)) ?_; simp only [Act.put]; (have r9 := Row.over (Row.new w2 (vB noughts) 59) (vs := vB t) (by rw [vB_length, HTL.out]; rfl)); (have hS3 := below_setCells ((Below.refl _ w2).alloc (Nat.le_refl _) (Obj.cells (vB noughts).toArray 59)) (b := w2.heap.size) (o := 0) (Nat.le_refl _) (vB t)); (change wpList _ _ _ _ _ (World.setCells (w2.alloc (Obj.cells (vB noughts).toArray 59)) w2.heap.size 0 (vB t))); clear T9; (have hH3 := hH2.below hS3 hbl); (have r03 := r02.below hS3 (Row.lt r02)); (have hBw3 := hBw2.trans (hS3.mono hBw2.size)); (have hp9 : Hid (b < w2.heap.size) := hbl); clear hS3 hH2 r02 hBw2 hbl; (generalize World.setCells (w2.alloc (Obj.cells (vB noughts).toArray 59)) w2.heap.size 0 (vB t) = w3 at *); (generalize w2.heap.size = p9 at *); clear w2))
    rcases hv with ⟨hd0, _⟩ | ⟨ab, ao, cap', hv, hc, hr⟩
    · exfalso; rw [hd0] at hn; simp at hn; omega
    simp only [Value.slice.injEq] at hv
    obtain ⟨rfl, _, rfl⟩ := hv
    have hidx : n / 8 < d.length := by omega
    have gd : w3.cell? ⟨ab, ao + n / 8, none⟩ = some (.int .u8 (c (d.getD (n / 8) 0))) := range_below hr hBw3 (Nat.le_refl _) _ _ (vB_get d _ hidx)
    have g9 := r9.cell (n / 8 % 64) _ (vB_get t (n / 8 % 64) (by rw [HTL.out]; omega))
    have HB' : Hid (t2 = t.set (n / 8 % 64) (d.getD (n / 8) 0 &&& ~~~(255#8 >>> (n % 8)))) := by have := HB.out; rw [if_neg h8] at this; exact this
    generalize d.getD (n / 8) 0 = y at gd HB'
    generalize t.getD (n / 8 % 64) 0 = y9 at g9
    have e255 : Hid (∀ k, bits BinOp.andNot IntKind.u8 (c y) (255 / 2 ^ k) = c (y &&& ~~~(255#8 >>> k))) := mask_byte y
    refine wp_region_quiet_tail (C := fun w' => ∃ n, w' = w3.drewN n) 10 (by kernel_rfl) (by kernel_rfl) ⟨1, rfl⟩ ?_
    simp only [List.take_succ_cons, List.take_zero, List.drop_succ_cons, List.drop_zero]
    repeat (go_big_quiet_step (fail))
    refine wpQuiet_nil ?_
    intro w' hw'
    obtain ⟨nq, rfl⟩ := hw'
    refine wpList_store1 rfl 5 (.tmp 45) (.tmp 44) rfl p9 (n / 8 % 64) (.int .u8 (bits BinOp.andNot IntKind.u8 (c y) (255 / 2 ^ (n % 8)))) rfl rfl rfl (Row.there (r9.drewN nq) _ 1 (by rw [vB_length, HTL.out]; omega)) info_u8 rfl ?_
    rw [mask_byte]
    have q9 : Row ((w3.drewN nq).setCell ⟨p9, n / 8 % 64, none⟩ (.int .u8 (c (y &&& ~~~(255#8 >>> (n % 8)))))) p9 (vB t2) 59 := by
      have := (r9.drewN nq).set (n / 8 % 64) (.int .u8 (c (y &&& ~~~(255#8 >>> (n % 8)))))
      rwa [vB_set, ← HB'.out] at this
    have qH := Row.set_other (hH3.drewN nq) p9 (n / 8 % 64) (.int .u8 (c (y &&& ~~~(255#8 >>> (n % 8))))) (by have := hp9.out; omega)
    have q03 := Row.set_other (r03.drewN nq) p9 (n / 8 % 64) (.int .u8 (c (y &&& ~~~(255#8 >>> (n % 8))))) (by have := hp9.out; omega)
    have qBw := Below.setCell (below_drewN hBw3 nq) (p := ⟨p9, n / 8 % 64, none⟩) (by have := hp9.out; show _ ≤ p9; omega) (.int .u8 (c (y &&& ~~~(255#8 >>> (n % 8)))))
    clear gd g9 r9 hH3 r03 hBw3
    generalize (w3.drewN nq).setCell ⟨p9, n / 8 % 64, none⟩ (.int .u8 (c (y &&& ~~~(255#8 >>> (n % 8))))) = w4 at *
    clear w3
    obtain ⟨w3, hw34⟩ : ∃ w3, w3 = w4 := ⟨_, rfl⟩
    rw [← hw34]
    rw [← hw34] at q9 qH q03 qBw
    have r9 := q9
    have hH3 := qH
    have r03 := q03
    have hBw3 := qBw
    clear q9 qH q03 qBw hw34 w4
    simp only [Act.put]
    go_wp2
    have hT3 : Tab w3 1 := hK.below hBw3 hK.lt
    have hbl := hH3.lt
    have h9l := r9.lt
    have h0l := r03.lt
    refine wp_region_quiet_tail (C := fun w' => Below w3.heap.size w3 w') 7 (by kernel_rfl) (by kernel_rfl) ((Below.refl _ _).drew) ?_
    simp only [List.take_succ_cons, List.take_zero, List.drop_succ_cons, List.drop_zero]
    refine quiet_copy rfl (.tmp 8) (.inl rfl) ?_
    simp only [Act.put, List.setIfInBounds_toArray, List.set_cons_zero, List.set_cons_succ]
    refine quiet_val rfl (.pointer (some ⟨b, 0, none⟩)) (fun w' _ => by go_simp) ?_
    simp only [Act.put, List.setIfInBounds_toArray, List.set_cons_zero, List.set_cons_succ]
    refine quiet_val rfl (.pointer (some ⟨b, 0, none⟩)) (fun w' _ => by go_simp) ?_
    simp only [Act.put, List.setIfInBounds_toArray, List.set_cons_zero, List.set_cons_succ]
    refine quiet_load rfl 58 (.tmp 48) rfl b 0 rfl (vW s.list) _ (fun w' hw' => (hH3.below hw' hbl).range 0 _ (hcells_state _ _ _)) Tryd.underlying58 rfl info_arr8 ?_
    simp only [Act.put, List.setIfInBounds_toArray, List.set_cons_zero, List.set_cons_succ]
    refine quiet_load rfl 59 (.tmp 9) rfl p9 0 rfl (vB t2) _ (fun w' hw' => (r9.below hw' h9l).all) Tryd.underlying59 rfl hi2 ?_
    simp only [Act.put, List.setIfInBounds_toArray, List.set_cons_zero, List.set_cons_succ]
    refine quiet_copy rfl (.tmp 1) (.inl rfl) ?_
    simp only [Act.put, List.setIfInBounds_toArray, List.set_cons_zero, List.set_cons_succ]
    refine quiet_call rfl 36 #[.agg (vW s.list).toArray, .agg (vB t2).toArray, .int .i64 (n : Int)] (.agg (vB dd).toArray) (fun w' _ => by go_simp) (fun w' hw' => (finish_d s t2 dd HT2L.out n (by omega) HF.out w' (hT3.below hw' hT3.lt)).mono (fun e w'' h => ⟨h.1, hw'.trans (h.2.mono hw'.size)⟩)) ?_
    simp only [Act.put, List.setIfInBounds_toArray, List.set_cons_zero, List.set_cons_succ]
    refine wpQuiet_nil ?_
    intro w' hw'
    have q0 := r03.below hw' h0l
    have qB := hBw3.trans (hw'.mono hBw3.size)
    refine wpList_store_mid rfl 26 (.tmp 4) (.tmp 52) rfl w.heap.size 0 (vB dd).toArray rfl rfl (q0.there 0 _ (by simp [vB_length, HDL.out])) hi5 (all_oneCell_toArray (vB_one dd)) ?_
    simp only [Act.put]
    have nf := q0.over (vs := vB dd) (by rw [vB_length, HDL.out]; rfl)
    have nB := below_setCells qB (b := w.heap.size) (o := 0) (Nat.le_refl _) (vB dd)
    go_wp2
    exact bodyPost_ret (results_row_tmp Tryd.results20 _ _ w.heap.size 26 (vB dd) (.int .i64 0) rfl rfl nf Tryd.underlying26 info_dig (by rw [vB_length, HDL.out])) rfl ⟨rfl, nB⟩

end Go.Proofs.YtihigbkanbabeaaDoor
