/-
  the law LedgerGives: the walk.
-/
import Derived.Test.YtelioddogdcdoaaDoorWDig
import Derived.Test.YtelioddogdcdoaaDoorWKn
import Derived.Test.YtelioddogdcdoaaDoorWBits
import Derived.Test.YtelioddogdcdoaaDoorLhM

namespace Go.Proofs.YtelioddogdcdoaaDoor
open Go Go.RowKit
open Wd

set_option maxRecDepth 100000 in
set_option maxHeartbeats 2000000 in
theorem refCmp_any (a b : Nat) (ha : a < 2 ^ 256) (hb : b < 2 ^ 256) (w : World) :
    Calls Tryd.prog 10 #[.agg (vQ (dgs a 4)).toArray, .agg (vQ (dgs b 4)).toArray] w fun e w' => e = .returned (.int .i64 (cmpR a b)) ∧ Below w.heap.size w w' := by
  have HDA : Hid (∀ w, _) := digits_any a ha
  have HDB : Hid (∀ w, _) := digits_any b hb
  have HLA : Hid (blen a ≤ 256) := blen_le a 256 ha
  have HLB : Hid (blen b ≤ 256) := blen_le b 256 hb
  obtain ⟨ca, Ha⟩ : ∃ c, Wc c a := ⟨_, rfl⟩
  obtain ⟨cb, Hb⟩ : ∃ c, Wc c b := ⟨_, rfl⟩
  rw [← show ca = vQ (dgs a 4) from Ha] at HDA ⊢
  rw [← show cb = vQ (dgs b 4) from Hb] at HDB ⊢
  have HCM : Hid (∀ (N M : Nat) (w : World), Row w N (vI (bts a 256)) 3 → Row w M (vI (bts b 256)) 3 → Calls Tryd.prog 30 #[.slice (some ⟨N, 0, none⟩) (blen a) 256, .slice (some ⟨M, 0, none⟩) (blen b) 256] w fun e w' => e = .returned (.int .i64 (cmpR a b)) ∧ Below w.heap.size w w') := fun N M w r1 r2 =>
    (compare_any a b N M 256 256 256 256 HLA.out HLB.out (by decide) w r1 r2).mono (fun e w' h => ⟨h.1, h.2.elim fun k hk => by rw [hk]; exact below_drewN (Below.refl _ _) k⟩)
  generalize cmpR a b = C at *
  clear ha hb
  have hb1 : Below w.heap.size w ((w.alloc (Obj.cells ca.toArray 25)).alloc (Obj.cells cb.toArray 25)) := ((Below.refl _ _).alloc (Nat.le_refl _) _).alloc (by simp) _
  have r0 : Row ((w.alloc (Obj.cells ca.toArray 25)).alloc (Obj.cells cb.toArray 25)) w.heap.size ca 25 := (Row.new w ca _).alloc _
  have r1 : Row ((w.alloc (Obj.cells ca.toArray 25)).alloc (Obj.cells cb.toArray 25)) (w.heap.size + 1) cb 25 := Row.new' (by simp) rfl
  go_enter Tryd.func10, Tryd.ntmps10
  go_wp2
  generalize ((w.alloc (Obj.cells ca.toArray 25)).alloc (Obj.cells cb.toArray 25)) = W0 at *
  refine wp_region_inv (by kernel_rfl) (fun listed act W => ∃ (b0 b1 b2 b3 b4 b5 : Bool) (N6 N8 : Nat) (x4 x5 x6 x7 x8 x9 : Value), listed = #[b0, b1, b2, b3, b4, b5] ∧ act = { tmps := #[.agg ca.toArray, .agg cb.toArray, .pointer (some ⟨w.heap.size, 0, none⟩), .pointer (some ⟨w.heap.size + 1, 0, none⟩), x4, x5, x6, x7, x8, x9], defers := [] } ∧ Below w.heap.size w W ∧ Row W w.heap.size ca 25 ∧ Row W (w.heap.size + 1) cb 25 ∧ (b0 = true → x5 = .agg ca.toArray) ∧ (b2 = true → x7 = .agg cb.toArray) ∧ (b4 = true → x9 = .int .i64 C) ∧ (b5 = true → x4 = .int .i64 C) ∧ (b1 = true → x6 = .slice (some ⟨N6, 0, none⟩) (blen a) 256 ∧ Row W N6 (vI (bts a 256)) 3) ∧ (b3 = true → x8 = .slice (some ⟨N8, 0, none⟩) (blen b) 256 ∧ Row W N8 (vI (bts b 256)) 3)) ?_ ?_ ?_
  · exact ⟨false, false, false, false, false, false, 0, 0, .int .i64 0, undef, undef, undef, undef, undef, rfl, rfl, Below.drew hb1, Row.drew r0, Row.drew r1, (fun h => by cases h), (fun h => by cases h), (fun h => by cases h), (fun h => by cases h), (fun h => by cases h), (fun h => by cases h)⟩
  · clear hb1 r0 r1 
    intro listed act W k hI hk
    obtain ⟨b0, b1, b2, b3, b4, b5, N6, N8, x4, x5, x6, x7, x8, x9, rfl, rfl, hb1, r0, r1, f0, f1, f2, f3, f4, f5⟩ := hI
    have hk2 := (List.mem_filter.1 hk).2
    have hk1 : k < 6 := List.mem_range.1 (List.mem_filter.1 hk).1
    clear hk
    rcases (show k = 0 ∨ k = 1 ∨ k = 2 ∨ k = 3 ∨ k = 4 ∨ k = 5 by omega) with rfl | rfl | rfl | rfl | rfl | rfl
    · exact wpOp_plain rfl rfl (wp_load_mid 25 (.tmp 2) rfl w.heap.size 0 rfl ca _ r0.all Tryd.underlying25 rfl Ha.info ⟨true, b1, b2, b3, b4, b5, N6, N8, x4, .agg ca.toArray, x6, x7, x8, x9, rfl, rfl, hb1, r0, r1, fun _ => rfl, f1, f2, f3, f4, f5⟩)
    · simp [Region.binds] at hk2
      obtain rfl := f0 (by simp [hk2])
      refine wpOp_plain rfl rfl (wp_fcall 31 #[.agg ca.toArray] (by go_simp) ((HDA.out W).mono ?_))
      rintro e W2 ⟨yN, yL, yR, rfl, hB2⟩
      exact ⟨_, rfl, b0, true, b2, b3, b4, b5, yN, N8, x4, .agg ca.toArray, .slice (some ⟨yN, 0, none⟩) (blen a) 256, x7, x8, x9, rfl, rfl, hb1.trans (hB2.mono hb1.size), Row.below r0 hB2 (Row.lt r0), Row.below r1 hB2 (Row.lt r1), fun _ => rfl, f1, f2, f3, fun _ => ⟨rfl, yR⟩, fun h => ⟨(f5 h).1, Row.below (f5 h).2 hB2 (Row.lt (f5 h).2)⟩⟩
    · exact wpOp_plain rfl rfl (wp_load_mid 25 (.tmp 3) rfl (w.heap.size + 1) 0 rfl cb _ r1.all Tryd.underlying25 rfl Hb.info ⟨b0, b1, true, b3, b4, b5, N6, N8, x4, x5, x6, .agg cb.toArray, x8, x9, rfl, rfl, hb1, r0, r1, f0, fun _ => rfl, f2, f3, f4, f5⟩)
    · simp [Region.binds] at hk2
      obtain rfl := f1 (by simp [hk2])
      refine wpOp_plain rfl rfl (wp_fcall 31 #[.agg cb.toArray] (by go_simp) ((HDB.out W).mono ?_))
      rintro e W2 ⟨yN, yL, yR, rfl, hB2⟩
      exact ⟨_, rfl, b0, b1, b2, true, b4, b5, N6, yN, x4, x5, x6, .agg cb.toArray, .slice (some ⟨yN, 0, none⟩) (blen b) 256, x9, rfl, rfl, hb1.trans (hB2.mono hb1.size), Row.below r0 hB2 (Row.lt r0), Row.below r1 hB2 (Row.lt r1), f0, fun _ => rfl, f2, f3, fun h => ⟨(f4 h).1, Row.below (f4 h).2 hB2 (Row.lt (f4 h).2)⟩, fun _ => ⟨rfl, yR⟩⟩
    · simp [Region.binds] at hk2
      obtain ⟨rfl, y1⟩ := f4 (by simp [hk2])
      obtain ⟨rfl, y3⟩ := f5 (by simp [hk2])
      refine wpOp_plain rfl rfl (wp_fcall 30 #[.slice (some ⟨N6, 0, none⟩) (blen a) 256, .slice (some ⟨N8, 0, none⟩) (blen b) 256] (by go_simp) ((HCM.out N6 N8 W y1 y3).mono ?_))
      rintro e W2 ⟨rfl, hB2⟩
      exact ⟨_, rfl, b0, b1, b2, b3, true, b5, N6, N8, x4, x5, .slice (some ⟨N6, 0, none⟩) (blen a) 256, x7, .slice (some ⟨N8, 0, none⟩) (blen b) 256, .int .i64 C, rfl, rfl, hb1.trans (hB2.mono hb1.size), Row.below r0 hB2 (Row.lt r0), Row.below r1 hB2 (Row.lt r1), f0, f1, fun _ => rfl, f3, fun _ => ⟨rfl, Row.below y1 hB2 (Row.lt y1)⟩, fun _ => ⟨rfl, Row.below y3 hB2 (Row.lt y3)⟩⟩
    · simp [Region.binds] at hk2
      obtain rfl := f2 (by simp [hk2])
      exact wpOp_plain rfl rfl (wp_assign (.tmp 9) rfl ⟨b0, b1, b2, b3, b4, true, N6, N8, .int .i64 C, x5, x6, x7, x8, .int .i64 C, rfl, rfl, hb1, r0, r1, f0, f1, fun _ => rfl, fun _ => rfl, f4, f5⟩)
  · clear hb1 r0 r1 
    intro listed act W hI hr
    obtain ⟨b0, b1, b2, b3, b4, b5, N6, N8, x4, x5, x6, x7, x8, x9, rfl, rfl, hb1, r0, r1, f0, f1, f2, f3, f4, f5⟩ := hI
    have hr2 := List.filter_eq_nil_iff.1 hr
    obtain rfl : b0 = true := by have := hr2 0 (List.mem_range.2 (by decide)); simpa [Region.binds] using this
    obtain rfl : b1 = true := by have := hr2 1 (List.mem_range.2 (by decide)); simpa [Region.binds] using this
    obtain rfl : b2 = true := by have := hr2 2 (List.mem_range.2 (by decide)); simpa [Region.binds] using this
    obtain rfl : b3 = true := by have := hr2 3 (List.mem_range.2 (by decide)); simpa [Region.binds] using this
    obtain rfl : b4 = true := by have := hr2 4 (List.mem_range.2 (by decide)); simpa [Region.binds] using this
    obtain rfl : b5 = true := by have := hr2 5 (List.mem_range.2 (by decide)); simpa [Region.binds] using this
    obtain rfl := f3 rfl
    clear hr hr2 f0 f1 f2 f3 f4 f5
    go_wp2
    go_ret
    exact ⟨rfl, hb1⟩

theorem wc_of (n : Nat) (h : n < 18446744073709551616) : Wc [.int .u64 (n : Int), .int .u64 0, .int .u64 0, .int .u64 0] n := by
  have h1 : n / 18446744073709551616 = 0 := Nat.div_eq_of_lt h
  have h2 : n / 340282366920938463463374607431768211456 = 0 := Nat.div_eq_of_lt (Nat.lt_trans h (by decide))
  have h3 : n / 6277101735386680763835789423207666416102355444464034512896 = 0 := Nat.div_eq_of_lt (Nat.lt_trans h (by decide))
  have e : dgs n 4 = [n, 0, 0, 0] := by
    show [lim n 0, lim n 1, lim n 2, lim n 3] = _
    simp only [lim, Nat.reduceMul, Nat.reducePow, Nat.div_one, h1, h2, h3, Nat.mod_eq_of_lt h, Nat.zero_mod]
  unfold Wc
  rw [e]
  rfl

end Go.Proofs.YtelioddogdcdoaaDoor

namespace Go.Proofs.YtelioddogdcdoaaDoor
open Go Go.RowKit Go.Maps
open Sha
open Wd

def pk (c n : Int) : Int := (if c < 0 then -(c + 1) else c) % n
theorem pk_range (c n : Int) (hn : 0 < n) : 0 ≤ pk c n ∧ pk c n < n := ⟨Int.emod_nonneg _ (by omega), Int.emod_lt_of_pos _ hn⟩
set_option maxRecDepth 100000 in
theorem pick8 (c n : Int) (hn : 0 < n) (h1 : -9223372036854775808 ≤ c) (h2 : c ≤ 9223372036854775807) (hn2 : n ≤ 9223372036854775807) (w : World) :
    Calls Tryd.prog 6 #[.int .i64 c, .int .i64 n] w fun e w' => e = .returned (.int .i64 (pk c n)) ∧ w' = w := by
  have hn0 : ¬ n = 0 := by omega
  have hn1 : ¬ n = -1 := by omega
  have hr := pk_range c n hn
  by_cases hc : c < 0
  · have e1 : Hid (pk c n = (-(c + 1)) % n) := by show _ = _; unfold pk; rw [if_pos hc]
    have e3 : (-(c + 1)).tmod n = pk c n := by rw [e1.out]; exact Int.tmod_eq_emod_of_nonneg (by omega)
    have e4 : (-1 + -c).tmod n = pk c n := by rw [show -1 + -c = -(c + 1) by omega]; exact e3
    have e5 : (-c + -1).tmod n = pk c n := by rw [show -c + -1 = -(c + 1) by omega]; exact e3
    generalize pk c n = r at *
    go_enter Tryd.func6, Tryd.ntmps6
    go_wp2
    go_ret
    exact ⟨by first | rfl | (simp; omega), rfl⟩
  · have e1 : Hid (pk c n = c % n) := by show _ = _; unfold pk; rw [if_neg hc]
    have e3 : c.tmod n = pk c n := by rw [e1.out]; exact Int.tmod_eq_emod_of_nonneg (by omega)
    generalize pk c n = r at *
    go_enter Tryd.func6, Tryd.ntmps6
    go_wp2
    go_ret
    exact ⟨by first | rfl | (simp; omega), rfl⟩

section
variable {P : Program}
theorem run_neq_a (w : World) (t e : TypeId) (n : Nat) (ht : P.underlying t = some (.array n e)) (he : P.underlying e = some (.int .u8)) (hs : (P.info? e).map (·.size) = some 1) (l r : List (BitVec 8)) (hl : l.length = n) (hr : r.length = n) :
    (binOp .neq t (.agg (vB l).toArray) (.agg (vB r).toArray)).run P w = .ok (.bool (!decide (l = r))) w := by
  have hsz : ∀ w, (sizeOf e).run P w = .ok 1 w := by
    intro w
    cases hq : P.info? e with
    | none => simp [hq] at hs
    | some i => have h1 : i.size = 1 := by simpa [hq] using hs
                simp [sizeOf, typeInfo, hq, h1]
  rw [vB_cell, vB_cell, run_neq_struct, run_equalIn_bytes w 9998 t e n ht he hsz (toU l) (toU r) (by rw [toU_length, hl]) (by rw [toU_length, hr])]
  simp [← toU_beq]
end
theorem rng_be {B : Nat} {w w' : World} {c o : Nat} {cs : List Value} (h : w.rangeAt c o cs) (k : Below B w w') (hB : w.heap.size ≤ B) : w'.rangeAt c o cs := fun j v hv =>
  (k.cell (p := ⟨c, o + j, none⟩) (Nat.lt_of_lt_of_le (World.block_lt_of_cell? w _ (h j v hv)) hB)).trans (h j v hv)
theorem sub_range {w : World} {b : Nat} {cs : List Value} {t : TypeId} (r : Row w b cs t) (o n : Nat) : w.rangeAt b o ((cs.drop o).take n) := r.range o _ (fun j v hj => by
  rw [List.getElem?_take] at hj
  split at hj
  · rwa [List.getElem?_drop] at hj
  · cases hj)
section
variable {ops : Array Oper} {rest : List Oper} {op : Oper} {a : Act} {w : World} {Q : Exit → Act → World → Prop}
theorem wpList_ix_a (hw : Region.wanted op (yielded ops a.tmps) = true) (x y : Operand) (ho : op.op = .indexAddr 22 x y) (b f n cap t o : Nat) (hof : f + t * 20 = o) (l : Int) (hl : l = (t : Int)) (hx : a.eval x = .slice (some ⟨b, f, none⟩) n cap) (hy : a.eval y = .int .i64 l) (ht : t < n)
    (h : wpList Tryd.prog ops Q rest (a.put op.dst (.pointer (some ⟨b, o, none⟩))) w) : wpList Tryd.prog ops Q (op :: rest) a w := by
  subst hl; subst hof
  refine BigFrame.wpList_want hw fun _ hK => wp_pure (v := .pointer (some ⟨b, f + t * 20, none⟩)) ?_ (hK _ _ h)
  have hr : (Instr.indexAt 22 (.slice (some ⟨b, f, none⟩) n cap) (.int .i64 (t : Int))).run Tryd.prog w = .ok (.pointer (some ⟨b, f + t * 20, none⟩)) w := by
    have hs : (Tryd.prog.info? 33).map (·.size) = some 20 := by kernel_rfl
    cases hi : Tryd.prog.info? 33 with
    | none => rw [hi] at hs; cases hs
    | some ie =>
      rw [hi] at hs
      have h4 : ie.size = 20 := by simpa using hs
      simp [Instr.indexAt, run_underlying Tryd.underlying22, asIntOf, ht, sizeOf, typeInfo, hi, h4, Addr.add_mid]
  unfold execOp
  simp only [ho, hx, hy, Sem.run_bind, hr, Result.andThen_ok]
  rfl
theorem wpList_neqWg (hw : Region.wanted op (yielded ops a.tmps) = true) (x y : Operand) (yt : TypeId) (ho : op.op = .binOp .neq 25 x y yt) (m n : Nat) (hm : m < 2 ^ 256) (hn : n < 2 ^ 256) (hx : a.eval x = .agg (wq m).toArray) (hy : a.eval y = .agg (wq n).toArray)
    (B : Bool) (hB : (!decide (m = n)) = B) (h : wpList Tryd.prog ops Q rest (a.put op.dst (.bool B)) w) : wpList Tryd.prog ops Q (op :: rest) a w :=
  BigFrame.wpList_want hw fun _ hK => by
    have hr := eqWg 9998 m n hm hn
    unfold Oper.wp execOp
    simp only [ho, hx, hy, Sem.run_bind, run_eqGuard_agg w .neq 25 x y _ _ guardW, run_neq_struct, Result.andThen_ok, hr, hB, Sem.run_pure, Oper.upon_value]
    exact hK _ _ h
theorem wpList_neqA (hw : Region.wanted op (yielded ops a.tmps) = true) (x y : Operand) (yt : TypeId) (ho : op.op = .binOp .neq 33 x y yt) (l r : List (BitVec 8)) (hl : l.length = 20) (hr : r.length = 20) (hx : a.eval x = .agg (vB l).toArray) (hy : a.eval y = .agg (vB r).toArray)
    (B : Bool) (hB : (!decide (l = r)) = B) (h : wpList Tryd.prog ops Q rest (a.put op.dst (.bool B)) w) : wpList Tryd.prog ops Q (op :: rest) a w :=
  BigFrame.wpList_want hw fun _ hK => by
    have hr := run_neq_a (P := Tryd.prog) w 33 5 20 Tryd.underlying33 Tryd.underlying5 info_u8 l r hl hr
    rw [hB] at hr
    unfold Oper.wp execOp
    simp only [ho, hx, hy, Sem.run_bind, run_eqGuard_agg w .neq 33 x y _ _ guardA, Result.andThen_ok, hr, Sem.run_pure, Oper.upon_value]
    exact hK _ _ h
theorem wpList_cmpKw (hw : Region.wanted op (yielded ops a.tmps) = true) (bo : BinOp) (x y : Operand) (yt : TypeId) (ho : op.op = .binOp bo 44 x y yt) (L M : List Value) (hx : a.eval x = .agg L.toArray) (hy : a.eval y = .agg M.toArray) (B : Bool)
    (hr : ∀ w, (binOp bo 44 (.agg L.toArray) (.agg M.toArray)).run Tryd.prog w = .ok (.bool B) w) (h : wpList Tryd.prog ops Q rest (a.put op.dst (.bool B)) w) : wpList Tryd.prog ops Q (op :: rest) a w :=
  BigFrame.wpList_want hw fun _ hK => by
    have hr := hr w
    unfold Oper.wp execOp
    simp only [ho, hx, hy, Sem.run_bind, run_eqGuard_agg w bo 44 x y _ _ guardTk, Result.andThen_ok, hr, Sem.run_pure, Oper.upon_value]
    exact hK _ _ h
end
theorem build_tokT (w : World) : (Instr.build 44 #[(0, .bool true)]).run Tryd.prog w = .ok (.agg (tkl true false 0).toArray) w := by
  unfold tkl
  rw [wq_zero]
  go_simp
theorem build_w0 (w : World) : (Instr.build 25 #[]).run Tryd.prog w = .ok (.agg (wq 0).toArray) w := by
  rw [wq_zero]
  go_simp
theorem tok_tt (w : World) : (binOp .eql 44 (.agg (tkl true false 0).toArray) (.agg (tkl true false 0).toArray)).run Tryd.prog w = .ok (.bool true) w := by
  have hW : ∀ w, (Op.equalIn 9999 25 (.agg #[.int .u64 0, .int .u64 0, .int .u64 0, .int .u64 0]) (.agg #[.int .u64 0, .int .u64 0, .int .u64 0, .int .u64 0])).run Tryd.prog w = .ok true w := fun w => by
    have := eqWg 9997 0 0 (by decide) (by decide) w
    rw [wq_zero] at this
    exact this
  unfold tkl
  rw [wq_zero]
  go_simp
theorem Led.of {w0 w : World} {S q t n : Nat} {bal bal' : List (BitVec 8) → Nat} {al al' : List (BitVec 8) → List (BitVec 8) → Nat} (h : Led w0 w S q t n bal al) (hb : ∀ x, bal' x = bal x) (ha : ∀ x y, al' x y = al x y) : Led w0 w S q t n bal' al' := by
  obtain ⟨f, hG, hN⟩ := h
  exact ⟨f, hG, hN.of hb ha⟩
theorem pk_nat (z : Int) : ∃ t : Nat, t < 64 ∧ pk z 64 = (t : Int) := by
  have h := pk_range z 64 (by decide)
  exact ⟨(pk z 64).toNat, by omega, by omega⟩

end Go.Proofs.YtelioddogdcdoaaDoor
