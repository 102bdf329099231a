/-
  machine.labelOf, machine.instruction.text.
-/
import Derived.Test.YtclbiophgnkggaaGreatDoorMtB
import Derived.Shelf.Strings.Builder1
import Derived.Shelf.Strconv.Itoa3
import Derived.Lib.AppendIntMem

namespace Go.Proofs.YtclbiophgnkggaaGreatDoor
open Go Go.Shelf Go.RowKit Go.Sort
def lays169_ren : Go.Shelf.Ren := ⟨fun | 169 => 21 | n => n, fun | 70 => 49 | 9 => 9 | 0 => 0 | 72 => 51 | 37 => 22 | 127 => 88 | 3 => 3 | 5 => 5 | n => n, fun | n => n⟩
theorem lays169 : Go.Proofs.Lays.n169 Tryz.prog lays169_ren := {
  mixed := by kernel_rfl
  f169 := Tryz.func21.trans (congrArg some (by kernel_rfl))
  t0 := Tryz.underlying0
  a0 := Tryz.isAgg0
  z0 := Tryz.sizeOf0
  v0 := Tryz.zeroValue0
  t3 := Tryz.underlying3
  a3 := Tryz.isAgg3
  z3 := Tryz.sizeOf3
  v3 := Tryz.zeroValue3
  t9 := Tryz.underlying9
  a9 := Tryz.isAgg9
  z9 := Tryz.sizeOf9
  v9 := Tryz.zeroValue9
  t37 := Tryz.underlying22
  a37 := Tryz.isAgg22
  z37 := Tryz.sizeOf22
  v37 := Tryz.zeroValue22
  t70 := Tryz.underlying49
  a70 := Tryz.isAgg49
  z70 := Tryz.sizeOf49
  v70 := Tryz.zeroValue49
  t72 := Tryz.underlying51
  a72 := Tryz.isAgg51
  z72 := Tryz.sizeOf51
  v72 := Tryz.zeroValue51
  t127 := Tryz.underlying88
  a127 := Tryz.isAgg88
  z127 := Tryz.sizeOf88
  v127 := Tryz.zeroValue88 }
theorem Builder_Extra_169 : Builder.Extra Tryz.prog lays169_ren := {
  sizeBuilder := by kernel_rfl
  liesBuilder := by kernel_rfl
  t5 := Tryz.underlying5
  a5 := Tryz.isAgg5
  z5 := Tryz.sizeOf5
  v5 := Tryz.zeroValue5
  infoByte := by kernel_rfl
  cellsByte := by kernel_rfl
  sizeByte := by kernel_rfl
  neB5 := by decide }
theorem bString_any (B b : Nat) (l : List UInt8) (w : World) (h : Lib.IsBuilder 51 5 B b (Lib.byteCells l) w) (hBw : B ≤ w.heap.size) :
    Calls Tryz.prog 21 #[.pointer (some ⟨b, 0, none⟩)] w fun e w' => e = .returned (.string ⟨l.toArray⟩) ∧ Below B w w' := Any.Builder_String_any lays169 Builder_Extra_169 B b l w h hBw
def laysM171_ren : Go.Shelf.Ren := ⟨fun | 171 => 60 | 243 => 86 | 246 => 102 | 283 => 113 | 284 => 114 | 285 => 115 | 286 => 116 | 129 => 119 | 317 => 120 | 318 => 121 | 319 => 122 | 320 => 123 | 337 => 124 | 338 => 125 | n => n, fun | 3 => 3 | 9 => 9 | 2 => 2 | 4 => 4 | 171 => 159 | 0 => 0 | 53 => 35 | 37 => 22 | 5 => 5 | 173 => 161 | 212 => 167 | 51 => 168 | 20 => 20 | 213 => 169 | 46 => 147 | 232 => 141 | 233 => 172 | n => n, fun | 17 => 2 | 18 => 3 | 19 => 4 | n => n⟩
theorem laysM171 : Go.Proofs.LaysM.n171 Tryz.prog laysM171_ren := {
  mixed := by kernel_rfl
  f129 := Tryz.func119.trans (congrArg some (by kernel_rfl))
  f171 := Tryz.func60.trans (congrArg some (by kernel_rfl))
  f243 := Tryz.func86.trans (congrArg some (by kernel_rfl))
  f246 := Tryz.func102.trans (congrArg some (by kernel_rfl))
  f283 := Tryz.func113.trans (congrArg some (by kernel_rfl))
  f284 := Tryz.func114.trans (congrArg some (by kernel_rfl))
  f285 := Tryz.func115.trans (congrArg some (by kernel_rfl))
  f286 := Tryz.func116.trans (congrArg some (by kernel_rfl))
  f317 := Tryz.func120.trans (congrArg some (by kernel_rfl))
  f318 := Tryz.func121.trans (congrArg some (by kernel_rfl))
  f319 := Tryz.func122.trans (congrArg some (by kernel_rfl))
  f320 := Tryz.func123.trans (congrArg some (by kernel_rfl))
  f337 := Tryz.func124.trans (congrArg some (by kernel_rfl))
  f338 := Tryz.func125.trans (congrArg some (by kernel_rfl))
  t0 := Tryz.underlying0
  a0 := Tryz.isAgg0
  z0 := Tryz.sizeOf0
  v0 := Tryz.zeroValue0
  t2 := Tryz.underlying2
  a2 := Tryz.isAgg2
  z2 := Tryz.sizeOf2
  v2 := Tryz.zeroValue2
  t3 := Tryz.underlying3
  a3 := Tryz.isAgg3
  z3 := Tryz.sizeOf3
  v3 := Tryz.zeroValue3
  t4 := Tryz.underlying4
  a4 := Tryz.isAgg4
  z4 := Tryz.sizeOf4
  v4 := Tryz.zeroValue4
  t5 := Tryz.underlying5
  a5 := Tryz.isAgg5
  z5 := Tryz.sizeOf5
  v5 := Tryz.zeroValue5
  t9 := Tryz.underlying9
  a9 := Tryz.isAgg9
  z9 := Tryz.sizeOf9
  v9 := Tryz.zeroValue9
  t20 := Tryz.underlying20
  a20 := Tryz.isAgg20
  z20 := Tryz.sizeOf20
  v20 := Tryz.zeroValue20
  t37 := Tryz.underlying22
  a37 := Tryz.isAgg22
  z37 := Tryz.sizeOf22
  v37 := Tryz.zeroValue22
  t46 := Tryz.underlying147
  a46 := Tryz.isAgg147
  z46 := Tryz.sizeOf147
  v46 := Tryz.zeroValue147
  t51 := Tryz.underlying168
  a51 := Tryz.isAgg168
  z51 := Tryz.sizeOf168
  v51 := Tryz.zeroValue168
  t53 := Tryz.underlying35
  a53 := Tryz.isAgg35
  z53 := Tryz.sizeOf35
  v53 := Tryz.zeroValue35
  t171 := Tryz.underlying159
  a171 := Tryz.isAgg159
  z171 := Tryz.sizeOf159
  v171 := Tryz.zeroValue159
  t173 := Tryz.underlying161
  a173 := Tryz.isAgg161
  z173 := Tryz.sizeOf161
  v173 := Tryz.zeroValue161
  t212 := Tryz.underlying167
  a212 := Tryz.isAgg167
  z212 := Tryz.sizeOf167
  v212 := Tryz.zeroValue167
  t213 := Tryz.underlying169
  a213 := Tryz.isAgg169
  z213 := Tryz.sizeOf169
  t232 := Tryz.underlying141
  a232 := Tryz.isAgg141
  z232 := Tryz.sizeOf141
  v232 := Tryz.zeroValue141
  t233 := Tryz.underlying172
  a233 := Tryz.isAgg172
  z233 := Tryz.sizeOf172
  v233 := Tryz.zeroValue172
  g17 := by kernel_rfl
  g18 := by kernel_rfl
  g19 := by kernel_rfl
  i0 := by kernel_rfl
  i2 := by kernel_rfl
  i3 := by kernel_rfl
  i4 := by kernel_rfl
  i5 := by kernel_rfl
  i9 := by kernel_rfl
  i20 := by kernel_rfl
  i37 := by kernel_rfl
  i46 := by kernel_rfl
  i51 := by kernel_rfl
  i53 := by kernel_rfl
  i171 := by kernel_rfl
  i173 := by kernel_rfl
  i212 := by kernel_rfl
  i232 := by kernel_rfl
  i233 := by kernel_rfl
  m17 := by kernel_rfl
  m18 := by kernel_rfl
  m19 := by kernel_rfl }
theorem itoaS_any (n : Int) (h0 : -9223372036854775808 ≤ n) (h1 : n ≤ 9223372036854775807) (w : World) (htab : Lib.TabIs Tryz.prog w "internal/strconv.uint64pow10" .u64 Lib.pow10Tab) :
    Calls Tryz.prog 60 #[.int .i64 n] w fun e w' => e = .returned (.string ⟨(Lib.itoa n).toArray⟩) ∧ ∃ k os, w' = grow (w.drewN k) os := Any.strconv_Itoa laysM171 n h0 h1 w htab

open Go.Lib (decDigits) in
theorem itoa_any (n : Nat) (h : n < 9223372036854775808) (w : World) (hp : P10 w) : Calls Tryz.prog 60 #[.int .i64 (n : Int)] w fun e w' => e = .returned (.string ⟨(decDigits n).toArray⟩) ∧ Below w.heap.size w w' := by
  refine Calls.mono (itoaS_any (n : Int) (by omega) (by omega) w hp) ?_
  rintro e w' ⟨rfl, k, os, rfl⟩
  refine ⟨?_, Lib.below_grow w.heap.size w (Nat.le_refl _) k os⟩
  rw [Lib.itoa_nonneg]
/-- What a builder's writing leaves: all rows that are no bytes, but the builder's own. -/
def KpB (b : Nat) (w w' : World) : Prop := ∀ (g : Nat) (cs : List Value) (t : TypeId), t ≠ 5 → g ≠ b → Row w g cs t → Row w' g cs t
theorem row_setO {w : World} {g b : Nat} {cs : List Value} {t : TypeId} (r : Row w g cs t) (h : g ≠ b) (o : Nat) (v : Value) : Row (w.setCell ⟨b, o, none⟩ v) g cs t :=
  (Below.heap_setCell w ⟨b, o, none⟩ v g (fun e => h e)).trans r
theorem info_Bd : (Tryz.prog.info? 51).map (·.size) = some 2 := by kernel_rfl
set_option maxHeartbeats 1000000 in
set_option maxRecDepth 100000 in
theorem bCheck_any (B b : Nat) (bs : List Value) (w : World) (h : Lib.IsBuilder 51 5 B b bs w) :
    Calls Tryz.prog 59 #[.pointer (some ⟨b, 0, none⟩)] w fun e w' => e = .returned (.tuple #[]) ∧ (Lib.BuilderAt 51 5 B b (.pointer (some ⟨b, 0, none⟩)) bs w' ∧ Below B w w' ∧ KpB b w w') := by
  obtain ⟨j, hj, hjs⟩ := Option.map_eq_some_iff.1 info_Bd
  rcases h with h | h
  · have h0 := h.cell0
    have hsh := h.shape
    have hfz := h.frozen0
    have HH : Hid _ := h
    clear h
    go_enter Tryz.func59, Tryz.ntmps59
    go_wp2
    rw [Lib.run_to_unsafe w ⟨b, 0, none⟩ Tryz.underlying49 Tryz.underlying123 hj (by rw [hjs]; decide) hsh (Nat.zero_lt_succ 1)]
    simp only [Result.andThen]
    rw [Oper.upon_value]
    go_wp2
    rw [run_callFunc_extern Tryz.func85 (by kernel_rfl) (by kernel_rfl) (by kernel_rfl) (e := Extern.AbiNoEscape.same) (by kernel_rfl)]
    rw [Lib.run_noEscape]
    simp only [Result.andThen]
    rw [Oper.upon_value]
    go_wp2
    rw [Lib.run_from_unsafe w ⟨b, 0, none⟩ Tryz.underlying123 Tryz.underlying49 hj hsh (by kernel_rfl)]
    simp only [Result.andThen]
    rw [Oper.upon_value]
    go_wp2
    go_end0
    exact ⟨rfl, Lib.BuilderAt.used HH.out _, (Below.refl B w).setCell (p := ⟨b, 0, none⟩) HH.out.1 _, fun g cs t _ hg r => row_setO r hg _ _⟩
  · have h0 := h.cell0
    have HH : Hid _ := h
    clear h
    go_enter Tryz.func59, Tryz.ntmps59
    go_wp2
    rw [Lib.run_neq_ptr_same w _ Tryz.underlying49 hj]
    go_wp2
    go_end0
    exact ⟨rfl, HH.out, Below.refl B _, fun g cs t _ _ r => r⟩
set_option maxHeartbeats 2000000 in
set_option maxRecDepth 100000 in
theorem bWrite_any (B b : Nat) (bs : List Value) (s : ByteArray) (w : World) (h : Lib.IsBuilder 51 5 B b bs w) (hlen : bs.length + s.size ≤ 140737488355328) (hBw : B ≤ w.heap.size) :
    Calls Tryz.prog 18 #[.pointer (some ⟨b, 0, none⟩), .string s] w fun e w' => e = .returned (.tuple #[.int .i64 s.size, .nilIface]) ∧ (Lib.BuilderAt 51 5 B b (.pointer (some ⟨b, 0, none⟩)) (bs ++ Lib.strCells s) w' ∧ Below B w w' ∧ KpB b w w') := by
  obtain ⟨i0, hi, hz0, hz1, hz2⟩ := info_parts Builder_Extra_169.infoByte
  have HH : Hid _ := h
  clear h
  go_enter Tryz.func18, Tryz.ntmps18
  go_wp2_with (go_at_call 59; refine (bCheck_any B b bs _ HH.out).mono ?_)
  rintro e w1 ⟨rfl, h1, hb1, hk1⟩
  obtain ⟨hB, v, hbk, hown, hne⟩ := h1
  have c0 : w1.cell? ⟨b, 0, none⟩ = some (.pointer (some ⟨b, 0, none⟩)) := by rw [Lib.cell_of_heap hbk]; rfl
  have c1 : w1.cell? ⟨b, 1, none⟩ = some v := by rw [Lib.cell_of_heap hbk]; rfl
  go_wp2_with (at_builtin; refine Lib.wpList_append_own_string _ rfl _ _ 22 9 rfl B 5 i0 Tryz.underlying22 Tryz.underlying9 hi hz0 hz1 hz2 _ _ _ rfl hown s rfl ?c3 ?c4 ?c5 ?_)
  case c3 => unfold maxLen; omega
  case c4 => omega
  case c5 => have := hb1.size; omega
  intro v' w2 hown' hgrow _
  have hlt : b < w1.heap.size := by
    rcases Nat.lt_or_ge b w1.heap.size with h' | h'
    · exact h'
    · simp [Array.getElem?_eq_none h'] at hbk
  have hb2 : w2.heap[b]? = some (.cells #[.pointer (some ⟨b, 0, none⟩), v] 51 (0, 0)) := by
    rw [hgrow.block b hlt (fun e => hne e.symm)]
    exact hbk
  have d0 : w2.cell? ⟨b, 0, none⟩ = some (.pointer (some ⟨b, 0, none⟩)) := by rw [Lib.cell_of_heap hb2]; rfl
  have d1 : w2.cell? ⟨b, 1, none⟩ = some v := by rw [Lib.cell_of_heap hb2]; rfl
  have f1 : w2.frozen? ⟨b, 1, none⟩ = false := Lib.frozen_of_heap hb2 1
  obtain ⟨ao, n', cap, rfl⟩ : ∃ ao n' cap, v' = .slice ao n' cap := by
    rcases hown'.2 with ⟨hv, _⟩ | ⟨g, cap, cur, hv, _⟩
    · exact ⟨_, _, _, hv⟩
    · exact ⟨_, _, _, hv⟩
  go_wp2
  go_ret2
  refine ⟨rfl, ?_, ?_, ?_⟩
  · exact Lib.BuilderAt.put (T := 51) (e := 5) hB hb2 (bs' := bs ++ Lib.strCells s) (by simpa [Lib.strCells_length] using hown') (by decide)
  · exact (hb1.grown hgrow (by have := hb1.size; omega) (fun k hk => (hown.lt k hk).1)).setCell (p := ⟨b, 1, none⟩) hB _
  · intro g cs t ht hg r
    have r1 := hk1 g cs t ht hg r
    have r2 : Row w2 g cs t := (hgrow.block g r1.lt (fun e => Lib.ownBlock_ne hown r1 ht e.symm)).trans r1
    exact row_setO r2 hg _ _

end Go.Proofs.YtclbiophgnkggaaGreatDoor

namespace Go.Proofs.YtclbiophgnkggaaGreatDoor
open Go Go.RowKit
open Sha
open Wd
open Go.Lib (decDigits)

set_option maxRecDepth 100000 in
set_option maxHeartbeats 4000000 in
theorem labelOf_any (p : Nat) (h : p < 65536) (w : World) (hp : P10 w) : Calls Tryz.prog 19 #[.int .i64 (p : Int)] w fun e w' => e = .returned (.string ⟨(labT p).toArray⟩) ∧ Below w.heap.size w w' := by
  have HI : Hid _ := itoa_any p (by omega) w hp
  have hl := dec_len p (Nat.lt_trans h (by decide))
  obtain ⟨D, hD⟩ : ∃ D, D = decDigits p := ⟨_, rfl⟩
  have HD : Hid (labT p = 76 :: D) := by show _ = _; rw [hD]; rfl
  rw [← hD] at HI hl
  clear hD hp
  go_enter Tryz.func19, Tryz.ntmps19
  go_wp2_with (first
    | (go_at_call 60; refine Calls.mono HI.out ?_; rintro e X ⟨rfl, q⟩; have B : Hid (Below w.heap.size w X) := q; clear q)
    | (refine wpList_cat rfl _ _ _ _ rfl [76] D rfl rfl (by decide) (by omega) ?_; simp only [Act.put, List.setIfInBounds_toArray, List.set_cons_zero, List.set_cons_succ]))
  go_ret
  exact ⟨by rw [HD.out]; rfl, B.out⟩
theorem ic_wide {W : World} {b : Nat} {t : TypeId} {c p a n : Nat} (R : Row W b (ic c p a n) t) : W.rangeAt b 2 (wq a) := fun j v hj => R.cell (2 + j) v (by
  have hlt : j < 4 := by have := (List.getElem?_eq_some_iff.1 hj).1; rwa [wq_len] at this
  rw [show 2 + j = j + 1 + 1 by omega]
  unfold ic
  rw [List.getElem?_cons_succ, List.getElem?_cons_succ, List.getElem?_append_left (by rw [wq_len]; omega)]
  exact hj)
/-- A part of the call, in the run's row. -/
theorem mtab_load (c : Nat) (h : c < 28) : mtab[c * 6 + 0]? = some (.string ⟨(nmL c).toArray⟩) := mtab_name c h
set_option maxRecDepth 100000 in
set_option maxHeartbeats 4000000 in
theorem text_any2 (T c p a n : Nat) (hc : c < 28) (ha : a < 2 ^ 256) (hn : n < 65536) (w : World) (hp : P10 w) (hT : Row w T mtab 84) : Calls Tryz.prog 20 #[.agg (ic c p a n).toArray, .slice (some ⟨T, 0, none⟩) 28 28] w fun e w' => e = .returned (.string ⟨(nmL c ++ opT c a n).toArray⟩) ∧ Below w.heap.size w w' := by
  have hl1 := dec_len a ha
  have hl2 := dec_len n (Nat.lt_trans hn (by decide))
  have hl3 := nmL_len c hc
  have HP : Hid (P10 w) := hp
  have HT : Hid (Row w T mtab 84) := hT
  have HA : Hid (a < 2 ^ 256) := ha
  obtain ⟨L, hL⟩ : ∃ L, L = ic c p a n := ⟨_, rfl⟩
  have HL : Hid (L = ic c p a n) := hL
  obtain ⟨cw, hcw⟩ : ∃ cw, cw = wq a := ⟨_, rfl⟩
  have HW : Hid (Wc cw a) := hcw
  have HCW : Hid (cw = wq a) := hcw
  have HIW : Hid ((Tryz.prog.info? 37).map (·.size) = some cw.length) := by show _ = _; rw [hcw]; exact info_Wq a
  obtain ⟨D, hD⟩ : ∃ D, D = decDigits a := ⟨_, rfl⟩
  obtain ⟨E, hE⟩ : ∃ E, E = decDigits n := ⟨_, rfl⟩
  obtain ⟨M, hM⟩ : ∃ M, M = nmL c := ⟨_, rfl⟩
  obtain ⟨V, hV⟩ : ∃ V, V = nmL c ++ opT c a n := ⟨_, rfl⟩
  have HV : Hid (V = M ++ (if oper c = 0 then [] else if oper c = 1 then 32 :: D else if oper c = 5 then 32 :: 76 :: E else 32 :: E)) := by show _ = _; rw [hV, hM, hD, hE]; rfl
  have HT2 : Hid (∀ X, Below w.heap.size w X → Calls Tryz.prog 61 #[.agg cw.toArray] X fun e w' => e = .returned (.string ⟨D.toArray⟩) ∧ Below X.heap.size X w') := fun X q => text_c HW.out HA.out hD.symm X (HP.out.below q)
  have HI2 : Hid (∀ X, Below w.heap.size w X → Calls Tryz.prog 60 #[.int .i64 (n : Int)] X fun e w' => e = .returned (.string ⟨E.toArray⟩) ∧ Below X.heap.size X w') := fun X q => by rw [hE]; exact itoa_any n (by omega) X (HP.out.below q)
  have HB2 : Hid (∀ X, Below w.heap.size w X → Calls Tryz.prog 19 #[.int .i64 (n : Int)] X fun e w' => e = .returned (.string ⟨(76 :: E).toArray⟩) ∧ Below X.heap.size X w') := fun X q => by rw [hE]; exact labelOf_any n hn X (HP.out.below q)
  rw [← hL, ← hV]
  rw [← hD] at hl1
  rw [← hE] at hl2
  rw [← hM] at hl3
  obtain ⟨k, hk⟩ : ∃ k, k = oper c := ⟨_, rfl⟩
  have HK : Hid (k = oper c) := hk
  have hk5 : k ≤ 5 := by rw [hk]; exact oper_le c hc
  have HN : Hid (mtab[c * 6 + 0]? = some (.string ⟨M.toArray⟩)) := by show _ = _; rw [hM]; exact mtab_load c hc
  have HO : Hid (mtab[c * 6 + 1]? = some (.int .i64 (k : Int))) := by show _ = _; rw [hk]; exact mtab_oper c hc
  clear hL hcw hD hE hM hV hk ha hn hp hT
  go_enter Tryz.func20, Tryz.ntmps20
  go_upto_region 1 with (refine wpList_boxG 53 rfl (.tmp 0) rfl L rfl ?_; intro X q1 q2 q3; have R1 : Hid (Row X w.heap.size L 53) := q1; have B1 : Hid (Below w.heap.size w X) := q2; clear q1 q2 q3; simp only [Act.put, List.setIfInBounds_toArray, List.set_cons_zero, List.set_cons_succ])
  have R1' : Row X w.heap.size (ic c p a n) 53 := by rw [← HL.out]; exact R1.out
  have c0 := R1'.cell 0 _ (ic_0 _ _ _ _)
  have c6 := R1'.cell 6 _ (ic_6 _ _ _ _)
  have RW : Hid (X.rangeAt w.heap.size 2 cw) := by rw [HCW.out]; exact ic_wide R1'
  have cn := (Row.below HT.out B1.out HT.out.lt).cell (c * 6 + 0) _ HN.out
  have ct := (Row.below HT.out B1.out HT.out.lt).cell (c * 6 + 1) _ HO.out
  clear R1'
  rw [Nat.add_zero] at cn
  by_cases k0 : k = 0
  · have HE : Hid (V = M) := by show _ = _; rw [HV.out, if_pos (by rw [← HK.out]; exact k0), List.append_nil]
    subst k0
    go_wp2
    go_ret
    exact ⟨by rw [HE.out]; rfl, B1.out⟩
  · by_cases k1 : k = 1
    · have HE : Hid (V = M ++ [32] ++ D) := by show _ = _; rw [HV.out, if_neg (by rw [← HK.out]; exact k0), if_pos (by rw [← HK.out]; exact k1), List.append_assoc]; rfl
      subst k1
      clear k0
      go_wp2_with (first
        | (refine wpList_cat rfl _ _ _ _ rfl M [32] rfl rfl (by omega) (by decide) ?_; simp only [Act.put, List.setIfInBounds_toArray, List.set_cons_zero, List.set_cons_succ])
        | (refine wpList_load_mid rfl 37 (.tmp 25) rfl w.heap.size 2 rfl cw _ RW.out Tryz.underlying37 rfl HIW.out ?_; simp only [Act.put, List.setIfInBounds_toArray, List.set_cons_zero, List.set_cons_succ])
        | (go_at_call 61; refine Calls.mono (HT2.out X B1.out) ?_; rintro e X2 ⟨rfl, q⟩; have B2 : Hid (Below w.heap.size w X2) := B1.out.trans (q.mono B1.out.size); clear q)
        | (refine wpList_cat rfl _ _ _ _ rfl (M ++ [32]) D rfl rfl (by rw [List.length_append, List.length_singleton]; omega) (by omega) ?_; simp only [Act.put, List.setIfInBounds_toArray, List.set_cons_zero, List.set_cons_succ]))
      go_ret
      exact ⟨by rw [HE.out]; rfl, B2.out⟩
    · by_cases k5 : k = 5
      · have HE : Hid (V = M ++ [32] ++ (76 :: E)) := by show _ = _; rw [HV.out, if_neg (by rw [← HK.out]; exact k0), if_neg (by rw [← HK.out]; exact k1), if_pos (by rw [← HK.out]; exact k5), List.append_assoc]; rfl
        subst k5
        clear k0 k1
        go_wp2_with (first
          | (refine wpList_cat rfl _ _ _ _ rfl M [32] rfl rfl (by omega) (by decide) ?_; simp only [Act.put, List.setIfInBounds_toArray, List.set_cons_zero, List.set_cons_succ])
          | (go_at_call 19; refine Calls.mono (HB2.out X B1.out) ?_; rintro e X2 ⟨rfl, q⟩; have B2 : Hid (Below w.heap.size w X2) := B1.out.trans (q.mono B1.out.size); clear q)
          | (refine wpList_cat rfl _ _ _ _ rfl (M ++ [32]) (76 :: E) rfl rfl (by rw [List.length_append, List.length_singleton]; omega) (by rw [List.length_cons]; omega) ?_; simp only [Act.put, List.setIfInBounds_toArray, List.set_cons_zero, List.set_cons_succ]))
        go_ret
        exact ⟨by rw [HE.out]; rfl, B2.out⟩
      · have HE : Hid (V = M ++ [32] ++ E) := by show _ = _; rw [HV.out, if_neg (by rw [← HK.out]; exact k0), if_neg (by rw [← HK.out]; exact k1), if_neg (by rw [← HK.out]; exact k5), List.append_assoc]; rfl
        have j0 : ¬ (k : Int) = 0 := by omega
        have j1 : ¬ (k : Int) = 1 := by omega
        have j5 : ¬ (k : Int) = 5 := by omega
        clear k0 k1 k5
        go_wp2_with (first
          | (refine wpList_cat rfl _ _ _ _ rfl M [32] rfl rfl (by omega) (by decide) ?_; simp only [Act.put, List.setIfInBounds_toArray, List.set_cons_zero, List.set_cons_succ])
          | (go_at_call 60; refine Calls.mono (HI2.out X B1.out) ?_; rintro e X2 ⟨rfl, q⟩; have B2 : Hid (Below w.heap.size w X2) := B1.out.trans (q.mono B1.out.size); clear q)
          | (refine wpList_cat rfl _ _ _ _ rfl (M ++ [32]) E rfl rfl (by rw [List.length_append, List.length_singleton]; omega) (by omega) ?_; simp only [Act.put, List.setIfInBounds_toArray, List.set_cons_zero, List.set_cons_succ]))
        go_ret
        exact ⟨by rw [HE.out]; rfl, B2.out⟩

end Go.Proofs.YtclbiophgnkggaaGreatDoor
