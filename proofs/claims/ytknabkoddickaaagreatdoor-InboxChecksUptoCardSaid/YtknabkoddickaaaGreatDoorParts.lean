/-
  Parts and Sum.
-/
import Derived.Test.YtknabkoddickaaaGreatDoorHMath
import Derived.Deep.WholeRow

namespace Go.Proofs.YtknabkoddickaaaGreatDoor
open Go Go.RowKit
open Sha

theorem vW_list_length (s : St) : (vW s.list).length = 8 := rfl
theorem vB_noughts_length : (vB noughts).length = 64 := rfl
theorem hcells_noughts (s : St) (t : List (BitVec 8)) (n : Int) (h : t.length = 64) : (hcells s t n).take 8 ++ vB noughts ++ (hcells s t n).drop (8 + (vB noughts).length) = hcells s noughts n := by
  have e1 := hcells_splice s t noughts n 0 h (by decide)
  have e2 : t.take 0 ++ noughts ++ t.drop (0 + noughts.length) = noughts := by
    rw [List.drop_of_length_le (by rw [h]; decide)]; simp
  rw [e2] at e1
  exact e1

section
variable {P : Program} {ops : Array Oper} {rest : List Oper} {op : Oper} {a : Act} {w : World} {Q : Exit → Act → World → Prop}

theorem run_slice_arr (w : World) (t e n b o k : Nat) (l : Int) (hl : l = (k : Int)) (hk : k < n) (hu : P.underlying t = some (.array n e)) (hs : (P.info? e).map (·.size) = some 1) :
    (Instr.sliceAt t (.pointer (some ⟨b, o, none⟩)) (some (.int .i64 l)) none none).run P w = .ok (.slice (some ⟨b, o + k, none⟩) (n - k) (n - k)) w := by
  cases hq : P.info? e with
  | none => simp [hq] at hs
  | some i =>
    have h1 : i.size = 1 := by simpa [hq] using hs
    subst hl
    have h2 : ¬ n = k := by omega
    have h3 : k ≤ n := Nat.le_of_lt hk
    simp [Instr.sliceAt, Instr.sureAddr, run_underlying hu, Instr.sliceBounds, Instr.sliceBound, asIntOf, sizeOf, typeInfo, hq, h1, h2, h3, Addr.add_mid]

theorem run_slice_fromT (w : World) (t e ab ao len cap m : Nat) (l : Int) (hl : l = (m : Int)) (hm : m ≤ len) (hu : P.underlying t = some (.slice e)) (hs : (P.info? e).map (·.size) = some 1) :
    (Instr.sliceAt t (.slice (some ⟨ab, ao, none⟩) len cap) (some (.int .i64 l)) none none).run P w = .ok (.slice (some (if cap = m then ⟨ab, ao, none⟩ else ⟨ab, ao + m, none⟩)) (len - m) (cap - m)) w := by
  cases hq : P.info? e with
  | none => simp [hq] at hs
  | some i =>
    have h1 : i.size = 1 := by simpa [hq] using hs
    subst hl
    by_cases h2 : cap = m <;> simp [Instr.sliceAt, Instr.slice, run_underlying hu, Instr.sliceBounds, Instr.sliceBound, asIntOf, sizeOf, typeInfo, hq, h1, h2, Addr.add_mid, hm]

theorem wpList_slice_arrT (hgd : op.guard = none) (t : TypeId) (x y : Operand) (ho : op.op = .slice t x (some y) none none) (e n b o k : Nat) (l : Int) (hx : a.eval x = .pointer (some ⟨b, o, none⟩)) (hy : a.eval y = .int .i64 l)
    (hl : l = (k : Int)) (hk : k < n) (hu : P.underlying t = some (.array n e)) (hs : (P.info? e).map (·.size) = some 1)
    (h : wpList P ops Q rest (a.put op.dst (.slice (some ⟨b, o + k, none⟩) (n - k) (n - k))) w) : wpList P ops Q (op :: rest) a w :=
  wpList_plain hgd fun _ hK => by
    unfold Oper.wp execOp
    simp only [ho, hx, hy, Option.map_some, Option.map_none, Sem.run_bind, run_slice_arr w t e n b o k l hl hk hu hs, Result.andThen_ok, Sem.run_pure, Oper.upon_value]
    exact hK _ _ h

theorem wpList_slice_fromT (hgd : op.guard = none) (t : TypeId) (x y : Operand) (ho : op.op = .slice t x (some y) none none) (e ab ao len cap m : Nat) (l : Int) (hx : a.eval x = .slice (some ⟨ab, ao, none⟩) len cap) (hy : a.eval y = .int .i64 l)
    (hl : l = (m : Int)) (hm : m ≤ len) (hc : len ≤ cap) (hu : P.underlying t = some (.slice e)) (hs : (P.info? e).map (·.size) = some 1)
    (h : ∀ A, (m < len → A = (⟨ab, ao + m, none⟩ : Addr)) → wpList P ops Q rest (a.put op.dst (.slice (some A) (len - m) (cap - m))) w) : wpList P ops Q (op :: rest) a w :=
  wpList_plain hgd fun _ hK => by
    unfold Oper.wp execOp
    simp only [ho, hx, hy, Option.map_some, Option.map_none, Sem.run_bind, run_slice_fromT w t e ab ao len cap m l hl hm hu hs, Result.andThen_ok, Sem.run_pure, Oper.upon_value]
    exact hK _ _ (h _ (fun hlt => by rw [if_neg (by omega)]))
/-- copy, by its operation's text. -/
theorem wpList_copy' (hgd : op.guard = none) (x y : Operand) (dT sT : TypeId) (ho : op.op = .call { callee := .builtin .copy, args := #[x, y], argTypes := #[dT, sT] })
    (elem : TypeId) (b o dLen dCap : Nat) (adr : Addr) (sLen sCap : Nat) (cs : List Value)
    (hx : a.eval x = .slice (some ⟨b, o, none⟩) dLen dCap) (hy : a.eval y = .slice (some adr) sLen sCap)
    (hu : P.underlying dT = some (.slice elem)) (hs : (P.info? elem).map (·.size) = some 1) (hn : cs.length = Nat.min sLen dLen)
    (hsrc : ∀ j v, cs[j]? = some v → w.cell? (adr.add j) = some v) (ht : w.there b o cs.length) (h1 : ∀ v ∈ cs, v.oneCell' = true)
    (h : wpList P ops Q rest (a.put op.dst (goInt cs.length)) (w.setCells b o cs)) : wpList P ops Q (op :: rest) a w := by
  obtain ⟨dst, op', ty, pos, after, guard⟩ := op
  simp only at hgd ho
  subst hgd; subst ho
  exact wpList_copy elem b o dLen dCap adr sLen sCap cs hx hy hu hs hn hsrc ht h1 h
end

end Go.Proofs.YtknabkoddickaaaGreatDoor

namespace Go.Proofs.YtknabkoddickaaaGreatDoor
open Go Go.RowKit
open Sha

/-- Block b is a Hasher that has taken bs. -/
def HAt (w : World) (b : Nat) (bs : List (BitVec 8)) : Prop := Row w b (hcells (hst bs) (hwait bs) bs.length) 137

/-- All that was there is as it was, but for block b. -/
structure But (b : Nat) (w w' : World) : Prop where
  os : w'.os = w.os
  tape : w'.tape = w.tape
  output : w'.output = w.output
  size : w.heap.size ≤ w'.heap.size
  block : ∀ k, k < w.heap.size → k ≠ b → w'.heap[k]? = w.heap[k]?

theorem But.refl (b : Nat) (w : World) : But b w w := ⟨rfl, rfl, rfl, Nat.le_refl _, fun _ _ _ => rfl⟩
theorem But.trans {b : Nat} {u v w : World} (h : But b u v) (k : But b v w) : But b u w :=
  ⟨k.os.trans h.os, k.tape.trans h.tape, k.output.trans h.output, Nat.le_trans h.size k.size, fun i hi hb => (k.block i (Nat.lt_of_lt_of_le hi h.size) hb).trans (h.block i hi hb)⟩
theorem But.of_below {b : Nat} {w w' : World} (h : Below w.heap.size w w') : But b w w' := ⟨h.os, h.tape, h.output, h.size, fun k hk _ => h.block k hk⟩
theorem But.setCell (b i : Nat) (w : World) (v : Value) : But b w (w.setCell ⟨b, i, none⟩ v) := ⟨rfl, rfl, rfl, by simp [World.setCell], fun k _ hb => Below.heap_setCell _ _ _ _ hb⟩
theorem But.setCells (b o : Nat) (w : World) (vs : List Value) : But b w (w.setCells b o vs) := by
  induction vs generalizing w o with
  | nil => exact But.refl _ _
  | cons v r ih => exact (But.setCell b o w v).trans (ih (o + 1) _)
/-- If b is new, nothing old has turned. -/
theorem But.below {b B : Nat} {a w w' : World} (h : Below B a w) (k : But b w w') (hb : B ≤ b) (hB : B ≤ w.heap.size) : Below B a w' :=
  h.trans ⟨k.os, k.tape, k.output, k.size, fun i hi => k.block i (by omega) (by omega)⟩
theorem Row.but {w w' : World} {b c : Nat} {cs : List Value} {t : TypeId} (h : Row w c cs t) (k : But b w w') (hc : c ≠ b) : Row w' c cs t := (k.block c h.lt hc).trans h
theorem Tab.but {w w' : World} {b g : Nat} (h : Tab w g) (k : But b w w') (hc : g ≠ b) : Tab w' g := fun i hi =>
  (World.cell?_of_block (w := w) (a := ⟨g, i, none⟩) (k.block g h.lt hc)).trans (h i hi)
theorem range_but {w w' : World} {b c o : Nat} {cs : List Value} (h : w.rangeAt c o cs) (k : But b w w') (hc : c ≠ b) : w'.rangeAt c o cs := fun j v hv =>
  (World.cell?_of_block (w := w) (a := ⟨c, o + j, none⟩) (k.block c (World.block_lt_of_cell? w _ (h j v hv)) hc)).trans (h j v hv)

theorem firstState_lit (w : World) :
    Calls Tryz.prog 101 #[] w fun e w' => e = .returned (.agg #[Value.int IntKind.u32 1779033703, Value.int IntKind.u32 3144134277, Value.int IntKind.u32 1013904242, Value.int IntKind.u32 2773480762, Value.int IntKind.u32 1359893119, Value.int IntKind.u32 2600822924, Value.int IntKind.u32 528734635, Value.int IntKind.u32 1541459225]) ∧ Below w.heap.size w w' := by
  rw [show (#[Value.int IntKind.u32 1779033703, Value.int IntKind.u32 3144134277, Value.int IntKind.u32 1013904242, Value.int IntKind.u32 2773480762, Value.int IntKind.u32 1359893119, Value.int IntKind.u32 2600822924, Value.int IntKind.u32 528734635, Value.int IntKind.u32 1541459225] : Array Value) = (vW st0.list).toArray from by kernel_rfl]
  exact firstState_any w

theorem zero_hasher : (Tryz.prog.info? 137).map (fun i => (i.zero, i.size)) = some (some (.agg #[.int .u32 0, .int .u32 0, .int .u32 0, .int .u32 0, .int .u32 0, .int .u32 0, .int .u32 0, .int .u32 0, .int .u8 0, .int .u8 0, .int .u8 0, .int .u8 0, .int .u8 0, .int .u8 0, .int .u8 0, .int .u8 0, .int .u8 0, .int .u8 0, .int .u8 0, .int .u8 0, .int .u8 0, .int .u8 0, .int .u8 0, .int .u8 0, .int .u8 0, .int .u8 0, .int .u8 0, .int .u8 0, .int .u8 0, .int .u8 0, .int .u8 0, .int .u8 0, .int .u8 0, .int .u8 0, .int .u8 0, .int .u8 0, .int .u8 0, .int .u8 0, .int .u8 0, .int .u8 0, .int .u8 0, .int .u8 0, .int .u8 0, .int .u8 0, .int .u8 0, .int .u8 0, .int .u8 0, .int .u8 0, .int .u8 0, .int .u8 0, .int .u8 0, .int .u8 0, .int .u8 0, .int .u8 0, .int .u8 0, .int .u8 0, .int .u8 0, .int .u8 0, .int .u8 0, .int .u8 0, .int .u8 0, .int .u8 0, .int .u8 0, .int .u8 0, .int .u8 0, .int .u8 0, .int .u8 0, .int .u8 0, .int .u8 0, .int .u8 0, .int .u8 0, .int .u8 0, .int .i64 0]), 73) := by kernel_rfl
set_option maxRecDepth 100000 in
set_option maxHeartbeats 1000000 in
theorem new_any (w : World) :
    Calls Tryz.prog 53 #[] w fun e w' => ∃ b, e = .returned (.pointer (some ⟨b, 0, none⟩)) ∧ w.heap.size ≤ b ∧ HAt w' b [] ∧ Below w.heap.size w w' := by
  have hz := (zero_of_info zero_hasher).1
  go_enter Tryz.func53, Tryz.ntmps53
  go_wp2_with (go_at_call 101; refine (firstState_lit _).mono ?_; rintro e w1 ⟨rfl, hb1⟩)
  go_ret
  exact ⟨w1.heap.size, rfl, hb1.size, Row.new' rfl (by kernel_rfl), hb1.alloc hb1.size _⟩

end Go.Proofs.YtknabkoddickaaaGreatDoor

namespace Go.Proofs.YtknabkoddickaaaGreatDoor
open Go Go.RowKit
open Sha

/-- v is a slice of the bytes d, which lie outside block b. -/
def Sl (w : World) (v : Value) (d : List (BitVec 8)) (b : Nat) : Prop :=
  (d = [] ∧ v = .slice none 0 0) ∨ ∃ ab ao cap, v = .slice (some ⟨ab, ao, none⟩) d.length cap ∧ d.length ≤ cap ∧ ab ≠ b ∧ w.rangeAt ab ao (vB d)

set_option maxRecDepth 100000 in
set_option maxHeartbeats 1000000 in
theorem write_nil (b : Nat) (w : World) (cap : Nat) (a : Option Addr) :
    Calls Tryz.prog 54 #[.pointer (some ⟨b, 0, none⟩), .slice a 0 cap] w fun e w' => e = .returned (.tuple #[]) ∧ w' = w := by
  go_enter Tryz.func54, Tryz.ntmps54
  go_wp2
  go_loopw [1] (fun v wr => v = .slice a 0 cap ∧ wr = w) (fun _ _ => 0)
  case atStart => exact ⟨rfl, rfl⟩
  case round =>
    obtain ⟨rfl, rfl⟩ := hrel
    go_wp2
    go_end0
    exact ⟨rfl, rfl⟩

/-- A slice's length. -/
def sliceLen : Value → Nat
  | .slice _ n _ => n
  | _ => 0

set_option maxRecDepth 100000 in
set_option maxHeartbeats 1000000 in
theorem write_some (bs d : List (BitVec 8)) (hlen : bs.length + d.length < 1152921504606846976) (b ab ao cap : Nat) (hcap : d.length ≤ cap) (hab : ab ≠ b) (w : World) (hK : Tab w 1) (hg : 1 ≠ b)
    (hH : HAt w b bs) (hd : w.rangeAt ab ao (vB d)) :
    Calls Tryz.prog 54 #[.pointer (some ⟨b, 0, none⟩), .slice (some ⟨ab, ao, none⟩) d.length cap] w fun e w' => e = .returned (.tuple #[]) ∧ HAt w' b (bs ++ d) ∧ But b w w' := by
  go_enter Tryz.func54, Tryz.ntmps54
  go_wp2
  go_loopw [1] (fun v wr => ∃ (i : Nat) (A : Addr), i ≤ d.length ∧ v = .slice (some A) (d.length - i) (cap - i) ∧ (i < d.length → A = ⟨ab, ao + i, none⟩) ∧ HAt wr b (bs ++ d.take i) ∧ But b w wr)
    (fun v _ => sliceLen v)
  case atStart => exact ⟨0, _, by omega, rfl, fun _ => rfl, by simpa using hH, But.refl _ _⟩
  case round =>
    obtain ⟨i, A, hi, rfl, hA', hA, hB⟩ := hrel
    by_cases hlt : i < d.length
    · obtain rfl := hA' hlt
      have hx : (bs ++ d.take i).length = bs.length + i := by rw [List.length_append, List.length_take]; omega
      obtain ⟨x, hxe⟩ : ∃ x, x = bs ++ d.take i := ⟨_, rfl⟩
      obtain ⟨n, hn⟩ : ∃ n, n = bs.length + i := ⟨_, rfl⟩
      rw [← hxe, ← hn] at hx
      rw [← hxe] at hA
      unfold HAt at hA
      rw [hx] at hA
      have hwl := hwait_length x
      have g72 := hA.cell 72 _ (hcells_taken _ _ _ hwl)
      have f72 := hA.thaw 72
      obtain ⟨m, hm⟩ : ∃ m, m = Nat.min (d.length - i) (64 - n % 64) := ⟨_, rfl⟩
      have hm1 : m ≤ d.length - i := by rw [hm]; exact Nat.min_le_left _ _
      have hm2 : m ≤ 64 - n % 64 := by rw [hm]; exact Nat.min_le_right _ _
      have hm0 : 0 < m := by rw [hm]; exact Nat.lt_min.2 ⟨by omega, by omega⟩
      obtain ⟨e, he⟩ : ∃ e, e = (d.drop i).take m := ⟨_, rfl⟩
      have hel : e.length = m := by rw [he, List.length_take, List.length_drop]; omega
      have hn63 : n < 1152921504606846976 := by omega
      have hn63' : n + m < 1152921504606846976 := by omega
      have HM : Hid (m = Nat.min (d.length - i) (64 - n % 64)) := hm
      have HX : Hid (x = bs ++ d.take i) := hxe
      have HN : Hid (n = bs.length + i) := hn
      have HE : Hid (e = (d.drop i).take m) := he
      have HXL : Hid (x.length = n) := hx
      have HEL : Hid (e.length = m) := hel
      have hvl : (vB e).length = Nat.min (d.length - i) (64 - n % 64) := by rw [vB_length, hel]; exact hm
      have HVL : Hid _ := hvl
      have HWL : Hid _ := hwl
      have hsrc : wr.rangeAt ab (ao + i) (vB e) := by
        intro j v hv
        have hj : j < m := by have := (List.getElem?_eq_some_iff.1 hv).1; rwa [vB_length, hel] at this
        have h2 : (vB d)[i + j]? = some v := by
          rw [← hv, he]; simp only [vB, List.map_take, List.map_drop]
          rw [List.getElem?_take_of_lt hj, List.getElem?_drop]
        have := range_but hd hB hab (i + j) v h2
        rwa [show ao + (i + j) = ao + i + j by omega] at this
      have hthere := hA.there (8 + n % 64) (vB e).length (by rw [hcells_length _ _ _ hwl, vB_length, hel]; omega)
      clear hm hxe hn he hx hel hvl hwl
      have r1 : Row (wr.setCells b (8 + n % 64) (vB e)) b (hcells (hst x) ((hwait x).take (n % 64) ++ e ++ (hwait x).drop (n % 64 + e.length)) n) 137 := by
        have := Row.setCells (8 + n % 64) (vB e) hA (by rw [hcells_length _ _ _ HWL.out, vB_length, HEL.out]; omega)
        rwa [hcells_splice _ _ _ _ _ HWL.out (by rw [HEL.out]; omega)] at this
      have hB1 := hB.trans (But.setCells b (8 + n % 64) wr (vB e))
      obtain ⟨t, ht⟩ : ∃ t, t = (hwait x).take (n % 64) ++ e ++ (hwait x).drop (n % 64 + e.length) := ⟨_, rfl⟩
      have htl : t.length = 64 := by rw [ht]; simp only [List.length_append, List.length_take, List.length_drop, HWL.out, HEL.out]; omega
      rw [← ht] at r1
      have HT : Hid _ := ht
      have HTL : Hid _ := htl
      clear ht htl
      have g72' := r1.cell 72 _ (hcells_taken _ _ _ HTL.out)
      have f72' := r1.thaw 72
      by_cases hfull : n % 64 + m = 64
      · go_wp2_with (first
          | (refine wpList_slice_arrT rfl 135 (.tmp 16) (.tmp 17) rfl 5 64 b 8 (n % 64) ((n : Int) % 64) rfl rfl (by omega) (by omega) Tryz.underlying135 info_u8T ?_; simp only [Act.put, List.setIfInBounds_toArray, List.set_cons_zero, List.set_cons_succ])
          | (refine wpList_copy' rfl (.tmp 18) (.tmp 19) 44 44 rfl 5 b (8 + n % 64) (64 - n % 64) (64 - n % 64) ⟨ab, ao + i, none⟩ (d.length - i) (cap - i) (vB e) rfl rfl Tryz.underlying44 info_u8T HVL.out ?_ hthere (vB_one e) ?_; (intro j v hv; rw [Addr.add_mid]; exact hsrc j v hv); rw [show goInt (vB e).length = .int .i64 (m : Int) from (by rw [vB_length, HEL.out]; rfl)]; simp only [Act.put, List.setIfInBounds_toArray, List.set_cons_zero, List.set_cons_succ]; (generalize World.setCells wr b (8 + n % 64) (vB e) = w2 at *))
          | (refine wpList_slice_fromT rfl 44 (.tmp 21) (.tmp 22) rfl 5 ab (ao + i) (d.length - i) (cap - i) m (m : Int) rfl rfl rfl hm1 (by omega) Tryz.underlying44 info_u8T ?_; intro A hA2; simp only [Act.put, List.setIfInBounds_toArray, List.set_cons_zero, List.set_cons_succ]))
        have r3 : Row (w2.setCell ⟨b, 72, none⟩ (.int .i64 ((n : Int) + m))) b (hcells (hst x) t ((n : Int) + m)) 137 := by
          have := r1.set 72 (.int .i64 ((n : Int) + m)); rwa [hcells_set _ _ _ _ HTL.out] at this
        have hB3 := hB1.trans (But.setCell b 72 w2 (.int .i64 ((n : Int) + m)))
        generalize w2.setCell ⟨b, 72, none⟩ (.int .i64 ((n : Int) + m)) = w3 at *
        clear g72 f72 g72' f72' hthere hsrc r1 hB1 hA hd hH
        have hT3 : Tab w3 1 := hK.but hB3 hg
        have hbl := r3.lt
        obtain ⟨wa, hwa⟩ : ∃ wa, words t 16 = wa := ⟨_, rfl⟩
        have HWA : Hid (words t 16 = wa) := hwa
        have HWAL : Hid (wa.length = 16) := by rw [← hwa]; exact words_length _ _
        obtain ⟨s1, hs1⟩ : ∃ s1, s1 = hst x := ⟨_, rfl⟩
        obtain ⟨ra, hra⟩ : ∃ ra, comp s1 wa = ra := ⟨_, rfl⟩
        have HRA : Hid (comp s1 wa = ra) := hra
        have HS1 : Hid (s1 = hst x) := hs1
        rw [← hs1] at r3
        clear hwa hra hs1
        have hi64 : (Tryz.prog.info? 135).map (·.size) = some (vB t).length := by rw [info_b64, vB_length, HTL.out]
        refine wp_region_quiet_tail (C := fun w' => Below w3.heap.size w3 w') 13 (by kernel_rfl) (by kernel_rfl) ((Below.refl _ _).drew) ?_
        simp only [List.take_succ_cons, List.take_zero, List.drop_succ_cons, List.drop_zero]
        refine quiet_copy rfl (.tmp 0) (.inl rfl) ?_
        simp only [Act.put, List.setIfInBounds_toArray, List.set_cons_zero, List.set_cons_succ]
        refine quiet_copy rfl (.tmp 0) (.inl rfl) ?_
        simp only [Act.put, List.setIfInBounds_toArray, List.set_cons_zero, List.set_cons_succ]
        refine quiet_val rfl (.pointer (some ⟨b, 0, none⟩)) (fun w' _ => by go_simp) ?_
        simp only [Act.put, List.setIfInBounds_toArray, List.set_cons_zero, List.set_cons_succ]
        refine quiet_val rfl (.pointer (some ⟨b, 0, none⟩)) (fun w' _ => by go_simp) ?_
        simp only [Act.put, List.setIfInBounds_toArray, List.set_cons_zero, List.set_cons_succ]
        refine quiet_load rfl 133 (.tmp 39) rfl b 0 rfl (vW s1.list) _ (fun w' hw' => (r3.below hw' hbl).range 0 _ (hcells_state _ _ _)) Tryz.underlying133 rfl info_arr8 ?_
        simp only [Act.put, List.setIfInBounds_toArray, List.set_cons_zero, List.set_cons_succ]
        refine quiet_copy rfl (.tmp 0) (.inl rfl) ?_
        simp only [Act.put, List.setIfInBounds_toArray, List.set_cons_zero, List.set_cons_succ]
        refine quiet_val rfl (.pointer (some ⟨b, 0, none⟩)) (fun w' _ => by go_simp) ?_
        simp only [Act.put, List.setIfInBounds_toArray, List.set_cons_zero, List.set_cons_succ]
        refine quiet_val rfl (.pointer (some ⟨b, 8, none⟩)) (fun w' _ => by go_simp) ?_
        simp only [Act.put, List.setIfInBounds_toArray, List.set_cons_zero, List.set_cons_succ]
        refine quiet_load rfl 135 (.tmp 43) rfl b 8 rfl (vB t) _ (fun w' hw' => (r3.below hw' hbl).range 8 _ (hcells_wait _ _ _)) Tryz.underlying135 rfl hi64 ?_
        simp only [Act.put, List.setIfInBounds_toArray, List.set_cons_zero, List.set_cons_succ]
        refine quiet_call rfl 103 #[.agg (vB t).toArray] (.agg (vW wa).toArray) (fun w' _ => by go_simp) (fun w' hw' => (words_w _ wa HTL.out HWA.out w').mono (fun e w'' h => ⟨h.1, hw'.trans (h.2.mono hw'.size)⟩)) ?_
        simp only [Act.put, List.setIfInBounds_toArray, List.set_cons_zero, List.set_cons_succ]
        refine quiet_call rfl 102 #[.agg (vW s1.list).toArray, .agg (vW wa).toArray] (.agg (vW ra.list).toArray) (fun w' _ => by go_simp) (fun w' hw' => (takeIn_r s1 wa ra HWAL.out HRA.out w' (hT3.below hw' hT3.lt)).mono (fun e w'' h => ⟨h.1, hw'.trans (h.2.mono hw'.size)⟩)) ?_
        simp only [Act.put, List.setIfInBounds_toArray, List.set_cons_zero, List.set_cons_succ]
        refine quiet_val rfl (.pointer (some ⟨b, 0, none⟩)) (fun w' _ => by go_simp) ?_
        simp only [Act.put, List.setIfInBounds_toArray, List.set_cons_zero, List.set_cons_succ]
        refine quiet_val rfl (.pointer (some ⟨b, 0, none⟩)) (fun w' _ => by go_simp) ?_
        simp only [Act.put, List.setIfInBounds_toArray, List.set_cons_zero, List.set_cons_succ]
        refine wpQuiet_nil ?_
        intro w' hw'
        have r4 := r3.below hw' hbl
        have hB4 := hB3.trans (But.of_below (b := b) hw')
        clear hw' r3 hB3 hT3 hbl
        refine wpList_store_mid rfl 133 (.tmp 48) (.tmp 46) rfl b 0 (vW ra.list).toArray rfl rfl (r4.there 0 8 (by rw [hcells_length _ _ _ HTL.out]; omega)) info_arr8 (all_oneCell_toArray (vW_one ra.list)) ?_
        simp only [Act.put]
        have r5 : Row (World.setCells w' b 0 (vW ra.list)) b (hcells ra t ((n : Int) + m)) 137 := by
          have := Row.setCells 0 (vW ra.list) r4 (by rw [hcells_length _ _ _ HTL.out, vW_list_length]; decide); rwa [hcells_over] at this
        have hB5 := hB4.trans (But.setCells b 0 w' (vW ra.list))
        change wpList _ _ _ _ _ (World.setCells w' b 0 (vW ra.list))
        generalize World.setCells w' b 0 (vW ra.list) = w5 at *
        clear r4 hB4
        have r6 : Row (World.setCells w5 b 8 (vB noughts)) b (hcells ra noughts ((n : Int) + m)) 137 := by
          have := Row.setCells 8 (vB noughts) r5 (by rw [hcells_length _ _ _ HTL.out, vB_noughts_length]; decide)
          rwa [hcells_noughts _ _ _ HTL.out] at this
        have hB6 := hB5.trans (But.setCells b 8 w5 (vB noughts))
        have hi9 : (Tryz.prog.info? 135).map (·.size) = some (vB noughts).toArray.size := info_b64
        have ho9 := all_oneCell_toArray (vB_one noughts)
        go_wp2_with (refine wpList_store_mid rfl 135 (.tmp 52) (.tmp 50) rfl b 8 (vB noughts).toArray rfl rfl (r5.there 8 64 (by rw [hcells_length _ _ _ HTL.out]; decide)) hi9 ho9 ?_; simp only [Act.put]; (change wpList _ _ _ _ _ (World.setCells w5 b 8 (vB noughts))); (generalize World.setCells w5 b 8 (vB noughts) = w6 at *))
        have hd1 : bs ++ d.take (i + m) = x ++ e := by rw [HX.out, HE.out, List.append_assoc, List.take_add]
        have hf : x.length % 64 + e.length = 64 := by rw [HXL.out, HEL.out]; exact hfull
        have hH6 : HAt w6 b (x ++ e) := by
          unfold HAt
          rw [hst_full x e hf, hwait_full x e hf, List.length_append, HXL.out, HEL.out]
          rw [show comp (hst x) (words ((hwait x).take (n % 64) ++ e ++ (hwait x).drop (n % 64 + m)) 16) = ra from by rw [← HRA.out, ← HWA.out, HS1.out, HT.out, HEL.out]]
          exact_mod_cast r6
        refine ⟨⟨i + m, A, by omega, by rw [Nat.sub_sub, Nat.sub_sub], fun h => by rw [hA2 (by omega), Nat.add_assoc], by rw [hd1]; exact hH6, hB6⟩, ?_⟩
        show d.length - i - m < d.length - i
        omega
      · go_wp2_with (first
          | (refine wpList_slice_arrT rfl 135 (.tmp 16) (.tmp 17) rfl 5 64 b 8 (n % 64) ((n : Int) % 64) rfl rfl (by omega) (by omega) Tryz.underlying135 info_u8T ?_; simp only [Act.put, List.setIfInBounds_toArray, List.set_cons_zero, List.set_cons_succ])
          | (refine wpList_copy' rfl (.tmp 18) (.tmp 19) 44 44 rfl 5 b (8 + n % 64) (64 - n % 64) (64 - n % 64) ⟨ab, ao + i, none⟩ (d.length - i) (cap - i) (vB e) rfl rfl Tryz.underlying44 info_u8T HVL.out ?_ hthere (vB_one e) ?_; (intro j v hv; rw [Addr.add_mid]; exact hsrc j v hv); rw [show goInt (vB e).length = .int .i64 (m : Int) from (by rw [vB_length, HEL.out]; rfl)]; simp only [Act.put, List.setIfInBounds_toArray, List.set_cons_zero, List.set_cons_succ]; (generalize World.setCells wr b (8 + n % 64) (vB e) = w2 at *))
          | (refine wpList_slice_fromT rfl 44 (.tmp 21) (.tmp 22) rfl 5 ab (ao + i) (d.length - i) (cap - i) m (m : Int) rfl rfl rfl hm1 (by omega) Tryz.underlying44 info_u8T ?_; intro A hA2; simp only [Act.put, List.setIfInBounds_toArray, List.set_cons_zero, List.set_cons_succ]))
        have r3 : Row (w2.setCell ⟨b, 72, none⟩ (.int .i64 ((n : Int) + m))) b (hcells (hst x) t ((n : Int) + m)) 137 := by
          have := r1.set 72 (.int .i64 ((n : Int) + m)); rwa [hcells_set _ _ _ _ HTL.out] at this
        have hB3 := hB1.trans (But.setCell b 72 w2 (.int .i64 ((n : Int) + m)))
        have hd1 : bs ++ d.take (i + m) = x ++ e := by rw [HX.out, HE.out, List.append_assoc, List.take_add]
        have hf : x.length % 64 + e.length < 64 := by rw [HXL.out, HEL.out]; omega
        have hH6 : HAt (w2.setCell ⟨b, 72, none⟩ (.int .i64 ((n : Int) + m))) b (x ++ e) := by
          unfold HAt
          rw [hst_part x e hf, hwait_part x e hf, List.length_append, HXL.out]
          rw [show (hwait x).take (n % 64) ++ e ++ (hwait x).drop (n % 64 + e.length) = t from HT.out.symm, HEL.out]
          exact_mod_cast r3
        refine ⟨⟨i + m, A, by omega, by rw [Nat.sub_sub, Nat.sub_sub], fun h => by rw [hA2 (by omega), Nat.add_assoc], by rw [hd1]; exact hH6, hB3⟩, ?_⟩
        show d.length - i - m < d.length - i
        omega
    · obtain rfl : i = d.length := by omega
      have hH' : HAt wr b (bs ++ d) := by rw [List.take_length] at hA; exact hA
      clear hA hA'
      go_wp2
      go_end0
      exact ⟨rfl, hH', hB⟩

end Go.Proofs.YtknabkoddickaaaGreatDoor

namespace Go.Proofs.YtknabkoddickaaaGreatDoor
open Go Go.RowKit
open Sha

theorem finish_d (s : St) (t : List (BitVec 8)) (d : List (BitVec 8)) (ht : t.length = 64) (n : Nat) (hn : n < 9223372036854775808) (hd : (fin s t n).bytes = d) (w : World) (hK : Tab w 1) :
    Calls Tryz.prog 104 #[.agg (vW s.list).toArray, .agg (vB t).toArray, .int .i64 n] w fun e w' => e = .returned (.agg (vB d).toArray) ∧ Below w.heap.size w w' := by
  rw [← hd]; exact finish_any s t ht n hn w hK

theorem mul8 (n : Nat) (hn : n < 1152921504606846976) : IntKind.i64.wrap (8 * (n : Int)) = 8 * (n : Int) := by
  rw [IntKind.wrap_i64]; omega

set_option maxRecDepth 100000 in
set_option maxHeartbeats 1000000 in
theorem hsum_any (bs : List (BitVec 8)) (hlen : bs.length < 1152921504606846976) (b : Nat) (w : World) (hK : Tab w 1) (hH : HAt w b bs) :
    Calls Tryz.prog 55 #[.pointer (some ⟨b, 0, none⟩)] w fun e w' => e = .returned (.agg (vB (dig bs)).toArray) ∧ Below w.heap.size w w' := by
  obtain ⟨dd, hdd⟩ : ∃ dd, dd = dig bs := ⟨_, rfl⟩
  rw [← hdd]
  have HD : Hid (dd = dig bs) := hdd
  have HDL : Hid (dd.length = 32) := by rw [hdd]; exact dig_length bs
  obtain ⟨s, hs⟩ : ∃ s, s = hst bs := ⟨_, rfl⟩
  obtain ⟨t, ht⟩ : ∃ t, t = hwait bs := ⟨_, rfl⟩
  have htl : t.length = 64 := by rw [ht]; exact hwait_length bs
  obtain ⟨n, hn⟩ : ∃ n, n = bs.length := ⟨_, rfl⟩
  unfold HAt at hH
  rw [← hs, ← ht, ← hn] at hH
  rw [← hn] at hlen
  have HF : Hid ((fin s t (8 * n)).bytes = dd) := by rw [hdd, hs, ht, hn]; rfl
  clear hdd hs ht hn
  go_enter Tryz.func55, Tryz.ntmps55
  go_wp2
  obtain ⟨W, hW⟩ : ∃ W, W = w.alloc (Obj.cells (vB (List.replicate 32 0#8)).toArray 51) := ⟨_, rfl⟩
  have hB : Below w.heap.size w W := by rw [hW]; exact (Below.refl _ _).alloc (Nat.le_refl _) _
  have hz : W.heap.size = w.heap.size + 1 := by rw [hW]; simp
  have r0 : Row W w.heap.size (vB (List.replicate 32 0#8)) 51 := by rw [hW]; exact Row.new _ _ _
  have r1 : Row W b (hcells s t n) 137 := by rw [hW]; exact hH.alloc _
  have hT : Tab W 1 := hK.below hB hK.lt
  change Code.wp _ _ _ _ (w.alloc (Obj.cells (vB (List.replicate 32 0#8)).toArray 51))
  rw [← hW]
  clear hW
  have hbl := r1.lt
  have hi64 : (Tryz.prog.info? 135).map (·.size) = some (vB t).length := by rw [info_b64, vB_length, htl]
  refine wp_region_quiet_tail (C := fun w' => Below W.heap.size W w') 14 (by kernel_rfl) (by kernel_rfl) ((Below.refl _ _).drew) ?_
  simp only [List.take_succ_cons, List.take_zero, List.drop_succ_cons, List.drop_zero]
  refine quiet_copy rfl (.tmp 0) (.inl rfl) ?_
  simp only [Act.put, List.setIfInBounds_toArray, List.set_cons_zero, List.set_cons_succ]
  refine quiet_val rfl (.pointer (some ⟨b, 0, none⟩)) (fun w' _ => by go_simp) ?_
  simp only [Act.put, List.setIfInBounds_toArray, List.set_cons_zero, List.set_cons_succ]
  refine quiet_val rfl (.pointer (some ⟨b, 0, none⟩)) (fun w' _ => by go_simp) ?_
  simp only [Act.put, List.setIfInBounds_toArray, List.set_cons_zero, List.set_cons_succ]
  refine quiet_load rfl 133 (.tmp 5) rfl b 0 rfl (vW s.list) _ (fun w' hw' => (r1.below hw' hbl).range 0 _ (hcells_state _ _ _)) Tryz.underlying133 rfl info_arr8 ?_
  simp only [Act.put, List.setIfInBounds_toArray, List.set_cons_zero, List.set_cons_succ]
  refine quiet_copy rfl (.tmp 0) (.inl rfl) ?_
  simp only [Act.put, List.setIfInBounds_toArray, List.set_cons_zero, List.set_cons_succ]
  refine quiet_val rfl (.pointer (some ⟨b, 0, none⟩)) (fun w' _ => by go_simp) ?_
  simp only [Act.put, List.setIfInBounds_toArray, List.set_cons_zero, List.set_cons_succ]
  refine quiet_val rfl (.pointer (some ⟨b, 8, none⟩)) (fun w' _ => by go_simp) ?_
  simp only [Act.put, List.setIfInBounds_toArray, List.set_cons_zero, List.set_cons_succ]
  refine quiet_load rfl 135 (.tmp 9) rfl b 8 rfl (vB t) _ (fun w' hw' => (r1.below hw' hbl).range 8 _ (hcells_wait _ _ _)) Tryz.underlying135 rfl hi64 ?_
  simp only [Act.put, List.setIfInBounds_toArray, List.set_cons_zero, List.set_cons_succ]
  refine quiet_copy rfl (.tmp 0) (.inl rfl) ?_
  simp only [Act.put, List.setIfInBounds_toArray, List.set_cons_zero, List.set_cons_succ]
  refine quiet_val rfl (.pointer (some ⟨b, 0, none⟩)) (fun w' _ => by go_simp) ?_
  simp only [Act.put, List.setIfInBounds_toArray, List.set_cons_zero, List.set_cons_succ]
  refine quiet_val rfl (.pointer (some ⟨b, 72, none⟩)) (fun w' _ => by go_simp) ?_
  simp only [Act.put, List.setIfInBounds_toArray, List.set_cons_zero, List.set_cons_succ]
  refine quiet_val rfl (.int .i64 (n : Int)) (fun w' hw' => by have g := (r1.below hw' hbl).cell 72 _ (hcells_taken _ _ _ htl); clear hw'; go_simp) ?_
  simp only [Act.put, List.setIfInBounds_toArray, List.set_cons_zero, List.set_cons_succ]
  refine quiet_val rfl (.int .i64 ((8 * n : Nat) : Int)) (fun w' hw' => by have g := mul8 n hlen; clear hw'; go_simp) ?_
  simp only [Act.put, List.setIfInBounds_toArray, List.set_cons_zero, List.set_cons_succ]
  refine quiet_call rfl 104 #[.agg (vW s.list).toArray, .agg (vB t).toArray, .int .i64 ((8 * n : Nat) : Int)] (.agg (vB dd).toArray) (fun w' _ => by go_simp) (fun w' hw' => (finish_d s t dd htl (8 * n) (by omega) HF.out w' (hT.below hw' hT.lt)).mono (fun e w'' h => ⟨h.1, hw'.trans (h.2.mono hw'.size)⟩)) ?_
  simp only [Act.put, List.setIfInBounds_toArray, List.set_cons_zero, List.set_cons_succ]
  refine wpQuiet_nil ?_
  intro w' hw'
  have q0 := r0.below hw' (by omega)
  have qB := hB.trans (hw'.mono (by omega))
  clear hw' r0 r1 hB hT hbl hz
  have hi5 : (Tryz.prog.info? 51).map (·.size) = some (vB dd).toArray.size := by rw [info_dig]; simp [vB_length, HDL.out]
  refine wpList_store_mid rfl 51 (.tmp 2) (.tmp 16) rfl w.heap.size 0 (vB dd).toArray rfl rfl (q0.there 0 _ (by simp [vB_length, HDL.out])) hi5 (all_oneCell_toArray (vB_one dd)) ?_
  simp only [Act.put]
  have nf := q0.over (vs := vB dd) (by rw [vB_length, HDL.out]; rfl)
  have nB := below_setCells qB (b := w.heap.size) (o := 0) (Nat.le_refl _) (vB dd)
  go_wp2
  exact bodyPost_ret (results_row Tryz.results55 _ _ w.heap.size 51 (vB dd) rfl nf Tryz.underlying51 info_dig (by rw [vB_length, HDL.out])) rfl ⟨rfl, nB⟩

end Go.Proofs.YtknabkoddickaaaGreatDoor

namespace Go.Proofs.YtknabkoddickaaaGreatDoor
open Go Go.RowKit
open Sha

/-- v is a slice of the bytes d. -/
def SlAtT (w : World) (v : Value) (d : List (BitVec 8)) : Prop :=
  (d = [] ∧ ∃ A cap, v = .slice A 0 cap) ∨ ∃ ab ao cap, v = .slice (some ⟨ab, ao, none⟩) d.length cap ∧ d.length ≤ cap ∧ w.rangeAt ab ao (vB d)

theorem range_below {B : Nat} {w w' : World} {c o : Nat} {cs : List Value} (h : w.rangeAt c o cs) (k : Below B w w') (hB : w.heap.size ≤ B) : w'.rangeAt c o cs := fun j v hv =>
  (k.cell (p := ⟨c, o + j, none⟩) (Nat.lt_of_lt_of_le (World.block_lt_of_cell? w _ (h j v hv)) hB)).trans (h j v hv)
theorem SlAtT.below {B : Nat} {w w' : World} {v : Value} {d : List (BitVec 8)} (h : SlAtT w v d) (k : Below B w w') (hB : w.heap.size ≤ B) : SlAtT w' v d := by
  rcases h with h | ⟨ab, ao, cap, h1, h2, h3⟩
  · exact .inl h
  · exact .inr ⟨ab, ao, cap, h1, h2, range_below h3 k hB⟩

/-- Write of bytes that lay there ahead of the Hasher. -/
theorem write_old (bs d : List (BitVec 8)) (hlen : bs.length + d.length < 1152921504606846976) (b : Nat) (v : Value) (w0 w : World) (hK : Tab w 1) (hg : 1 ≠ b)
    (hH : HAt w b bs) (hv : SlAtT w0 v d) (hB : Below w0.heap.size w0 w) (hb : w0.heap.size ≤ b) :
    Calls Tryz.prog 54 #[.pointer (some ⟨b, 0, none⟩), v] w fun e w' => e = .returned (.tuple #[]) ∧ HAt w' b (bs ++ d) ∧ But b w w' := by
  rcases hv with ⟨rfl, A, cap, rfl⟩ | ⟨ab, ao, cap, rfl, hcap, hr⟩
  · exact (write_nil b w cap A).mono (fun e w' h => ⟨h.1, by rw [h.2, List.append_nil]; exact hH, by rw [h.2]; exact But.refl _ _⟩)
  · cases d with
    | nil => exact (write_nil b w cap (some ⟨ab, ao, none⟩)).mono (fun e w' h => ⟨h.1, by rw [h.2, List.append_nil]; exact hH, by rw [h.2]; exact But.refl _ _⟩)
    | cons x d =>
      have hab : ab < w0.heap.size := World.block_lt_of_cell? w0 _ (hr 0 _ rfl)
      exact write_some bs (x :: d) hlen b ab ao cap hcap (by omega) w hK hg hH (range_below hr hB (Nat.le_refl _))

theorem take_flat (ps : List (List (BitVec 8))) (k : Nat) (h : k < ps.length) : (ps.take (k + 1)).flatten = (ps.take k).flatten ++ ps.getD k [] := by
  rw [List.take_succ_eq_append_getElem h, List.flatten_append]; simp [h]
theorem take_flat_length (ps : List (List (BitVec 8))) (k : Nat) (h : k < ps.length) : (ps.take k).flatten.length + (ps.getD k []).length ≤ ps.flatten.length := by
  have h1 : ps.flatten = (ps.take (k + 1)).flatten ++ (ps.drop (k + 1)).flatten := by rw [← List.flatten_append, List.take_append_drop]
  rw [h1, take_flat ps k h, List.length_append, List.length_append]; omega

theorem hsum_d (bs dd : List (BitVec 8)) (hd : dd = dig bs) (hlen : bs.length < 1152921504606846976) (b : Nat) (w : World) (hK : Tab w 1) (hH : HAt w b bs) :
    Calls Tryz.prog 55 #[.pointer (some ⟨b, 0, none⟩)] w fun e w' => e = .returned (.agg (vB dd).toArray) ∧ Below w.heap.size w w' := by
  rw [hd]; exact hsum_any bs hlen b w hK hH

set_option maxRecDepth 100000 in
set_option maxHeartbeats 1000000 in
theorem parts_any (ps : List (List (BitVec 8))) (vs : List Value) (hl : vs.length = ps.length) (pb po cap : Nat) (hlen : ps.flatten.length < 1152921504606846976) (hpl : ps.length < 1152921504606846976) (w : World) (hK : Tab w 1)
    (hv : ∀ i, i < ps.length → SlAtT w (vs.getD i undef) (ps.getD i [])) (hr : w.rangeAt pb po vs) :
    Calls Tryz.prog 37 #[.slice (some ⟨pb, po, none⟩) ps.length cap] w fun e w' => e = .returned (.agg (vB (dig ps.flatten)).toArray) ∧ Below w.heap.size w w' := by
  obtain ⟨dd, hdd⟩ : ∃ dd, dd = dig ps.flatten := ⟨_, rfl⟩
  rw [← hdd]
  have HD : Hid (dd = dig ps.flatten) := hdd
  have HDL : Hid (dd.length = 32) := by rw [hdd]; exact dig_length _
  clear hdd
  go_enter Tryz.func37, Tryz.ntmps37
  go_wp2_with (go_at_call 53; refine (new_any _).mono ?_; rintro e w1 ⟨b, rfl, hb1, hH1, hB1⟩)
  have hN : w.heap.size + 1 ≤ b := by simpa using hb1
  have hB0 : Below w.heap.size w w1 := ((Below.refl _ _).alloc (Nat.le_refl _) _).trans (hB1.mono (by simp))
  have r0 : Row w1 w.heap.size (vB (List.replicate 32 0#8)) 51 := Row.below (Row.new' rfl rfl) hB1 (by simp)
  clear hB1 hb1
  have hg : 1 ≠ b := by have := hK.lt; omega
  go_loopw [9] (fun i wr => ∃ k : Nat, k ≤ ps.length ∧ i = .int .i64 k ∧ HAt wr b (ps.take k).flatten ∧ Row wr w.heap.size (vB (List.replicate 32 0#8)) 51 ∧ Below w.heap.size w wr)
    (fun i _ => ps.length - (intOf i).toNat)
  case atStart => exact ⟨0, by omega, rfl, hH1, r0, hB0⟩
  case round =>
    obtain ⟨k, hk, rfl, hA, q0, qB⟩ := hrel
    clear hH1 r0 hB0
    by_cases hlt : k < ps.length
    · have gk : wr.cell? ⟨pb, po + k, none⟩ = some (vs.getD k undef) := range_below hr qB (Nat.le_refl _) k _ (by rw [List.getD_eq_getElem?_getD, List.getElem?_eq_getElem (by omega)]; rfl)
      have hsl := hv k hlt
      have HV : Hid _ := hsl
      have e1 := take_flat ps k hlt
      have e2 := take_flat_length ps k hlt
      have E1 : Hid _ := e1
      have E2 : Hid (_ < 1152921504606846976) := Nat.lt_of_le_of_lt e2 hlen
      generalize vs.getD k undef = v at gk HV
      clear e1 e2 hsl hv
      go_wp2_with (go_at_call 54; refine (write_old _ _ E2.out b v w wr (hK.below qB hK.lt) hg hA HV.out qB (by omega)).mono ?_; rintro e w2 ⟨rfl, hH2, hBut⟩)
      refine ⟨⟨k + 1, by omega, by go_num, by rw [E1.out]; exact hH2, q0.but hBut (by omega), But.below qB hBut (by omega) qB.size⟩, by simp [intOf]; omega⟩
    · obtain rfl : k = ps.length := by omega
      have hA' : HAt wr b ps.flatten := by rw [List.take_length] at hA; exact hA
      clear hA
      have hi5 : (Tryz.prog.info? 51).map (·.size) = some (vB dd).toArray.size := by rw [info_dig]; simp [vB_length, HDL.out]
      have hqz : w.heap.size < wr.heap.size := q0.lt
      go_wp2_with (first
        | (go_at_call 55; refine (hsum_d _ dd HD.out hlen b wr (hK.below qB hK.lt) hA').mono ?_; rintro e w2 ⟨rfl, hB2⟩)
        | (refine wpList_store_mid rfl 51 (.tmp 2) (.tmp 18) rfl w.heap.size 0 (vB dd).toArray rfl rfl ((q0.below hB2 (by omega)).there 0 _ (by simp [vB_length, HDL.out])) hi5 (all_oneCell_toArray (vB_one dd)) ?_))
      have nf := (q0.below hB2 (by omega)).over (vs := vB dd) (by rw [vB_length, HDL.out]; rfl)
      have nB := below_setCells (qB.trans (hB2.mono (by omega))) (b := w.heap.size) (o := 0) (Nat.le_refl _) (vB dd)
      exact bodyPost_ret (results_row Tryz.results37 _ _ w.heap.size 51 (vB dd) rfl nf Tryz.underlying51 info_dig (by rw [vB_length, HDL.out])) rfl ⟨rfl, nB⟩

end Go.Proofs.YtknabkoddickaaaGreatDoor
