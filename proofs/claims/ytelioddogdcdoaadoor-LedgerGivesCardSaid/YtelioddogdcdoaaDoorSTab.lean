/-
  Tables: NewTable, Len, set, follow, lay of a first value, Find.
-/
import Derived.Test.YtelioddogdcdoaaDoorXMem
import Derived.Maps.OwnSet
import Derived.StringKeys
import Derived.Shelf.LaysM
import Derived.Shelf.Strconv.Clone
import Derived.Test.YtelioddogdcdoaaDoorProg
import Derived.Deep.RegionLaw
import Derived.BigRegion
import Derived.Test.YtelioddogdcdoaaDoorSKey
import Derived.Carry
import Derived.Deep.CutRange

namespace Go.Proofs.YtelioddogdcdoaaDoor
open Go Go.RowKit Go.Maps
open Sha

/-- An element of a map, as it is. -/
def heldE : Value → Option (DataW Value × List MemPlace) := fun v => some (.held v, [])
/-- Block b is a map from texts that tells what D tells. -/
abbrev Mp (w : World) (b n : Nat) (D : DataW Value) : Prop := w.ownsMap Tryd.prog 9 heldE b n D
theorem keyedS : Keyed Tryd.prog 9 := string_keyed Tryd.underlying9
/-- A text as a key. -/
def kl (s : ByteArray) : Lit := .string s.data.toList
theorem kl_inj {a b : ByteArray} (h : kl a = kl b) : a = b := by
  unfold kl at h
  simp only [Lit.string.injEq] at h
  apply ByteArray.ext
  exact Array.toList_inj.1 h
theorem kl_key (s : ByteArray) : WideAt.IsKeyLit (kl s) := by
  unfold kl
  simp [WideAt.IsKeyLit]
theorem key_of (s : ByteArray) (h : s.size ≤ 128) : keyOf Tryd.prog 9 (.string s) = some (kl s) := WideMaps.keyOf_string_mk Tryd.underlying9 (by unfold maxLen; omega)
section
variable {w w' : World} {b n : Nat} {D : DataW Value}
theorem Mp.look (h : Mp w b n D) (t e : TypeId) (ht : Tryd.prog.underlying t = some (.map 9 e)) (z : Value) (hz : (zeroValue e).run Tryd.prog w = .ok z w) (s : ByteArray) (hs : s.size ≤ 128) (v : Value) (hv : D.atKey (kl s) (.held z) = .held v) :
    (Instr.lookup t (.map (some b)) (.string s) false).run Tryd.prog w = .ok v w := by
  obtain ⟨u, ps, h1, h2⟩ := World.ownsMap.lookup (zd := .held z) (zp := []) h keyedS ht hz rfl (key_of s hs)
  rw [hv] at h2
  unfold heldE at h2
  simp only [Option.some.injEq, Prod.mk.injEq, DataW.held.injEq] at h2
  rw [← h2.1]
  exact h1
theorem look_none (t e : TypeId) (ht : Tryd.prog.underlying t = some (.map 9 e)) (z : Value) (hz : (zeroValue e).run Tryd.prog w = .ok z w) (s : ByteArray) (hs : s.size ≤ 128) :
    (Instr.lookup t (.map none) (.string s) false).run Tryd.prog w = .ok z w := by
  have h := Maps.look_nil (P := Tryd.prog) (w := w) false keyedS ht hz (key_of s hs)
  simpa using h
theorem Mp.be (h : Mp w b n D) (k : Below w.heap.size w w') : Mp w' b n D := by
  have hlt := World.ownsMap.lt h
  obtain ⟨es, clock, hb, F, hs, hD⟩ := h
  exact ⟨es, clock, (k.block b hlt).trans hb, F, hs, hD⟩
theorem Mp.block (h : Mp w b n D) (k : w'.heap[b]? = w.heap[b]?) : Mp w' b n D := by
  obtain ⟨es, clock, hb, F, hs, hD⟩ := h
  exact ⟨es, clock, k.trans hb, F, hs, hD⟩
theorem Mp.gro {R : Nat → Prop} (h : Mp w b n D) (k : Gro R w w') (hR : ¬ R b) : Mp w' b n D := Mp.block h (k.block b (World.ownsMap.lt h) hR)
theorem Mp.lt (h : Mp w b n D) : b < w.heap.size := World.ownsMap.lt h
theorem Mp.ne {g : Nat} {cs : List Value} {t : TypeId} (h : Mp w b n D) (r : Row w g cs t) : b ≠ g := fun e => by
  subst e
  obtain ⟨es, clock, hb, _⟩ := h
  have := hb.symm.trans r
  simp at this
theorem Mp.bw {v : Value} {d : List (BitVec 8)} (h : Mp w b n D) (k : Bw w v d) : ∀ g, v.ownBlock = some g → g ≠ b := fun g e q => by
  subst q
  obtain ⟨es, clock, hb, _⟩ := h
  rcases k.2 with ⟨h1, _⟩ | ⟨g', cap, cur, hv, _, hh, _⟩
  · rw [h1] at e; simp [Value.ownBlock] at e
  · rw [hv] at e
    simp only [Value.ownBlock, Option.some.injEq] at e
    subst e
    have := hb.symm.trans hh
    simp at this
theorem Mp.new (w : World) : Mp (w.alloc (.map #[] 0)) w.heap.size 0 (.map []) := World.ownsMap_made w _ _ _
/-- What is laid in a map. -/
theorem Mp.put (h : Mp w b n D) (hn : n < 140737488355328) (t e : TypeId) (ht : Tryd.prog.underlying t = some (.map 9 e)) (s : ByteArray) (hs : s.size ≤ 128) (v : Value) :
    ∃ W, (Instr.mapUpdate t (.map (some b)) (.string s) v).run Tryd.prog w = .ok () W ∧ Mp W b (n + 1) (D.put (kl s) (.held v)) ∧ w.grownBy W (some b) :=
  World.ownsMap.update (d := .held v) (ps := []) h keyedS ht (by unfold maxLen; omega) (key_of s hs) rfl
end

end Go.Proofs.YtelioddogdcdoaaDoor

namespace Go.Proofs.YtelioddogdcdoaaDoor
open Go Go.Shelf Go.RowKit
def lays316_ren : Go.Shelf.Ren := ⟨fun | 316 => 62 | n => n, fun | 0 => 0 | 3 => 3 | 4 => 4 | 5 => 5 | 9 => 9 | 37 => 52 | 127 => 130 | n => n, fun | n => n⟩
theorem lays316 : Go.Proofs.LaysM.n316 Tryd.prog lays316_ren := {
  mixed := by kernel_rfl
  f316 := Tryd.func62.trans (congrArg some (by kernel_rfl))
  t0 := by kernel_rfl
  a0 := fun _ => by kernel_rfl
  z0 := fun _ => by kernel_rfl
  v0 := fun _ => by kernel_rfl
  t3 := Tryd.underlying3
  a3 := Tryd.isAgg3
  z3 := Tryd.sizeOf3
  v3 := Tryd.zeroValue3
  t4 := Tryd.underlying4
  a4 := Tryd.isAgg4
  z4 := Tryd.sizeOf4
  v4 := Tryd.zeroValue4
  t9 := Tryd.underlying9
  a9 := Tryd.isAgg9
  z9 := Tryd.sizeOf9
  v9 := Tryd.zeroValue9
  t37 := Tryd.underlying52
  a37 := Tryd.isAgg52
  z37 := Tryd.sizeOf52
  v37 := Tryd.zeroValue52
  t127 := Tryd.underlying130
  a127 := Tryd.isAgg130
  z127 := Tryd.sizeOf130
  v127 := Tryd.zeroValue130
  t5 := Tryd.underlying5
  a5 := Tryd.isAgg5
  z5 := Tryd.sizeOf5
  v5 := Tryd.zeroValue5
  i0 := by kernel_rfl
  i3 := by kernel_rfl
  i4 := by kernel_rfl
  i5 := by kernel_rfl
  i9 := by kernel_rfl
  i37 := by kernel_rfl
  i127 := by kernel_rfl }
theorem liteClone_any (s : ByteArray) (w : World) (hlim : s.size ≤ 281474976710656) :
    Calls Tryd.prog 62 #[.string s] w fun e w' => e = .returned (.string s) ∧ Below w.heap.size w w' := Any.stringslite_Clone lays316 s w hlim
set_option maxRecDepth 100000 in
/-- strings.Clone. -/
theorem sclone_any (s : ByteArray) (w : World) (hlim : s.size ≤ 281474976710656) :
    Calls Tryd.prog 57 #[.string s] w fun e w' => e = .returned (.string s) ∧ Below w.heap.size w w' := by
  go_enter Tryd.func57, Tryd.ntmps57
  have hc := liteClone_any s
  go_wp2_with (go_at_call 62; refine (hc _ (by assumption)).mono ?_; rintro _ w1 ⟨rfl, b1⟩)
  go_ret
  exact ⟨rfl, by simpa using b1⟩

end Go.Proofs.YtelioddogdcdoaaDoor

namespace Go.Proofs.YtelioddogdcdoaaDoor
open Go Go.RowKit
open Sha

theorem stp_fcall {P : Program} {ops : Array Oper} {o : Oper} {a : Act} {w : World} {K : Act → World → Prop} {Q : Exit → Act → World → Prop} {E : Prop} (hg : o.guard = none) (f : FuncId) (args : Array Value) (h : (execOp a.eval o).run P w = .ok (.enter f args) w)
    (hc : Calls P f args w fun e w' => ∃ v, e = .returned v ∧ K (a.put o.dst v) w') : if Region.wanted o (yielded ops a.tmps) = true then Oper.wp P o a w K Q else E := by
  have hw : Region.wanted o (yielded ops a.tmps) = true := by simp [Region.wanted, hg]
  rw [if_pos hw]
  unfold Oper.wp
  rw [h]
  exact hc.mono (fun e w' hk => by obtain ⟨v, he, hk⟩ := hk; subst he; exact hk)

/-- The same, where the function's number is held against the operation first: so that a wrong alternative fails at once. -/
theorem stp_fn {P : Program} {ops : Array Oper} {o : Oper} {a : Act} {w : World} {K : Act → World → Prop} {Q : Exit → Act → World → Prop} {E : Prop} (hg : o.guard = none) (f : FuncId) {xs : Array Operand} {ts : Array TypeId} (_ho : o.op = .call { callee := .value (.func f), args := xs, argTypes := ts }) (args : Array Value) (h : (execOp a.eval o).run P w = .ok (.enter f args) w)
    (hc : Calls P f args w fun e w' => ∃ v, e = .returned v ∧ K (a.put o.dst v) w') : if Region.wanted o (yielded ops a.tmps) = true then Oper.wp P o a w K Q else E := stp_fcall hg f args h hc

end Go.Proofs.YtelioddogdcdoaaDoor

namespace Go.Proofs.YtelioddogdcdoaaDoor
open Go Go.RowKit Go.Maps
open Sha

abbrev tT : TypeId := 86
abbrev Gt (T : Nat) : World → World → Prop := Gro (fun k => k = T)
theorem Gro.drew {R : Nat → Prop} {a b : World} (h : Gro R a b) : Gro R a b.drew := ⟨h.os, h.tape, h.output, h.size, h.block⟩
theorem Gro.alloc {R : Nat → Prop} {a b : World} (h : Gro R a b) (o : Obj) : Gro R a (b.alloc o) := h.below ((Below.refl _ _).alloc (Nat.le_refl _) o)

set_option maxRecDepth 100000 in
theorem newTable_any (w : World) :
    Calls Tryd.prog 17 #[] w fun e w' => e = .returned (.pointer (some ⟨w.heap.size, 0, none⟩)) ∧ w' = w.alloc (.cells #[.map none, .pointer none] tT) := by
  go_enter Tryd.func17, Tryd.ntmps17
  go_wp2
  go_ret
  exact ⟨rfl, rfl⟩

set_option maxRecDepth 100000 in
theorem follow_none (T : Nat) (mv k v : Value) (n : Int) (w : World) (h : Row w T [mv, .pointer none] tT) :
    Calls Tryd.prog 56 #[.pointer (some ⟨T, 0, none⟩), k, v, .int .i64 n] w fun e w' => e = .returned (.tuple #[]) ∧ w' = w := by
  have g1 := h.cell 1 _ rfl
  clear h
  go_enter Tryd.func56, Tryd.ntmps56
  go_wp2
  first | go_end0 | refine bodyPost_ret (results_none rfl _ _ _) rfl ?_
  exact ⟨rfl, rfl⟩

/-- Bytes lie in no row without bytes. -/
theorem sl_ne {w : World} {ab ao T : Nat} {d : List (BitVec 8)} {cs : List Value} {t : TypeId} (h : w.rangeAt ab ao (vB d)) (h0 : 0 < d.length) (r : Row w T cs t) (hc : ∀ v ∈ cs, ∀ b, v ≠ .int .u8 b) : ab ≠ T := fun e => by
  subst e
  have h9 := h 0 (.int .u8 (c (d.getD 0 0))) (vB_get d 0 h0)
  have h8 : w.cell? ⟨ab, ao + 0, none⟩ = cs.toArray[ao + 0]? := cell_of_row _ _ _ _ _ (0, 0) r
  rw [h8] at h9
  exact hc _ (by simpa using Array.mem_of_getElem? h9) _ rfl

/-- A table with a map of its own. -/
structure Tb (w : World) (T b n : Nat) (D : DataW Value) : Prop where
  row : Row w T [.map (some b), .pointer none] tT
  map : Mp w b n D
theorem Tb.be {w w' : World} {T b n : Nat} {D : DataW Value} (h : Tb w T b n D) (k : Below w.heap.size w w') : Tb w' T b n D := ⟨Row.below h.row k h.row.lt, Mp.be h.map k⟩

theorem sl_nil {w : World} {A : Option Addr} {n cap : Nat} {d : List (BitVec 8)} (h : Bw w (.slice A n cap) d) : A = none → n = 0 ∧ cap = 0 := fun e => by
  subst e
  rcases h.2 with ⟨h2, h0⟩ | ⟨g, c2, cur, hvv, _⟩
  · simp only [Value.slice.injEq] at h2
    exact ⟨h2.2.1, h2.2.2⟩
  · cases hvv

set_option maxRecDepth 100000 in
set_option maxHeartbeats 2000000 in
/-- set, where there is no map yet. -/
theorem set_new (T : Nat) (s : ByteArray) (hs : s.size ≤ 128) (A : Option Addr) (n cap : Nat) (d : List (BitVec 8)) (hd : d.length = n) (h0 : 0 < n) (hn : n ≤ 4096) (w : World) (h : Row w T [.map none, .pointer none] tT) (hv : SlAt w (.slice A n cap) d) (hnil : A = none → n = 0 ∧ cap = 0) :
    Calls Tryd.prog 55 #[.pointer (some ⟨T, 0, none⟩), .string s, .slice A n cap] w fun e w' => e = .returned (.tuple #[]) ∧ ∃ b A' c', Tb w' T b 1 ((DataW.map []).put (kl s) (.held (.slice A' n c'))) ∧ Bw w' (.slice A' n c') d ∧ Gt T w w' ∧ w.heap.size ≤ b := by
  have g0 := h.cell 0 _ rfl
  have g0a := (h.alloc (.map #[] 0)).cell 0 _ rfl
  have f0a := (h.alloc (.map #[] 0)).thaw 0
  have hm0 := mapnil_eq
  have hmm := @run_makeMap Tryd.prog
  have h00 : ¬ (n : Int) = 0 := by omega
  have hTl : T < w.heap.size := h.lt
  obtain ⟨W1, hW1⟩ : ∃ W1, W1 = (w.alloc (.map #[] 0)).setCell ⟨T, 0, none⟩ (.map (some w.heap.size)) := ⟨_, rfl⟩
  have rT : Row W1 T [.map (some w.heap.size), .pointer none] tT := by rw [hW1]; exact (h.alloc (.map #[] 0)).set 0 (.map (some w.heap.size))
  have hM : Mp W1 w.heap.size 0 (.map []) := by rw [hW1]; exact Mp.block (Mp.new w) (Below.heap_setCell _ ⟨T, 0, none⟩ _ _ (by show w.heap.size ≠ T; omega))
  have hG : Gt T w W1 := by rw [hW1]; exact (Gro.of_below ((Below.refl _ _).alloc (Nat.le_refl _) (.map #[] 0))).set T 0 _ rfl
  have hS : SlAt W1 (.slice A n cap) d := by
    rw [hW1]
    rcases hv.be ((Below.refl _ _).alloc (Nat.le_refl _) (.map #[] 0)) with q | ⟨ab, ao, c', q1, q2, q3⟩
    · exact .inl q
    · refine .inr ⟨ab, ao, c', q1, q2, range_block q3 (Below.heap_setCell _ ⟨T, 0, none⟩ _ _ ?_)⟩
      exact fun e => sl_ne q3 (by omega) (h.alloc (.map #[] 0)) (by simp) e
  have gT := rT.cell 0 _ rfl
  have HT : Hid (Row W1.drew T [.map (some w.heap.size), .pointer none] tT) := rT
  have HM : Hid (Mp W1.drew w.heap.size 0 (.map [])) := hM
  have HG : Hid (Gt T w W1.drew) := hG.drew
  have HS : Hid (SlAt W1.drew (.slice A n cap) d) := hS
  have HD : Hid (d.length = n) := hd
  have HN : Hid (n ≤ 140737488355328) := by show _ ≤ _; omega
  have HNIL : Hid (A = none → n = 0 ∧ cap = 0) := hnil
  have HSZ : Hid (s.size ≤ 128) := hs
  have HSL : Hid (s.size ≤ 281474976710656) := by show _ ≤ _; omega
  have HTL : Hid (T < w.heap.size) := hTl
  have HZ : Hid (0 < 140737488355328) := by show 0 < _; omega
  clear h rT hM hG hS hd hn hnil hs hv h0 hTl
  go_enter Tryd.func55, Tryd.ntmps55
  go_upto_region 4 with fail
  rw [← hW1]
  clear hW1 g0 g0a f0a
  go_region_law (first
    | (refine stp_fn rfl 57 rfl #[.string s] (by go_simp) (Calls.mono (sclone_any s _ HSL.out) ?_); rintro e V ⟨rfl, hB⟩; refine ⟨_, rfl, ?_⟩; replace HT : Hid (Row V T [.map (some w.heap.size), .pointer none] tT) := Row.below HT.out hB HT.out.lt; replace HM : Hid (Mp V w.heap.size 0 (.map [])) := Mp.be HM.out hB; replace HG : Hid (Gt T w V) := HG.out.below hB; replace HS : Hid (SlAt V (.slice A n cap) d) := HS.out.be hB; have gV := HT.out.cell 0 _ rfl; clear hB)
    | (refine stp_fn rfl 54 rfl #[.slice A n cap] (by go_simp) (Calls.mono (bclone_any A n cap d HD.out HN.out _ HS.out HNIL.out) ?_); rintro e V2 ⟨A', c', rfl, hb, hb2, hb3, hB⟩; refine ⟨_, rfl, ?_⟩; replace HT : Hid (Row V2 T [.map (some w.heap.size), .pointer none] tT) := Row.below HT.out hB HT.out.lt; replace HM : Hid (Mp V2 w.heap.size 0 (.map [])) := Mp.be HM.out hB; replace HG : Hid (Gt T w V2) := HG.out.below hB; have gV2 := HT.out.cell 0 _ rfl; have HB : Hid (Bw V2 (.slice A' n c') d) := hb; obtain ⟨U, hU, hM2, hg2⟩ := Mp.put HM.out HZ.out 83 52 Tryd.underlying83 s HSZ.out (.slice A' n c'); have HM2 : Hid (Mp U w.heap.size 1 _) := hM2; have HG2 : Hid (V2.grownBy U (some w.heap.size)) := hg2; clear hM2 hg2 hb hb2 hb3 hB))
  all_goals
    go_wp2_with fail
    first | go_end0 | refine bodyPost_ret (results_none rfl _ _ _) rfl ?_
    refine ⟨rfl, w.heap.size, A', c', ⟨?_, HM2.out⟩, ?_, ?_, Nat.le_refl _⟩
    · exact (HG2.out.block T HT.out.lt (by have := HTL.out; simp; omega)).trans HT.out
    · exact Bw.block HB.out fun g e => HG2.out.block g (Bw.lt HB.out g e) (by have := Mp.bw HM.out HB.out g e; simp; omega)
    · exact HG.out.grown HG2.out (fun g e => .inr (by simp at e; omega))

set_option maxRecDepth 100000 in
set_option maxHeartbeats 1000000 in
theorem lay_new (T : Nat) (s : ByteArray) (hs : s.size ≤ 128) (A : Option Addr) (n cap : Nat) (d : List (BitVec 8)) (hd : d.length = n) (h0 : 0 < n) (hn : n ≤ 4096) (w : World) (h : Row w T [.map none, .pointer none] tT) (hv : SlAt w (.slice A n cap) d) (hnil : A = none → n = 0 ∧ cap = 0) :
    Calls Tryd.prog 51 #[.pointer (some ⟨T, 0, none⟩), .string s, .slice A n cap] w fun e w' => e = .returned (.tuple #[]) ∧ ∃ b A' c', Tb w' T b 1 ((DataW.map []).put (kl s) (.held (.slice A' n c'))) ∧ Bw w' (.slice A' n c') d ∧ Gt T w w' ∧ w.heap.size ≤ b := by
  have g0 := h.cell 0 _ rfl
  have hl : (Builtin.len_ #[83] 3 #[.map none]).run Tryd.prog w = .ok (.int .i64 0) w := Maps.len_nil Tryd.underlying83 _
  have HC : Hid _ := set_new T s hs A n cap d hd h0 hn w h hv hnil
  clear h hs hd h0 hn hv hnil
  go_enter Tryd.func51, Tryd.ntmps51
  go_wp2_with (first
    | (go_at_call 55; refine Calls.mono HC.out ?_; rintro e W ⟨rfl, b, A', c', hT, hB, hG, hb⟩; have HT : Hid (Tb _ _ _ _ _) := hT; have HB : Hid (Bw _ _ _) := hB; have HG : Hid (Gt T w W) := hG; have HF : Hid _ := follow_none T (.map (some b)) (.string s) (.slice A n cap) 0 W hT.row; clear hT hB hG HC)
    | (go_at_call 56; refine Calls.mono HF.out ?_; rintro e W2 ⟨rfl, rfl⟩))
  first | go_end0 | refine bodyPost_ret (results_none rfl _ _ _) rfl ?_
  exact ⟨rfl, b, A', c', HT.out, HB.out, HG.out, hb⟩

end Go.Proofs.YtelioddogdcdoaaDoor
