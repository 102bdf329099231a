/-
  a state over an empty table, as a function of its keys; ask, Get, Put.
-/
import Derived.Test.YtbfahgdienppoaaGreatDoorXMem
import Derived.Maps.OwnSet
import Derived.StringKeys
import Derived.Shelf.LaysM
import Derived.Shelf.Strconv.Clone
import Derived.Test.YtbfahgdienppoaaGreatDoorProg
import Derived.Test.YtbfahgdienppoaaGreatDoorXStp
import Derived.Carry
import Derived.Deep.CutRange
import Derived.LoopN
import Derived.Handy
import Derived.Laws.BytesArg

namespace Go.Proofs.YtbfahgdienppoaaGreatDoor
open Go Go.RowKit
open Sha

theorem slnil_eq (w : World) : (binOp .eql 46 (.slice none 0 0) (.slice none 0 0)).run Tryz.prog w = .ok (.bool true) w := by
  have h1 : ∀ d, (Op.equalIn (d + 1) 46 (.slice none 0 0) (.slice none 0 0)).run Tryz.prog w = .ok true w := fun d => by simp [Op.equalIn, run_underlying Tryz.underlying46]
  have h2 : (Op.equal 46 (.slice none 0 0) (.slice none 0 0)).run Tryz.prog w = .ok true w := h1 9999
  simp only [binOp]
  simp [h2]
theorem slsome_eq (a : Addr) (n c : Nat) (w : World) : (binOp .eql 46 (.slice (some a) n c) (.slice none 0 0)).run Tryz.prog w = .ok (.bool false) w := by
  have h1 : ∀ d, (Op.equalIn (d + 1) 46 (.slice (some a) n c) (.slice none 0 0)).run Tryz.prog w = .ok false w := fun d => by simp [Op.equalIn, run_underlying Tryz.underlying46]
  have h2 : (Op.equal 46 (.slice (some a) n c) (.slice none 0 0)).run Tryz.prog w = .ok false w := h1 9999
  simp only [binOp]
  simp [h2]
theorem mapnil_eq (w : World) : (binOp .eql 69 (.map none) (.map none)).run Tryz.prog w = .ok (.bool true) w := by
  have h1 : ∀ d, (Op.equalIn (d + 1) 69 (.map none) (.map none)).run Tryz.prog w = .ok true w := fun d => by simp [Op.equalIn, run_underlying Tryz.underlying69]
  have h2 : (Op.equal 69 (.map none) (.map none)).run Tryz.prog w = .ok true w := h1 9999
  simp only [binOp]
  simp [h2]
theorem mapsome_eq (b : Nat) (w : World) : (binOp .eql 69 (.map (some b)) (.map none)).run Tryz.prog w = .ok (.bool false) w := by
  have h1 : ∀ d, (Op.equalIn (d + 1) 69 (.map (some b)) (.map none)).run Tryz.prog w = .ok false w := fun d => by simp [Op.equalIn, run_underlying Tryz.underlying69]
  have h2 : (Op.equal 69 (.map (some b)) (.map none)).run Tryz.prog w = .ok false w := h1 9999
  simp only [binOp]
  simp [h2]
theorem ifnil_eq (w : World) : (binOp .eql 74 .nilIface .nilIface).run Tryz.prog w = .ok (.bool true) w := by
  have h1 : ∀ d, (Op.equalIn (d + 1) 74 .nilIface .nilIface).run Tryz.prog w = .ok true w := fun d => by simp [Op.equalIn, run_underlying Tryz.underlying74]
  have h2 : (Op.equal 74 .nilIface .nilIface).run Tryz.prog w = .ok true w := h1 9999
  simp only [binOp]
  simp [h2]
theorem ifsome_eq (t : TypeId) (v : Value) (w : World) : (binOp .eql 74 (.iface t v) .nilIface).run Tryz.prog w = .ok (.bool false) w := by
  have h1 : ∀ d, (Op.equalIn (d + 1) 74 (.iface t v) .nilIface).run Tryz.prog w = .ok false w := fun d => by simp [Op.equalIn, run_underlying Tryz.underlying74]
  have h2 : (Op.equal 74 (.iface t v) .nilIface).run Tryz.prog w = .ok false w := h1 9999
  simp only [binOp]
  simp [h2]

end Go.Proofs.YtbfahgdienppoaaGreatDoor

namespace Go.Proofs.YtbfahgdienppoaaGreatDoor
open Go Go.RowKit
open Sha

/-- What is wrong with a key of k bytes and a value of n. -/
def mayS (k n : Nat) : Int := if k < 1 ∨ 128 < k then 70 else if 4096 < n then 71 else 0
def isK (k : Nat) : Bool := decide (1 ≤ k ∧ k ≤ 128)
theorem may_key {k n : Nat} (h : isK k = false) : mayS k n = 70 := by
  unfold isK at h
  have : ¬ (1 ≤ k ∧ k ≤ 128) := of_decide_eq_false h
  unfold mayS
  rw [if_pos (by omega)]
theorem may_long {k n : Nat} (h : isK k = true) (hn : 4096 < n) : mayS k n = 71 := by
  unfold isK at h
  have : 1 ≤ k ∧ k ≤ 128 := of_decide_eq_true h
  unfold mayS
  rw [if_neg (by omega), if_pos hn]
theorem may_ok {k n : Nat} (h : isK k = true) (hn : ¬ 4096 < n) : mayS k n = 0 := by
  unfold isK at h
  have : 1 ≤ k ∧ k ≤ 128 := of_decide_eq_true h
  unfold mayS
  rw [if_neg (by omega), if_neg hn]
theorem isK_le {k : Nat} (h : isK k = true) : 1 ≤ k ∧ k ≤ 128 := of_decide_eq_true h

set_option maxRecDepth 100000 in
theorem isKey_any (s : ByteArray) (w : World) :
    Calls Tryz.prog 70 #[.string s] w fun e w' => e = .returned (.bool (isK s.size)) ∧ w' = w := by
  by_cases h1 : (1 : Int) ≤ (s.size : Int)
  · by_cases h2 : (s.size : Int) ≤ 128
    · have hk : isK s.size = true := decide_eq_true (by omega)
      rw [hk]
      go_enter Tryz.func70, Tryz.ntmps70
      go_wp2
      go_ret
      exact ⟨rfl, rfl⟩
    · have hk : isK s.size = false := decide_eq_false (by omega)
      rw [hk]
      go_enter Tryz.func70, Tryz.ntmps70
      go_wp2
      go_ret
      exact ⟨rfl, rfl⟩
  · have hk : isK s.size = false := decide_eq_false (by omega)
    rw [hk]
    go_enter Tryz.func70, Tryz.ntmps70
    go_wp2
    go_ret
    exact ⟨rfl, rfl⟩

set_option maxRecDepth 100000 in
theorem check_anyS (s : ByteArray) (A : Option Addr) (n cap : Nat) (w : World) :
    Calls Tryz.prog 81 #[.string s, .slice A n cap] w fun e w' => e = .returned (.int .i64 (mayS s.size n)) ∧ w' = w := by
  have hK : Hid _ := isKey_any s w
  cases hb : isK s.size with
  | false =>
    rw [hb] at hK
    have HM : Hid (mayS s.size n = 70) := may_key hb
    clear hb
    go_enter Tryz.func81, Tryz.ntmps81
    go_wp2_with (refine Calls.mono hK.out ?_; rintro e W ⟨rfl, rfl⟩)
    go_ret
    exact ⟨by rw [HM.out]; rfl, rfl⟩
  | true =>
    rw [hb] at hK
    by_cases h : (4096 : Int) < (n : Int)
    · have HM : Hid (mayS s.size n = 71) := may_long hb (by omega)
      clear hb
      go_enter Tryz.func81, Tryz.ntmps81
      go_wp2_with (refine Calls.mono hK.out ?_; rintro e W ⟨rfl, rfl⟩)
      go_ret
      exact ⟨by rw [HM.out]; rfl, rfl⟩
    · have HM : Hid (mayS s.size n = 0) := may_ok hb (by omega)
      clear hb
      go_enter Tryz.func81, Tryz.ntmps81
      go_wp2_with (refine Calls.mono hK.out ?_; rintro e W ⟨rfl, rfl⟩)
      go_ret
      exact ⟨by rw [HM.out]; rfl, rfl⟩

theorem row_bw0 (w : World) : Bw (w.alloc (Obj.cells #[] 5)) (.slice (some ⟨w.heap.size, 0, none⟩) 0 0) [] := row_bw (d := []) (Row.new' rfl rfl) (by decide)
set_option maxRecDepth 100000 in
set_option maxHeartbeats 1000000 in
/-- bytes.Clone: the same bytes in new memory. -/
theorem bclone_any (A : Option Addr) (n cap : Nat) (d : List (BitVec 8)) (hd : d.length = n) (hn : n ≤ 140737488355328) (w : World) (hv : SlAt w (.slice A n cap) d) (hnil : A = none → n = 0 ∧ cap = 0) :
    Calls Tryz.prog 72 #[.slice A n cap] w fun e w' => ∃ A' cap', e = .returned (.slice A' n cap') ∧ Bw w' (.slice A' n cap') d ∧ (A' = none → n = 0 ∧ cap' = 0) ∧ Fresh w.heap.size (.slice A' n cap') ∧ Below w.heap.size w w' := by
  cases A with
  | none =>
    obtain ⟨rfl, rfl⟩ := hnil rfl
    obtain rfl := List.length_eq_zero_iff.1 hd
    clear hv
    have hq := slnil_eq
    go_enter Tryz.func72, Tryz.ntmps72
    go_wp2
    go_ret
    exact ⟨none, 0, rfl, Bw.nil _, fun _ => by simp, fun g e => by simp [Value.ownBlock] at e, Below.refl _ _⟩
  | some ad =>
    have HV : Hid (SlAt (w.alloc (Obj.cells #[] 5)) (.slice (some ad) n cap) d) := hv.be ((Below.refl _ _).alloc (Nat.le_refl _) _)
    have HD : Hid (d.length = n) := hd
    have HL : Hid (([] : List (BitVec 8)).length + n ≤ 140737488355328) := by show 0 + _ ≤ _; omega
    clear hv hd hn hnil
    have hq := slsome_eq ad n cap
    go_enter Tryz.func72, Tryz.ntmps72
    go_wp2_with (refine wpList_app rfl _ (.tmp 6) rfl (.slice (some ⟨w.heap.size, 0, none⟩) 0 0) [] d rfl (row_bw0 w) (some ad) n cap HD.out rfl HV.out (fun e => by cases e) HL.out ?_; intro v' w' q1 q2 q3; obtain ⟨Ax, cx, ex, _, en⟩ := Bw.form q1; subst ex; rw [List.nil_append] at q1 q3; have Q1 : Hid _ := q1; have Q2 : Hid _ := q2; have Q3 : Hid _ := q3; have QN : Hid _ := en; clear q1 q2 q3 en; simp only [Act.put, List.setIfInBounds_toArray, List.set_cons_zero, List.set_cons_succ, List.nil_append])
    go_ret
    have hdn := HD.out
    have bB : Below w.heap.size w w' := ((Below.refl _ _).alloc (Nat.le_refl _) (Obj.cells #[] 5)).grown Q2.out (by simp) (fun k hk => by simp [Value.ownBlock] at hk; omega)
    have hbw := Q1.out
    subst hdn
    refine ⟨Ax, cx, rfl, hbw, fun e => ?_, fun g e => ?_, bB⟩
    · subst e
      rcases hbw.2 with ⟨h2, h0⟩ | ⟨g, c2, cur, hvv, _⟩
      · exact ⟨h0, QN.out rfl⟩
      · cases hvv
    · rcases Q3.out with q | q
      · rw [e] at q
        simp [Value.ownBlock] at q
        omega
      · rw [e] at q
        simp at q
        omega

end Go.Proofs.YtbfahgdienppoaaGreatDoor

namespace Go.Proofs.YtbfahgdienppoaaGreatDoor
open Go Go.RowKit Go.Maps
open Sha

/-- An element of a map, as it is. -/
def heldE : Value → Option (DataW Value × List MemPlace) := fun v => some (.held v, [])
/-- Block b is a map from texts that tells what D tells. -/
abbrev Mp (w : World) (b n : Nat) (D : DataW Value) : Prop := w.ownsMap Tryz.prog 9 heldE b n D
theorem keyedS : Keyed Tryz.prog 9 := string_keyed Tryz.underlying9
/-- A text as a key. -/
def kl (s : ByteArray) : Lit := .string s.data.toList
theorem kl_inj {a b : ByteArray} (h : kl a = kl b) : a = b := by
  unfold kl at h
  simp only [Lit.string.injEq] at h
  apply ByteArray.ext
  exact Array.toList_inj.1 h
theorem kl_key (s : ByteArray) : WideAt.IsKeyLit (kl s) := by
  unfold kl
  simp [WideAt.IsKeyLit]
theorem key_of (s : ByteArray) (h : s.size ≤ 128) : keyOf Tryz.prog 9 (.string s) = some (kl s) := WideMaps.keyOf_string_mk Tryz.underlying9 (by unfold maxLen; omega)
section
variable {w w' : World} {b n : Nat} {D : DataW Value}
theorem Mp.look (h : Mp w b n D) (t e : TypeId) (ht : Tryz.prog.underlying t = some (.map 9 e)) (z : Value) (hz : (zeroValue e).run Tryz.prog w = .ok z w) (s : ByteArray) (hs : s.size ≤ 128) (v : Value) (hv : D.atKey (kl s) (.held z) = .held v) :
    (Instr.lookup t (.map (some b)) (.string s) false).run Tryz.prog w = .ok v w := by
  obtain ⟨u, ps, h1, h2⟩ := World.ownsMap.lookup (zd := .held z) (zp := []) h keyedS ht hz rfl (key_of s hs)
  rw [hv] at h2
  unfold heldE at h2
  simp only [Option.some.injEq, Prod.mk.injEq, DataW.held.injEq] at h2
  rw [← h2.1]
  exact h1
theorem look_none (t e : TypeId) (ht : Tryz.prog.underlying t = some (.map 9 e)) (z : Value) (hz : (zeroValue e).run Tryz.prog w = .ok z w) (s : ByteArray) (hs : s.size ≤ 128) :
    (Instr.lookup t (.map none) (.string s) false).run Tryz.prog w = .ok z w := by
  have h := Maps.look_nil (P := Tryz.prog) (w := w) false keyedS ht hz (key_of s hs)
  simpa using h
theorem Mp.be (h : Mp w b n D) (k : Below w.heap.size w w') : Mp w' b n D := by
  have hlt := World.ownsMap.lt h
  obtain ⟨es, clock, hb, F, hs, hD⟩ := h
  exact ⟨es, clock, (k.block b hlt).trans hb, F, hs, hD⟩
theorem Mp.block (h : Mp w b n D) (k : w'.heap[b]? = w.heap[b]?) : Mp w' b n D := by
  obtain ⟨es, clock, hb, F, hs, hD⟩ := h
  exact ⟨es, clock, k.trans hb, F, hs, hD⟩
theorem Mp.gro {R : Nat → Prop} (h : Mp w b n D) (k : Gro R w w') (hR : ¬ R b) : Mp w' b n D := Mp.block h (k.block b (World.ownsMap.lt h) hR)
theorem Mp.lt (h : Mp w b n D) : b < w.heap.size := World.ownsMap.lt h
theorem Mp.ne {g : Nat} {cs : List Value} {t : TypeId} (h : Mp w b n D) (r : Row w g cs t) : b ≠ g := fun e => by
  subst e
  obtain ⟨es, clock, hb, _⟩ := h
  have := hb.symm.trans r
  simp at this
theorem Mp.bw {v : Value} {d : List (BitVec 8)} (h : Mp w b n D) (k : Bw w v d) : ∀ g, v.ownBlock = some g → g ≠ b := fun g e q => by
  subst q
  obtain ⟨es, clock, hb, _⟩ := h
  rcases k.2 with ⟨h1, _⟩ | ⟨g', cap, cur, hv, _, hh, _⟩
  · rw [h1] at e; simp [Value.ownBlock] at e
  · rw [hv] at e
    simp only [Value.ownBlock, Option.some.injEq] at e
    subst e
    have := hb.symm.trans hh
    simp at this
theorem Mp.new (w : World) : Mp (w.alloc (.map #[] 0)) w.heap.size 0 (.map []) := World.ownsMap_made w _ _ _
/-- What is laid in a map. -/
theorem Mp.put (h : Mp w b n D) (hn : n < 140737488355328) (t e : TypeId) (ht : Tryz.prog.underlying t = some (.map 9 e)) (s : ByteArray) (hs : s.size ≤ 128) (v : Value) :
    ∃ W, (Instr.mapUpdate t (.map (some b)) (.string s) v).run Tryz.prog w = .ok () W ∧ Mp W b (n + 1) (D.put (kl s) (.held v)) ∧ w.grownBy W (some b) :=
  World.ownsMap.update (d := .held v) (ps := []) h keyedS ht (by unfold maxLen; omega) (key_of s hs) rfl
end

end Go.Proofs.YtbfahgdienppoaaGreatDoor

namespace Go.Proofs.YtbfahgdienppoaaGreatDoor
open Go Go.Shelf Go.RowKit
def lays316_ren : Go.Shelf.Ren := ⟨fun | 316 => 100 | n => n, fun | 0 => 0 | 3 => 3 | 4 => 4 | 5 => 5 | 9 => 9 | 37 => 46 | 127 => 179 | n => n, fun | n => n⟩
theorem lays316 : Go.Proofs.LaysM.n316 Tryz.prog lays316_ren := {
  mixed := by kernel_rfl
  f316 := Tryz.func100.trans (congrArg some (by kernel_rfl))
  t0 := by kernel_rfl
  a0 := fun _ => by kernel_rfl
  z0 := fun _ => by kernel_rfl
  v0 := fun _ => by kernel_rfl
  t3 := Tryz.underlying3
  a3 := Tryz.isAgg3
  z3 := Tryz.sizeOf3
  v3 := Tryz.zeroValue3
  t4 := Tryz.underlying4
  a4 := Tryz.isAgg4
  z4 := Tryz.sizeOf4
  v4 := Tryz.zeroValue4
  t9 := Tryz.underlying9
  a9 := Tryz.isAgg9
  z9 := Tryz.sizeOf9
  v9 := Tryz.zeroValue9
  t37 := Tryz.underlying46
  a37 := Tryz.isAgg46
  z37 := Tryz.sizeOf46
  v37 := Tryz.zeroValue46
  t127 := Tryz.underlying179
  a127 := Tryz.isAgg179
  z127 := Tryz.sizeOf179
  v127 := Tryz.zeroValue179
  t5 := Tryz.underlying5
  a5 := Tryz.isAgg5
  z5 := Tryz.sizeOf5
  v5 := Tryz.zeroValue5
  i0 := by kernel_rfl
  i3 := by kernel_rfl
  i4 := by kernel_rfl
  i5 := by kernel_rfl
  i9 := by kernel_rfl
  i37 := by kernel_rfl
  i127 := by kernel_rfl }
theorem liteClone_any (s : ByteArray) (w : World) (hlim : s.size ≤ 281474976710656) :
    Calls Tryz.prog 100 #[.string s] w fun e w' => e = .returned (.string s) ∧ Below w.heap.size w w' := Any.stringslite_Clone lays316 s w hlim
set_option maxRecDepth 100000 in
/-- strings.Clone. -/
theorem sclone_any (s : ByteArray) (w : World) (hlim : s.size ≤ 281474976710656) :
    Calls Tryz.prog 92 #[.string s] w fun e w' => e = .returned (.string s) ∧ Below w.heap.size w w' := by
  go_enter Tryz.func92, Tryz.ntmps92
  have hc := liteClone_any s
  go_wp2_with (go_at_call 100; refine (hc _ (by assumption)).mono ?_; rintro _ w1 ⟨rfl, b1⟩)
  go_ret
  exact ⟨rfl, by simpa using b1⟩

end Go.Proofs.YtbfahgdienppoaaGreatDoor

namespace Go.Proofs.YtbfahgdienppoaaGreatDoor
open Go Go.RowKit Go.Maps
open Sha

abbrev tT : TypeId := 72
abbrev Gt (T : Nat) : World → World → Prop := Gro (fun k => k = T)
theorem Gro.drew {R : Nat → Prop} {a b : World} (h : Gro R a b) : Gro R a b.drew := ⟨h.os, h.tape, h.output, h.size, h.block⟩
theorem Gro.alloc {R : Nat → Prop} {a b : World} (h : Gro R a b) (o : Obj) : Gro R a (b.alloc o) := h.below ((Below.refl _ _).alloc (Nat.le_refl _) o)

set_option maxRecDepth 100000 in
theorem newTable_any (w : World) :
    Calls Tryz.prog 5 #[] w fun e w' => e = .returned (.pointer (some ⟨w.heap.size, 0, none⟩)) ∧ w' = w.alloc (.cells #[.map none, .pointer none] tT) := by
  go_enter Tryz.func5, Tryz.ntmps5
  go_wp2
  go_ret
  exact ⟨rfl, rfl⟩

/-- Bytes lie in no row without bytes. -/
theorem sl_ne {w : World} {ab ao T : Nat} {d : List (BitVec 8)} {cs : List Value} {t : TypeId} (h : w.rangeAt ab ao (vB d)) (h0 : 0 < d.length) (r : Row w T cs t) (hc : ∀ v ∈ cs, ∀ b, v ≠ .int .u8 b) : ab ≠ T := fun e => by
  subst e
  have h9 := h 0 (.int .u8 (c (d.getD 0 0))) (vB_get d 0 h0)
  have h8 : w.cell? ⟨ab, ao + 0, none⟩ = cs.toArray[ao + 0]? := cell_of_row _ _ _ _ _ (0, 0) r
  rw [h8] at h9
  exact hc _ (by simpa using Array.mem_of_getElem? h9) _ rfl

/-- A table with a map of its own. -/
structure Tb (w : World) (T b n : Nat) (D : DataW Value) : Prop where
  row : Row w T [.map (some b), .pointer none] tT
  map : Mp w b n D
theorem Tb.be {w w' : World} {T b n : Nat} {D : DataW Value} (h : Tb w T b n D) (k : Below w.heap.size w w') : Tb w' T b n D := ⟨Row.below h.row k h.row.lt, Mp.be h.map k⟩

theorem sl_nil {w : World} {A : Option Addr} {n cap : Nat} {d : List (BitVec 8)} (h : Bw w (.slice A n cap) d) : A = none → n = 0 ∧ cap = 0 := fun e => by
  subst e
  rcases h.2 with ⟨h2, h0⟩ | ⟨g, c2, cur, hvv, _⟩
  · simp only [Value.slice.injEq] at h2
    exact ⟨h2.2.1, h2.2.2⟩
  · cases hvv

end Go.Proofs.YtbfahgdienppoaaGreatDoor

namespace Go.Proofs.YtbfahgdienppoaaGreatDoor
open Go Go.RowKit Go.Maps
open Sha

set_option maxRecDepth 100000 in
theorem bclone_nil (w : World) : Calls Tryz.prog 72 #[.slice none 0 0] w fun e w' => e = .returned (.slice none 0 0) ∧ w' = w := by
  have hq := slnil_eq
  go_enter Tryz.func72, Tryz.ntmps72
  go_wp2
  go_ret
  exact ⟨rfl, rfl⟩

set_option maxRecDepth 100000 in
theorem find_none (T : Nat) (s : ByteArray) (hs : isK s.size = true) (w : World) (h : Row w T [.map none, .pointer none] tT) :
    Calls Tryz.prog 127 #[.pointer (some ⟨T, 0, none⟩), .string s] w fun e w' => e = .returned (.tuple #[.slice none 0 0, .int .i64 0]) ∧ w' = w := by
  have g0 := h.cell 0 _ rfl
  have hk := isKey_any s w
  rw [hs] at hk
  have HK : Hid _ := hk
  have hl := look_none (w := w) 69 46 Tryz.underlying69 (.slice none 0 0) (Tryz.zeroValue46 w) s (isK_le hs).2
  have HB : Hid _ := bclone_nil w
  clear h hk hs
  go_enter Tryz.func127, Tryz.ntmps127
  go_wp2_with (first
    | (go_at_call 70; refine Calls.mono HK.out ?_; rintro e W ⟨rfl, rfl⟩)
    | (go_at_call 72; refine Calls.mono HB.out ?_; rintro e W ⟨rfl, rfl⟩))
  go_ret2
  exact ⟨rfl, rfl⟩

set_option maxRecDepth 100000 in
set_option maxHeartbeats 1000000 in
theorem find_some (T b k : Nat) (D : DataW Value) (s : ByteArray) (hs : isK s.size = true) (A : Option Addr) (n cap : Nat) (d : List (BitVec 8)) (hd : d.length = n) (hn : n ≤ 140737488355328) (w : World) (h : Tb w T b k D) (hD : D.atKey (kl s) (.held (.slice none 0 0)) = .held (.slice A n cap)) (hv : SlAt w (.slice A n cap) d) (hnil : A = none → n = 0 ∧ cap = 0) :
    Calls Tryz.prog 127 #[.pointer (some ⟨T, 0, none⟩), .string s] w fun e w' => ∃ A' c', e = .returned (.tuple #[.slice A' n c', .int .i64 0]) ∧ Bw w' (.slice A' n c') d ∧ Fresh w.heap.size (.slice A' n c') ∧ Below w.heap.size w w' := by
  have g0 := h.row.cell 0 _ rfl
  have hk := isKey_any s w
  rw [hs] at hk
  have HK : Hid _ := hk
  have hl := Mp.look h.map 69 46 Tryz.underlying69 (.slice none 0 0) (Tryz.zeroValue46 w) s (isK_le hs).2 _ hD
  have HB : Hid _ := bclone_any A n cap d hd hn w hv hnil
  clear h hk hs hD hv hnil hd hn
  go_enter Tryz.func127, Tryz.ntmps127
  go_wp2_with (first
    | (go_at_call 70; refine Calls.mono HK.out ?_; rintro e W ⟨rfl, rfl⟩)
    | (go_at_call 72; refine Calls.mono HB.out ?_; rintro e W ⟨A', c', rfl, hb, _, hf, hB⟩; have HB1 : Hid (Bw _ _ _) := hb; have HF : Hid (Fresh _ _) := hf; have HBl : Hid (Below _ _ _) := hB; clear hb hf hB HB HK hl g0))
  go_ret2
  exact ⟨A', c', rfl, HB1.out, HF.out, HBl.out⟩

end Go.Proofs.YtbfahgdienppoaaGreatDoor

namespace Go.Proofs.YtbfahgdienppoaaGreatDoor
open Go Go.RowKit Go.Maps
open Sha

abbrev tS : TypeId := 79
abbrev tC : TypeId := 145
/-- A state over a table, without steps and marks. -/
structure Sv (w : World) (S T m k : Nat) (E : DataW Value) : Prop where
  row : Row w S [.iface 24 (.pointer (some ⟨T, 0, none⟩)), .map (some m), .slice none 0 0, .slice none 0 0] tS
  map : Mp w m k E
theorem Sv.be {w w' : World} {S T m k : Nat} {E : DataW Value} (h : Sv w S T m k E) (q : Below w.heap.size w w') : Sv w' S T m k E := ⟨Row.below h.row q h.row.lt, Mp.be h.map q⟩

set_option maxRecDepth 100000 in
theorem over_none (w : World) :
    Calls Tryz.prog 8 #[.nilIface] w fun e w' => e = .returned (.tuple #[.pointer none, .int .i64 1]) ∧ w' = w := by
  have hq := ifnil_eq
  go_enter Tryz.func8, Tryz.ntmps8
  go_wp2
  go_ret2
  exact ⟨rfl, rfl⟩
set_option maxRecDepth 100000 in
theorem over_some (T : Nat) (w : World) :
    Calls Tryz.prog 8 #[.iface 24 (.pointer (some ⟨T, 0, none⟩))] w fun e w' => e = .returned (.tuple #[.pointer (some ⟨w.heap.size + 1, 0, none⟩), .int .i64 0]) ∧ Sv w' (w.heap.size + 1) T w.heap.size 0 (.map []) ∧ Below w.heap.size w w' := by
  have hq := ifsome_eq 24 (.pointer (some ⟨T, 0, none⟩))
  have hmm := @run_makeMap Tryz.prog
  go_enter Tryz.func8, Tryz.ntmps8
  go_wp2
  go_ret2
  have b1 := (Below.refl w.heap.size w).alloc (Nat.le_refl _) (.map #[] 0)
  exact ⟨rfl, ⟨Row.new' (by simp) rfl, World.ownsMap.alloc (Mp.new w) _⟩, b1.alloc b1.size _⟩

set_option maxRecDepth 100000 in
set_option maxHeartbeats 2000000 in
/-- ask, at a key that was not asked yet. -/
theorem ask_new (S T m k : Nat) (E : DataW Value) (hk : k < 1000000) (s : ByteArray) (hs : isK s.size = true) (n : Nat) (d : List (BitVec 8)) (hd : d.length = n) (hn : n ≤ 4096) (w : World) (h : Sv w S T m k E) (hE : E.atKey (kl s) (.held (.pointer none)) = .held (.pointer none))
    (hF : Calls Tryz.prog 127 #[.pointer (some ⟨T, 0, none⟩), .string s] w fun e w' => ∃ A' c', e = .returned (.tuple #[.slice A' n c', .int .i64 0]) ∧ Bw w' (.slice A' n c') d ∧ Below w.heap.size w w') :
    Calls Tryz.prog 71 #[.pointer (some ⟨S, 0, none⟩), .string s] w fun e w' => ∃ C A' c', e = .returned (.tuple #[.pointer (some ⟨C, 0, none⟩), .int .i64 0]) ∧ Row w' C [.slice A' n c', .slice A' n c'] tC ∧ Bw w' (.slice A' n c') d ∧ Sv w' S T m (k + 1) (E.put (kl s) (.held (.pointer (some ⟨C, 0, none⟩)))) ∧ w.heap.size ≤ C ∧ Gro (fun g => g = m) w w' := by
  have g0 := h.row.cell 0 _ rfl
  have g1 := h.row.cell 1 _ rfl
  have hl := Mp.look h.map 75 140 Tryz.underlying75 (.pointer none) (Tryz.zeroValue140 w) s (isK_le hs).2 _ hE
  have HF : Hid _ := hF
  have HS : Hid (Sv w S T m k E) := h
  have hn4 : ¬ (4096 : Int) < (n : Int) := by omega
  have HSZ : Hid (s.size ≤ 128) := (isK_le hs).2
  have HD : Hid (d.length = n) := hd
  have HN : Hid (n ≤ 140737488355328) := by show _ ≤ _; omega
  have HSL : Hid (s.size ≤ 281474976710656) := by show _ ≤ _; have := (isK_le hs).2; omega
  have HKL : Hid (k < 140737488355328) := by show _ < _; omega
  have HE : Hid _ := hE
  clear h hF hs hd hn hE hk
  go_enter Tryz.func71, Tryz.ntmps71
  go_wp2_with fail
  refine Calls.mono HF.out ?_
  rintro e W ⟨A1, c1, rfl, hb1, hB1⟩
  have HB1 : Hid (Bw W (.slice A1 n c1) d) := hb1
  have HBl : Hid (Below w.heap.size w W) := hB1
  have hSW := HS.out.be hB1
  have HSW : Hid (Sv W S T m k E) := hSW
  have g1W := hSW.row.cell 1 _ rfl
  have hlW := Mp.look hSW.map 75 140 Tryz.underlying75 (.pointer none) (Tryz.zeroValue140 W) s HSZ.out _ HE.out
  have HC : Hid _ := bclone_any A1 n c1 d HD.out HN.out W (by have := Bw.sl hb1; exact this) (sl_nil hb1)
  clear hb1 hB1 hSW HF g0 g1 hl
  go_wp2_with fail
  refine Calls.mono HC.out ?_
  rintro e V ⟨A', c', rfl, hb2, hb3, hb4, hB2⟩
  have hSV := HSW.out.be hB2
  obtain ⟨V1, hV1⟩ : ∃ V1, V1 = V.alloc (Obj.cells #[.slice A' n c', .slice A' n c'] tC) := ⟨_, rfl⟩
  have hB3 : Below V.heap.size V V1 := by rw [hV1]; exact (Below.refl _ _).alloc (Nat.le_refl _) _
  have hSV1 := hSV.be hB3
  have gV1 := hSV1.row.cell 1 _ rfl
  have HSV : Hid (Sv V1.drew S T m k E) := Sv.mk hSV1.row hSV1.map
  have HC1 : Hid (Row V1.drew V.heap.size [.slice A' n c', .slice A' n c'] tC) := by rw [hV1]; exact Row.new' rfl rfl
  have HBV : Hid (Bw V1.drew (.slice A' n c') d) := Bw.be hb2 hB3.drew
  have HG : Hid (Below w.heap.size w V1.drew) := by
    have q := (HBl.out.trans (hB2.mono HBl.out.size)).trans (hB3.mono (Nat.le_trans HBl.out.size hB2.size))
    exact q.drew
  have HVS : Hid (w.heap.size ≤ V.heap.size) := Nat.le_trans HBl.out.size hB2.size
  clear hb2 hb3 hb4 hB2 hSV hB3 hSV1 HSW HC HB1 HBl g1W hlW HS
  go_upto_region 14 with fail
  rw [← hV1]
  clear hV1
  go_region_law (first
    | (refine stp_fn rfl 92 rfl #[.string s] (by go_simp) (Calls.mono (sclone_any s _ HSL.out) ?_); rintro e U ⟨rfl, hB⟩; refine ⟨_, rfl, ?_⟩; replace HSV : Hid (Sv U S T m k E) := HSV.out.be hB; replace HC1 : Hid (Row U V.heap.size [.slice A' n c', .slice A' n c'] tC) := Row.below HC1.out hB HC1.out.lt; replace HBV : Hid (Bw U (.slice A' n c') d) := Bw.be HBV.out hB; replace HG : Hid (Below w.heap.size w U) := HG.out.trans (hB.mono HG.out.size); have gU := HSV.out.row.cell 1 _ rfl; obtain ⟨U2, hU, hM2, hg2⟩ := Mp.put HSV.out.map HKL.out 75 140 Tryz.underlying75 s HSZ.out (.pointer (some ⟨V.heap.size, 0, none⟩)); have HM2 : Hid (Mp U2 m (k + 1) _) := hM2; have HG2 : Hid (U.grownBy U2 (some m)) := hg2; clear hM2 hg2 hB))
  all_goals
    go_wp2_with fail
    go_ret2
    have hmS : ∀ {g : Nat} {cs : List Value} {t : TypeId}, Row U g cs t → Row U2 g cs t := fun {g cs t} r => (HG2.out.block g r.lt (by have := Mp.ne HSV.out.map r; simp; omega)).trans r
    refine ⟨V.heap.size, A', c', rfl, hmS HC1.out, ?_, ⟨hmS HSV.out.row, HM2.out⟩, HVS.out, ?_⟩
    · exact Bw.block HBV.out fun g e => HG2.out.block g (Bw.lt HBV.out g e) (by have := Mp.bw HSV.out.map HBV.out g e; simp; omega)
    · exact (Gro.of_below HG.out).grown HG2.out (fun g e => .inl (by simp at e; omega))

set_option maxRecDepth 100000 in
set_option maxHeartbeats 1000000 in
theorem get_new (S T m k : Nat) (E : DataW Value) (hk : k < 1000000) (s : ByteArray) (hs : isK s.size = true) (n : Nat) (d : List (BitVec 8)) (hd : d.length = n) (hn : n ≤ 4096) (w : World) (h : Sv w S T m k E) (hE : E.atKey (kl s) (.held (.pointer none)) = .held (.pointer none))
    (hF : Calls Tryz.prog 127 #[.pointer (some ⟨T, 0, none⟩), .string s] w fun e w' => ∃ A' c', e = .returned (.tuple #[.slice A' n c', .int .i64 0]) ∧ Bw w' (.slice A' n c') d ∧ Below w.heap.size w w') :
    Calls Tryz.prog 44 #[.pointer (some ⟨S, 0, none⟩), .string s] w fun e w' => ∃ A' c', e = .returned (.tuple #[.slice A' n c', .int .i64 0]) ∧ Bw w' (.slice A' n c') d ∧ Gro (fun g => g = m) w w' := by
  have HA : Hid _ := ask_new S T m k E hk s hs n d hd hn w h hE hF
  have hk := isKey_any s w
  rw [hs] at hk
  have HK : Hid _ := hk
  have HD : Hid (d.length = n) := hd
  have HN : Hid (n ≤ 140737488355328) := by show _ ≤ _; omega
  clear h hE hF hs hd hn hk
  go_enter Tryz.func44, Tryz.ntmps44
  go_wp2_with (go_at_call 70; refine Calls.mono HK.out ?_; rintro e W ⟨rfl, hqq⟩; obtain rfl := hqq.symm)
  refine Calls.mono HA.out ?_
  rintro e W ⟨C, A1, c1, rfl, hC, hb, hS, hCl, hG⟩
  have gC := hC.cell 1 _ rfl
  have HG : Hid (Gro (fun g => g = m) w W) := hG
  have HB : Hid _ := bclone_any A1 n c1 d HD.out HN.out W (Bw.sl hb) (sl_nil hb)
  clear hC hb hS hCl hG HA HK
  go_wp2_with fail
  refine Calls.mono HB.out ?_
  rintro e V ⟨A', c', rfl, hb, _, hf, hB⟩
  have HB1 : Hid (Bw _ _ _) := hb
  have HBl : Hid (Below _ _ _) := hB
  clear hb hf hB HB gC
  go_wp2_with fail
  go_ret2
  exact ⟨A', c', rfl, HB1.out, HG.out.below HBl.out⟩

set_option maxRecDepth 100000 in
theorem sput_bad (S : Nat) (s : ByteArray) (A : Option Addr) (n cap : Nat) (hm : mayS s.size n ≠ 0) (w : World) :
    Calls Tryz.prog 51 #[.pointer (some ⟨S, 0, none⟩), .string s, .slice A n cap] w fun e w' => e = .returned (.int .i64 (mayS s.size n)) ∧ w' = w := by
  have HK : Hid _ := check_anyS s A n cap w
  generalize mayS s.size n = M at *
  go_enter Tryz.func51, Tryz.ntmps51
  go_wp2_with (go_at_call 81; refine Calls.mono HK.out ?_; rintro e W ⟨rfl, rfl⟩)
  go_ret
  exact ⟨rfl, rfl⟩

set_option maxRecDepth 100000 in
set_option maxHeartbeats 1000000 in
theorem sput_new (S T m k : Nat) (E : DataW Value) (hk : k < 1000000) (s : ByteArray) (A : Option Addr) (n cap : Nat) (d : List (BitVec 8)) (hd : d.length = n) (hm : mayS s.size n = 0) (hs : isK s.size = true) (hn : n ≤ 4096) (n0 : Nat) (d0 : List (BitVec 8)) (hd0 : d0.length = n0) (hn0 : n0 ≤ 4096) (w : World) (h : Sv w S T m k E) (hE : E.atKey (kl s) (.held (.pointer none)) = .held (.pointer none))
    (hF : Calls Tryz.prog 127 #[.pointer (some ⟨T, 0, none⟩), .string s] w fun e w' => ∃ A' c', e = .returned (.tuple #[.slice A' n0 c', .int .i64 0]) ∧ Bw w' (.slice A' n0 c') d0 ∧ Below w.heap.size w w') (hv : ∀ W, Gro (fun g => g = m) w W → SlAt W (.slice A n cap) d) (hnil : A = none → n = 0 ∧ cap = 0) :
    Calls Tryz.prog 51 #[.pointer (some ⟨S, 0, none⟩), .string s, .slice A n cap] w fun e w' => e = .returned (.int .i64 0) ∧ Gro (fun g => g = m) w w' := by
  have HA : Hid _ := ask_new S T m k E hk s hs n0 d0 hd0 hn0 w h hE hF
  have hc := check_anyS s A n cap w
  rw [hm] at hc
  have HK : Hid _ := hc
  have HD : Hid (d.length = n) := hd
  have HN : Hid (n ≤ 140737488355328) := by show _ ≤ _; omega
  have HV : Hid (∀ W, Gro (fun g => g = m) w W → SlAt W (.slice A n cap) d) := hv
  have HNIL : Hid (A = none → n = 0 ∧ cap = 0) := hnil
  clear h hE hF hs hd hn hk hc hm hd0 hn0 hv hnil
  go_enter Tryz.func51, Tryz.ntmps51
  go_wp2_with (go_at_call 81; refine Calls.mono HK.out ?_; rintro e W ⟨rfl, hqq⟩; obtain rfl := hqq.symm)
  refine Calls.mono HA.out ?_
  rintro e W ⟨C, A1, c1, rfl, hC, hb, hS, hCl, hG⟩
  have g3 := hS.row.cell 3 _ rfl
  have HC : Hid (Row W C _ tC) := hC
  have HG : Hid (Gro (fun g => g = m) w W) := hG
  have HLE : Hid (w.heap.size ≤ C) := hCl
  have HB : Hid _ := bclone_any A n cap d HD.out HN.out W (HV.out W hG) HNIL.out
  clear hC hb hS hCl hG HA HK
  go_wp2_with fail
  refine Calls.mono HB.out ?_
  rintro e V ⟨A', c', rfl, hb, _, hf, hB⟩
  have hC2 := Row.below HC.out hB HC.out.lt
  have gC := hC2.cell 1 _ rfl
  have fC := hC2.thaw 1
  have HBl : Hid (Below _ _ _) := hB
  clear hb hf hB HB g3 hC2
  go_wp2_with fail
  go_ret
  refine ⟨rfl, ?_⟩
  have q := HG.out.below HBl.out
  have q2 := (Gro.refl (fun g => g = C) V).set C 1 (.slice A' n c') rfl
  exact q.then q2 (fun g e => .inr (by have := HLE.out; omega))

end Go.Proofs.YtbfahgdienppoaaGreatDoor

namespace Go.Proofs.YtbfahgdienppoaaGreatDoor
open Go Go.RowKit
open Sha

/-- Bytes as a string. -/
def strS (l : List (BitVec 8)) : ByteArray := strOfNums (l.map c)
theorem run_convert_strS {P : Program} (w : World) (src e dst : TypeId) (hs : P.underlying src = some (.slice e)) (he : P.underlying e = some (.int .u8)) (hd : P.underlying dst = some .string) (b off cap n : Nat) (l : List (BitVec 8)) (hl : l.length = n)
    (hr : w.rangeAt b off (vB l)) : (convert src dst (.slice (some ⟨b, off, none⟩) n cap)).run P w = .ok (.string (strS l)) w :=
  run_convert_bytes_arg w src e hs he b off n cap (l.map c) (by simpa using hl) (fun i hi => hr i _ (by rw [vB_get l i (by omega)]; simp [show i < l.length by omega])) dst hd
theorem run_convert_slS {P : Program} (w : World) (src e dst : TypeId) (hs : P.underlying src = some (.slice e)) (he : P.underlying e = some (.int .u8)) (hd : P.underlying dst = some .string) (v : Value) (d : List (BitVec 8)) (hv : SlAt w v d) :
    (convert src dst v).run P w = .ok (.string (strS d)) w := by
  rcases hv with ⟨rfl, A, cap, rfl⟩ | ⟨ab, ao, cap, rfl, _, hr⟩
  · cases A with
    | none =>
      rw [run_convert_bytes_string w src dst e none 0 cap hs he hd]
      simp [Conv.bytesToString]
      rfl
    | some p =>
      have hl : (loadCells p 0).run P w = .ok (([] : List Int).map (Value.int .u8)).toArray w := run_loadCells_list (P := P) w p [] (fun j v hj => by simp at hj)
      rw [run_convert_bytes_string w src dst e _ 0 cap hs he hd, run_bytesToString w _ 0 cap [] hl]
      rfl
  · exact run_convert_strS w src e dst hs he hd ab ao cap d.length d rfl hr

end Go.Proofs.YtbfahgdienppoaaGreatDoor

namespace Go.Proofs.YtbfahgdienppoaaGreatDoor
open Go Go.RowKit Go.Maps
open Sha

/-- All rows but a state's cells stay. -/
structure Kp (w w' : World) : Prop where
  row : ∀ b cs t, t ≠ tC → Row w b cs t → Row w' b cs t
  size : w.heap.size ≤ w'.heap.size
theorem Kp.refl (w : World) : Kp w w := ⟨fun _ _ _ _ h => h, Nat.le_refl _⟩
theorem Kp.trans {a b c : World} (h : Kp a b) (k : Kp b c) : Kp a c := ⟨fun x cs t n r => k.row x cs t n (h.row x cs t n r), Nat.le_trans h.size k.size⟩
theorem Kp.of_below {w w' : World} (h : Below w.heap.size w w') : Kp w w' := ⟨fun _ _ _ _ r => Row.below r h r.lt, h.size⟩
theorem Kp.bw {w w' : World} {v : Value} {d : List (BitVec 8)} (h : Kp w w') (k : Bw w v d) : Bw w' v d := by
  obtain ⟨h1, h2⟩ := k
  refine ⟨h1, ?_⟩
  rcases h2 with h2 | ⟨g, cap, cur, hv, hg, hh, r⟩
  · exact .inl h2
  · have q := h.row g cur.toList 5 (by decide) (by unfold Row; rw [hh])
    exact .inr ⟨g, cap, cur, hv, hg, by unfold Row at q; rw [q], r⟩
/-- A state over an empty table: at each key what f tells. -/
structure LsS (w0 w : World) (S T m k : Nat) (E : DataW Value) (f : ByteArray → List (BitVec 8)) : Prop where
  tab : Row w T [.map none, .pointer none] tT
  sv : Sv w S T m k E
  isM : IsMap E
  lo : w0.heap.size ≤ m
  bel : Below w0.heap.size w0 w
  at_ : ∀ s, isK s.size = true → (E.atKey (kl s) (.held (.pointer none)) = (.held (.pointer none)) ∧ f s = []) ∨ ∃ C v A c, E.atKey (kl s) (.held (.pointer none)) = .held (.pointer (some ⟨C, 0, none⟩)) ∧ Row w C [v, .slice A (f s).length c] tC ∧ Bw w (.slice A (f s).length c) (f s) ∧ w0.heap.size ≤ C
  inj : ∀ s s' C, isK s.size = true → isK s'.size = true → E.atKey (kl s) (.held (.pointer none)) = .held (.pointer (some ⟨C, 0, none⟩)) → E.atKey (kl s') (.held (.pointer none)) = .held (.pointer (some ⟨C, 0, none⟩)) → s = s'
  len : ∀ s, isK s.size = true → (f s).length ≤ 4096
theorem row_ne' {w : World} {b c : Nat} {cs ds : List Value} {t : TypeId} (h : Row w b cs t) (k : Row w c ds tC) (ht : t ≠ tC) : b ≠ c := fun e => by
  subst e
  have := h.symm.trans k
  simp only [Option.some.injEq, Obj.cells.injEq] at this
  exact ht this.2.1
theorem put_isMap {D : DataW Value} (h : IsMap D) (k : Lit) (d : DataW Value) : IsMap (D.put k d) := by
  obtain ⟨l, rfl⟩ := h
  exact ⟨_, rfl⟩
section
variable {w0 w w' : World} {S T m k : Nat} {E : DataW Value} {f : ByteArray → List (BitVec 8)}
/-- Behind what keeps all that was. -/
theorem LsS.be (h : LsS w0 w S T m k E f) (q : Below w.heap.size w w') : LsS w0 w' S T m k E f :=
  ⟨Row.below h.tab q h.tab.lt, h.sv.be q, h.isM, h.lo, h.bel.trans (q.mono h.bel.size), fun s hs => by
    rcases h.at_ s hs with e | ⟨C, v, A, c, e, r, b, l⟩
    · exact .inl e
    · exact .inr ⟨C, v, A, c, e, Row.below r q r.lt, Bw.be b q, l⟩, h.inj, h.len⟩
end
set_option maxRecDepth 100000 in
/-- ask, at a key that was asked. -/
theorem ask_old (S T m k C : Nat) (E : DataW Value) (s : ByteArray) (hs : isK s.size = true) (w : World) (h : Sv w S T m k E) (hE : E.atKey (kl s) (.held (.pointer none)) = .held (.pointer (some ⟨C, 0, none⟩))) :
    Calls Tryz.prog 71 #[.pointer (some ⟨S, 0, none⟩), .string s] w fun e w' => e = .returned (.tuple #[.pointer (some ⟨C, 0, none⟩), .int .i64 0]) ∧ w' = w := by
  have g0 := h.row.cell 0 _ rfl
  have g1 := h.row.cell 1 _ rfl
  have hl := Mp.look h.map 75 140 Tryz.underlying75 (.pointer none) (Tryz.zeroValue140 w) s (isK_le hs).2 _ hE
  clear h hs hE
  go_enter Tryz.func71, Tryz.ntmps71
  go_wp2
  go_ret2
  exact ⟨rfl, rfl⟩
/-- ask, whatever the key. -/
theorem ask_ls (w0 : World) (S T m k : Nat) (E : DataW Value) (f : ByteArray → List (BitVec 8)) (hk : k < 1000000) (s : ByteArray) (hs : isK s.size = true) (w : World) (h : LsS w0 w S T m k E f) :
    Calls Tryz.prog 71 #[.pointer (some ⟨S, 0, none⟩), .string s] w fun e w' => ∃ C v A c k' E', e = .returned (.tuple #[.pointer (some ⟨C, 0, none⟩), .int .i64 0]) ∧ LsS w0 w' S T m k' E' f ∧ k' ≤ k + 1 ∧ E'.atKey (kl s) (.held (.pointer none)) = .held (.pointer (some ⟨C, 0, none⟩)) ∧ Row w' C [v, .slice A (f s).length c] tC ∧ Bw w' (.slice A (f s).length c) (f s) ∧ w0.heap.size ≤ C ∧ Kp w w' := by
  rcases h.at_ s hs with ⟨e0, f0⟩ | ⟨C, v, A, c, e0, r, b, l⟩
  · have hF := find_none T s hs w h.tab
    refine (ask_new S T m k E hk s hs 0 [] rfl (by decide) w h.sv e0 (hF.mono (fun e w' q => ⟨none, 0, q.1, by rw [q.2]; exact Bw.nil _, by rw [q.2]; exact Below.refl _ _⟩))).mono ?_
    rintro e w' ⟨C, A, c, rfl, hC, hb, hS, hCl, hG⟩
    have hmT : T ≠ m := fun q => Mp.ne h.sv.map h.tab q.symm
    have hkp : Kp w w' := ⟨fun b cs t ht r => hG.row r (fun q => Mp.ne h.sv.map r q.symm), hG.size⟩
    have hne : ∀ s', s' ≠ s → (E.put (kl s) (.held (.pointer (some ⟨C, 0, none⟩)))).atKey (kl s') (.held (.pointer none)) = E.atKey (kl s') (.held (.pointer none)) := fun s' hq => atKey_put_other (fun q => hq (kl_inj q)) _ _
    have hsm : (E.put (kl s) (.held (.pointer (some ⟨C, 0, none⟩)))).atKey (kl s) (.held (.pointer none)) = .held (.pointer (some ⟨C, 0, none⟩)) := atKey_put_same h.isM (kl_key s) _ _
    have hlow : ∀ s' C', isK s'.size = true → E.atKey (kl s') (.held (.pointer none)) = .held (.pointer (some ⟨C', 0, none⟩)) → C' < w.heap.size := fun s' C' hs' q => by
      rcases h.at_ s' hs' with ⟨e1, _⟩ | ⟨C1, v1, A1, c1, e1, r1, _, _⟩
      · rw [e1] at q; simp at q
      · rw [e1] at q
        simp only [DataW.held.injEq, Value.pointer.injEq, Option.some.injEq, Addr.mk.injEq, and_true] at q
        rw [← q]
        exact r1.lt
    refine ⟨C, .slice A 0 c, A, c, k + 1, _, rfl, ⟨hkp.row _ _ _ (by decide) h.tab, hS, put_isMap h.isM _ _, h.lo, h.bel.trans (hG.to_below h.bel.size (fun g e => by rw [e]; exact h.lo)), fun s' hs' => ?_, fun s1 s2 C1 h1 h2 e1 e2 => ?_, h.len⟩, Nat.le_refl _, hsm, by rw [f0]; exact hC, by rw [f0]; exact hb, Nat.le_trans h.bel.size hCl, hkp⟩
    · by_cases hq : s' = s
      · subst hq
        exact .inr ⟨C, .slice A 0 c, A, c, hsm, by rw [f0]; exact hC, by rw [f0]; exact hb, Nat.le_trans h.bel.size hCl⟩
      · rw [hne s' hq]
        rcases h.at_ s' hs' with e1 | ⟨C1, v1, A1, c1, e1, r1, b1, l1⟩
        · exact .inl e1
        · exact .inr ⟨C1, v1, A1, c1, e1, hG.row r1 (fun q => Mp.ne h.sv.map r1 q.symm), Bw.gro b1 hG (fun g e q => Mp.bw h.sv.map b1 g e q), l1⟩
    · by_cases q1 : s1 = s
      · by_cases q2 : s2 = s
        · rw [q1, q2]
        · subst q1
          rw [hsm] at e1
          rw [hne s2 q2] at e2
          simp only [DataW.held.injEq, Value.pointer.injEq, Option.some.injEq, Addr.mk.injEq, and_true] at e1
          have := hlow s2 C1 h2 e2
          omega
      · by_cases q2 : s2 = s
        · subst q2
          rw [hsm] at e2
          rw [hne s1 q1] at e1
          simp only [DataW.held.injEq, Value.pointer.injEq, Option.some.injEq, Addr.mk.injEq, and_true] at e2
          have := hlow s1 C1 h1 e1
          omega
        · rw [hne s1 q1] at e1
          rw [hne s2 q2] at e2
          exact h.inj s1 s2 C1 h1 h2 e1 e2
  · refine (ask_old S T m k C E s hs w h.sv e0).mono ?_
    rintro e w' ⟨rfl, rfl⟩
    exact ⟨C, v, A, c, k, E, rfl, h, by omega, e0, r, b, l, Kp.refl _⟩
/-- A state whose table is empty: at most q keys were asked. -/
def LgS (w0 w : World) (S q : Nat) (f : ByteArray → List (BitVec 8)) : Prop := ∃ T m k E, k ≤ q ∧ LsS w0 w S T m k E f
theorem LgS.be {w0 w w' : World} {S q : Nat} {f : ByteArray → List (BitVec 8)} (h : LgS w0 w S q f) (b : Below w.heap.size w w') : LgS w0 w' S q f := by
  obtain ⟨T, m, k, E, hq, h⟩ := h
  exact ⟨T, m, k, E, hq, h.be b⟩
theorem LgS.bel {w0 w : World} {S q : Nat} {f : ByteArray → List (BitVec 8)} (h : LgS w0 w S q f) : Below w0.heap.size w0 w := by
  obtain ⟨T, m, k, E, hq, h⟩ := h
  exact h.bel
theorem LgS.len {w0 w : World} {S q : Nat} {f : ByteArray → List (BitVec 8)} (h : LgS w0 w S q f) (s : ByteArray) (hs : isK s.size = true) : (f s).length ≤ 4096 := by
  obtain ⟨T, m, k, E, hq, h⟩ := h
  exact h.len s hs
set_option maxRecDepth 100000 in
set_option maxHeartbeats 1000000 in
theorem get_lg (w0 : World) (S q : Nat) (f : ByteArray → List (BitVec 8)) (hq : q < 1000000) (s : ByteArray) (hs : isK s.size = true) (n : Nat) (d : List (BitVec 8)) (hd : f s = d) (hn : d.length = n) (w : World) (h : LgS w0 w S q f) :
    Calls Tryz.prog 44 #[.pointer (some ⟨S, 0, none⟩), .string s] w fun e w' => ∃ A c, e = .returned (.tuple #[.slice A n c, .int .i64 0]) ∧ Bw w' (.slice A n c) d ∧ (A = none → n = 0 ∧ c = 0) ∧ LgS w0 w' S (q + 1) f ∧ Kp w w' := by
  have hL := h.len s hs
  obtain ⟨T, m, k, E, hkq, hl⟩ := h
  have hA := ask_ls w0 S T m k E f (by omega) s hs w hl
  rw [hd, hn] at hA
  have HA : Hid _ := hA
  have HK0 := isKey_any s w
  rw [hs] at HK0
  have HK : Hid _ := HK0
  have HD : Hid (d.length = n) := hn
  have HN : Hid (n ≤ 140737488355328) := by show _ ≤ _; rw [← hn, ← hd]; omega
  have HKQ : Hid (k ≤ q) := hkq
  clear hl hA hL hd hn HK0 hkq hq hs
  go_enter Tryz.func44, Tryz.ntmps44
  go_wp2_with (go_at_call 70; refine Calls.mono HK.out ?_; rintro e W ⟨rfl, hqq⟩; obtain rfl := hqq.symm)
  refine Calls.mono HA.out ?_
  rintro e W ⟨C, v, A1, c1, k', E', rfl, hS, hk', hE', hC, hb, hCl, hG⟩
  have gC := hC.cell 1 _ rfl
  have HG : Hid (Kp w W) := hG
  have HS : Hid (LsS w0 W S T m k' E' f) := hS
  have HK' : Hid (k' ≤ k + 1) := hk'
  have HB : Hid _ := bclone_any A1 n c1 d HD.out HN.out W (Bw.sl hb) (sl_nil hb)
  clear hC hb hS hCl hG hE' hk' HA HK
  go_wp2_with fail
  refine Calls.mono HB.out ?_
  rintro e V ⟨A', c', rfl, hb, hni, hf, hB⟩
  have HB1 : Hid (Bw V (.slice A' n c') d) := hb
  have HBl : Hid (Below W.heap.size W V) := hB
  have HNI : Hid (A' = none → n = 0 ∧ c' = 0) := hni
  clear hb hf hB HB gC hni
  go_wp2_with fail
  go_ret2
  exact ⟨A', c', rfl, HB1.out, HNI.out, ⟨T, m, k', E', by have := HK'.out; have := HKQ.out; omega, HS.out.be HBl.out⟩, HG.out.trans (Kp.of_below HBl.out)⟩
/-- What stands at a key is another. -/
def upd (f : ByteArray → List (BitVec 8)) (s : ByteArray) (d : List (BitVec 8)) : ByteArray → List (BitVec 8) := fun x => if x = s then d else f x
theorem upd_same (f : ByteArray → List (BitVec 8)) (s : ByteArray) (d : List (BitVec 8)) : upd f s d s = d := if_pos rfl
theorem upd_other (f : ByteArray → List (BitVec 8)) (s : ByteArray) (d : List (BitVec 8)) (x : ByteArray) (h : x ≠ s) : upd f s d x = f x := if_neg h
theorem LsS.lay {w0 w : World} {S T m k : Nat} {E : DataW Value} {f : ByteArray → List (BitVec 8)} (h : LsS w0 w S T m k E f) (s : ByteArray) (hs : isK s.size = true) (C : Nat) (v u : Value) (A : Option Addr) (c : Nat) (d : List (BitVec 8)) (hd : d.length ≤ 4096) (hE : E.atKey (kl s) (.held (.pointer none)) = .held (.pointer (some ⟨C, 0, none⟩))) (hC : Row w C [v, u] tC) (hl : w0.heap.size ≤ C) (hb : Bw w (.slice A d.length c) d) :
    LsS w0 (w.setCell ⟨C, 1, none⟩ (.slice A d.length c)) S T m k E (upd f s d) ∧ Kp w (w.setCell ⟨C, 1, none⟩ (.slice A d.length c)) := by
  have hkp : Kp w (w.setCell ⟨C, 1, none⟩ (.slice A d.length c)) := ⟨fun b cs t ht r => Row.set_other r _ _ _ (row_ne' r hC ht), by simp⟩
  have hm : m ≠ C := Mp.ne h.sv.map hC
  refine ⟨⟨hkp.row _ _ _ (by decide) h.tab, ⟨hkp.row _ _ _ (by decide) h.sv.row, Mp.block h.sv.map (Below.heap_setCell _ _ _ _ hm)⟩, h.isM, h.lo, h.bel.setCell hl _, fun s' hs' => ?_, h.inj, fun s' hs' => ?_⟩, hkp⟩
  · by_cases hq : s' = s
    · subst hq
      rw [upd_same]
      exact .inr ⟨C, v, A, c, hE, hC.set 1 _, Bw.set_other hb (Bw.ne hb hC (by decide)), hl⟩
    · rw [upd_other _ _ _ _ hq]
      rcases h.at_ s' hs' with e1 | ⟨C1, v1, A1, c1, e1, r1, b1, l1⟩
      · exact .inl e1
      · have hne : C1 ≠ C := fun q => hq (h.inj s' s C hs' hs (by rw [← q]; exact e1) hE)
        exact .inr ⟨C1, v1, A1, c1, e1, Row.set_other r1 _ _ _ hne, Bw.set_other b1 (Bw.ne b1 hC (by decide)), l1⟩
  · by_cases hq : s' = s
    · subst hq
      rw [upd_same]
      exact hd
    · rw [upd_other _ _ _ _ hq]
      exact h.len s' hs'
set_option maxRecDepth 100000 in
set_option maxHeartbeats 1000000 in
theorem put_lg (w0 : World) (S q : Nat) (f : ByteArray → List (BitVec 8)) (hq : q < 1000000) (s : ByteArray) (hs : isK s.size = true) (A : Option Addr) (n cap : Nat) (d : List (BitVec 8)) (hn : d.length = n) (h4 : n ≤ 4096) (hnil : A = none → n = 0 ∧ cap = 0) (w : World) (h : LgS w0 w S q f) (hv : ∀ W, Kp w W → SlAt W (.slice A n cap) d) :
    Calls Tryz.prog 51 #[.pointer (some ⟨S, 0, none⟩), .string s, .slice A n cap] w fun e w' => e = .returned (.int .i64 0) ∧ LgS w0 w' S (q + 1) (upd f s d) ∧ Kp w w' := by
  obtain ⟨T, m, k, E, hkq, hl⟩ := h
  have HA : Hid _ := ask_ls w0 S T m k E f (by omega) s hs w hl
  have hc := check_anyS s A n cap w
  rw [may_ok hs (by omega)] at hc
  have HK : Hid _ := hc
  have HD : Hid (d.length = n) := hn
  have H4 : Hid (n ≤ 4096) := h4
  have HS0 : Hid (isK s.size = true) := hs
  have HKQ : Hid (k ≤ q) := hkq
  have HV : Hid (∀ W, Kp w W → SlAt W (.slice A n cap) d) := hv
  have HNIL : Hid (A = none → n = 0 ∧ cap = 0) := hnil
  clear hl hc hn h4 hkq hq hs hv hnil
  go_enter Tryz.func51, Tryz.ntmps51
  go_wp2_with (go_at_call 81; refine Calls.mono HK.out ?_; rintro e W ⟨rfl, hqq⟩; obtain rfl := hqq.symm)
  refine Calls.mono HA.out ?_
  rintro e W ⟨C, v, A1, c1, k', E', rfl, hS, hk', hE', hC, hb, hCl, hG⟩
  have gS := hS.sv.row.cell 3 _ rfl
  have HG : Hid (Kp w W) := hG
  have HS : Hid (LsS w0 W S T m k' E' f) := hS
  have HK' : Hid (k' ≤ k + 1) := hk'
  have HE' : Hid _ := hE'
  have HC : Hid (Row W C [v, .slice A1 (f s).length c1] tC) := hC
  have HCL : Hid (w0.heap.size ≤ C) := hCl
  have HB : Hid _ := bclone_any A n cap d HD.out (by have := H4.out; omega) W (HV.out W hG) HNIL.out
  clear hC hb hS hCl hG hE' hk' HA HK
  go_wp2_with fail
  refine Calls.mono HB.out ?_
  rintro e V ⟨A', c', rfl, hb, hni, hf, hB⟩
  have hC2 := Row.below HC.out hB HC.out.lt
  have g2 := hC2.cell 1 _ rfl
  have k2 := hC2.thaw 1
  have hb' := hb
  rw [← HD.out] at hb'
  have HQ : Hid _ := (HS.out.be hB).lay s HS0.out C v _ A' c' d (by rw [HD.out]; exact H4.out) HE'.out hC2 HCL.out hb'
  rw [HD.out] at HQ
  have HBl : Hid (Kp W V) := Kp.of_below hB
  clear hb hf hB HB hni hC2 hb' gS
  go_wp2_with fail
  go_ret
  exact ⟨rfl, ⟨T, m, k', E', by have := HK'.out; have := HKQ.out; omega, HQ.out.1⟩, (HG.out.trans HBl.out).trans HQ.out.2⟩

end Go.Proofs.YtbfahgdienppoaaGreatDoor
