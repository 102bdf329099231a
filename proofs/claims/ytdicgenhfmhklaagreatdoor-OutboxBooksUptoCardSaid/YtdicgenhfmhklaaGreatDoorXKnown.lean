/-
  wire: take, Number, End at the bytes of 256; the law's known.
-/
import Derived.Test.YtdicgenhfmhklaaGreatDoorXWr2
import Derived.Deep.Quiet
import Derived.Defers
import Derived.Recover
import Derived.Laws.Pointers

namespace Go.Proofs.YtdicgenhfmhklaaGreatDoor
open Go Go.RowKit
open Sha

/-- A reader of bytes. -/
def Rd (w : World) (P g cap : Nat) (bs : List (BitVec 8)) (at_ f : Int) : Prop := Row w P [.slice (some ⟨g, 0, none⟩) bs.length cap, .int .i64 at_, .int .i64 f] 120 ∧ Bw w (.slice (some ⟨g, 0, none⟩) bs.length cap) bs
theorem Rd.be {w w' : World} {P g cap : Nat} {bs : List (BitVec 8)} {a f : Int} (h : Rd w P g cap bs a f) (k : Below w.heap.size w w') : Rd w' P g cap bs a f := ⟨Row.below h.1 k h.1.lt, Bw.be h.2 k⟩
theorem Rd.drewN {w : World} {P g cap : Nat} {bs : List (BitVec 8)} {a f : Int} (h : Rd w P g cap bs a f) (m : Nat) : Rd (w.drewN m) P g cap bs a f := h
theorem Rd.ne {w : World} {P g cap : Nat} {bs : List (BitVec 8)} {a f : Int} (h : Rd w P g cap bs a f) : g ≠ P := Bw.ne h.2 h.1 (by decide) g rfl
theorem Gro.drewN {R : Nat → Prop} {a b : World} (h : Gro R a b) (m : Nat) : Gro R a (b.drewN m) := ⟨h.os, h.tape, h.output, h.size, h.block⟩
theorem Rd.byte {w : World} {P g cap : Nat} {bs : List (BitVec 8)} {a f : Int} (h : Rd w P g cap bs a f) (i : Nat) (hi : i < bs.length) : w.cell? ⟨g, i, none⟩ = some (.int .u8 (c (bs.getD i 0))) := by
  rcases Bw.sl h.2 with ⟨h0, _⟩ | ⟨ab, ao, c', hv, _, hr⟩
  · subst h0; simp at hi
  · simp only [Value.slice.injEq, Option.some.injEq, Addr.mk.injEq] at hv
    obtain ⟨⟨rfl, rfl, _⟩, _, _⟩ := hv
    have := hr i _ (vB_get bs i hi)
    simpa using this

set_option maxRecDepth 100000 in
set_option maxHeartbeats 1000000 in
theorem newReader_ok (b cap : Nat) (bs : List (BitVec 8)) (h0 : 0 < bs.length) (hl : bs.length ≤ 4194304) (w : World) (hv : SlAt w (.slice (some ⟨b, 0, none⟩) bs.length cap) bs) :
    Calls Tryz.prog 55 #[.slice (some ⟨b, 0, none⟩) bs.length cap] w fun e w' => ∃ P g c', e = .returned (.pointer (some ⟨P, 0, none⟩)) ∧ Rd w' P g c' bs 0 0 ∧ w.heap.size ≤ P ∧ w.heap.size ≤ g ∧ Below w.heap.size w w' := by
  have h1 : ¬ (4194304 : Int) < (bs.length : Int) := by omega
  have HV : Hid _ := hv
  have HL : Hid (([] : List (BitVec 8)).length + bs.length ≤ 140737488355328) := by show 0 + _ ≤ _; omega
  have H0 : Hid (0 < bs.length) := h0
  clear hv h0 hl
  go_enter Tryz.func55, Tryz.ntmps55
  go_wp2_with (refine wpList_app rfl _ (.tmp 8) rfl (.slice none 0 0) [] bs rfl (Bw.nil w) (some ⟨b, 0, none⟩) bs.length cap rfl rfl HV.out (fun e => by cases e) HL.out ?_; intro v' w' q1 q2 q3; obtain ⟨Ax, cx, ex, _⟩ := Bw.form q1; subst ex; rw [List.nil_append] at q1 q3; have Q1 : Hid _ := q1; have Q2 : Hid _ := q2; have Q3 : Hid _ := q3; clear q1 q2 q3; simp only [Act.put, List.setIfInBounds_toArray, List.set_cons_zero, List.set_cons_succ, List.nil_append])
  go_ret
  have bB : Below w.heap.size w w' := (Below.refl _ _).grown Q2.out (Nat.le_refl _) (fun k hk => by simp [Value.ownBlock] at hk)
  have bA : Below w'.heap.size w' (w'.alloc (Obj.cells #[Value.slice Ax bs.length cx, Value.int IntKind.i64 0, Value.int IntKind.i64 0] 120)) := (Below.refl _ _).alloc (Nat.le_refl _) _
  obtain ⟨g, rfl, hg⟩ : ∃ g, Ax = some ⟨g, 0, none⟩ ∧ w.heap.size ≤ g := by
    rcases Q1.out.2 with ⟨_, q0⟩ | ⟨g, cap, cur, hv, _⟩
    · have := H0.out; omega
    · simp only [Value.slice.injEq] at hv
      obtain ⟨rfl, _⟩ := hv
      refine ⟨g, rfl, ?_⟩
      rcases Q3.out with q | q
      · simp [Value.ownBlock] at q
      · simp only [Value.ownBlock, Option.some.injEq] at q
        omega
  exact ⟨w'.heap.size, rfl, g, ⟨cx, Row.new' rfl rfl, Bw.be Q1.out bA⟩, bB.size, hg, bB.trans (bA.mono bB.size)⟩

set_option maxRecDepth 100000 in
theorem err_ok (P : Nat) (v : Value) (a f : Int) (w : World) (h : Row w P [v, .int .i64 a, .int .i64 f] 120) :
    Calls Tryz.prog 82 #[.pointer (some ⟨P, 0, none⟩)] w fun e w' => e = .returned (.int .i64 f) ∧ w' = w := by
  have g2 := h.cell 2 _ rfl
  clear h
  go_enter Tryz.func82, Tryz.ntmps82
  go_wp2
  go_ret
  exact ⟨rfl, rfl⟩

set_option maxRecDepth 100000 in
set_option maxHeartbeats 1000000 in
theorem left_ok (P : Nat) (A : Option Addr) (n cap : Nat) (a : Nat) (ha : a ≤ n) (hn : n ≤ 4194304) (f : Int) (w : World) (h : Row w P [.slice A n cap, .int .i64 (a : Int), .int .i64 f] 120) :
    Calls Tryz.prog 83 #[.pointer (some ⟨P, 0, none⟩)] w fun e w' => e = .returned (.int .i64 ((n : Int) - a)) ∧ ∃ m, w' = w.drewN m := by
  have g0 := h.cell 0 _ rfl
  have g1 := h.cell 1 _ rfl
  clear h
  go_enter Tryz.func83, Tryz.ntmps83
  go_wp2
  go_region
  go_wp2
  go_ret
  exact ⟨rfl, 1, rfl⟩

set_option maxRecDepth 100000 in
set_option maxHeartbeats 2000000 in
theorem next_ok (P g cap : Nat) (bs : List (BitVec 8)) (a n : Nat) (h0 : 0 < n) (ha : a + n ≤ bs.length) (hn : bs.length ≤ 4194304) (w : World) (h : Rd w P g cap bs (a : Int) 0) :
    Calls Tryz.prog 95 #[.pointer (some ⟨P, 0, none⟩), .int .i64 (n : Int)] w fun e w' => e = .returned (.slice (some ⟨g, a, none⟩) n (cap - a)) ∧ ∃ m, w' = (w.setCell ⟨P, 1, none⟩ (.int .i64 ((a + n : Nat) : Int))).drewN m := by
  have HL : Hid _ := left_ok P (some ⟨g, 0, none⟩) bs.length cap a (by omega) hn 0 w h.1
  have hcap : bs.length ≤ cap := by
    rcases h.2.2 with ⟨q, _⟩ | ⟨g', cap', cur, hv, _, _, hc, _⟩
    · cases q
    · simp only [Value.slice.injEq] at hv
      omega
  have g1 := h.1.cell 1 _ rfl
  have f1 := h.1.thaw 1
  have g0 := h.1.cell 0 _ rfl
  have c1 : ¬ ((bs.length : Int) - (a : Int) < (n : Int)) := by omega
  have c2 : ¬ cap = a := by omega
  clear h
  generalize bs.length = L at *
  go_enter Tryz.func95, Tryz.ntmps95
  go_wp2_with fail
  refine Calls.mono HL.out ?_
  rintro e w1 ⟨rfl, m, rfl⟩
  have g1' : (w.drewN m).cell? ⟨P, 1, none⟩ = some (.int .i64 (a : Int)) := g1
  have g0' : (w.drewN m).cell? ⟨P, 0, none⟩ = some (.slice (some ⟨g, 0, none⟩) L cap) := g0
  have f1' : (w.drewN m).frozen? ⟨P, 1, none⟩ = false := f1
  clear g1 g0 f1 HL
  go_wp2
  go_region
  all_goals
    go_wp2
    go_ret
    refine ⟨?_, m + 1, rfl⟩
    show Ending.returned (Value.slice (some ⟨g, a, none⟩) (a + n - a) (cap - a)) = _
    rw [Nat.add_sub_cancel_left]

set_option maxRecDepth 100000 in
set_option maxHeartbeats 2000000 in
theorem seeByte_ok (P g cap : Nat) (bs : List (BitVec 8)) (a : Nat) (ha : a < bs.length) (hn : bs.length ≤ 4194304) (w : World) (h : Rd w P g cap bs (a : Int) 0) :
    Calls Tryz.prog 75 #[.pointer (some ⟨P, 0, none⟩)] w fun e w' => e = .returned (.int .u8 (c (bs.getD a 0))) ∧ ∃ m, w' = (w.setCell ⟨P, 1, none⟩ (.int .i64 ((a + 1 : Nat) : Int))).drewN m := by
  have HN : Hid _ := next_ok P g cap bs a 1 (by decide) (by omega) hn w h
  have HB : Hid (∀ m, ((w.setCell ⟨P, 1, none⟩ (.int .i64 ((a + 1 : Nat) : Int))).drewN m).cell? ⟨g, a, none⟩ = some (.int .u8 (c (bs.getD a 0)))) := fun m => by
    have := h.byte a ha
    have hne := h.ne
    show (w.setCell ⟨P, 1, none⟩ _).cell? ⟨g, a, none⟩ = _
    rw [World.cell?_of_block (a := ⟨g, a, none⟩) (Below.heap_setCell w ⟨P, 1, none⟩ _ g hne)]
    exact this
  generalize bs.getD a 0 = x at *
  clear h
  go_enter Tryz.func75, Tryz.ntmps75
  go_wp2_with fail
  refine Calls.mono HN.out ?_
  rintro e w1 ⟨rfl, m, hw1⟩
  have gb := HB.out m
  rw [← hw1] at gb
  have HW : Hid (w1 = (w.setCell ⟨P, 1, none⟩ (.int .i64 ((a + 1 : Nat) : Int))).drewN m) := hw1
  clear hw1
  go_wp2
  go_ret
  exact ⟨rfl, m, HW.out⟩

end Go.Proofs.YtdicgenhfmhklaaGreatDoor

namespace Go.Proofs.YtdicgenhfmhklaaGreatDoor
open Go Go.RowKit
open Sha

theorem heap_sets (w : World) (g o : Nat) (vs : List Value) (k : Nat) (h : k ≠ g) : (w.setCells g o vs).heap[k]? = w.heap[k]? := by
  induction vs generalizing w o with
  | nil => rfl
  | cons v r ih => exact (ih (w.setCell ⟨g, o, none⟩ v) (o + 1)).trans (Below.heap_setCell _ _ _ _ h)
theorem Gro.setNew {R : Nat → Prop} {a b : World} (h : Gro R a b) (g o : Nat) (v : Value) (hr : a.heap.size ≤ g) : Gro R a (b.setCell ⟨g, o, none⟩ v) := by
  have k := (Below.refl 0 b).setCell (p := ⟨g, o, none⟩) (Nat.zero_le _) v
  exact ⟨k.os.trans h.os, k.tape.trans h.tape, k.output.trans h.output, Nat.le_trans h.size k.size, fun i hi hn => (Below.heap_setCell b ⟨g, o, none⟩ v i (by show i ≠ g; omega)).trans (h.block i hi hn)⟩
theorem Rd.setNew {w : World} {P g cap : Nat} {bs : List (BitVec 8)} {a f : Int} (h : Rd w P g cap bs a f) (q o : Nat) (v : Value) {cs : List Value} {t : TypeId} (hq : Row w q cs t) (h1 : t ≠ 120) (h2 : t ≠ 5) : Rd (w.setCell ⟨q, o, none⟩ v) P g cap bs a f :=
  ⟨h.1.set_other q o v (row_ne h.1 hq (Ne.symm h1)), Bw.set_other h.2 (Bw.ne h.2 hq h2)⟩
theorem Rd.at_ {w : World} {P g cap : Nat} {bs : List (BitVec 8)} {a f : Int} (h : Rd w P g cap bs a f) (b : Int) : Rd (w.setCell ⟨P, 1, none⟩ (.int .i64 b)) P g cap bs b f :=
  ⟨h.1.set 1 _, Bw.set_other h.2 (Bw.ne h.2 h.1 (by decide))⟩
theorem q4_one (a b c d : Nat) : ∀ v ∈ q4 a b c d, v.oneCell' = true := fun v hv => by
  simp only [q4, List.mem_cons, List.not_mem_nil, or_false] at hv
  rcases hv with rfl | rfl | rfl | rfl <;> rfl
abbrev three : List (BitVec 8) := [2#8, 1#8, 0#8]
abbrev q4z : List Value := q4 0 0 0 0

set_option maxRecDepth 100000 in
set_option maxHeartbeats 4000000 in
theorem seeDigits_256 (P g cap : Nat) (w : World) (h : Rd w P g cap three 0 0) :
    Calls Tryz.prog 97 #[.pointer (some ⟨P, 0, none⟩), .int .i64 8] w fun e w' => e = .returned (.agg (q4 256 0 0 0).toArray) ∧ Rd w' P g cap three 3 0 ∧ Gro (fun k => k = P) w w' := by
  have b0 : Below w.heap.size w (w.alloc (Obj.cells q4z.toArray 38)) := (Below.refl _ _).alloc (Nat.le_refl _) _
  have r0 : Row (w.alloc (Obj.cells q4z.toArray 38)) w.heap.size q4z 38 := Row.new' rfl rfl
  replace h := h.be b0
  have hg : Gro (fun k => k = P) w (w.alloc (Obj.cells q4z.toArray 38)) := Gro.of_below b0
  go_enter Tryz.func97, Tryz.ntmps97
  go_wp2_with fail
  refine (seeByte_ok P g cap three 0 (by decide) (by decide) _ h).mono ?_
  rintro e w1 ⟨rfl, m, rfl⟩
  have HR : Hid (Rd ((World.setCell (w.alloc (Obj.cells q4z.toArray 38)) ⟨P, 1, none⟩ (.int .i64 ((0 + 1 : Nat) : Int))).drewN m) P g cap three 1 0) := (h.at_ 1).drewN m
  have R0 : Hid (Row ((World.setCell (w.alloc (Obj.cells q4z.toArray 38)) ⟨P, 1, none⟩ (.int .i64 ((0 + 1 : Nat) : Int))).drewN m) w.heap.size q4z 38) := (r0.set_other P 1 _ (row_ne r0 h.1 (by decide))).drewN m
  have HG : Hid (Gro (fun k => k = P) w ((World.setCell (w.alloc (Obj.cells q4z.toArray 38)) ⟨P, 1, none⟩ (.int .i64 ((0 + 1 : Nat) : Int))).drewN m)) := (hg.set P 1 _ rfl).drewN m
  generalize ((World.setCell (w.alloc (Obj.cells q4z.toArray 38)) ⟨P, 1, none⟩ (.int .i64 ((0 + 1 : Nat) : Int))).drewN m) = W1 at *
  clear h r0 hg b0
  rw [show c (three.getD 0 0) = 2 from rfl]
  go_wp2_with fail
  refine (next_ok P g cap three 1 2 (by decide) (by decide) (by decide) _ HR.out).mono ?_
  rintro e w2 ⟨rfl, m2, rfl⟩
  have HR2 : Hid (Rd ((W1.setCell ⟨P, 1, none⟩ (.int .i64 ((1 + 2 : Nat) : Int))).drewN m2) P g cap three 3 0) := (HR.out.at_ 3).drewN m2
  have R02 : Hid (Row ((W1.setCell ⟨P, 1, none⟩ (.int .i64 ((1 + 2 : Nat) : Int))).drewN m2) w.heap.size q4z 38) := (Row.set_other R0.out P 1 _ (row_ne R0.out HR.out.1 (by decide))).drewN m2
  have HG2 : Hid (Gro (fun k => k = P) w ((W1.setCell ⟨P, 1, none⟩ (.int .i64 ((1 + 2 : Nat) : Int))).drewN m2)) := (HG.out.set P 1 _ rfl).drewN m2
  generalize ((W1.setCell ⟨P, 1, none⟩ (.int .i64 ((1 + 2 : Nat) : Int))).drewN m2) = W2 at *
  clear HR R0 HG
  have g1 := HR2.out.byte 1 (by decide)
  rw [show c (three.getD 1 0) = 1 from rfl] at g1
  have b2 : Below W2.heap.size W2 (W2.alloc (Obj.cells q4z.toArray 38)) := (Below.refl _ _).alloc (Nat.le_refl _) _
  have HR3 : Hid (Rd (W2.alloc (Obj.cells q4z.toArray 38)) P g cap three 3 0) := HR2.out.be b2
  have R03 : Hid (Row (W2.alloc (Obj.cells q4z.toArray 38)) w.heap.size q4z 38) := Row.below R02.out b2 (Row.lt R02.out)
  have R73 : Hid (Row (W2.alloc (Obj.cells q4z.toArray 38)) W2.heap.size q4z 38) := Row.new' rfl rfl
  have HG3 : Hid (Gro (fun k => k = P) w (W2.alloc (Obj.cells q4z.toArray 38))) := HG2.out.below b2
  have HN : Hid (w.heap.size < W2.heap.size) := Row.lt R02.out
  clear b2
  go_wp2
  go_loopw [8, 29] (fun _ i wr => ∃ t : Nat, t ≤ 2 ∧ i = .int .i64 (t : Int) ∧ Rd wr P g cap three 3 0 ∧ Row wr w.heap.size q4z 38 ∧ Row wr W2.heap.size (q4 (if t = 2 then 256 else 0) 0 0 0) 38 ∧ Gro (fun k => k = P) w wr) (fun _ i _ => 2 - (intOf i).toNat)
  case atStart => exact ⟨0, by omega, rfl, HR3.out, R03.out, R73.out, HG3.out⟩
  case round =>
    clear HR3 R03 R73 HG3 HR2 R02 HG2 g1
    obtain ⟨t, ht, rfl, hr, r0, r7, hg⟩ := hrel
    rcases (show t = 0 ∨ t = 1 ∨ t = 2 by omega) with rfl | rfl | rfl
    · have gb := hr.byte 2 (by decide)
      rw [show c (three.getD 2 0) = 0 from rfl] at gb
      have e0 : bits BinOp.or IntKind.u64 0 0 = 0 := by decide
      have g7 := r7.cell 0 _ rfl
      have f7 := r7.thaw 0
      have q7 := r7.set 0 (.int .u64 0)
      have q0 := r0.set_other W2.heap.size 0 (.int .u64 0) (by have := HN.out; omega)
      have qr := hr.setNew W2.heap.size 0 (.int .u64 0) r7 (by decide) (by decide)
      have qg := hg.setNew W2.heap.size 0 (.int .u64 0) (by have := HN.out; omega)
      have Q7 : Hid _ := q7
      have Q0 : Hid _ := q0
      have QR : Hid (Rd _ _ _ _ _ _ _) := qr
      have QG : Hid (Gro _ _ _) := qg
      clear q7 q0 qr qg hr r0 r7 hg
      go_wp2
      go_region
      go_wp2
      exact ⟨⟨1, by omega, by go_num, QR.out, Q0.out, Q7.out, Gro.drewN QG.out 1⟩, by simp [intOf]⟩
    · have gb := hr.byte 1 (by decide)
      rw [show c (three.getD 1 0) = 1 from rfl] at gb
      have e0 : bits BinOp.or IntKind.u64 0 256 = 256 := by decide
      have g7 := r7.cell 0 _ rfl
      have f7 := r7.thaw 0
      have q7 := r7.set 0 (.int .u64 256)
      have q0 := r0.set_other W2.heap.size 0 (.int .u64 256) (by have := HN.out; omega)
      have qr := hr.setNew W2.heap.size 0 (.int .u64 256) r7 (by decide) (by decide)
      have qg := hg.setNew W2.heap.size 0 (.int .u64 256) (by have := HN.out; omega)
      have Q7 : Hid _ := q7
      have Q0 : Hid _ := q0
      have QR : Hid (Rd _ _ _ _ _ _ _) := qr
      have QG : Hid (Gro _ _ _) := qg
      clear q7 q0 qr qg hr r0 r7 hg
      go_wp2
      go_region
      go_wp2
      exact ⟨⟨2, by omega, by go_num, QR.out, Q0.out, Q7.out, Gro.drewN QG.out 1⟩, by simp [intOf]⟩
    · have T0 := r0.there 0 (q4 256 0 0 0).toArray.size (by decide)
      have nf := r0.over (vs := q4 256 0 0 0) rfl
      have nr : Rd (wr.setCells w.heap.size 0 (q4 256 0 0 0)) P g cap three 3 0 := ⟨Row.setCells_other hr.1 _ _ _ (row_ne hr.1 r0 (by decide)), Bw.block hr.2 fun k e => heap_sets wr w.heap.size 0 _ k (Bw.ne hr.2 r0 (by decide) k e)⟩
      have ng : Gro (fun k => k = P) w (wr.setCells w.heap.size 0 (q4 256 0 0 0)) := by
        have k := below_setCells (Below.refl 0 wr) (b := w.heap.size) (o := 0) (Nat.zero_le _) (q4 256 0 0 0)
        exact ⟨k.os.trans hg.os, k.tape.trans hg.tape, k.output.trans hg.output, Nat.le_trans hg.size k.size, fun i hi hn => (heap_sets wr w.heap.size 0 _ i (by omega)).trans (hg.block i hi hn)⟩
      have HT : Hid _ := T0
      have HI : Hid ((Tryz.prog.info? 38).map (·.size) = some (q4 256 0 0 0).toArray.size) := info_q
      have HO : Hid ((q4 256 0 0 0).toArray.all (·.oneCell') = true) := all_oneCell_toArray (q4_one 256 0 0 0)
      have NF : Hid _ := nf
      have NR : Hid (Rd _ _ _ _ _ _ _) := nr
      have NG : Hid (Gro _ _ _) := ng
      have R7 : Hid _ := r7
      clear T0 nf nr ng hr r0 r7 hg
      go_wp2_with (first
        | (refine wpList_load_w rfl 38 (.tmp 7) rfl W2.heap.size 0 rfl (q4 256 0 0 0) _ (Row.all R7.out) Tryz.underlying38 rfl info_q ?_; simp only [Act.put, List.setIfInBounds_toArray, List.set_cons_zero, List.set_cons_succ])
        | (refine wpList_store_mid rfl 38 (.tmp 4) (.tmp 51) rfl w.heap.size 0 (q4 256 0 0 0).toArray rfl rfl HT.out HI.out HO.out ?_; simp only [Act.put]; (change wpList _ _ _ _ _ (World.setCells wr w.heap.size 0 (q4 256 0 0 0)))))
      exact bodyPost_ret (results_row Tryz.results97 _ _ w.heap.size 38 (q4 256 0 0 0) rfl NF.out Tryz.underlying38 info_q rfl) rfl ⟨rfl, NR.out, NG.out⟩

end Go.Proofs.YtdicgenhfmhklaaGreatDoor

namespace Go.Proofs.YtdicgenhfmhklaaGreatDoor
open Go Go.RowKit
open Sha

set_option maxRecDepth 100000 in
set_option maxHeartbeats 2000000 in
theorem seeNumber_256 (P g cap : Nat) (w : World) (h : Rd w P g cap three 0 0) :
    Calls Tryz.prog 77 #[.pointer (some ⟨P, 0, none⟩)] w fun e w' => e = .returned (.int .i64 256) ∧ Rd w' P g cap three 3 0 ∧ Gro (fun k => k = P) w w' := by
  have HD : Hid _ := seeDigits_256 P g cap w h
  clear h
  go_enter Tryz.func77, Tryz.ntmps77
  go_wp2_with fail
  refine Calls.mono HD.out ?_
  rintro e V ⟨rfl, hr, hg⟩
  have n0 : Row (V.alloc (Obj.cells q4z.toArray 38)) V.heap.size q4z 38 := Row.new' rfl rfl
  have T0 := n0.there 0 (q4 256 0 0 0).toArray.size (by decide)
  replace n0 := n0.over (vs := q4 256 0 0 0) rfl
  have hB : Below V.heap.size V ((V.alloc (Obj.cells q4z.toArray 38)).setCells V.heap.size 0 (q4 256 0 0 0)) := below_setCells ((Below.refl _ _).alloc (Nat.le_refl _) (Obj.cells q4z.toArray 38)) (b := V.heap.size) (o := 0) (Nat.le_refl _) (q4 256 0 0 0)
  replace hr := hr.be hB
  replace hg := hg.below hB
  clear hB
  have gc := n0.cell 0 _ rfl
  have HI : Hid ((Tryz.prog.info? 38).map (·.size) = some (q4 256 0 0 0).toArray.size) := info_q
  have HO : Hid ((q4 256 0 0 0).toArray.all (·.oneCell') = true) := all_oneCell_toArray (q4_one 256 0 0 0)
  have HR : Hid (Rd _ _ _ _ _ _ _) := hr
  have HG : Hid (Gro _ _ _) := hg
  clear n0 hr hg
  go_wp2_with (refine wpList_store_mid rfl 38 (.tmp 3) (.tmp 5) rfl V.heap.size 0 (q4 256 0 0 0).toArray rfl rfl T0 HI.out HO.out ?_; simp only [Act.put]; clear T0; (change wpList _ _ _ _ _ ((V.alloc (Obj.cells q4z.toArray 38)).setCells V.heap.size 0 (q4 256 0 0 0))); (generalize ((V.alloc (Obj.cells q4z.toArray 38)).setCells V.heap.size 0 (q4 256 0 0 0)) = X at *); (generalize hN : V.heap.size = N4 at *; clear hN))
  go_ret
  exact ⟨rfl, HR.out, HG.out⟩

set_option maxRecDepth 100000 in
theorem catch_idle (p q : Addr) (w : World) :
    CallsD Tryz.prog 96 #[.pointer (some p), .pointer (some q)] .returning w fun e u' w' => e = .returned (.tuple #[]) ∧ u' = .returning ∧ w' = w := by
  refine callsD_of_wpS Tryz.func96 rfl fun c₀ cs hu => ?_
  apply wpS_seq
  apply wpS_region
  simp [wpOpsS, go_sem, recoverD, hu, Tryz.ntmps96, Exit.thenS]
  apply wpS_seq
  apply wpS_region
  simp [wpOpsS, go_sem, Exit.thenS]
  refine wpS_cond (t := false) (by simp [Act.eval, Array.replicate]) ?_
  simp only [Bool.false_eq_true, if_false]
  refine wpS_of_wp (wp_skip ?_)
  cases c₀
  simp_all [bodyPostS, results, Tryz.results96]

end Go.Proofs.YtdicgenhfmhklaaGreatDoor

namespace Go.Proofs.YtdicgenhfmhklaaGreatDoor
open Go Go.RowKit
open Sha

set_option maxRecDepth 100000 in
set_option maxHeartbeats 2000000 in
theorem take_256 (P g cap : Nat) (w : World) (h : Rd w P g cap three 0 0) :
    Calls Tryz.prog 76 #[.pointer (some ⟨P, 0, none⟩), .func (.func 77) #[] #[]] w fun e w' => e = .returned (.int .i64 256) ∧ Rd w' P g cap three 3 0 ∧ Gro (fun k => k = P) w w' := by
  have hmf : ∀ (fn : Fn) (first cap : Array Value) (w : World), (Instr.makeFunc fn first cap).run Tryz.prog w = .ok (.func fn first cap) w := fun _ _ _ _ => rfl
  have b0 : Below w.heap.size w (w.alloc (Obj.cells #[.pointer (some ⟨P, 0, none⟩)] 102)) := (Below.refl _ _).alloc (Nat.le_refl _) _
  have b1 := b0.alloc b0.size (Obj.cells #[.int .i64 0] 3)
  have HR0 : Hid (Rd (w.alloc (Obj.cells #[.pointer (some ⟨P, 0, none⟩)] 102)) P g cap three 0 0) := h.be b0
  have HE : Hid _ := err_ok P _ 0 0 _ HR0.out.1
  have g1 := HR0.out.1.cell 1 _ rfl
  have HR1 : Hid (Rd ((w.alloc (Obj.cells #[.pointer (some ⟨P, 0, none⟩)] 102)).alloc (Obj.cells #[.int .i64 0] 3)) P g cap three 0 0) := HR0.out.be ((Below.refl _ _).alloc (Nat.le_refl _) _)
  have HB1 : Hid _ := b1
  clear h b0 b1
  go_enter_defers Tryz.func76, Tryz.ntmps76
  go_wp2_with (go_at_call 82; refine Calls.mono HE.out ?_; rintro e w2 ⟨rfl, rfl⟩)
  refine (seeNumber_256 P g cap _ HR1.out).mono ?_
  rintro e V ⟨rfl, hr, hg⟩
  have HR : Hid (Rd _ _ _ _ _ _ _) := hr
  have HG : Hid (Gro (fun k => k = P) w V) := (Gro.of_below HB1.out).trans hg
  clear hr hg
  go_wp2
  refine leaves_cons (f := 96) (args := #[.pointer (some ⟨w.heap.size + 1, 0, none⟩), .pointer (some ⟨w.heap.size, 0, none⟩)]) (by simp) (by simp [go_sem]) ?_
  refine (catch_idle ⟨w.heap.size + 1, 0, none⟩ ⟨w.heap.size, 0, none⟩ _).mono ?_
  rintro e u' w'' ⟨rfl, rfl, rfl⟩
  exact ⟨_, results_tmp rfl _ _ _, rfl, HR.out, HG.out⟩

set_option maxRecDepth 100000 in
theorem number_256 (P g cap : Nat) (w : World) (h : Rd w P g cap three 0 0) :
    Calls Tryz.prog 57 #[.pointer (some ⟨P, 0, none⟩)] w fun e w' => e = .returned (.int .i64 256) ∧ Rd w' P g cap three 3 0 ∧ Gro (fun k => k = P) w w' := by
  have HT : Hid _ := take_256 P g cap w h
  clear h
  go_enter Tryz.func57, Tryz.ntmps57
  go_wp2_with fail
  refine Calls.mono HT.out ?_
  rintro e V ⟨rfl, hr, hg⟩
  have HR : Hid (Rd _ _ _ _ _ _ _) := hr
  have HG : Hid (Gro _ _ _) := hg
  clear hr hg
  go_wp2_with fail
  go_ret
  exact ⟨rfl, HR.out, HG.out⟩

set_option maxRecDepth 100000 in
theorem end_256 (P g cap : Nat) (w : World) (h : Rd w P g cap three 3 0) :
    Calls Tryz.prog 60 #[.pointer (some ⟨P, 0, none⟩)] w fun e w' => e = .returned (.int .i64 0) ∧ Below w.heap.size w w' := by
  have HE : Hid _ := err_ok P _ 3 0 w h.1
  have HL : Hid _ := left_ok P (some ⟨g, 0, none⟩) 3 cap 3 (by decide) (by decide) 0 w h.1
  clear h
  go_enter Tryz.func60, Tryz.ntmps60
  go_wp2_with fail
  refine Calls.mono HE.out ?_
  rintro e w2 ⟨rfl, rfl⟩
  go_wp2_with fail
  refine Calls.mono HL.out ?_
  rintro e w3 ⟨rfl, m, hm⟩
  have HM : Hid _ := hm
  clear hm
  go_wp2_with fail
  go_ret
  refine ⟨rfl, ?_⟩
  rw [HM.out]
  exact ⟨rfl, rfl, rfl, Nat.le_refl _, fun _ _ => rfl⟩

end Go.Proofs.YtdicgenhfmhklaaGreatDoor
