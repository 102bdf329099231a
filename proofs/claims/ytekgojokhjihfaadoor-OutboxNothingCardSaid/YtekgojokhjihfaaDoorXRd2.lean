/-
  wire.Reader: a number of two bytes; take.
-/
import Derived.Test.YtekgojokhjihfaaDoorXRd
import Derived.Defers
import Derived.Recover
import Derived.Laws.Pointers
namespace Go.Proofs.YtekgojokhjihfaaDoor
open Go Go.RowKit
open Sha

theorem heap_sets (w : World) (g o : Nat) (vs : List Value) (k : Nat) (h : k ≠ g) : (w.setCells g o vs).heap[k]? = w.heap[k]? := by
  induction vs generalizing w o with
  | nil => rfl
  | cons v r ih => exact (ih (w.setCell ⟨g, o, none⟩ v) (o + 1)).trans (Below.heap_setCell _ _ _ _ h)
theorem Gro.setNew {R : Nat → Prop} {a b : World} (h : Gro R a b) (g o : Nat) (v : Value) (hr : a.heap.size ≤ g) : Gro R a (b.setCell ⟨g, o, none⟩ v) := by
  have k := (Below.refl 0 b).setCell (p := ⟨g, o, none⟩) (Nat.zero_le _) v
  exact ⟨k.os.trans h.os, k.tape.trans h.tape, k.output.trans h.output, Nat.le_trans h.size k.size, fun i hi hn => (Below.heap_setCell b ⟨g, o, none⟩ v i (by show i ≠ g; omega)).trans (h.block i hi hn)⟩
theorem Rd.setNew {w : World} {P g cap : Nat} {bs : List (BitVec 8)} {a f : Int} (h : Rd w P g cap bs a f) (q o : Nat) (v : Value) {cs : List Value} {t : TypeId} (hq : Row w q cs t) (h1 : t ≠ 146) (h2 : t ≠ 5) : Rd (w.setCell ⟨q, o, none⟩ v) P g cap bs a f :=
  ⟨h.1.set_other q o v (row_ne h.1 hq (Ne.symm h1)), Bw.set_other h.2 (Bw.ne h.2 hq h2)⟩
theorem Rd.at_ {w : World} {P g cap : Nat} {bs : List (BitVec 8)} {a f : Int} (h : Rd w P g cap bs a f) (b : Int) : Rd (w.setCell ⟨P, 1, none⟩ (.int .i64 b)) P g cap bs b f :=
  ⟨h.1.set 1 _, Bw.set_other h.2 (Bw.ne h.2 h.1 (by decide))⟩
theorem q4_one (a b c d : Nat) : ∀ v ∈ q4 a b c d, v.oneCell' = true := fun v hv => by
  simp only [q4, List.mem_cons, List.not_mem_nil, or_false] at hv
  rcases hv with rfl | rfl | rfl | rfl <;> rfl
abbrev three : List (BitVec 8) := [2#8, 1#8, 0#8]
abbrev q4z : List Value := q4 0 0 0 0

set_option maxRecDepth 100000 in
set_option maxHeartbeats 4000000 in
theorem seeDigits_256 (P g cap : Nat) (w : World) (h : Rd w P g cap three 0 0) :
    Calls Tryd.prog 110 #[.pointer (some ⟨P, 0, none⟩), .int .i64 8] w fun e w' => e = .returned (.agg (q4 256 0 0 0).toArray) ∧ Rd w' P g cap three 3 0 ∧ Gro (fun k => k = P) w w' := by
  have b0 : Below w.heap.size w (w.alloc (Obj.cells q4z.toArray 30)) := (Below.refl _ _).alloc (Nat.le_refl _) _
  have r0 : Row (w.alloc (Obj.cells q4z.toArray 30)) w.heap.size q4z 30 := Row.new' rfl rfl
  replace h := h.be b0
  have hg : Gro (fun k => k = P) w (w.alloc (Obj.cells q4z.toArray 30)) := Gro.of_below b0
  go_enter Tryd.func110, Tryd.ntmps110
  go_wp2_with fail
  refine (seeByte_ok P g cap three 0 (by decide) (by decide) _ h).mono ?_
  rintro e w1 ⟨rfl, m, rfl⟩
  have HR : Hid (Rd ((World.setCell (w.alloc (Obj.cells q4z.toArray 30)) ⟨P, 1, none⟩ (.int .i64 ((0 + 1 : Nat) : Int))).drewN m) P g cap three 1 0) := (h.at_ 1).drewN m
  have R0 : Hid (Row ((World.setCell (w.alloc (Obj.cells q4z.toArray 30)) ⟨P, 1, none⟩ (.int .i64 ((0 + 1 : Nat) : Int))).drewN m) w.heap.size q4z 30) := (r0.set_other P 1 _ (row_ne r0 h.1 (by decide))).drewN m
  have HG : Hid (Gro (fun k => k = P) w ((World.setCell (w.alloc (Obj.cells q4z.toArray 30)) ⟨P, 1, none⟩ (.int .i64 ((0 + 1 : Nat) : Int))).drewN m)) := (hg.set P 1 _ rfl).drewN m
  generalize ((World.setCell (w.alloc (Obj.cells q4z.toArray 30)) ⟨P, 1, none⟩ (.int .i64 ((0 + 1 : Nat) : Int))).drewN m) = W1 at *
  clear h r0 hg b0
  rw [show c (three.getD 0 0) = 2 from rfl]
  go_wp2_with fail
  refine (next_ok P g cap three 1 2 (by decide) (by decide) (by decide) _ HR.out).mono ?_
  rintro e w2 ⟨rfl, m2, rfl⟩
  have HR2 : Hid (Rd ((W1.setCell ⟨P, 1, none⟩ (.int .i64 ((1 + 2 : Nat) : Int))).drewN m2) P g cap three 3 0) := (HR.out.at_ 3).drewN m2
  have R02 : Hid (Row ((W1.setCell ⟨P, 1, none⟩ (.int .i64 ((1 + 2 : Nat) : Int))).drewN m2) w.heap.size q4z 30) := (Row.set_other R0.out P 1 _ (row_ne R0.out HR.out.1 (by decide))).drewN m2
  have HG2 : Hid (Gro (fun k => k = P) w ((W1.setCell ⟨P, 1, none⟩ (.int .i64 ((1 + 2 : Nat) : Int))).drewN m2)) := (HG.out.set P 1 _ rfl).drewN m2
  generalize ((W1.setCell ⟨P, 1, none⟩ (.int .i64 ((1 + 2 : Nat) : Int))).drewN m2) = W2 at *
  clear HR R0 HG
  have g1 := HR2.out.byte 1 (by decide)
  rw [show c (three.getD 1 0) = 1 from rfl] at g1
  have b2 : Below W2.heap.size W2 (W2.alloc (Obj.cells q4z.toArray 30)) := (Below.refl _ _).alloc (Nat.le_refl _) _
  have HR3 : Hid (Rd (W2.alloc (Obj.cells q4z.toArray 30)) P g cap three 3 0) := HR2.out.be b2
  have R03 : Hid (Row (W2.alloc (Obj.cells q4z.toArray 30)) w.heap.size q4z 30) := Row.below R02.out b2 (Row.lt R02.out)
  have R73 : Hid (Row (W2.alloc (Obj.cells q4z.toArray 30)) W2.heap.size q4z 30) := Row.new' rfl rfl
  have HG3 : Hid (Gro (fun k => k = P) w (W2.alloc (Obj.cells q4z.toArray 30))) := HG2.out.below b2
  have HN : Hid (w.heap.size < W2.heap.size) := Row.lt R02.out
  clear b2
  go_wp2
  go_loopw [8, 29] (fun _ i wr => ∃ t : Nat, t ≤ 2 ∧ i = .int .i64 (t : Int) ∧ Rd wr P g cap three 3 0 ∧ Row wr w.heap.size q4z 30 ∧ Row wr W2.heap.size (q4 (if t = 2 then 256 else 0) 0 0 0) 30 ∧ Gro (fun k => k = P) w wr) (fun _ i _ => 2 - (intOf i).toNat)
  case atStart => exact ⟨0, by omega, rfl, HR3.out, R03.out, R73.out, HG3.out⟩
  case round =>
    clear HR3 R03 R73 HG3 HR2 R02 HG2 g1
    obtain ⟨t, ht, rfl, hr, r0, r7, hg⟩ := hrel
    rcases (show t = 0 ∨ t = 1 ∨ t = 2 by omega) with rfl | rfl | rfl
    · have gb := hr.byte 2 (by decide)
      rw [show c (three.getD 2 0) = 0 from rfl] at gb
      have e0 : bits BinOp.or IntKind.u64 0 0 = 0 := by decide
      have g7 := r7.cell 0 _ rfl
      have f7 := r7.thaw 0
      have q7 := r7.set 0 (.int .u64 0)
      have q0 := r0.set_other W2.heap.size 0 (.int .u64 0) (by have := HN.out; omega)
      have qr := hr.setNew W2.heap.size 0 (.int .u64 0) r7 (by decide) (by decide)
      have qg := hg.setNew W2.heap.size 0 (.int .u64 0) (by have := HN.out; omega)
      have Q7 : Hid _ := q7
      have Q0 : Hid _ := q0
      have QR : Hid (Rd _ _ _ _ _ _ _) := qr
      have QG : Hid (Gro _ _ _) := qg
      clear q7 q0 qr qg hr r0 r7 hg
      go_wp2
      go_region
      go_wp2
      exact ⟨⟨1, by omega, by go_num, QR.out, Q0.out, Q7.out, Gro.drewN QG.out 1⟩, by simp [intOf]⟩
    · have gb := hr.byte 1 (by decide)
      rw [show c (three.getD 1 0) = 1 from rfl] at gb
      have e0 : bits BinOp.or IntKind.u64 0 256 = 256 := by decide
      have g7 := r7.cell 0 _ rfl
      have f7 := r7.thaw 0
      have q7 := r7.set 0 (.int .u64 256)
      have q0 := r0.set_other W2.heap.size 0 (.int .u64 256) (by have := HN.out; omega)
      have qr := hr.setNew W2.heap.size 0 (.int .u64 256) r7 (by decide) (by decide)
      have qg := hg.setNew W2.heap.size 0 (.int .u64 256) (by have := HN.out; omega)
      have Q7 : Hid _ := q7
      have Q0 : Hid _ := q0
      have QR : Hid (Rd _ _ _ _ _ _ _) := qr
      have QG : Hid (Gro _ _ _) := qg
      clear q7 q0 qr qg hr r0 r7 hg
      go_wp2
      go_region
      go_wp2
      exact ⟨⟨2, by omega, by go_num, QR.out, Q0.out, Q7.out, Gro.drewN QG.out 1⟩, by simp [intOf]⟩
    · have T0 := r0.there 0 (q4 256 0 0 0).toArray.size (by decide)
      have nf := r0.over (vs := q4 256 0 0 0) rfl
      have nr : Rd (wr.setCells w.heap.size 0 (q4 256 0 0 0)) P g cap three 3 0 := ⟨Row.setCells_other hr.1 _ _ _ (row_ne hr.1 r0 (by decide)), Bw.block hr.2 fun k e => heap_sets wr w.heap.size 0 _ k (Bw.ne hr.2 r0 (by decide) k e)⟩
      have ng : Gro (fun k => k = P) w (wr.setCells w.heap.size 0 (q4 256 0 0 0)) := by
        have k := below_setCells (Below.refl 0 wr) (b := w.heap.size) (o := 0) (Nat.zero_le _) (q4 256 0 0 0)
        exact ⟨k.os.trans hg.os, k.tape.trans hg.tape, k.output.trans hg.output, Nat.le_trans hg.size k.size, fun i hi hn => (heap_sets wr w.heap.size 0 _ i (by omega)).trans (hg.block i hi hn)⟩
      have HT : Hid _ := T0
      have HI : Hid ((Tryd.prog.info? 30).map (·.size) = some (q4 256 0 0 0).toArray.size) := info_q
      have HO : Hid ((q4 256 0 0 0).toArray.all (·.oneCell') = true) := all_oneCell_toArray (q4_one 256 0 0 0)
      have NF : Hid _ := nf
      have NR : Hid (Rd _ _ _ _ _ _ _) := nr
      have NG : Hid (Gro _ _ _) := ng
      have R7 : Hid _ := r7
      clear T0 nf nr ng hr r0 r7 hg
      go_wp2_with (first
        | (refine wpList_load_w rfl 30 (.tmp 7) rfl W2.heap.size 0 rfl (q4 256 0 0 0) _ (Row.all R7.out) Tryd.underlying30 rfl info_q ?_; simp only [Act.put, List.setIfInBounds_toArray, List.set_cons_zero, List.set_cons_succ])
        | (refine wpList_store_mid rfl 30 (.tmp 4) (.tmp 51) rfl w.heap.size 0 (q4 256 0 0 0).toArray rfl rfl HT.out HI.out HO.out ?_; simp only [Act.put]; (change wpList _ _ _ _ _ (World.setCells wr w.heap.size 0 (q4 256 0 0 0)))))
      exact bodyPost_ret (results_row Tryd.results110 _ _ w.heap.size 30 (q4 256 0 0 0) rfl NF.out Tryd.underlying30 info_q rfl) rfl ⟨rfl, NR.out, NG.out⟩

end Go.Proofs.YtekgojokhjihfaaDoor
