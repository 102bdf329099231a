/-
  NewReader of any bytes; the law's own; the document's Read.
-/
import Derived.Test.YtmfmdlaeflahlaaGreatDoorXWb
import Derived.Test.YtmfmdlaeflahlaaGreatDoorXAx
import Derived.Test.YtmfmdlaeflahlaaGreatDoorXLaw2

namespace Go.Proofs.YtmfmdlaeflahlaaGreatDoor
open Go Go.RowKit
open Sha

set_option maxRecDepth 100000 in
set_option maxHeartbeats 1000000 in
theorem done_shut (P : Nat) (v : Value) (f : Int) (hf : ¬ f = 0) (w : World) (h : Row w P [v, .int .i64 f] 176) :
    Calls Tryz.prog 107 #[.pointer (some ⟨P, 0, none⟩)] w fun e w' => e = .returned (.tuple #[.slice none 0 0, .int .i64 f]) ∧ ∃ m, w' = w.drewN m := by
  have g1 := h.cell 1 _ rfl
  have hb : (f == 0) = false := by simp [hf]
  clear h
  go_enter Tryz.func107, Tryz.ntmps107
  go_wp2
  go_region
  all_goals
    go_wp2
    go_ret2
    exact ⟨rfl, 1, rfl⟩
theorem drew_below (w : World) (m : Nat) : Below w.heap.size w (w.drewN m) := ⟨rfl, rfl, rfl, Nat.le_refl _, fun _ _ => rfl⟩
theorem done_any (P : Nat) (A : Option Addr) (cap : Nat) (bs : List (BitVec 8)) (f : Int) (hl : bs.length ≤ 4194304) (w : World) (hw : Wr w P A cap bs f) :
    Calls Tryz.prog 107 #[.pointer (some ⟨P, 0, none⟩)] w fun e w' => (∃ A' n c, e = .returned (.tuple #[.slice A' n c, .int .i64 f])) ∧ Below w.heap.size w w' := by
  by_cases hf : f = 0
  · subst hf
    refine (done_ok P A cap bs (by omega) w hw).mono ?_
    rintro e w' ⟨A', c', rfl, _, _, hb⟩
    exact ⟨⟨_, _, _, rfl⟩, hb⟩
  · refine (done_shut P _ f hf w hw.1).mono ?_
    rintro e w' ⟨rfl, m, rfl⟩
    exact ⟨⟨_, _, _, rfl⟩, drew_below w m⟩

/-- A writer in memory made behind w0. -/
structure Wk (w0 w : World) (P : Nat) (A : Option Addr) (cap : Nat) (s : List (BitVec 8) × Int) : Prop where
  wr : Wr w P A cap s.1 s.2
  fw : Fresh w0.heap.size (.slice A s.1.length cap)
  hP : w0.heap.size ≤ P
  len : s.1.length ≤ 4194304
  below : Below w0.heap.size w0 w
theorem Wk.be {w0 w w' : World} {P : Nat} {A : Option Addr} {cap : Nat} {s : List (BitVec 8) × Int} (h : Wk w0 w P A cap s) (k : Below w.heap.size w w') : Wk w0 w' P A cap s := ⟨h.wr.be k, h.fw, h.hP, h.len, h.below.trans (k.mono h.below.size)⟩
theorem Wk.num {w0 w w' : World} {P : Nat} {A A' : Option Addr} {cap cap' : Nat} {s : List (BitVec 8) × Int} {n : Int} (h : Wk w0 w P A cap s)
    (hw : Wr w' P A' cap' (nuB s.1 s.2 n) (nuF s.1 s.2 n)) (hf : Frm (.slice A s.1.length cap) w.heap.size (.slice A' (nuB s.1 s.2 n).length cap')) (hG : Gro (fun g => g = P ∨ (Value.slice A s.1.length cap).ownBlock = some g) w w') :
    Wk w0 w' P A' cap' (nuB s.1 s.2 n, nuF s.1 s.2 n) where
  wr := hw
  fw := fun g e => by
    rcases hf g e with q | q
    · exact h.fw g q
    · exact Nat.le_trans h.below.size q
  hP := h.hP
  len := nu_len _ _ _ h.len
  below := h.below.trans (hG.to_below h.below.size (fun k q => by
    rcases q with q | q
    · rw [q]; exact h.hP
    · exact h.fw k q))

end Go.Proofs.YtmfmdlaeflahlaaGreatDoor

namespace Go.Proofs.YtmfmdlaeflahlaaGreatDoor
open Go Go.RowKit
open Sha

theorem info_all_u8 : (Tryz.prog.info? 5).map (fun i => (i.zero, i.size, i.bytes)) = some (some (.int .u8 0), 1, 1) := by kernel_rfl
theorem made_bytes (n : Nat) : madeCells (Value.int IntKind.u8 0).cells (n * 1) = (vB (List.replicate n 0#8)).toArray := by
  apply Array.ext'
  rw [show (Value.int IntKind.u8 0).cells = #[Value.int IntKind.u8 0] from rfl, toList_madeCells_one]
  simp [vB, c]
section
variable {ops : Array Oper} {rest : List Oper} {op : Oper} {a : Act} {w : World} {Q : Exit → Act → World → Prop}
/-- make of n bytes. -/
theorem wpList_make1 (hgd : op.guard = none) (x y : Operand) (ho : op.op = .makeSlice 44 x y) (n : Nat) (l l' : Int) (hl : l = (n : Int)) (hl' : l' = (n : Int)) (hx : a.eval x = .int .i64 l) (hy : a.eval y = .int .i64 l') (hn : n ≤ 281474976710656)
    (h : ∀ W, Row W w.heap.size (vB (List.replicate n 0#8)) 5 → Below w.heap.size w W → W.heap.size = w.heap.size + 1 → wpList Tryz.prog ops Q rest (a.put op.dst (.slice (some ⟨w.heap.size, 0, none⟩) n n)) W) : wpList Tryz.prog ops Q (op :: rest) a w :=
  wpList_plain hgd fun _ hK => by
    subst hl; subst hl'
    obtain ⟨i, hi0, hz, hs, hb⟩ : ∃ i, Tryz.prog.info? 5 = some i ∧ i.zero = some (.int .u8 0) ∧ i.size = 1 ∧ i.bytes = 1 := by
      have hi := info_all_u8
      cases hq : Tryz.prog.info? 5 with
      | none => rw [hq] at hi; cases hi
      | some i =>
        rw [hq] at hi
        simp only [Option.map_some, Option.some.injEq, Prod.mk.injEq] at hi
        exact ⟨i, rfl, hi.1, hi.2.1, hi.2.2⟩
    have hr := run_make (P := Tryz.prog) w 44 5 i (.int .u8 0) Tryz.underlying44 hi0 hz .i64 .i64 (n : Int) (n : Int) (by omega) (by omega) (by rw [hb]; omega) (by omega)
    rw [hs, Int.toNat_natCast, made_bytes] at hr
    unfold Oper.wp execOp
    simp only [ho, hx, hy, Sem.run_bind, hr, Result.andThen_ok, Sem.run_pure, Oper.upon_value]
    exact hK _ _ (h _ (Row.new' rfl rfl) ((Below.refl _ _).alloc (Nat.le_refl _) _) (by simp))
end
theorem Wk.beh {w0 w w' : World} {P : Nat} {A : Option Addr} {cap : Nat} {s : List (BitVec 8) × Int} {d : List (BitVec 8)} (h : Wk w0 w P A cap s) (k : Beh w w' P A cap s.1 s.2 d) :
    ∃ A' cap', Wk w0 w' P A' cap' (wrB s.1 s.2 d, wrF s.1 s.2 d) := by
  obtain ⟨⟨A', cap', hw, hf⟩, hG⟩ := k
  refine ⟨A', cap', hw, fun g e => ?_, h.hP, ?_, h.below.trans (hG.to_below h.below.size (fun k q => ?_))⟩
  · rcases hf g e with q | q
    · exact h.fw g q
    · exact Nat.le_trans h.below.size q
  · show (wrB s.1 s.2 d).length ≤ _
    have := h.len
    unfold wrB
    split
    · split
      · rw [List.length_append]; omega
      · simp
    · exact this
  · rcases q with q | q
    · rw [q]; exact h.hP
    · exact h.fw k q
theorem wr_more {bs d : List (BitVec 8)} {f : Int} (hf : f = 0) (h : bs.length + d.length ≤ 4194304) : wrF bs f d = 0 ∧ (wrB bs f d).length = bs.length + d.length := by
  unfold wrF wrB
  rw [if_pos hf, if_pos h, if_pos hf, if_pos h, List.length_append]
  exact ⟨rfl, rfl⟩
theorem wr_full {bs d : List (BitVec 8)} {f : Int} (hf : f = 0) (h : 4194304 < bs.length + d.length) : wrF bs f d = 30 := by
  unfold wrF
  rw [if_pos hf, if_neg (by omega)]

end Go.Proofs.YtmfmdlaeflahlaaGreatDoor

namespace Go.Proofs.YtmfmdlaeflahlaaGreatDoor
open Go Go.RowKit
open Sha

/-- A reader's first fault. -/
def f0 (bs : List (BitVec 8)) : Int := if 4194304 < bs.length then 30 else 0

end Go.Proofs.YtmfmdlaeflahlaaGreatDoor
