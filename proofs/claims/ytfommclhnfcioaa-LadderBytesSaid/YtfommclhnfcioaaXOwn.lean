/-
  NewReader of any bytes; the law's own; the document's Read.
-/
import Derived.Test.YtfommclhnfcioaaXWb
import Derived.Test.YtfommclhnfcioaaXAx
import Derived.Test.YtfommclhnfcioaaXLaw2

namespace Go.Proofs.Ytfommclhnfcioaa
open Go Go.RowKit
open Sha

set_option maxRecDepth 100000 in
set_option maxHeartbeats 1000000 in
theorem done_shut (P : Nat) (v : Value) (f : Int) (hf : ¬ f = 0) (w : World) (h : Row w P [v, .int .i64 f] 119) :
    Calls Try.prog 39 #[.pointer (some ⟨P, 0, none⟩)] w fun e w' => e = .returned (.tuple #[.slice none 0 0, .int .i64 f]) ∧ ∃ m, w' = w.drewN m := by
  have g1 := h.cell 1 _ rfl
  have hb : (f == 0) = false := by simp [hf]
  clear h
  go_enter Try.func39, Try.ntmps39
  go_wp2
  go_region
  all_goals
    go_wp2
    go_ret2
    exact ⟨rfl, 1, rfl⟩
theorem drew_below (w : World) (m : Nat) : Below w.heap.size w (w.drewN m) := ⟨rfl, rfl, rfl, Nat.le_refl _, fun _ _ => rfl⟩
theorem done_any (P : Nat) (A : Option Addr) (cap : Nat) (bs : List (BitVec 8)) (f : Int) (hl : bs.length ≤ 4194304) (w : World) (hw : Wr w P A cap bs f) :
    Calls Try.prog 39 #[.pointer (some ⟨P, 0, none⟩)] w fun e w' => (∃ A' n c, e = .returned (.tuple #[.slice A' n c, .int .i64 f])) ∧ Below w.heap.size w w' := by
  by_cases hf : f = 0
  · subst hf
    refine (done_ok P A cap bs (by omega) w hw).mono ?_
    rintro e w' ⟨A', c', rfl, _, _, hb⟩
    exact ⟨⟨_, _, _, rfl⟩, hb⟩
  · refine (done_shut P _ f hf w hw.1).mono ?_
    rintro e w' ⟨rfl, m, rfl⟩
    exact ⟨⟨_, _, _, rfl⟩, drew_below w m⟩

/-- A writer in memory made behind w0. -/
structure Wk (w0 w : World) (P : Nat) (A : Option Addr) (cap : Nat) (s : List (BitVec 8) × Int) : Prop where
  wr : Wr w P A cap s.1 s.2
  fw : Fresh w0.heap.size (.slice A s.1.length cap)
  hP : w0.heap.size ≤ P
  len : s.1.length ≤ 4194304
  below : Below w0.heap.size w0 w
theorem Wk.be {w0 w w' : World} {P : Nat} {A : Option Addr} {cap : Nat} {s : List (BitVec 8) × Int} (h : Wk w0 w P A cap s) (k : Below w.heap.size w w') : Wk w0 w' P A cap s := ⟨h.wr.be k, h.fw, h.hP, h.len, h.below.trans (k.mono h.below.size)⟩
theorem Wk.num {w0 w w' : World} {P : Nat} {A A' : Option Addr} {cap cap' : Nat} {s : List (BitVec 8) × Int} {n : Int} (h : Wk w0 w P A cap s)
    (hw : Wr w' P A' cap' (nuB s.1 s.2 n) (nuF s.1 s.2 n)) (hf : Frm (.slice A s.1.length cap) w.heap.size (.slice A' (nuB s.1 s.2 n).length cap')) (hG : Gro (fun g => g = P ∨ (Value.slice A s.1.length cap).ownBlock = some g) w w') :
    Wk w0 w' P A' cap' (nuB s.1 s.2 n, nuF s.1 s.2 n) where
  wr := hw
  fw := fun g e => by
    rcases hf g e with q | q
    · exact h.fw g q
    · exact Nat.le_trans h.below.size q
  hP := h.hP
  len := nu_len _ _ _ h.len
  below := h.below.trans (hG.to_below h.below.size (fun k q => by
    rcases q with q | q
    · rw [q]; exact h.hP
    · exact h.fw k q))

end Go.Proofs.Ytfommclhnfcioaa

namespace Go.Proofs.Ytfommclhnfcioaa
open Go Go.RowKit
open Sha

theorem info_all_u8 : (Try.prog.info? 5).map (fun i => (i.zero, i.size, i.bytes)) = some (some (.int .u8 0), 1, 1) := by kernel_rfl
theorem made_bytes (n : Nat) : madeCells (Value.int IntKind.u8 0).cells (n * 1) = (vB (List.replicate n 0#8)).toArray := by
  apply Array.ext'
  rw [show (Value.int IntKind.u8 0).cells = #[Value.int IntKind.u8 0] from rfl, toList_madeCells_one]
  simp [vB, c]
section
variable {ops : Array Oper} {rest : List Oper} {op : Oper} {a : Act} {w : World} {Q : Exit → Act → World → Prop}
/-- make of n bytes. -/
theorem wpList_make1 (hgd : op.guard = none) (x y : Operand) (ho : op.op = .makeSlice 26 x y) (n : Nat) (l l' : Int) (hl : l = (n : Int)) (hl' : l' = (n : Int)) (hx : a.eval x = .int .i64 l) (hy : a.eval y = .int .i64 l') (hn : n ≤ 281474976710656)
    (h : ∀ W, Row W w.heap.size (vB (List.replicate n 0#8)) 5 → Below w.heap.size w W → W.heap.size = w.heap.size + 1 → wpList Try.prog ops Q rest (a.put op.dst (.slice (some ⟨w.heap.size, 0, none⟩) n n)) W) : wpList Try.prog ops Q (op :: rest) a w :=
  wpList_plain hgd fun _ hK => by
    subst hl; subst hl'
    obtain ⟨i, hi0, hz, hs, hb⟩ : ∃ i, Try.prog.info? 5 = some i ∧ i.zero = some (.int .u8 0) ∧ i.size = 1 ∧ i.bytes = 1 := by
      have hi := info_all_u8
      cases hq : Try.prog.info? 5 with
      | none => rw [hq] at hi; cases hi
      | some i =>
        rw [hq] at hi
        simp only [Option.map_some, Option.some.injEq, Prod.mk.injEq] at hi
        exact ⟨i, rfl, hi.1, hi.2.1, hi.2.2⟩
    have hr := run_make (P := Try.prog) w 26 5 i (.int .u8 0) Try.underlying26 hi0 hz .i64 .i64 (n : Int) (n : Int) (by omega) (by omega) (by rw [hb]; omega) (by omega)
    rw [hs, Int.toNat_natCast, made_bytes] at hr
    unfold Oper.wp execOp
    simp only [ho, hx, hy, Sem.run_bind, hr, Result.andThen_ok, Sem.run_pure, Oper.upon_value]
    exact hK _ _ (h _ (Row.new' rfl rfl) ((Below.refl _ _).alloc (Nat.le_refl _) _) (by simp))
end
theorem Wk.beh {w0 w w' : World} {P : Nat} {A : Option Addr} {cap : Nat} {s : List (BitVec 8) × Int} {d : List (BitVec 8)} (h : Wk w0 w P A cap s) (k : Beh w w' P A cap s.1 s.2 d) :
    ∃ A' cap', Wk w0 w' P A' cap' (wrB s.1 s.2 d, wrF s.1 s.2 d) := by
  obtain ⟨⟨A', cap', hw, hf⟩, hG⟩ := k
  refine ⟨A', cap', hw, fun g e => ?_, h.hP, ?_, h.below.trans (hG.to_below h.below.size (fun k q => ?_))⟩
  · rcases hf g e with q | q
    · exact h.fw g q
    · exact Nat.le_trans h.below.size q
  · show (wrB s.1 s.2 d).length ≤ _
    have := h.len
    unfold wrB
    split
    · split
      · rw [List.length_append]; omega
      · simp
    · exact this
  · rcases q with q | q
    · rw [q]; exact h.hP
    · exact h.fw k q
theorem wr_more {bs d : List (BitVec 8)} {f : Int} (hf : f = 0) (h : bs.length + d.length ≤ 4194304) : wrF bs f d = 0 ∧ (wrB bs f d).length = bs.length + d.length := by
  unfold wrF wrB
  rw [if_pos hf, if_pos h, if_pos hf, if_pos h, List.length_append]
  exact ⟨rfl, rfl⟩
theorem wr_full {bs d : List (BitVec 8)} {f : Int} (hf : f = 0) (h : 4194304 < bs.length + d.length) : wrF bs f d = 30 := by
  unfold wrF
  rw [if_pos hf, if_neg (by omega)]

end Go.Proofs.Ytfommclhnfcioaa

namespace Go.Proofs.Ytfommclhnfcioaa
open Go Go.RowKit
open Sha

/-- A reader's first fault. -/
def f0 (bs : List (BitVec 8)) : Int := if 4194304 < bs.length then 30 else 0

set_option maxRecDepth 100000 in
set_option maxHeartbeats 1000000 in
theorem newReader_g (B : Option Addr) (n cb : Nat) (bs : List (BitVec 8)) (hb : bs.length = n) (hl : n ≤ 4194304) (hnil : B = none → cb = 0) (w : World) (hv : SlAt w (.slice B n cb) bs) :
    Calls Try.prog 45 #[.slice B n cb] w fun e w' => ∃ P A cap, e = .returned (.pointer (some ⟨P, 0, none⟩)) ∧ Rg w' P A cap bs 0 ∧ w.heap.size ≤ P ∧ Fresh w.heap.size (.slice A bs.length cap) ∧ Below w.heap.size w w' := by
  subst hb
  have h1 : ¬ (4194304 : Int) < (bs.length : Int) := by omega
  have HV : Hid _ := hv
  have HL : Hid (([] : List (BitVec 8)).length + bs.length ≤ 140737488355328) := by show 0 + _ ≤ _; omega
  have HN : Hid (B = none → cb = 0) := hnil
  have HLE : Hid (bs.length ≤ 4194304) := hl
  clear hv hl hnil
  go_enter Try.func45, Try.ntmps45
  go_wp2_with (refine wpList_app rfl _ (.tmp 8) rfl (.slice none 0 0) [] bs rfl (Bw.nil w) B bs.length cb rfl rfl HV.out HN.out HL.out ?_; intro v' w' q1 q2 q3; obtain ⟨Ax, cx, ex, _⟩ := Bw.form q1; subst ex; rw [List.nil_append] at q1 q3; have Q1 : Hid _ := q1; have Q2 : Hid _ := q2; have Q3 : Hid _ := q3; clear q1 q2 q3; simp only [Act.put, List.setIfInBounds_toArray, List.set_cons_zero, List.set_cons_succ, List.nil_append])
  go_ret
  have bB : Below w.heap.size w w' := (Below.refl _ _).grown Q2.out (Nat.le_refl _) (fun k hk => by simp [Value.ownBlock] at hk)
  have bA : Below w'.heap.size w' (w'.alloc (Obj.cells #[Value.slice Ax bs.length cx, Value.int IntKind.i64 0, Value.int IntKind.i64 0] 129)) := (Below.refl _ _).alloc (Nat.le_refl _) _
  refine ⟨w'.heap.size, rfl, Ax, cx, ⟨Row.new' rfl rfl, Bw.be Q1.out bA, Nat.zero_le _, HLE.out⟩, bB.size, fun g e => ?_, bB.trans (bA.mono bB.size)⟩
  rcases Q3.out with q | q
  · rw [e] at q; simp [Value.ownBlock] at q
  · rw [e] at q
    simp only [Option.some.injEq] at q
    omega

theorem newReader_x (B : Option Addr) (n cb : Nat) (bs : List (BitVec 8)) (hb : bs.length = n) (hnil : B = none → cb = 0) (w : World) (hv : SlAt w (.slice B n cb) bs) :
    Calls Try.prog 45 #[.slice B n cb] w fun e w' => ∃ P A cap, e = .returned (.pointer (some ⟨P, 0, none⟩)) ∧ Rx w' P A cap bs 0 (f0 bs) ∧ w.heap.size ≤ P ∧ Fresh w.heap.size (.slice A bs.length cap) ∧ Below w.heap.size w w' := by
  unfold f0
  by_cases hl : 4194304 < bs.length
  · rw [if_pos hl]
    refine (newReader_long B n cb (by omega) w).mono ?_
    rintro e w' ⟨rfl, h1, h2⟩
    exact ⟨w.heap.size, none, 0, rfl, .inr ⟨by decide, h1⟩, Nat.le_refl _, (fun g e => by simp [Value.ownBlock] at e), h2⟩
  · rw [if_neg hl]
    refine (newReader_g B n cb bs hb (by omega) hnil w hv).mono ?_
    rintro e w' ⟨P, A, cap, rfl, h1, h2, h3, h4⟩
    exact ⟨P, A, cap, rfl, .inl ⟨rfl, h1⟩, h2, h3, h4⟩

set_option maxRecDepth 100000 in
set_option maxHeartbeats 1000000 in
theorem read_any (g : Nat) (bs : List (BitVec 8)) (n : Nat) (hb : bs.length = n) (hl : n ≤ 140737488351232) (w : World) (hr : Row w g (vB bs) 5) :
    Calls Try.prog 50 #[.slice (some ⟨g, 0, none⟩) n n] w fun e w' => e = .returned (.pointer (some ⟨w.heap.size, 0, none⟩)) ∧ Rr w' w.heap.size g bs 0 (f0 bs) ∧ Below w.heap.size w w' := by
  have b1 : Below w.heap.size w (w.alloc (Obj.cells #[.slice (some ⟨g, 0, none⟩) n n, .int .i64 0, .int .i64 0] 137)) := (Below.refl _ _).alloc (Nat.le_refl _) _
  have r0 : Row (w.alloc (Obj.cells #[.slice (some ⟨g, 0, none⟩) n n, .int .i64 0, .int .i64 0] 137)) w.heap.size [.slice (some ⟨g, 0, none⟩) n n, .int .i64 0, .int .i64 0] 137 := Row.new' rfl rfl
  have hrr : Rr (w.alloc (Obj.cells #[.slice (some ⟨g, 0, none⟩) n n, .int .i64 0, .int .i64 0] 137)) w.heap.size g bs 0 0 := ⟨by rw [hb]; exact r0, Row.below hr b1 hr.lt, Nat.zero_le _, by omega⟩
  have hb2 : Below w.heap.size w (w.alloc (Obj.cells #[.slice (some ⟨g, 0, none⟩) n n, .int .i64 0, .int .i64 30] 137)) := (Below.refl _ _).alloc (Nat.le_refl _) _
  have hre : Rr (w.alloc (Obj.cells #[.slice (some ⟨g, 0, none⟩) n n, .int .i64 0, .int .i64 30] 137)) w.heap.size g bs 0 30 := ⟨by rw [hb]; exact Row.new' rfl rfl, Row.below hr hb2 hr.lt, Nat.zero_le _, by omega⟩
  have HR : Hid (Rr _ _ _ _ _ _) := hrr
  have HE : Hid (Rr _ _ _ _ _ _) := hre
  have B1 : Hid _ := b1
  have B2 : Hid _ := hb2
  unfold f0
  by_cases hc : 4194304 < bs.length
  · rw [if_pos hc]
    have c1 : (4194304 : Int) < (n : Int) := by omega
    clear hr hrr hre b1 hb2 r0 hb hc
    go_enter Try.func50, Try.ntmps50
    go_wp2
    go_ret
    exact ⟨rfl, HE.out, B2.out⟩
  · rw [if_neg hc]
    have c1 : ¬ (4194304 : Int) < (n : Int) := by omega
    clear hr hrr hre b1 hb2 r0 hb hc
    go_enter Try.func50, Try.ntmps50
    go_wp2
    go_ret
    exact ⟨rfl, HR.out, B1.out⟩

end Go.Proofs.Ytfommclhnfcioaa
