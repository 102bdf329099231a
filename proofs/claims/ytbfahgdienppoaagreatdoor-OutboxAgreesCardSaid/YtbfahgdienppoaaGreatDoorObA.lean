/-
  the outbox: laws of the walk; a leaf; its bytes.
-/
import Derived.Test.YtbfahgdienppoaaGreatDoorXWb
import Derived.Test.YtbfahgdienppoaaGreatDoorXAx
import Derived.Test.YtbfahgdienppoaaGreatDoorXLaw2
import Derived.Test.YtbfahgdienppoaaGreatDoorLeK
import Derived.Test.YtbfahgdienppoaaGreatDoorXRe
import Derived.BigQuiet

namespace Go.Proofs.YtbfahgdienppoaaGreatDoor
open Go Go.RowKit
open Sha

set_option maxRecDepth 100000 in
set_option maxHeartbeats 1000000 in
theorem done_shut (P : Nat) (v : Value) (f : Int) (hf : ¬ f = 0) (w : World) (h : Row w P [v, .int .i64 f] 119) :
    Calls Tryz.prog 32 #[.pointer (some ⟨P, 0, none⟩)] w fun e w' => e = .returned (.tuple #[.slice none 0 0, .int .i64 f]) ∧ ∃ m, w' = w.drewN m := by
  have g1 := h.cell 1 _ rfl
  have hb : (f == 0) = false := by simp [hf]
  clear h
  go_enter Tryz.func32, Tryz.ntmps32
  go_wp2
  go_region
  all_goals
    go_wp2
    go_ret2
    exact ⟨rfl, 1, rfl⟩
theorem drew_below (w : World) (m : Nat) : Below w.heap.size w (w.drewN m) := ⟨rfl, rfl, rfl, Nat.le_refl _, fun _ _ => rfl⟩
theorem done_any (P : Nat) (A : Option Addr) (cap : Nat) (bs : List (BitVec 8)) (f : Int) (hl : bs.length ≤ 4194304) (w : World) (hw : Wr w P A cap bs f) :
    Calls Tryz.prog 32 #[.pointer (some ⟨P, 0, none⟩)] w fun e w' => (∃ A' n c, e = .returned (.tuple #[.slice A' n c, .int .i64 f])) ∧ Below w.heap.size w w' := by
  by_cases hf : f = 0
  · subst hf
    refine (done_ok P A cap bs (by omega) w hw).mono ?_
    rintro e w' ⟨A', c', rfl, _, _, hb⟩
    exact ⟨⟨_, _, _, rfl⟩, hb⟩
  · refine (done_shut P _ f hf w hw.1).mono ?_
    rintro e w' ⟨rfl, m, rfl⟩
    exact ⟨⟨_, _, _, rfl⟩, drew_below w m⟩

/-- A writer in memory made behind w0. -/
structure Wk (w0 w : World) (P : Nat) (A : Option Addr) (cap : Nat) (s : List (BitVec 8) × Int) : Prop where
  wr : Wr w P A cap s.1 s.2
  fw : Fresh w0.heap.size (.slice A s.1.length cap)
  hP : w0.heap.size ≤ P
  len : s.1.length ≤ 4194304
  below : Below w0.heap.size w0 w
theorem Wk.be {w0 w w' : World} {P : Nat} {A : Option Addr} {cap : Nat} {s : List (BitVec 8) × Int} (h : Wk w0 w P A cap s) (k : Below w.heap.size w w') : Wk w0 w' P A cap s := ⟨h.wr.be k, h.fw, h.hP, h.len, h.below.trans (k.mono h.below.size)⟩
theorem Wk.num {w0 w w' : World} {P : Nat} {A A' : Option Addr} {cap cap' : Nat} {s : List (BitVec 8) × Int} {n : Int} (h : Wk w0 w P A cap s)
    (hw : Wr w' P A' cap' (nuB s.1 s.2 n) (nuF s.1 s.2 n)) (hf : Frm (.slice A s.1.length cap) w.heap.size (.slice A' (nuB s.1 s.2 n).length cap')) (hG : Gro (fun g => g = P ∨ (Value.slice A s.1.length cap).ownBlock = some g) w w') :
    Wk w0 w' P A' cap' (nuB s.1 s.2 n, nuF s.1 s.2 n) where
  wr := hw
  fw := fun g e => by
    rcases hf g e with q | q
    · exact h.fw g q
    · exact Nat.le_trans h.below.size q
  hP := h.hP
  len := nu_len _ _ _ h.len
  below := h.below.trans (hG.to_below h.below.size (fun k q => by
    rcases q with q | q
    · rw [q]; exact h.hP
    · exact h.fw k q))

end Go.Proofs.YtbfahgdienppoaaGreatDoor

namespace Go.Proofs.YtbfahgdienppoaaGreatDoor
open Go Go.RowKit
open Sha

theorem info_all_u8 : (Tryz.prog.info? 5).map (fun i => (i.zero, i.size, i.bytes)) = some (some (.int .u8 0), 1, 1) := by kernel_rfl
theorem made_bytes (n : Nat) : madeCells (Value.int IntKind.u8 0).cells (n * 1) = (vB (List.replicate n 0#8)).toArray := by
  apply Array.ext'
  rw [show (Value.int IntKind.u8 0).cells = #[Value.int IntKind.u8 0] from rfl, toList_madeCells_one]
  simp [vB, c]
section
variable {ops : Array Oper} {rest : List Oper} {op : Oper} {a : Act} {w : World} {Q : Exit → Act → World → Prop}
/-- make of n bytes. -/
theorem wpList_make1 (hgd : op.guard = none) (x y : Operand) (ho : op.op = .makeSlice 46 x y) (n : Nat) (l l' : Int) (hl : l = (n : Int)) (hl' : l' = (n : Int)) (hx : a.eval x = .int .i64 l) (hy : a.eval y = .int .i64 l') (hn : n ≤ 281474976710656)
    (h : ∀ W, Row W w.heap.size (vB (List.replicate n 0#8)) 5 → Below w.heap.size w W → W.heap.size = w.heap.size + 1 → wpList Tryz.prog ops Q rest (a.put op.dst (.slice (some ⟨w.heap.size, 0, none⟩) n n)) W) : wpList Tryz.prog ops Q (op :: rest) a w :=
  wpList_plain hgd fun _ hK => by
    subst hl; subst hl'
    obtain ⟨i, hi0, hz, hs, hb⟩ : ∃ i, Tryz.prog.info? 5 = some i ∧ i.zero = some (.int .u8 0) ∧ i.size = 1 ∧ i.bytes = 1 := by
      have hi := info_all_u8
      cases hq : Tryz.prog.info? 5 with
      | none => rw [hq] at hi; cases hi
      | some i =>
        rw [hq] at hi
        simp only [Option.map_some, Option.some.injEq, Prod.mk.injEq] at hi
        exact ⟨i, rfl, hi.1, hi.2.1, hi.2.2⟩
    have hr := run_make (P := Tryz.prog) w 46 5 i (.int .u8 0) Tryz.underlying46 hi0 hz .i64 .i64 (n : Int) (n : Int) (by omega) (by omega) (by rw [hb]; omega) (by omega)
    rw [hs, Int.toNat_natCast, made_bytes] at hr
    unfold Oper.wp execOp
    simp only [ho, hx, hy, Sem.run_bind, hr, Result.andThen_ok, Sem.run_pure, Oper.upon_value]
    exact hK _ _ (h _ (Row.new' rfl rfl) ((Below.refl _ _).alloc (Nat.le_refl _) _) (by simp))
end
theorem Wk.beh {w0 w w' : World} {P : Nat} {A : Option Addr} {cap : Nat} {s : List (BitVec 8) × Int} {d : List (BitVec 8)} (h : Wk w0 w P A cap s) (k : Beh w w' P A cap s.1 s.2 d) :
    ∃ A' cap', Wk w0 w' P A' cap' (wrB s.1 s.2 d, wrF s.1 s.2 d) := by
  obtain ⟨⟨A', cap', hw, hf⟩, hG⟩ := k
  refine ⟨A', cap', hw, fun g e => ?_, h.hP, ?_, h.below.trans (hG.to_below h.below.size (fun k q => ?_))⟩
  · rcases hf g e with q | q
    · exact h.fw g q
    · exact Nat.le_trans h.below.size q
  · show (wrB s.1 s.2 d).length ≤ _
    have := h.len
    unfold wrB
    split
    · split
      · rw [List.length_append]; omega
      · simp
    · exact this
  · rcases q with q | q
    · rw [q]; exact h.hP
    · exact h.fw k q
theorem wr_more {bs d : List (BitVec 8)} {f : Int} (hf : f = 0) (h : bs.length + d.length ≤ 4194304) : wrF bs f d = 0 ∧ (wrB bs f d).length = bs.length + d.length := by
  unfold wrF wrB
  rw [if_pos hf, if_pos h, if_pos hf, if_pos h, List.length_append]
  exact ⟨rfl, rfl⟩
theorem wr_full {bs d : List (BitVec 8)} {f : Int} (hf : f = 0) (h : 4194304 < bs.length + d.length) : wrF bs f d = 30 := by
  unfold wrF
  rw [if_pos hf, if_neg (by omega)]

end Go.Proofs.YtbfahgdienppoaaGreatDoor

namespace Go.Proofs.YtbfahgdienppoaaGreatDoor
open Go Go.RowKit
open Sha

/-- A reader's first fault. -/
def f0 (bs : List (BitVec 8)) : Int := if 4194304 < bs.length then 30 else 0

set_option maxRecDepth 100000 in
set_option maxHeartbeats 1000000 in
theorem newReader_g (B : Option Addr) (n cb : Nat) (bs : List (BitVec 8)) (hb : bs.length = n) (hl : n ≤ 4194304) (hnil : B = none → cb = 0) (w : World) (hv : SlAt w (.slice B n cb) bs) :
    Calls Tryz.prog 33 #[.slice B n cb] w fun e w' => ∃ P A cap, e = .returned (.pointer (some ⟨P, 0, none⟩)) ∧ Rg w' P A cap bs 0 ∧ w.heap.size ≤ P ∧ Fresh w.heap.size (.slice A bs.length cap) ∧ Below w.heap.size w w' := by
  subst hb
  have h1 : ¬ (4194304 : Int) < (bs.length : Int) := by omega
  have HV : Hid _ := hv
  have HL : Hid (([] : List (BitVec 8)).length + bs.length ≤ 140737488355328) := by show 0 + _ ≤ _; omega
  have HN : Hid (B = none → cb = 0) := hnil
  have HLE : Hid (bs.length ≤ 4194304) := hl
  clear hv hl hnil
  go_enter Tryz.func33, Tryz.ntmps33
  go_wp2_with (refine wpList_app rfl _ (.tmp 8) rfl (.slice none 0 0) [] bs rfl (Bw.nil w) B bs.length cb rfl rfl HV.out HN.out HL.out ?_; intro v' w' q1 q2 q3; obtain ⟨Ax, cx, ex, _⟩ := Bw.form q1; subst ex; rw [List.nil_append] at q1 q3; have Q1 : Hid _ := q1; have Q2 : Hid _ := q2; have Q3 : Hid _ := q3; clear q1 q2 q3; simp only [Act.put, List.setIfInBounds_toArray, List.set_cons_zero, List.set_cons_succ, List.nil_append])
  go_ret
  have bB : Below w.heap.size w w' := (Below.refl _ _).grown Q2.out (Nat.le_refl _) (fun k hk => by simp [Value.ownBlock] at hk)
  have bA : Below w'.heap.size w' (w'.alloc (Obj.cells #[Value.slice Ax bs.length cx, Value.int IntKind.i64 0, Value.int IntKind.i64 0] 127)) := (Below.refl _ _).alloc (Nat.le_refl _) _
  refine ⟨w'.heap.size, rfl, Ax, cx, ⟨Row.new' rfl rfl, Bw.be Q1.out bA, Nat.zero_le _, HLE.out⟩, bB.size, fun g e => ?_, bB.trans (bA.mono bB.size)⟩
  rcases Q3.out with q | q
  · rw [e] at q; simp [Value.ownBlock] at q
  · rw [e] at q
    simp only [Option.some.injEq] at q
    omega

theorem newReader_x (B : Option Addr) (n cb : Nat) (bs : List (BitVec 8)) (hb : bs.length = n) (hnil : B = none → cb = 0) (w : World) (hv : SlAt w (.slice B n cb) bs) :
    Calls Tryz.prog 33 #[.slice B n cb] w fun e w' => ∃ P A cap, e = .returned (.pointer (some ⟨P, 0, none⟩)) ∧ Rx w' P A cap bs 0 (f0 bs) ∧ w.heap.size ≤ P ∧ Fresh w.heap.size (.slice A bs.length cap) ∧ Below w.heap.size w w' := by
  unfold f0
  by_cases hl : 4194304 < bs.length
  · rw [if_pos hl]
    refine (newReader_long B n cb (by omega) w).mono ?_
    rintro e w' ⟨rfl, h1, h2⟩
    exact ⟨w.heap.size, none, 0, rfl, .inr ⟨by decide, h1⟩, Nat.le_refl _, (fun g e => by simp [Value.ownBlock] at e), h2⟩
  · rw [if_neg hl]
    refine (newReader_g B n cb bs hb (by omega) hnil w hv).mono ?_
    rintro e w' ⟨P, A, cap, rfl, h1, h2, h3, h4⟩
    exact ⟨P, A, cap, rfl, .inl ⟨rfl, h1⟩, h2, h3, h4⟩

end Go.Proofs.YtbfahgdienppoaaGreatDoor

namespace Go.Proofs.YtbfahgdienppoaaGreatDoor
open Go Go.RowKit
open Sha

/-- A leaf's cells. -/
def lf (ix en tk : Int) (rc : List (BitVec 8)) (am : List Nat) : List Value := .int .i64 ix :: .int .i64 en :: .int .i64 tk :: (vB rc ++ vQ am)
def zLf : List Value := lf 0 0 0 (List.replicate 20 0#8) (List.replicate 4 0)
section
variable {P : Program} {ops : Array Oper} {rest : List Oper} {op : Oper} {a : Act} {w : World} {Q : Exit → Act → World → Prop}
theorem wpList_storeL (hgd : op.guard = none) (ty : TypeId) (x y : Operand) (ho : op.op = .store ty x y) (b : Nat) (L M : List Value) (t : TypeId) (hx : a.eval x = .pointer (some ⟨b, 0, none⟩)) (hy : a.eval y = .agg L.toArray) (r : Row w b M t) (hl : L.length = M.length) (hi : (P.info? ty).map (·.size) = some L.length) (h1 : L.toArray.all (·.oneCell') = true)
    (h : ∀ X, X = w.setCells b 0 L → Row X b L t → wpList P ops Q rest (a.put op.dst undef) X) : wpList P ops Q (op :: rest) a w :=
  wpList_store_mid hgd ty x y ho b 0 L.toArray hx hy (r.there 0 _ (by rw [List.size_toArray, hl, Nat.zero_add]; exact Nat.le_refl _)) (by rw [hi, List.size_toArray]) h1 (h _ rfl (r.over hl))
theorem wpList_boxG (ty : TypeId) (hgd : op.guard = none) (x : Operand) (ho : op.op = .box ty x) (L : List Value) (hx : a.eval x = .agg L.toArray) (h : ∀ X, Row X w.heap.size L ty → Below w.heap.size w X → X.heap.size = w.heap.size + 1 → wpList P ops Q rest (a.put op.dst (.pointer (some ⟨w.heap.size, 0, none⟩))) X) : wpList P ops Q (op :: rest) a w :=
  wpList_plain hgd fun _ hK => by
    unfold Oper.wp execOp
    simp only [ho, hx]
    go_simp
    exact hK _ _ (h _ (Row.new' rfl rfl) ((Below.refl _ _).alloc (Nat.le_refl _) _) (by simp))
theorem wpList_allocLf (hgd : op.guard = none) (ho : op.op = .alloc 39) (h : ∀ X, Row X w.heap.size zLf 39 → Below w.heap.size w X → X.heap.size = w.heap.size + 1 → wpList Tryz.prog ops Q rest (a.put op.dst (.pointer (some ⟨w.heap.size, 0, none⟩))) X) : wpList Tryz.prog ops Q (op :: rest) a w :=
  wpList_plain hgd fun _ hK => by
    unfold Oper.wp execOp
    simp only [ho]
    go_simp
    exact hK _ _ (h _ (Row.new' (cs := zLf) rfl rfl) ((Below.refl _ _).alloc (Nat.le_refl _) _) (by simp))
theorem wpList_set1 (hgd : op.guard = none) (ty : TypeId) (x y : Operand) (ho : op.op = .store ty x y)
    (b i : Nat) (v : Value) (cs : List Value) (t : TypeId) (hx : a.eval x = .pointer (some ⟨b, i, none⟩)) (hy : a.eval y = v) (hcs : v.cells = #[v]) (r : Row w b cs t) (hl : i < cs.length) (hi : (Tryz.prog.info? ty).map (·.size) = some 1) (h1 : v.oneCell' = true)
    (h : ∀ X, Row X b (cs.set i v) t → Gro (· = b) w X → X.heap.size = w.heap.size → wpList Tryz.prog ops Q rest (a.put op.dst undef) X) : wpList Tryz.prog ops Q (op :: rest) a w :=
  wpList_store1 hgd ty x y ho b i v hx hy hcs (r.there i 1 (by omega)) hi h1 (h _ (r.set i v) ((Gro.refl _ _).set b i v rfl) (by simp))
theorem gro_over {R : Nat → Prop} {w W : World} (h : Gro R w W) (b o : Nat) (vs : List Value) (hb : R b) : Gro R w (W.setCells b o vs) := by
  have q := below_setCells (Below.refl 0 W) (b := b) (o := o) (Nat.zero_le _) vs
  exact ⟨q.os.trans h.os, q.tape.trans h.tape, q.output.trans h.output, Nat.le_trans h.size q.size, fun k hk hn => (heap_sets W b o vs k (fun e => hn (e ▸ hb))).trans (h.block k hk hn)⟩
/-- Part of a struct, stored. -/
theorem wpList_storeM (hgd : op.guard = none) (ty : TypeId) (x y : Operand) (ho : op.op = .store ty x y) (b o : Nat) (vs cs : List Value) (t : TypeId) (hx : a.eval x = .pointer (some ⟨b, o, none⟩)) (hy : a.eval y = .agg vs.toArray) (r : Row w b cs t) (hl : o + vs.length ≤ cs.length) (hi : (Tryz.prog.info? ty).map (·.size) = some vs.length) (h1 : vs.toArray.all (·.oneCell') = true)
    (h : ∀ X, Row X b (cs.take o ++ vs ++ cs.drop (o + vs.length)) t → Gro (· = b) w X → wpList Tryz.prog ops Q rest (a.put op.dst undef) X) : wpList Tryz.prog ops Q (op :: rest) a w :=
  wpList_store_mid hgd ty x y ho b o vs.toArray hx hy (r.there o _ (by rw [List.size_toArray]; exact hl)) (by rw [hi, List.size_toArray]) h1 (h _ (Row.setCells o vs r hl) (gro_over (Gro.refl _ _) b o vs rfl))
end
section
variable {ix en tk : Int} {rc : List (BitVec 8)} {am : List Nat} {b : Nat} {w : World}
theorem lf_len (h1 : rc.length = 20) (h2 : am.length = 4) : (lf ix en tk rc am).length = 27 := by
  simp only [lf, List.length_cons, List.length_append, vB_length, vQ_len, h1, h2]
theorem lf_to (i : Nat) : (lf ix en tk rc am)[3 + i]? = (vB rc ++ vQ am)[i]? := by
  rw [show 3 + i = i + 1 + 1 + 1 by omega]
  rfl
theorem lf_am (h1 : rc.length = 20) (i : Nat) : (lf ix en tk rc am)[23 + i]? = (vQ am)[i]? := by
  rw [show 23 + i = 3 + (20 + i) by omega, lf_to]
  exact app_at (vB rc) _ 20 i (by rw [vB_length, h1])
theorem lf_one : ∀ v ∈ lf ix en tk rc am, v.oneCell' = true := by
  intro v hv
  simp only [lf, List.mem_cons, List.mem_append] at hv
  rcases hv with rfl | rfl | rfl | h | h
  · rfl
  · rfl
  · rfl
  · exact vB_one rc v h
  · obtain ⟨x, _, rfl⟩ := List.mem_map.1 h
    rfl
theorem lf_all : (lf ix en tk rc am).toArray.all (·.oneCell') = true := all_oneCell_toArray lf_one
theorem lf_rto (h : Row w b (lf ix en tk rc am) 39) : w.rangeAt b 3 (vB rc) := h.range 3 _ (fun j u hj => by
  have hlt : j < (vB rc).length := (List.getElem?_eq_some_iff.1 hj).1
  rw [lf_to]
  exact (List.getElem?_append_left hlt).trans hj)
theorem lf_ram (h1 : rc.length = 20) (h : Row w b (lf ix en tk rc am) 39) : w.rangeAt b 23 (vQ am) := h.range 23 _ (fun j u hj => by
  rw [lf_am h1]
  exact hj)
theorem info_lf (h1 : rc.length = 20) (h2 : am.length = 4) : (Tryz.prog.info? 39).map (·.size) = some (lf ix en tk rc am).length := by rw [lf_len h1 h2]; kernel_rfl
end
theorem info_Ad (rc : List (BitVec 8)) (h : rc.length = 20) : (Tryz.prog.info? 34).map (·.size) = some (vB rc).length := by rw [vB_length, h]; kernel_rfl
theorem info_Wd (am : List Nat) (h : am.length = 4) : (Tryz.prog.info? 37).map (·.size) = some (vQ am).length := by rw [vQ_len, h]; kernel_rfl
/-- May a leaf be? -/
def may (ix en tk : Int) (am : List Nat) : Bool := decide (0 ≤ ix ∧ ix < 1099511627776 ∧ 0 ≤ en ∧ en < 1099511627776 ∧ 0 ≤ tk ∧ tk < 64 ∧ am ≠ List.replicate 4 0)
set_option maxRecDepth 100000 in
set_option maxHeartbeats 4000000 in
theorem mayBe_any (ix en tk : Int) (rc : List (BitVec 8)) (am : List Nat) (hto : rc.length = 20) (ham : am.length = 4) (L : List Value) (hL : L = lf ix en tk rc am) (w : World) : Calls Tryz.prog 22 #[.agg L.toArray] w fun e w' => e = .returned (.bool (may ix en tk am)) ∧ Below w.heap.size w w' := by
  have HL : Hid (L = lf ix en tk rc am) := hL
  have HTO : Hid (rc.length = 20) := hto
  have HAM : Hid (am.length = 4) := ham
  have HI : Hid ((Tryz.prog.info? 37).map (·.size) = some (vQ am).length) := info_Wd am ham
  obtain ⟨B, hB⟩ : ∃ B, B = decide (am = (List.replicate 4 0)) := ⟨_, rfl⟩
  have HB : Hid (decide (am = (List.replicate 4 0)) = B) := hB.symm
  have HNO : Hid (¬ (0 ≤ ix ∧ ix < 1099511627776 ∧ 0 ≤ en ∧ en < 1099511627776 ∧ 0 ≤ tk ∧ tk < 64) → may ix en tk am = false) := fun h => decide_eq_false (fun q => h ⟨q.1, q.2.1, q.2.2.1, q.2.2.2.1, q.2.2.2.2.1, q.2.2.2.2.2.1⟩)
  clear hL hto ham
  by_cases hall : 0 ≤ ix ∧ ix < 1099511627776 ∧ 0 ≤ en ∧ en < 1099511627776 ∧ 0 ≤ tk ∧ tk < 64
  · have HY : Hid (may ix en tk am = !B) := by
      show _ = _
      unfold may
      rw [hB]
      cases hd : decide (am = List.replicate 4 0) with
      | true => exact decide_eq_false (fun q => q.2.2.2.2.2.2 (of_decide_eq_true hd))
      | false => exact decide_eq_true ⟨hall.1, hall.2.1, hall.2.2.1, hall.2.2.2.1, hall.2.2.2.2.1, hall.2.2.2.2.2, of_decide_eq_false hd⟩
    obtain ⟨h1, h2, h3, h4, h5, h6⟩ := hall
    have f1 : ¬ ix < 0 := by omega
    have f2 : ¬ (1099511627776 : Int) ≤ ix := by omega
    have f3 : ¬ en < 0 := by omega
    have f4 : ¬ (1099511627776 : Int) ≤ en := by omega
    have f5 : ¬ tk < 0 := by omega
    have f6 : ¬ (64 : Int) ≤ tk := by omega
    clear hB HNO h1 h2 h3 h4 h5 h6
    go_enter Tryz.func22, Tryz.ntmps22
    go_wp2_with (first
      | (refine wpList_boxG 39 rfl (.tmp 0) rfl L rfl ?_; intro X q1 q2 q3; rw [HL.out] at q1; have c0 := q1.cell 0 _ rfl; have c1 := q1.cell 1 _ rfl; have c2 := q1.cell 2 _ rfl; have RA : Hid (X.rangeAt w.heap.size 23 (vQ am)) := lf_ram HTO.out q1; have B1 : Hid (Below w.heap.size w X) := q2; clear q1 q2 q3; simp only [Act.put, List.setIfInBounds_toArray, List.set_cons_zero, List.set_cons_succ])
      | (refine wpList_load_w rfl 37 (.tmp 30) rfl w.heap.size 23 rfl (vQ am) _ RA.out Tryz.underlying37 rfl HI.out ?_; simp only [Act.put, List.setIfInBounds_toArray, List.set_cons_zero, List.set_cons_succ])
      | (refine wpList_neq_q rfl (.tmp 31) (.tmp 32) _ rfl am (List.replicate 4 0) HAM.out rfl rfl rfl (!B) (congrArg not HB.out) ?_; simp only [Act.put, List.setIfInBounds_toArray, List.set_cons_zero, List.set_cons_succ]))
    go_ret
    exact ⟨by first | (rw [HY.out]; rfl) | rw [HY.out] | simp [HY.out], B1.out⟩
  · have HF : Hid (may ix en tk am = false) := HNO.out hall
    clear hB HNO
    by_cases l0 : ix < 0
    · clear hall
      go_enter Tryz.func22, Tryz.ntmps22
      go_wp2_with (first
        | (refine wpList_boxG 39 rfl (.tmp 0) rfl L rfl ?_; intro X q1 q2 q3; rw [HL.out] at q1; have c0 := q1.cell 0 _ rfl; have c1 := q1.cell 1 _ rfl; have c2 := q1.cell 2 _ rfl; have RA : Hid (X.rangeAt w.heap.size 23 (vQ am)) := lf_ram HTO.out q1; have B1 : Hid (Below w.heap.size w X) := q2; clear q1 q2 q3; simp only [Act.put, List.setIfInBounds_toArray, List.set_cons_zero, List.set_cons_succ])
        | (refine wpList_load_w rfl 37 (.tmp 30) rfl w.heap.size 23 rfl (vQ am) _ RA.out Tryz.underlying37 rfl HI.out ?_; simp only [Act.put, List.setIfInBounds_toArray, List.set_cons_zero, List.set_cons_succ])
        | (refine wpList_neq_q rfl (.tmp 31) (.tmp 32) _ rfl am (List.replicate 4 0) HAM.out rfl rfl rfl (!B) (congrArg not HB.out) ?_; simp only [Act.put, List.setIfInBounds_toArray, List.set_cons_zero, List.set_cons_succ]))
      go_ret
      exact ⟨by rw [HF.out]; rfl, B1.out⟩
    by_cases u0 : (1099511627776 : Int) ≤ ix
    · clear hall
      go_enter Tryz.func22, Tryz.ntmps22
      go_wp2_with (first
        | (refine wpList_boxG 39 rfl (.tmp 0) rfl L rfl ?_; intro X q1 q2 q3; rw [HL.out] at q1; have c0 := q1.cell 0 _ rfl; have c1 := q1.cell 1 _ rfl; have c2 := q1.cell 2 _ rfl; have RA : Hid (X.rangeAt w.heap.size 23 (vQ am)) := lf_ram HTO.out q1; have B1 : Hid (Below w.heap.size w X) := q2; clear q1 q2 q3; simp only [Act.put, List.setIfInBounds_toArray, List.set_cons_zero, List.set_cons_succ])
        | (refine wpList_load_w rfl 37 (.tmp 30) rfl w.heap.size 23 rfl (vQ am) _ RA.out Tryz.underlying37 rfl HI.out ?_; simp only [Act.put, List.setIfInBounds_toArray, List.set_cons_zero, List.set_cons_succ])
        | (refine wpList_neq_q rfl (.tmp 31) (.tmp 32) _ rfl am (List.replicate 4 0) HAM.out rfl rfl rfl (!B) (congrArg not HB.out) ?_; simp only [Act.put, List.setIfInBounds_toArray, List.set_cons_zero, List.set_cons_succ]))
      go_ret
      exact ⟨by rw [HF.out]; rfl, B1.out⟩
    by_cases l1 : en < 0
    · clear hall
      go_enter Tryz.func22, Tryz.ntmps22
      go_wp2_with (first
        | (refine wpList_boxG 39 rfl (.tmp 0) rfl L rfl ?_; intro X q1 q2 q3; rw [HL.out] at q1; have c0 := q1.cell 0 _ rfl; have c1 := q1.cell 1 _ rfl; have c2 := q1.cell 2 _ rfl; have RA : Hid (X.rangeAt w.heap.size 23 (vQ am)) := lf_ram HTO.out q1; have B1 : Hid (Below w.heap.size w X) := q2; clear q1 q2 q3; simp only [Act.put, List.setIfInBounds_toArray, List.set_cons_zero, List.set_cons_succ])
        | (refine wpList_load_w rfl 37 (.tmp 30) rfl w.heap.size 23 rfl (vQ am) _ RA.out Tryz.underlying37 rfl HI.out ?_; simp only [Act.put, List.setIfInBounds_toArray, List.set_cons_zero, List.set_cons_succ])
        | (refine wpList_neq_q rfl (.tmp 31) (.tmp 32) _ rfl am (List.replicate 4 0) HAM.out rfl rfl rfl (!B) (congrArg not HB.out) ?_; simp only [Act.put, List.setIfInBounds_toArray, List.set_cons_zero, List.set_cons_succ]))
      go_ret
      exact ⟨by rw [HF.out]; rfl, B1.out⟩
    by_cases u1 : (1099511627776 : Int) ≤ en
    · clear hall
      go_enter Tryz.func22, Tryz.ntmps22
      go_wp2_with (first
        | (refine wpList_boxG 39 rfl (.tmp 0) rfl L rfl ?_; intro X q1 q2 q3; rw [HL.out] at q1; have c0 := q1.cell 0 _ rfl; have c1 := q1.cell 1 _ rfl; have c2 := q1.cell 2 _ rfl; have RA : Hid (X.rangeAt w.heap.size 23 (vQ am)) := lf_ram HTO.out q1; have B1 : Hid (Below w.heap.size w X) := q2; clear q1 q2 q3; simp only [Act.put, List.setIfInBounds_toArray, List.set_cons_zero, List.set_cons_succ])
        | (refine wpList_load_w rfl 37 (.tmp 30) rfl w.heap.size 23 rfl (vQ am) _ RA.out Tryz.underlying37 rfl HI.out ?_; simp only [Act.put, List.setIfInBounds_toArray, List.set_cons_zero, List.set_cons_succ])
        | (refine wpList_neq_q rfl (.tmp 31) (.tmp 32) _ rfl am (List.replicate 4 0) HAM.out rfl rfl rfl (!B) (congrArg not HB.out) ?_; simp only [Act.put, List.setIfInBounds_toArray, List.set_cons_zero, List.set_cons_succ]))
      go_ret
      exact ⟨by rw [HF.out]; rfl, B1.out⟩
    by_cases l2 : tk < 0
    · clear hall
      go_enter Tryz.func22, Tryz.ntmps22
      go_wp2_with (first
        | (refine wpList_boxG 39 rfl (.tmp 0) rfl L rfl ?_; intro X q1 q2 q3; rw [HL.out] at q1; have c0 := q1.cell 0 _ rfl; have c1 := q1.cell 1 _ rfl; have c2 := q1.cell 2 _ rfl; have RA : Hid (X.rangeAt w.heap.size 23 (vQ am)) := lf_ram HTO.out q1; have B1 : Hid (Below w.heap.size w X) := q2; clear q1 q2 q3; simp only [Act.put, List.setIfInBounds_toArray, List.set_cons_zero, List.set_cons_succ])
        | (refine wpList_load_w rfl 37 (.tmp 30) rfl w.heap.size 23 rfl (vQ am) _ RA.out Tryz.underlying37 rfl HI.out ?_; simp only [Act.put, List.setIfInBounds_toArray, List.set_cons_zero, List.set_cons_succ])
        | (refine wpList_neq_q rfl (.tmp 31) (.tmp 32) _ rfl am (List.replicate 4 0) HAM.out rfl rfl rfl (!B) (congrArg not HB.out) ?_; simp only [Act.put, List.setIfInBounds_toArray, List.set_cons_zero, List.set_cons_succ]))
      go_ret
      exact ⟨by rw [HF.out]; rfl, B1.out⟩
    by_cases u2 : (64 : Int) ≤ tk
    · clear hall
      go_enter Tryz.func22, Tryz.ntmps22
      go_wp2_with (first
        | (refine wpList_boxG 39 rfl (.tmp 0) rfl L rfl ?_; intro X q1 q2 q3; rw [HL.out] at q1; have c0 := q1.cell 0 _ rfl; have c1 := q1.cell 1 _ rfl; have c2 := q1.cell 2 _ rfl; have RA : Hid (X.rangeAt w.heap.size 23 (vQ am)) := lf_ram HTO.out q1; have B1 : Hid (Below w.heap.size w X) := q2; clear q1 q2 q3; simp only [Act.put, List.setIfInBounds_toArray, List.set_cons_zero, List.set_cons_succ])
        | (refine wpList_load_w rfl 37 (.tmp 30) rfl w.heap.size 23 rfl (vQ am) _ RA.out Tryz.underlying37 rfl HI.out ?_; simp only [Act.put, List.setIfInBounds_toArray, List.set_cons_zero, List.set_cons_succ])
        | (refine wpList_neq_q rfl (.tmp 31) (.tmp 32) _ rfl am (List.replicate 4 0) HAM.out rfl rfl rfl (!B) (congrArg not HB.out) ?_; simp only [Act.put, List.setIfInBounds_toArray, List.set_cons_zero, List.set_cons_succ]))
      go_ret
      exact ⟨by rw [HF.out]; rfl, B1.out⟩
    exact absurd ⟨by omega, by omega, by omega, by omega, by omega, by omega⟩ hall
theorem wm_new (w : World) : Calls Tryz.prog 27 #[] w fun e w' => e = .returned (.pointer (some ⟨w.heap.size, 0, none⟩)) ∧ Wm w w' w.heap.size [] :=
  (newWriter_any w).mono (fun _ _ ⟨q1, q2, q3⟩ => ⟨q1, none, 0, q2, (fun g e => by cases e), Nat.le_refl _, q3⟩)
theorem wm_byte (w0 : World) (P : Nat) (bs : List (BitVec 8)) (hl : bs.length ≤ 1000000) (x : BitVec 8) (y : Int) (hy : y = c x) (w : World) (hm : Wm w0 w P bs) : Calls Tryz.prog 28 #[.pointer (some ⟨P, 0, none⟩), .int .u8 y] w fun e w' => e = .returned (.tuple #[]) ∧ Wm w0 w' P (bs ++ [x]) := by
  obtain ⟨A, cap, hw, hf, hP, hB⟩ := hm
  refine (byte_any P A cap bs 0 (by omega) x y hy w hw).mono ?_
  rintro e w' ⟨rfl, hq⟩
  exact ⟨rfl, Wm.lays hf hP hB hq (wrB_in _ _ (by simp; omega)) (wrF_in _ _ (by simp; omega))⟩
theorem wm_number (w0 : World) (P : Nat) (bs : List (BitVec 8)) (hl : bs.length ≤ 1000000) (n : Int) (h0 : 0 ≤ n) (h1 : n < 9223372036854775808) (w : World) (hm : Wm w0 w P bs) : Calls Tryz.prog 29 #[.pointer (some ⟨P, 0, none⟩), .int .i64 n] w fun e w' => e = .returned (.tuple #[]) ∧ Wm w0 w' P (bs ++ nf n) := by
  obtain ⟨A, cap, hw, hf, hP, hB⟩ := hm
  refine (number_any P A cap bs 0 n h1 (by omega) w _ rfl hw).mono ?_
  rintro e w' ⟨rfl, ⟨A', cap', hw', hff⟩, hG⟩
  have hS : bs.length + (nf n).length ≤ 4194304 := by have := nf_len n; omega
  rw [nuB_in bs n h0 hS, nuF_in bs n h0 hS] at hw'
  rw [nuB_in bs n h0 hS] at hff
  exact ⟨rfl, Wm.on hf hP hB hw' hff hG⟩
theorem wm_address (w0 : World) (P : Nat) (bs : List (BitVec 8)) (hl : bs.length ≤ 1000000) (d : List (BitVec 8)) (hd : d.length = 20) (w : World) (hm : Wm w0 w P bs) : Calls Tryz.prog 30 #[.pointer (some ⟨P, 0, none⟩), .agg (vB d).toArray] w fun e w' => e = .returned (.tuple #[]) ∧ Wm w0 w' P (bs ++ d) := by
  obtain ⟨A, cap, hw, hf, hP, hB⟩ := hm
  refine (address_lays P A cap bs 0 (by omega) d hd w hw).mono ?_
  rintro e w' ⟨rfl, hq⟩
  exact ⟨rfl, Wm.lays hf hP hB hq (wrB_in _ _ (by omega)) (wrF_in _ _ (by omega))⟩
theorem wm_wide (w0 : World) (P : Nat) (bs : List (BitVec 8)) (hl : bs.length ≤ 1000000) (am : List Nat) (ham : am.length = 4) (hq4 : ∀ x ∈ am, x < 18446744073709551616) (w : World) (hm : Wm w0 w P bs) : Calls Tryz.prog 31 #[.pointer (some ⟨P, 0, none⟩), .agg (vQ am).toArray] w fun e w' => e = .returned (.tuple #[]) ∧ Wm w0 w' P (bs ++ wf am) := by
  obtain ⟨A, cap, hw, hf, hP, hB⟩ := hm
  obtain ⟨m0, m1, m2, m3, rfl⟩ : ∃ m0 m1 m2 m3, am = [m0, m1, m2, m3] := by
    rcases am with _ | ⟨m0, _ | ⟨m1, _ | ⟨m2, _ | ⟨m3, _ | ⟨m4, r⟩⟩⟩⟩⟩
    all_goals first | exact ⟨_, _, _, _, rfl⟩ | (simp at ham)
  have hS : bs.length + (wf [m0, m1, m2, m3]).length ≤ 4194304 := by have := wf_len [m0, m1, m2, m3]; omega
  refine (wide_any P A cap bs 0 m0 m1 m2 m3 (hq4 _ (by simp)) (hq4 _ (by simp)) (hq4 _ (by simp)) (hq4 _ (by simp)) _ rfl (by omega) w _ rfl hw).mono ?_
  rintro e w' ⟨rfl, hq, hG⟩
  exact ⟨rfl, Wm.lays hf hP hB (d := wf [m0, m1, m2, m3]) ⟨hq, hG⟩ (wrB_in _ _ hS) (wrF_in _ _ hS)⟩
theorem wm_done (w0 : World) (P : Nat) (bs : List (BitVec 8)) (hl : bs.length ≤ 1000000) (w : World) (hm : Wm w0 w P bs) : Calls Tryz.prog 32 #[.pointer (some ⟨P, 0, none⟩)] w fun e w' => ∃ A cap, e = .returned (.tuple #[.slice A bs.length cap, .int .i64 0]) ∧ Bw w' (.slice A bs.length cap) bs ∧ Fresh w0.heap.size (.slice A bs.length cap) ∧ Below w0.heap.size w0 w' := by
  obtain ⟨A, cap, hw, hf, hP, hB⟩ := hm
  refine (done_ok P A cap bs (by omega) w hw).mono ?_
  rintro e w' ⟨A', cap', q1, q2, q3, q4⟩
  exact ⟨A', cap', q1, q2, q3.more hB.size, hB.trans (q4.mono hB.size)⟩
theorem Wm.be {w0 w w' : World} {P : Nat} {bs : List (BitVec 8)} (h : Wm w0 w P bs) (k : Below w.heap.size w w') : Wm w0 w' P bs := by
  obtain ⟨A, cap, hw, hf, hP, hB⟩ := h
  exact ⟨A, cap, hw.be k, hf, hP, hB.trans (k.mono hB.size)⟩
/-- A leaf's bytes. -/
def lfb (ix en tk : Int) (rc : List (BitVec 8)) (am : List Nat) : List (BitVec 8) := [76#8] ++ nf ix ++ nf en ++ nf tk ++ rc ++ wf am
theorem may_in {ix en tk : Int} {am : List Nat} (h : may ix en tk am = true) : 0 ≤ ix ∧ ix < 1099511627776 ∧ 0 ≤ en ∧ en < 1099511627776 ∧ 0 ≤ tk ∧ tk < 64 := by
  have q := of_decide_eq_true h
  exact ⟨q.1, q.2.1, q.2.2.1, q.2.2.2.1, q.2.2.2.2.1, q.2.2.2.2.2.1⟩
theorem lfb_len (ix en tk : Int) (rc : List (BitVec 8)) (am : List Nat) (hto : rc.length = 20) : (lfb ix en tk rc am).length ≤ 153 := by
  have h1 := nf_len ix
  have h2 := nf_len en
  have h3 := nf_len tk
  have h4 := wf_len am
  unfold lfb
  simp only [List.length_append, List.length_singleton]
  omega
set_option maxRecDepth 100000 in
set_option maxHeartbeats 4000000 in
theorem bytes_no (ix en tk : Int) (rc : List (BitVec 8)) (am : List Nat) (hto : rc.length = 20) (ham : am.length = 4) (hm : may ix en tk am = false) (L : List Value) (hL : L = lf ix en tk rc am) (w : World) : Calls Tryz.prog 12 #[.agg L.toArray] w fun e w' => e = .returned (.tuple #[.slice none 0 0, .int .i64 110]) ∧ Below w.heap.size w w' := by
  have HM : Hid (∀ X, Calls Tryz.prog 22 #[.agg L.toArray] X fun e w' => e = .returned (.bool false) ∧ Below X.heap.size X w') := fun X => by have := mayBe_any ix en tk rc am hto ham L hL X; rwa [hm] at this
  have HI : Hid ((Tryz.prog.info? 39).map (·.size) = some L.length) := by rw [hL]; exact info_lf hto ham
  clear hL
  go_enter Tryz.func12, Tryz.ntmps12
  go_wp2_with (first
    | (refine wpList_boxG 39 rfl (.tmp 0) rfl L rfl ?_; intro X1 q1 q2 q3; have R1 : Hid (Row X1 w.heap.size L 39) := q1; have B1 : Hid (Below w.heap.size w X1) := q2; clear q1 q2 q3; simp only [Act.put, List.setIfInBounds_toArray, List.set_cons_zero, List.set_cons_succ])
    | (refine wpList_load_w rfl 39 (.tmp 1) rfl w.heap.size 0 rfl L _ R1.out.all Tryz.underlying39 rfl HI.out ?_; simp only [Act.put, List.setIfInBounds_toArray, List.set_cons_zero, List.set_cons_succ])
    | (go_at_call 22; refine Calls.mono (HM.out X1) ?_; rintro e X2 ⟨rfl, q⟩; have B2 : Hid (Below w.heap.size w X2) := B1.out.trans (q.mono B1.out.size); clear q))
  go_ret2
  exact ⟨rfl, B2.out⟩
set_option maxRecDepth 100000 in
set_option maxHeartbeats 4000000 in
theorem bytes_ok (ix en tk : Int) (rc : List (BitVec 8)) (am : List Nat) (hto : rc.length = 20) (ham : am.length = 4) (hq4 : ∀ x ∈ am, x < 18446744073709551616) (hm : may ix en tk am = true) (L : List Value) (hL : L = lf ix en tk rc am) (w : World) : Calls Tryz.prog 12 #[.agg L.toArray] w fun e w' => ∃ A n cap, n = (lfb ix en tk rc am).length ∧ e = .returned (.tuple #[.slice A n cap, .int .i64 0]) ∧ Bw w' (.slice A n cap) (lfb ix en tk rc am) ∧ Fresh w.heap.size (.slice A n cap) ∧ Below w.heap.size w w' := by
  have HM : Hid (∀ X, Calls Tryz.prog 22 #[.agg L.toArray] X fun e w' => e = .returned (.bool true) ∧ Below X.heap.size X w') := fun X => by have := mayBe_any ix en tk rc am hto ham L hL X; rwa [hm] at this
  have HI : Hid ((Tryz.prog.info? 39).map (·.size) = some L.length) := by rw [hL]; exact info_lf hto ham
  have HIA : Hid ((Tryz.prog.info? 34).map (·.size) = some (vB rc).length) := info_Ad rc hto
  have HIW : Hid ((Tryz.prog.info? 37).map (·.size) = some (vQ am).length) := info_Wd am ham
  have HL : Hid (L = lf ix en tk rc am) := hL
  have HTO : Hid (rc.length = 20) := hto
  have HAM : Hid (am.length = 4) := ham
  have HQ : Hid (∀ x ∈ am, x < 18446744073709551616) := hq4
  have HIN : Hid (0 ≤ ix ∧ ix < 1099511627776 ∧ 0 ≤ en ∧ en < 1099511627776 ∧ 0 ≤ tk ∧ tk < 64) := may_in hm
  clear hL hto ham hq4 hm
  go_enter Tryz.func12, Tryz.ntmps12
  go_upto_region 3 with (first
    | (refine wpList_boxG 39 rfl (.tmp 0) rfl L rfl ?_; intro X1 q1 q2 q3; have R1 : Hid (Row X1 w.heap.size L 39) := q1; have B1 : Hid (Below w.heap.size w X1) := q2; clear q1 q2 q3; simp only [Act.put, List.setIfInBounds_toArray, List.set_cons_zero, List.set_cons_succ])
    | (refine wpList_load_w rfl 39 (.tmp 1) rfl w.heap.size 0 rfl L _ R1.out.all Tryz.underlying39 rfl HI.out ?_; simp only [Act.put, List.setIfInBounds_toArray, List.set_cons_zero, List.set_cons_succ])
    | (go_at_call 22; refine Calls.mono (HM.out X1) ?_; rintro e X2 ⟨rfl, q⟩; have R2 : Hid (Row X2 w.heap.size L 39) := Row.below R1.out q R1.out.lt; have B2 : Hid (Below w.heap.size w X2) := B1.out.trans (q.mono B1.out.size); clear q))
  obtain ⟨b, hb⟩ : ∃ b, b = w.heap.size := ⟨_, rfl⟩
  have HB0 : Hid (b = w.heap.size) := hb
  have hR2 := R2.out
  rw [HL.out] at hR2
  have hlt : b < X2.heap.size := by rw [hb]; exact hR2.lt
  rw [← hb] at hR2 ⊢
  have RL : Hid (∀ Y, Below X2.heap.size X2 Y → Row Y b (lf ix en tk rc am) 39) := fun Y k => Row.below hR2 k hlt
  obtain ⟨P, hP⟩ : ∃ P, P = X2.heap.size := ⟨_, rfl⟩
  have HP : Hid (P = X2.heap.size) := hP
  have LN : Hid (([76#8] : List (BitVec 8)).length ≤ 1000000 ∧ ([76#8] ++ nf ix).length ≤ 1000000 ∧ ([76#8] ++ nf ix ++ nf en).length ≤ 1000000 ∧ ([76#8] ++ nf ix ++ nf en ++ nf tk).length ≤ 1000000 ∧ ([76#8] ++ nf ix ++ nf en ++ nf tk ++ rc).length ≤ 1000000 ∧ (lfb ix en tk rc am).length ≤ 1000000) := by
    have h1 := nf_len ix
    have h2 := nf_len en
    have h3 := nf_len tk
    have h4 := lfb_len ix en tk rc am HTO.out
    have h5 := HTO.out
    simp only [List.length_append, List.length_singleton]
    refine ⟨?_, ?_, ?_, ?_, ?_, ?_⟩ <;> omega
  clear hb hP hR2 hlt R2 R1 B1 HM HL HI
  go_upto_region 4 with (go_at_call 27; refine Calls.mono (wm_new X2) ?_; rintro e X3 ⟨rfl, q⟩; have M3 : Hid (Wm X2 X3 P []) := (by rw [HP.out]; exact q); clear q; rw [← HP.out])
  go_upto_region 5 with (go_at_call 28; refine Calls.mono (wm_byte X2 P [] (Nat.zero_le _) 76#8 76 rfl X3 M3.out) ?_; rintro e X4 ⟨rfl, q⟩; have M4 : Hid (Wm X2 X4 P [76#8]) := q; have c0 := (RL.out X4 q.below).cell 0 _ rfl; clear q M3)
  go_upto_region 6 with (go_at_call 29; refine Calls.mono (wm_number X2 P [76#8] LN.out.1 ix HIN.out.1 (by have := HIN.out.2.1; omega) X4 M4.out) ?_; rintro e X5 ⟨rfl, q⟩; have M5 : Hid (Wm X2 X5 P ([76#8] ++ nf ix)) := q; have c1 := (RL.out X5 q.below).cell 1 _ rfl; clear q M4 c0)
  go_upto_region 7 with (go_at_call 29; refine Calls.mono (wm_number X2 P ([76#8] ++ nf ix) LN.out.2.1 en HIN.out.2.2.1 (by have := HIN.out.2.2.2.1; omega) X5 M5.out) ?_; rintro e X6 ⟨rfl, q⟩; have M6 : Hid (Wm X2 X6 P ([76#8] ++ nf ix ++ nf en)) := q; have c2 := (RL.out X6 q.below).cell 2 _ rfl; clear q M5 c1)
  go_upto_region 8 with (go_at_call 29; refine Calls.mono (wm_number X2 P ([76#8] ++ nf ix ++ nf en) LN.out.2.2.1 tk HIN.out.2.2.2.2.1 (by have := HIN.out.2.2.2.2.2; omega) X6 M6.out) ?_; rintro e X7 ⟨rfl, q⟩; have M7 : Hid (Wm X2 X7 P ([76#8] ++ nf ix ++ nf en ++ nf tk)) := q; have RT : Hid (X7.rangeAt b 3 (vB rc)) := lf_rto (RL.out X7 q.below); clear q M6 c2)
  go_upto_region 9 with (first
    | (refine wpList_load_w rfl 34 (.tmp 24) rfl b 3 rfl (vB rc) _ RT.out Tryz.underlying34 rfl HIA.out ?_; simp only [Act.put, List.setIfInBounds_toArray, List.set_cons_zero, List.set_cons_succ])
    | (go_at_call 30; refine Calls.mono (wm_address X2 P ([76#8] ++ nf ix ++ nf en ++ nf tk) LN.out.2.2.2.1 rc HTO.out X7 M7.out) ?_; rintro e X8 ⟨rfl, q⟩; have M8 : Hid (Wm X2 X8 P ([76#8] ++ nf ix ++ nf en ++ nf tk ++ rc)) := q; have RA : Hid (X8.rangeAt b 23 (vQ am)) := lf_ram HTO.out (RL.out X8 q.below); clear q M7 RT))
  go_upto_region 10 with (first
    | (refine wpList_load_w rfl 37 (.tmp 28) rfl b 23 rfl (vQ am) _ RA.out Tryz.underlying37 rfl HIW.out ?_; simp only [Act.put, List.setIfInBounds_toArray, List.set_cons_zero, List.set_cons_succ])
    | (go_at_call 31; refine Calls.mono (wm_wide X2 P ([76#8] ++ nf ix ++ nf en ++ nf tk ++ rc) LN.out.2.2.2.2.1 am HAM.out HQ.out X8 M8.out) ?_; rintro e X9 ⟨rfl, q⟩; have M9 : Hid (Wm X2 X9 P (lfb ix en tk rc am)) := q; clear q M8 RA))
  obtain ⟨bs, hbs⟩ : ∃ bs, bs = lfb ix en tk rc am := ⟨_, rfl⟩
  have HBS : Hid (bs = lfb ix en tk rc am) := hbs
  rw [← hbs] at M9 LN
  obtain ⟨n, hn⟩ : ∃ n, n = bs.length := ⟨_, rfl⟩
  have HN : Hid (n = bs.length) := hn
  clear hbs hn
  go_wp2_with (go_at_call 32; refine Calls.mono (wm_done X2 P bs LN.out.2.2.2.2.2 X9 M9.out) ?_; rintro e Y ⟨A, cap, rfl, q1, q2, q3⟩; rw [← HN.out] at q1 q2 ⊢; have E1 : Hid (Bw Y (.slice A n cap) bs) := q1; have E2 : Hid (Fresh X2.heap.size (.slice A n cap)) := q2; have E3 : Hid (Below X2.heap.size X2 Y) := q3; clear q1 q2 q3)
  go_ret2
  exact ⟨A, n, cap, by rw [HN.out, HBS.out], rfl, by rw [← HBS.out]; exact E1.out, E2.out.more B2.out.size, B2.out.trans (E3.out.mono B2.out.size)⟩

end Go.Proofs.YtbfahgdienppoaaGreatDoor
