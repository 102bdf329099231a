/-
  laws of the walk, and the writer's laws: of no law's own.
-/
import Derived.Test.YtdicgenhfmhklaaGreatDoorXWb
import Derived.Test.YtdicgenhfmhklaaGreatDoorXAx
import Derived.Test.YtdicgenhfmhklaaGreatDoorXLaw2
import Derived.Test.YtdicgenhfmhklaaGreatDoorLeK
import Derived.Test.YtdicgenhfmhklaaGreatDoorXRe
import Derived.BigQuiet

namespace Go.Proofs.YtdicgenhfmhklaaGreatDoor
open Go Go.RowKit
open Sha

set_option maxRecDepth 100000 in
set_option maxHeartbeats 1000000 in
theorem done_shut (P : Nat) (v : Value) (f : Int) (hf : ¬ f = 0) (w : World) (h : Row w P [v, .int .i64 f] 95) :
    Calls Tryz.prog 36 #[.pointer (some ⟨P, 0, none⟩)] w fun e w' => e = .returned (.tuple #[.slice none 0 0, .int .i64 f]) ∧ ∃ m, w' = w.drewN m := by
  have g1 := h.cell 1 _ rfl
  have hb : (f == 0) = false := by simp [hf]
  clear h
  go_enter Tryz.func36, Tryz.ntmps36
  go_wp2
  go_region
  all_goals
    go_wp2
    go_ret2
    exact ⟨rfl, 1, rfl⟩
theorem drew_below (w : World) (m : Nat) : Below w.heap.size w (w.drewN m) := ⟨rfl, rfl, rfl, Nat.le_refl _, fun _ _ => rfl⟩
theorem done_any (P : Nat) (A : Option Addr) (cap : Nat) (bs : List (BitVec 8)) (f : Int) (hl : bs.length ≤ 4194304) (w : World) (hw : Wr w P A cap bs f) :
    Calls Tryz.prog 36 #[.pointer (some ⟨P, 0, none⟩)] w fun e w' => (∃ A' n c, e = .returned (.tuple #[.slice A' n c, .int .i64 f])) ∧ Below w.heap.size w w' := by
  by_cases hf : f = 0
  · subst hf
    refine (done_ok P A cap bs (by omega) w hw).mono ?_
    rintro e w' ⟨A', c', rfl, _, _, hb⟩
    exact ⟨⟨_, _, _, rfl⟩, hb⟩
  · refine (done_shut P _ f hf w hw.1).mono ?_
    rintro e w' ⟨rfl, m, rfl⟩
    exact ⟨⟨_, _, _, rfl⟩, drew_below w m⟩

/-- A writer in memory made behind w0. -/
structure Wk (w0 w : World) (P : Nat) (A : Option Addr) (cap : Nat) (s : List (BitVec 8) × Int) : Prop where
  wr : Wr w P A cap s.1 s.2
  fw : Fresh w0.heap.size (.slice A s.1.length cap)
  hP : w0.heap.size ≤ P
  len : s.1.length ≤ 4194304
  below : Below w0.heap.size w0 w
theorem Wk.be {w0 w w' : World} {P : Nat} {A : Option Addr} {cap : Nat} {s : List (BitVec 8) × Int} (h : Wk w0 w P A cap s) (k : Below w.heap.size w w') : Wk w0 w' P A cap s := ⟨h.wr.be k, h.fw, h.hP, h.len, h.below.trans (k.mono h.below.size)⟩
theorem Wk.num {w0 w w' : World} {P : Nat} {A A' : Option Addr} {cap cap' : Nat} {s : List (BitVec 8) × Int} {n : Int} (h : Wk w0 w P A cap s)
    (hw : Wr w' P A' cap' (nuB s.1 s.2 n) (nuF s.1 s.2 n)) (hf : Frm (.slice A s.1.length cap) w.heap.size (.slice A' (nuB s.1 s.2 n).length cap')) (hG : Gro (fun g => g = P ∨ (Value.slice A s.1.length cap).ownBlock = some g) w w') :
    Wk w0 w' P A' cap' (nuB s.1 s.2 n, nuF s.1 s.2 n) where
  wr := hw
  fw := fun g e => by
    rcases hf g e with q | q
    · exact h.fw g q
    · exact Nat.le_trans h.below.size q
  hP := h.hP
  len := nu_len _ _ _ h.len
  below := h.below.trans (hG.to_below h.below.size (fun k q => by
    rcases q with q | q
    · rw [q]; exact h.hP
    · exact h.fw k q))

end Go.Proofs.YtdicgenhfmhklaaGreatDoor

namespace Go.Proofs.YtdicgenhfmhklaaGreatDoor
open Go Go.RowKit
open Sha

theorem info_all_u8 : (Tryz.prog.info? 5).map (fun i => (i.zero, i.size, i.bytes)) = some (some (.int .u8 0), 1, 1) := by kernel_rfl
theorem made_bytes (n : Nat) : madeCells (Value.int IntKind.u8 0).cells (n * 1) = (vB (List.replicate n 0#8)).toArray := by
  apply Array.ext'
  rw [show (Value.int IntKind.u8 0).cells = #[Value.int IntKind.u8 0] from rfl, toList_madeCells_one]
  simp [vB, c]
section
variable {ops : Array Oper} {rest : List Oper} {op : Oper} {a : Act} {w : World} {Q : Exit → Act → World → Prop}
/-- make of n bytes. -/
theorem wpList_make1 (hgd : op.guard = none) (x y : Operand) (ho : op.op = .makeSlice 54 x y) (n : Nat) (l l' : Int) (hl : l = (n : Int)) (hl' : l' = (n : Int)) (hx : a.eval x = .int .i64 l) (hy : a.eval y = .int .i64 l') (hn : n ≤ 281474976710656)
    (h : ∀ W, Row W w.heap.size (vB (List.replicate n 0#8)) 5 → Below w.heap.size w W → W.heap.size = w.heap.size + 1 → wpList Tryz.prog ops Q rest (a.put op.dst (.slice (some ⟨w.heap.size, 0, none⟩) n n)) W) : wpList Tryz.prog ops Q (op :: rest) a w :=
  wpList_plain hgd fun _ hK => by
    subst hl; subst hl'
    obtain ⟨i, hi0, hz, hs, hb⟩ : ∃ i, Tryz.prog.info? 5 = some i ∧ i.zero = some (.int .u8 0) ∧ i.size = 1 ∧ i.bytes = 1 := by
      have hi := info_all_u8
      cases hq : Tryz.prog.info? 5 with
      | none => rw [hq] at hi; cases hi
      | some i =>
        rw [hq] at hi
        simp only [Option.map_some, Option.some.injEq, Prod.mk.injEq] at hi
        exact ⟨i, rfl, hi.1, hi.2.1, hi.2.2⟩
    have hr := run_make (P := Tryz.prog) w 54 5 i (.int .u8 0) Tryz.underlying54 hi0 hz .i64 .i64 (n : Int) (n : Int) (by omega) (by omega) (by rw [hb]; omega) (by omega)
    rw [hs, Int.toNat_natCast, made_bytes] at hr
    unfold Oper.wp execOp
    simp only [ho, hx, hy, Sem.run_bind, hr, Result.andThen_ok, Sem.run_pure, Oper.upon_value]
    exact hK _ _ (h _ (Row.new' rfl rfl) ((Below.refl _ _).alloc (Nat.le_refl _) _) (by simp))
end
theorem Wk.beh {w0 w w' : World} {P : Nat} {A : Option Addr} {cap : Nat} {s : List (BitVec 8) × Int} {d : List (BitVec 8)} (h : Wk w0 w P A cap s) (k : Beh w w' P A cap s.1 s.2 d) :
    ∃ A' cap', Wk w0 w' P A' cap' (wrB s.1 s.2 d, wrF s.1 s.2 d) := by
  obtain ⟨⟨A', cap', hw, hf⟩, hG⟩ := k
  refine ⟨A', cap', hw, fun g e => ?_, h.hP, ?_, h.below.trans (hG.to_below h.below.size (fun k q => ?_))⟩
  · rcases hf g e with q | q
    · exact h.fw g q
    · exact Nat.le_trans h.below.size q
  · show (wrB s.1 s.2 d).length ≤ _
    have := h.len
    unfold wrB
    split
    · split
      · rw [List.length_append]; omega
      · simp
    · exact this
  · rcases q with q | q
    · rw [q]; exact h.hP
    · exact h.fw k q
theorem wr_more {bs d : List (BitVec 8)} {f : Int} (hf : f = 0) (h : bs.length + d.length ≤ 4194304) : wrF bs f d = 0 ∧ (wrB bs f d).length = bs.length + d.length := by
  unfold wrF wrB
  rw [if_pos hf, if_pos h, if_pos hf, if_pos h, List.length_append]
  exact ⟨rfl, rfl⟩
theorem wr_full {bs d : List (BitVec 8)} {f : Int} (hf : f = 0) (h : 4194304 < bs.length + d.length) : wrF bs f d = 30 := by
  unfold wrF
  rw [if_pos hf, if_neg (by omega)]

end Go.Proofs.YtdicgenhfmhklaaGreatDoor

namespace Go.Proofs.YtdicgenhfmhklaaGreatDoor
open Go Go.RowKit
open Sha

/-- A reader's first fault. -/
def f0 (bs : List (BitVec 8)) : Int := if 4194304 < bs.length then 30 else 0

set_option maxRecDepth 100000 in
set_option maxHeartbeats 1000000 in
theorem newReader_g (B : Option Addr) (n cb : Nat) (bs : List (BitVec 8)) (hb : bs.length = n) (hl : n ≤ 4194304) (hnil : B = none → cb = 0) (w : World) (hv : SlAt w (.slice B n cb) bs) :
    Calls Tryz.prog 55 #[.slice B n cb] w fun e w' => ∃ P A cap, e = .returned (.pointer (some ⟨P, 0, none⟩)) ∧ Rg w' P A cap bs 0 ∧ w.heap.size ≤ P ∧ Fresh w.heap.size (.slice A bs.length cap) ∧ Below w.heap.size w w' := by
  subst hb
  have h1 : ¬ (4194304 : Int) < (bs.length : Int) := by omega
  have HV : Hid _ := hv
  have HL : Hid (([] : List (BitVec 8)).length + bs.length ≤ 140737488355328) := by show 0 + _ ≤ _; omega
  have HN : Hid (B = none → cb = 0) := hnil
  have HLE : Hid (bs.length ≤ 4194304) := hl
  clear hv hl hnil
  go_enter Tryz.func55, Tryz.ntmps55
  go_wp2_with (refine wpList_app rfl _ (.tmp 8) rfl (.slice none 0 0) [] bs rfl (Bw.nil w) B bs.length cb rfl rfl HV.out HN.out HL.out ?_; intro v' w' q1 q2 q3; obtain ⟨Ax, cx, ex, _⟩ := Bw.form q1; subst ex; rw [List.nil_append] at q1 q3; have Q1 : Hid _ := q1; have Q2 : Hid _ := q2; have Q3 : Hid _ := q3; clear q1 q2 q3; simp only [Act.put, List.setIfInBounds_toArray, List.set_cons_zero, List.set_cons_succ, List.nil_append])
  go_ret
  have bB : Below w.heap.size w w' := (Below.refl _ _).grown Q2.out (Nat.le_refl _) (fun k hk => by simp [Value.ownBlock] at hk)
  have bA : Below w'.heap.size w' (w'.alloc (Obj.cells #[Value.slice Ax bs.length cx, Value.int IntKind.i64 0, Value.int IntKind.i64 0] 120)) := (Below.refl _ _).alloc (Nat.le_refl _) _
  refine ⟨w'.heap.size, rfl, Ax, cx, ⟨Row.new' rfl rfl, Bw.be Q1.out bA, Nat.zero_le _, HLE.out⟩, bB.size, fun g e => ?_, bB.trans (bA.mono bB.size)⟩
  rcases Q3.out with q | q
  · rw [e] at q; simp [Value.ownBlock] at q
  · rw [e] at q
    simp only [Option.some.injEq] at q
    omega

theorem newReader_x (B : Option Addr) (n cb : Nat) (bs : List (BitVec 8)) (hb : bs.length = n) (hnil : B = none → cb = 0) (w : World) (hv : SlAt w (.slice B n cb) bs) :
    Calls Tryz.prog 55 #[.slice B n cb] w fun e w' => ∃ P A cap, e = .returned (.pointer (some ⟨P, 0, none⟩)) ∧ Rx w' P A cap bs 0 (f0 bs) ∧ w.heap.size ≤ P ∧ Fresh w.heap.size (.slice A bs.length cap) ∧ Below w.heap.size w w' := by
  unfold f0
  by_cases hl : 4194304 < bs.length
  · rw [if_pos hl]
    refine (newReader_long B n cb (by omega) w).mono ?_
    rintro e w' ⟨rfl, h1, h2⟩
    exact ⟨w.heap.size, none, 0, rfl, .inr ⟨by decide, h1⟩, Nat.le_refl _, (fun g e => by simp [Value.ownBlock] at e), h2⟩
  · rw [if_neg hl]
    refine (newReader_g B n cb bs hb (by omega) hnil w hv).mono ?_
    rintro e w' ⟨P, A, cap, rfl, h1, h2, h3, h4⟩
    exact ⟨P, A, cap, rfl, .inl ⟨rfl, h1⟩, h2, h3, h4⟩

end Go.Proofs.YtdicgenhfmhklaaGreatDoor

namespace Go.Proofs.YtdicgenhfmhklaaGreatDoor
open Go Go.RowKit
open Sha

theorem info_Wd (am : List Nat) (h : am.length = 4) : (Tryz.prog.info? 38).map (·.size) = some (vQ am).length := by rw [vQ_len, h]; kernel_rfl
section
variable {P : Program} {ops : Array Oper} {rest : List Oper} {op : Oper} {a : Act} {w : World} {Q : Exit → Act → World → Prop}
theorem wpList_storeL (hgd : op.guard = none) (ty : TypeId) (x y : Operand) (ho : op.op = .store ty x y) (b : Nat) (L M : List Value) (t : TypeId) (hx : a.eval x = .pointer (some ⟨b, 0, none⟩)) (hy : a.eval y = .agg L.toArray) (r : Row w b M t) (hl : L.length = M.length) (hi : (P.info? ty).map (·.size) = some L.length) (h1 : L.toArray.all (·.oneCell') = true)
    (h : ∀ X, X = w.setCells b 0 L → Row X b L t → wpList P ops Q rest (a.put op.dst undef) X) : wpList P ops Q (op :: rest) a w :=
  wpList_store_mid hgd ty x y ho b 0 L.toArray hx hy (r.there 0 _ (by rw [List.size_toArray, hl, Nat.zero_add]; exact Nat.le_refl _)) (by rw [hi, List.size_toArray]) h1 (h _ rfl (r.over hl))
theorem wpList_boxG (ty : TypeId) (hgd : op.guard = none) (x : Operand) (ho : op.op = .box ty x) (L : List Value) (hx : a.eval x = .agg L.toArray) (h : ∀ X, Row X w.heap.size L ty → Below w.heap.size w X → X.heap.size = w.heap.size + 1 → wpList P ops Q rest (a.put op.dst (.pointer (some ⟨w.heap.size, 0, none⟩))) X) : wpList P ops Q (op :: rest) a w :=
  wpList_plain hgd fun _ hK => by
    unfold Oper.wp execOp
    simp only [ho, hx]
    go_simp
    exact hK _ _ (h _ (Row.new' rfl rfl) ((Below.refl _ _).alloc (Nat.le_refl _) _) (by simp))
theorem wpList_set1 (hgd : op.guard = none) (ty : TypeId) (x y : Operand) (ho : op.op = .store ty x y)
    (b i : Nat) (v : Value) (cs : List Value) (t : TypeId) (hx : a.eval x = .pointer (some ⟨b, i, none⟩)) (hy : a.eval y = v) (hcs : v.cells = #[v]) (r : Row w b cs t) (hl : i < cs.length) (hi : (Tryz.prog.info? ty).map (·.size) = some 1) (h1 : v.oneCell' = true)
    (h : ∀ X, Row X b (cs.set i v) t → Gro (· = b) w X → X.heap.size = w.heap.size → wpList Tryz.prog ops Q rest (a.put op.dst undef) X) : wpList Tryz.prog ops Q (op :: rest) a w :=
  wpList_store1 hgd ty x y ho b i v hx hy hcs (r.there i 1 (by omega)) hi h1 (h _ (r.set i v) ((Gro.refl _ _).set b i v rfl) (by simp))
theorem gro_over {R : Nat → Prop} {w W : World} (h : Gro R w W) (b o : Nat) (vs : List Value) (hb : R b) : Gro R w (W.setCells b o vs) := by
  have q := below_setCells (Below.refl 0 W) (b := b) (o := o) (Nat.zero_le _) vs
  exact ⟨q.os.trans h.os, q.tape.trans h.tape, q.output.trans h.output, Nat.le_trans h.size q.size, fun k hk hn => (heap_sets W b o vs k (fun e => hn (e ▸ hb))).trans (h.block k hk hn)⟩
/-- Part of a struct, stored. -/
theorem wpList_storeM (hgd : op.guard = none) (ty : TypeId) (x y : Operand) (ho : op.op = .store ty x y) (b o : Nat) (vs cs : List Value) (t : TypeId) (hx : a.eval x = .pointer (some ⟨b, o, none⟩)) (hy : a.eval y = .agg vs.toArray) (r : Row w b cs t) (hl : o + vs.length ≤ cs.length) (hi : (Tryz.prog.info? ty).map (·.size) = some vs.length) (h1 : vs.toArray.all (·.oneCell') = true)
    (h : ∀ X, Row X b (cs.take o ++ vs ++ cs.drop (o + vs.length)) t → Gro (· = b) w X → wpList Tryz.prog ops Q rest (a.put op.dst undef) X) : wpList Tryz.prog ops Q (op :: rest) a w :=
  wpList_store_mid hgd ty x y ho b o vs.toArray hx hy (r.there o _ (by rw [List.size_toArray]; exact hl)) (by rw [hi, List.size_toArray]) h1 (h _ (Row.setCells o vs r hl) (gro_over (Gro.refl _ _) b o vs rfl))
end
theorem wm_new (w : World) : Calls Tryz.prog 31 #[] w fun e w' => e = .returned (.pointer (some ⟨w.heap.size, 0, none⟩)) ∧ Wm w w' w.heap.size [] :=
  (newWriter_any w).mono (fun _ _ ⟨q1, q2, q3⟩ => ⟨q1, none, 0, q2, (fun g e => by cases e), Nat.le_refl _, q3⟩)
theorem wm_byte (w0 : World) (P : Nat) (bs : List (BitVec 8)) (hl : bs.length ≤ 1000000) (x : BitVec 8) (y : Int) (hy : y = c x) (w : World) (hm : Wm w0 w P bs) : Calls Tryz.prog 32 #[.pointer (some ⟨P, 0, none⟩), .int .u8 y] w fun e w' => e = .returned (.tuple #[]) ∧ Wm w0 w' P (bs ++ [x]) := by
  obtain ⟨A, cap, hw, hf, hP, hB⟩ := hm
  refine (byte_any P A cap bs 0 (by omega) x y hy w hw).mono ?_
  rintro e w' ⟨rfl, hq⟩
  exact ⟨rfl, Wm.lays hf hP hB hq (wrB_in _ _ (by simp; omega)) (wrF_in _ _ (by simp; omega))⟩
theorem wm_number (w0 : World) (P : Nat) (bs : List (BitVec 8)) (hl : bs.length ≤ 1000000) (n : Int) (h0 : 0 ≤ n) (h1 : n < 9223372036854775808) (w : World) (hm : Wm w0 w P bs) : Calls Tryz.prog 33 #[.pointer (some ⟨P, 0, none⟩), .int .i64 n] w fun e w' => e = .returned (.tuple #[]) ∧ Wm w0 w' P (bs ++ nf n) := by
  obtain ⟨A, cap, hw, hf, hP, hB⟩ := hm
  refine (number_any P A cap bs 0 n h1 (by omega) w _ rfl hw).mono ?_
  rintro e w' ⟨rfl, ⟨A', cap', hw', hff⟩, hG⟩
  have hS : bs.length + (nf n).length ≤ 4194304 := by have := nf_len n; omega
  rw [nuB_in bs n h0 hS, nuF_in bs n h0 hS] at hw'
  rw [nuB_in bs n h0 hS] at hff
  exact ⟨rfl, Wm.on hf hP hB hw' hff hG⟩
theorem wm_address (w0 : World) (P : Nat) (bs : List (BitVec 8)) (hl : bs.length ≤ 1000000) (d : List (BitVec 8)) (hd : d.length = 20) (w : World) (hm : Wm w0 w P bs) : Calls Tryz.prog 34 #[.pointer (some ⟨P, 0, none⟩), .agg (vB d).toArray] w fun e w' => e = .returned (.tuple #[]) ∧ Wm w0 w' P (bs ++ d) := by
  obtain ⟨A, cap, hw, hf, hP, hB⟩ := hm
  refine (address_lays P A cap bs 0 (by omega) d hd w hw).mono ?_
  rintro e w' ⟨rfl, hq⟩
  exact ⟨rfl, Wm.lays hf hP hB hq (wrB_in _ _ (by omega)) (wrF_in _ _ (by omega))⟩
theorem wm_wide (w0 : World) (P : Nat) (bs : List (BitVec 8)) (hl : bs.length ≤ 1000000) (am : List Nat) (ham : am.length = 4) (hq4 : ∀ x ∈ am, x < 18446744073709551616) (w : World) (hm : Wm w0 w P bs) : Calls Tryz.prog 35 #[.pointer (some ⟨P, 0, none⟩), .agg (vQ am).toArray] w fun e w' => e = .returned (.tuple #[]) ∧ Wm w0 w' P (bs ++ wf am) := by
  obtain ⟨A, cap, hw, hf, hP, hB⟩ := hm
  obtain ⟨m0, m1, m2, m3, rfl⟩ : ∃ m0 m1 m2 m3, am = [m0, m1, m2, m3] := by
    rcases am with _ | ⟨m0, _ | ⟨m1, _ | ⟨m2, _ | ⟨m3, _ | ⟨m4, r⟩⟩⟩⟩⟩
    all_goals first | exact ⟨_, _, _, _, rfl⟩ | (simp at ham)
  have hS : bs.length + (wf [m0, m1, m2, m3]).length ≤ 4194304 := by have := wf_len [m0, m1, m2, m3]; omega
  refine (wide_any P A cap bs 0 m0 m1 m2 m3 (hq4 _ (by simp)) (hq4 _ (by simp)) (hq4 _ (by simp)) (hq4 _ (by simp)) _ rfl (by omega) w _ rfl hw).mono ?_
  rintro e w' ⟨rfl, hq, hG⟩
  exact ⟨rfl, Wm.lays hf hP hB (d := wf [m0, m1, m2, m3]) ⟨hq, hG⟩ (wrB_in _ _ hS) (wrF_in _ _ hS)⟩
theorem wm_done (w0 : World) (P : Nat) (bs : List (BitVec 8)) (hl : bs.length ≤ 1000000) (w : World) (hm : Wm w0 w P bs) : Calls Tryz.prog 36 #[.pointer (some ⟨P, 0, none⟩)] w fun e w' => ∃ A cap, e = .returned (.tuple #[.slice A bs.length cap, .int .i64 0]) ∧ Bw w' (.slice A bs.length cap) bs ∧ Fresh w0.heap.size (.slice A bs.length cap) ∧ Below w0.heap.size w0 w' := by
  obtain ⟨A, cap, hw, hf, hP, hB⟩ := hm
  refine (done_ok P A cap bs (by omega) w hw).mono ?_
  rintro e w' ⟨A', cap', q1, q2, q3, q4⟩
  exact ⟨A', cap', q1, q2, q3.more hB.size, hB.trans (q4.mono hB.size)⟩
theorem Wm.be {w0 w w' : World} {P : Nat} {bs : List (BitVec 8)} (h : Wm w0 w P bs) (k : Below w.heap.size w w') : Wm w0 w' P bs := by
  obtain ⟨A, cap, hw, hf, hP, hB⟩ := h
  exact ⟨A, cap, hw.be k, hf, hP, hB.trans (k.mono hB.size)⟩

end Go.Proofs.YtdicgenhfmhklaaGreatDoor
