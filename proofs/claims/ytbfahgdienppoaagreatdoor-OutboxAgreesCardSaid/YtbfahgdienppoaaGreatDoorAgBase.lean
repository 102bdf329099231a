/-
  what OutboxAgrees stands on, together.
-/
import Derived.Test.YtbfahgdienppoaaGreatDoorOcE
import Derived.Test.YtbfahgdienppoaaGreatDoorXSeeB
import Derived.Test.YtbfahgdienppoaaGreatDoorXFm
import Derived.Test.YtbfahgdienppoaaGreatDoorObF
import Derived.Test.YtbfahgdienppoaaGreatDoorOkA
import Derived.Test.YtbfahgdienppoaaGreatDoorTLog3
import Derived.Test.YtbfahgdienppoaaGreatDoorLgA

namespace Go.Proofs.YtbfahgdienppoaaGreatDoor
open Go Go.RowKit
open Sha

section
variable {ops : Array Oper} {rest : List Oper} {op : Oper} {a : Act} {w : World} {Q : Exit → Act → World → Prop}
theorem info_raw_open : ∃ ie z, Tryz.prog.info? 42 = some ie ∧ ie.zero = some z ∧ ie.size = 26 ∧ ie.bytes = 72 ∧ z.cells.size = 26 := by
  have i1 : (Tryz.prog.info? 42).map (fun i => (i.size, i.bytes)) = some (26, 72) := by kernel_rfl
  have i2 : ((Tryz.prog.info? 42).bind (·.zero)).map (·.cells.size) = some 26 := by kernel_rfl
  cases hi : Tryz.prog.info? 42 with
  | none => rw [hi] at i1; cases i1
  | some ie =>
    rw [hi] at i1 i2
    cases hz : ie.zero with
    | none => simp [hz] at i2
    | some z =>
      have i3 : ie.size = 26 ∧ ie.bytes = 72 := by simpa using i1
      exact ⟨ie, z, rfl, hz, i3.1, i3.2, by simpa [hz] using i2⟩
/-- A list of one thing. -/
theorem wpList_buildRaw (hgd : op.guard = none) (x : Operand) (ho : op.op = .buildSlice 22 1 #[(0, x)]) (L : List Value) (hL : L.length = 26) (hx : a.eval x = .agg L.toArray)
    (h : ∀ X, Row X w.heap.size L 42 → Below w.heap.size w X → wpList Tryz.prog ops Q rest (a.put op.dst (.slice (some ⟨w.heap.size, 0, none⟩) 1 1)) X) : wpList Tryz.prog ops Q (op :: rest) a w := by
  obtain ⟨ie, z, h1, h2, h3, _, h4⟩ := info_raw_open
  refine wpList_buildSlice hgd 22 42 1 _ ho L.toArray ie z Tryz.underlying22 h1 h2 (by rw [h3]; omega) (by rw [h3]; omega) ?_ (h _ (Row.new' rfl rfl) ((Below.refl _ _).alloc (Nat.le_refl _) _))
  rw [show (Array.map (fun (p : Nat × Operand) => match p with | (i, x) => (i, a.eval x)) #[(0, x)]).toList = [(0, a.eval x)] by simp, hx, h3]
  exact fill_one 26 (by decide) _ _ (by simp [hL]) (by simp)
end
theorem eqA11 (w : World) (l : List (BitVec 8)) (hl : l.length = 20) : (Op.equalIn 9999 34 (.agg (vB l).toArray) (.agg (vB l).toArray)).run Tryz.prog w = .ok true w := by
  have q := run_equalIn_bytes (P := Tryz.prog) w 9997 34 5 20 Tryz.underlying34 Tryz.underlying5 szU8 (toU l) (toU l) (by rw [toU_length, hl]) (by rw [toU_length, hl])
  rw [toU_beq, decide_eq_true rfl, ← vB_cell] at q
  exact q
theorem eqW11 (w : World) (l : List Nat) (hl : l.length = 4) : (Op.equalIn 9999 37 (.agg (vQ l).toArray) (.agg (vQ l).toArray)).run Tryz.prog w = .ok true w := by
  have q := run_equalIn_vQ (P := Tryz.prog) (w := w) 9997 37 35 4 Tryz.underlying37 Tryz.underlying35 szU64 l l hl hl
  rw [decide_eq_true rfl] at q
  exact q
set_option maxRecDepth 100000 in
set_option maxHeartbeats 4000000 in
theorem neL1 (ix en tk : Int) (s0 s1 s2 s3 s4 s5 s6 s7 s8 s9 s10 s11 s12 s13 s14 s15 s16 s17 s18 s19 : BitVec 8) (a0 a1 a2 a3 : Nat) (w : World) : (binOp .neq 39 (.agg #[.int .i64 ix, .int .i64 en, .int .i64 tk, .int .u8 (c s0), .int .u8 (c s1), .int .u8 (c s2), .int .u8 (c s3), .int .u8 (c s4), .int .u8 (c s5), .int .u8 (c s6), .int .u8 (c s7), .int .u8 (c s8), .int .u8 (c s9), .int .u8 (c s10), .int .u8 (c s11), .int .u8 (c s12), .int .u8 (c s13), .int .u8 (c s14), .int .u8 (c s15), .int .u8 (c s16), .int .u8 (c s17), .int .u8 (c s18), .int .u8 (c s19), .int .u64 (a0 : Int), .int .u64 (a1 : Int), .int .u64 (a2 : Int), .int .u64 (a3 : Int)]) (.agg #[.int .i64 ix, .int .i64 en, .int .i64 tk, .int .u8 (c s0), .int .u8 (c s1), .int .u8 (c s2), .int .u8 (c s3), .int .u8 (c s4), .int .u8 (c s5), .int .u8 (c s6), .int .u8 (c s7), .int .u8 (c s8), .int .u8 (c s9), .int .u8 (c s10), .int .u8 (c s11), .int .u8 (c s12), .int .u8 (c s13), .int .u8 (c s14), .int .u8 (c s15), .int .u8 (c s16), .int .u8 (c s17), .int .u8 (c s18), .int .u8 (c s19), .int .u64 (a0 : Int), .int .u64 (a1 : Int), .int .u64 (a2 : Int), .int .u64 (a3 : Int)])).run Tryz.prog w = .ok (.bool false) w := by
  have hA : ∀ w, (Op.equalIn 9999 34 (.agg #[.int .u8 (c s0), .int .u8 (c s1), .int .u8 (c s2), .int .u8 (c s3), .int .u8 (c s4), .int .u8 (c s5), .int .u8 (c s6), .int .u8 (c s7), .int .u8 (c s8), .int .u8 (c s9), .int .u8 (c s10), .int .u8 (c s11), .int .u8 (c s12), .int .u8 (c s13), .int .u8 (c s14), .int .u8 (c s15), .int .u8 (c s16), .int .u8 (c s17), .int .u8 (c s18), .int .u8 (c s19)]) (.agg #[.int .u8 (c s0), .int .u8 (c s1), .int .u8 (c s2), .int .u8 (c s3), .int .u8 (c s4), .int .u8 (c s5), .int .u8 (c s6), .int .u8 (c s7), .int .u8 (c s8), .int .u8 (c s9), .int .u8 (c s10), .int .u8 (c s11), .int .u8 (c s12), .int .u8 (c s13), .int .u8 (c s14), .int .u8 (c s15), .int .u8 (c s16), .int .u8 (c s17), .int .u8 (c s18), .int .u8 (c s19)])).run Tryz.prog w = .ok true w := fun w => eqA11 w [s0, s1, s2, s3, s4, s5, s6, s7, s8, s9, s10, s11, s12, s13, s14, s15, s16, s17, s18, s19] rfl
  have hW : ∀ w, (Op.equalIn 9999 37 (.agg #[.int .u64 (a0 : Int), .int .u64 (a1 : Int), .int .u64 (a2 : Int), .int .u64 (a3 : Int)]) (.agg #[.int .u64 (a0 : Int), .int .u64 (a1 : Int), .int .u64 (a2 : Int), .int .u64 (a3 : Int)])).run Tryz.prog w = .ok true w := fun w => eqW11 w [a0, a1, a2, a3] rfl
  go_simp
theorem neL (ix en tk : Int) (rc : List (BitVec 8)) (am : List Nat) (h : rc.length = 20) (h4 : am.length = 4) (w : World) : (binOp .neq 39 (.agg (lf ix en tk rc am).toArray) (.agg (lf ix en tk rc am).toArray)).run Tryz.prog w = .ok (.bool false) w := by
  match rc, h, am, h4 with
  | [s0, s1, s2, s3, s4, s5, s6, s7, s8, s9, s10, s11, s12, s13, s14, s15, s16, s17, s18, s19], _, [a0, a1, a2, a3], _ => exact neL1 ix en tk s0 s1 s2 s3 s4 s5 s6 s7 s8 s9 s10 s11 s12 s13 s14 s15 s16 s17 s18 s19 a0 a1 a2 a3 w
section
variable {ops : Array Oper} {rest : List Oper} {op : Oper} {a : Act} {w : World} {Q : Exit → Act → World → Prop}
theorem wpList_neqLf (hw : Region.wanted op (yielded ops a.tmps) = true) (x y : Operand) (yt : TypeId) (ho : op.op = .binOp .neq 39 x y yt) (L : List Value) (hx : a.eval x = .agg L.toArray) (hy : a.eval y = .agg L.toArray)
    (hr : ∀ w, (binOp .neq 39 (.agg L.toArray) (.agg L.toArray)).run Tryz.prog w = .ok (.bool false) w) (h : wpList Tryz.prog ops Q rest (a.put op.dst (.bool false)) w) : wpList Tryz.prog ops Q (op :: rest) a w :=
  BigFrame.wpList_want hw fun _ hK => by
    unfold Oper.wp execOp
    simp only [ho, hx, hy, Sem.run_bind, run_eqGuard_agg w .neq 39 x y _ _ guardL, Result.andThen_ok, hr, Sem.run_pure, Oper.upon_value]
    exact hK _ _ h
theorem wpList_neqDg (hw : Region.wanted op (yielded ops a.tmps) = true) (x y : Operand) (yt : TypeId) (ho : op.op = .binOp .neq 53 x y yt) (d : List (BitVec 8)) (hd : d.length = 32) (hx : a.eval x = .agg (vB d).toArray) (hy : a.eval y = .agg (vB d).toArray)
    (h : wpList Tryz.prog ops Q rest (a.put op.dst (.bool false)) w) : wpList Tryz.prog ops Q (op :: rest) a w :=
  BigFrame.wpList_want hw fun _ hK => wp_neq_d 53 x y yt ho 5 32 d d hx hy Tryz.underlying53 Tryz.underlying5 info_u8T hd hd guard_dig false (by simp) (hK _ _ h)
end
theorem rwc_one (r : Rwv) : ∀ u ∈ rwc r, u.oneCell' = true := by
  intro u hu
  unfold rwc at hu
  rcases List.mem_cons.1 hu with rfl | hu
  · rfl
  rcases List.mem_cons.1 hu with rfl | hu
  · rfl
  rcases List.mem_append.1 hu with hu | hu
  · exact vB_one _ u hu
  · unfold vQ at hu
    obtain ⟨x, _, rfl⟩ := List.mem_map.1 hu
    rfl
/-- The base may lie lower. -/
theorem Bk.down {w0 w1 w : World} {B : Nat} {v : Value} {ts : List (List (BitVec 8))} (h : Bk w1 w B v ts) (k : Below w0.heap.size w0 w1) : Bk w0 w B v ts :=
  ⟨h.row, h.own, Nat.le_trans k.size h.b0, fun g e => Nat.le_trans k.size (h.v0 g e), k.trans (h.be.mono k.size)⟩
/-- A book stays where none but blocks of other kinds turn. -/
theorem Bk.apart {R : Nat → Prop} {w0 w w' : World} {B : Nat} {v : Value} {ts : List (List (BitVec 8))} (h : Bk w0 w B v ts) (k : Gro R w w') (hT : ∀ g, R g → ∃ cs t, Row w g cs t ∧ t ≠ 5 ∧ t ≠ 46 ∧ t ≠ 61) (h0 : ∀ g, R g → w0.heap.size ≤ g) : Bk w0 w' B v ts := by
  obtain ⟨cs, h1, h2⟩ := h.own
  have two : ∀ {b : Nat} {c1 c2 : List Value} {t1 t2 : TypeId}, Row w b c1 t1 → Row w b c2 t2 → t1 = t2 := fun p q => by
    have := p.symm.trans q
    simp only [Option.some.injEq, Obj.cells.injEq] at this
    exact this.2.1
  refine ⟨k.row h.row (fun q => ?_), ⟨cs, Lw.gro h1 k (fun g e q => ?_), fun i d hd => ?_⟩, h.b0, h.v0, h.be.trans (k.to_below h.be.size h0)⟩
  · obtain ⟨c, t, q1, _, _, q4⟩ := hT B q
    exact q4 (two q1 h.row)
  · obtain ⟨c, t, q1, _, q3, _⟩ := hT g q
    exact Lw.ne h1 q1 q3 g e rfl
  · obtain ⟨u, p1, p2⟩ := h2 i d hd
    refine ⟨u, p1, Bw.gro p2 k (fun g e q => ?_)⟩
    obtain ⟨c, t, q1, q2, _, _⟩ := hT g q
    exact Bw.ne p2 q1 q2 g e rfl
/-- A book stays while another one turns. -/
theorem Bk.beside {w0 w w' : World} {B B2 : Nat} {v v2 : Value} {ts ts2 : List (List (BitVec 8))} (h : Bk w0 w B2 v2 ts2) (a : Bk w0 w B v ts) (k : Gro (fun g => g = B ∨ v.ownBlock = some g) w w') (hB : B2 ≠ B) (hv : ∀ g, v.ownBlock = some g → v2.ownBlock ≠ some g) : Bk w0 w' B2 v2 ts2 := by
  obtain ⟨cs, h1, h2⟩ := h.own
  obtain ⟨cs2, a1, a2⟩ := a.own
  refine ⟨k.row h.row (fun q => ?_), ⟨cs, Lw.gro h1 k (fun g e q => ?_), fun i d hd => ?_⟩, h.b0, h.v0, h.be.trans (k.to_below h.be.size (fun g q => ?_))⟩
  · rcases q with q | q
    · exact hB q
    · exact Lw.ne a1 h.row (by decide) B2 q rfl
  · rcases q with q | q
    · exact Lw.ne h1 a.row (by decide) g e q
    · exact hv g q e
  · obtain ⟨u, p1, p2⟩ := h2 i d hd
    refine ⟨u, p1, Bw.gro p2 k (fun g e q => ?_)⟩
    rcases q with q | q
    · exact Bw.ne p2 a.row (by decide) g e q
    · exact bl_ne p2 a1 (by decide) g e q.symm
  · rcases q with q | q
    · rw [q]; exact a.b0
    · exact a.v0 g q
theorem Bk.vlt {w0 w : World} {B : Nat} {v : Value} {ts : List (List (BitVec 8))} (h : Bk w0 w B v ts) : ∀ g, v.ownBlock = some g → g < w.heap.size := fun g e => by
  obtain ⟨cs, h1, _⟩ := h.own
  exact Lw.lt h1 g e
/-- append of one thing onto a list of them keeps a book. -/
theorem Bk.app {w0 w w' : World} {B : Nat} {v u : Value} {ts : List (List (BitVec 8))} {n : Nat} {xs : List Value} (h : Bk w0 w B v ts) (L : Lw w 42 26 u n xs) (k : w.grownBy w' u.ownBlock) (h0 : ∀ g, u.ownBlock = some g → w0.heap.size ≤ g) : Bk w0 w' B v ts := by
  refine h.apart (R := fun g => u.ownBlock = some g) ((Gro.refl _ w).grown k (fun g e => .inl e)) (fun g e => ?_) h0
  rcases L.2 with ⟨q, _⟩ | ⟨g', cap, cur, q, _, hh, _⟩
  · rw [q] at e; cases e
  · rw [q] at e
    obtain rfl : g' = g := by simpa [Value.ownBlock] using e
    exact ⟨cur.toList, 42, by unfold Row; rw [hh], by decide, by decide, by decide⟩

end Go.Proofs.YtbfahgdienppoaaGreatDoor

namespace Go.Proofs.YtbfahgdienppoaaGreatDoor
open Go Go.RowKit
open Sha

theorem bl_of (x m : Nat) (h1 : 1 ≤ m) (h8 : m ≤ 8) (hl : 256 ^ (m - 1) ≤ x) (hu : x < 256 ^ m) : bl x = m := by
  have e1 : (256 : Nat) ^ (m - 1) = 2 ^ (8 * (m - 1)) := by rw [Nat.pow_mul]
  have h64 : x < 2 ^ 64 := by
    have : (256 : Nat) ^ m ≤ 256 ^ 8 := Nat.pow_le_pow_right (by decide) h8
    have e8 : (256 : Nat) ^ 8 = 2 ^ 64 := by decide
    omega
  have hs := Lib.bitLen_shift (8 * (m - 1)) x (by rw [← e1]; exact hl) h64
  have hq : x / 2 ^ (8 * (m - 1)) < 256 := by
    rw [← e1]
    apply Nat.div_lt_of_lt_mul
    have : (256 : Nat) ^ m = 256 ^ (m - 1) * 256 := by rw [← Nat.pow_succ]; congr 1; omega
    rw [← this]; exact hu
  have hp : 1 ≤ x / 2 ^ (8 * (m - 1)) := by
    rw [← e1]
    exact (Nat.le_div_iff_mul_le (Nat.pow_pos (by decide))).2 (by omega)
  generalize x / 2 ^ (8 * (m - 1)) = q at *
  have h9 := Lib.bitLen_le8 ⟨q, hq⟩
  simp only at h9
  have h10 := Lib.bitLen_half q (by omega) (by omega)
  unfold bl
  omega
theorem lb_digit (bs : List (BitVec 8)) (e j i : Nat) (hi : 8 * j ≤ i) (hi8 : i < 8 * j + 8) : ∀ t, i < t → t ≤ 8 * j + 8 → lb bs e j t / 256 ^ (i - 8 * j) % 256 = at8 bs (e - 1 - i)
  | 0, h, _ => by omega
  | t + 1, h, h8 => by
    have e1 : lb bs e j (t + 1) = lb bs e j t + at8 bs (e - 1 - t) * 256 ^ (t - 8 * j) := by
      show (if t / 8 = j then _ else _) = _
      rw [if_pos (by omega), show t % 8 = t - 8 * j by omega]
    rw [e1]
    have hd := at8_lt bs (e - 1 - t)
    by_cases q : i = t
    · subst q
      have hl := lb_lt bs e j i (by omega) (by omega)
      rw [Nat.add_mul_div_right _ _ (Nat.pow_pos (by decide)), Nat.div_eq_of_lt hl, Nat.zero_add]
      exact Nat.mod_eq_of_lt hd
    · have ih := lb_digit bs e j i hi hi8 t (by omega) (by omega)
      have e2 : (256 : Nat) ^ (t - 8 * j) = 256 ^ (t - i - 1) * 256 * 256 ^ (i - 8 * j) := by
        rw [← Nat.pow_succ, ← Nat.pow_add]; congr 1; omega
      rw [e2, ← Nat.mul_assoc, Nat.add_mul_div_right _ _ (Nat.pow_pos (by decide)), ← Nat.mul_assoc, Nat.add_mul_mod_self_right]
      exact ih
theorem lb_dig (bs : List (BitVec 8)) (e k i : Nat) (hi : i < k) : lb bs e (i / 8) k / 2 ^ (i % 8 * 8) % 256 = at8 bs (e - 1 - i) := by
  have e1 : (2 : Nat) ^ (i % 8 * 8) = 256 ^ (i - 8 * (i / 8)) := by rw [Nat.mul_comm, Nat.pow_mul]; congr 1; omega
  rw [e1]
  by_cases h : k ≤ 8 * (i / 8) + 8
  · exact lb_digit bs e (i / 8) i (by omega) (by omega) k hi h
  · rw [lb_stay bs e (i / 8) k (by omega)]
    exact lb_digit bs e (i / 8) i (by omega) (by omega) (8 * (i / 8) + 8) (by omega) (Nat.le_refl _)
theorem lb_bl (bs : List (BitVec 8)) (e k j : Nat) (h1 : 8 * j < k) (h2 : k ≤ 8 * j + 8) (ht : at8 bs (e - 1 - (k - 1)) ≠ 0) : lb bs e j k ≠ 0 ∧ bl (lb bs e j k) = k - 8 * j := by
  have hu := lb_lt bs e j k (by omega) h2
  have e1 : lb bs e j k = lb bs e j (k - 1) + at8 bs (e - 1 - (k - 1)) * 256 ^ (k - 1 - 8 * j) := by
    obtain ⟨t, rfl⟩ : ∃ t, k = t + 1 := ⟨k - 1, by omega⟩
    show (if t / 8 = j then _ else _) = _
    rw [if_pos (by omega), show t % 8 = t - 8 * j by omega]
    rfl
  have hl : 256 ^ (k - 8 * j - 1) ≤ lb bs e j k := by
    rw [e1, show k - 8 * j - 1 = k - 1 - 8 * j by omega]
    have : 1 * 256 ^ (k - 1 - 8 * j) ≤ at8 bs (e - 1 - (k - 1)) * 256 ^ (k - 1 - 8 * j) := Nat.mul_le_mul_right _ (by omega)
    omega
  refine ⟨?_, bl_of _ _ (by omega) (by omega) hl hu⟩
  have : 0 < (256 : Nat) ^ (k - 8 * j - 1) := Nat.pow_pos (by decide)
  omega
theorem lb_nb (bs : List (BitVec 8)) (e k : Nat) (hk : k ≤ 32) (ht : 0 < k → at8 bs (e - 1 - (k - 1)) ≠ 0) : nb (lb bs e 0 k) (lb bs e 1 k) (lb bs e 2 k) (lb bs e 3 k) = k := by
  unfold nb
  by_cases c3 : 24 < k
  · obtain ⟨n3, b3⟩ := lb_bl bs e k 3 (by omega) (by omega) (ht (by omega))
    rw [if_pos n3, b3]; omega
  rw [lb_none bs e 3 k (by omega), if_neg (by simp)]
  by_cases c2 : 16 < k
  · obtain ⟨n2, b2⟩ := lb_bl bs e k 2 (by omega) (by omega) (ht (by omega))
    rw [if_pos n2, b2]; omega
  rw [lb_none bs e 2 k (by omega), if_neg (by simp)]
  by_cases c1 : 8 < k
  · obtain ⟨n1, b1⟩ := lb_bl bs e k 1 (by omega) (by omega) (ht (by omega))
    rw [if_pos n1, b1]; omega
  rw [lb_none bs e 1 k (by omega), if_neg (by simp)]
  by_cases c0 : 0 < k
  · obtain ⟨n0, b0⟩ := lb_bl bs e k 0 (by omega) (by omega) (ht (by omega))
    rw [if_pos n0, b0]; omega
  · obtain rfl : k = 0 := by omega
    simp [lb]
/-- What was read off is the form of what was read. -/
theorem form_read {most : Nat} {bs : List (BitVec 8)} {a : Nat} (hm : most ≤ 32) (h : hiF most bs a = 0) (k : Nat) (hk : at8 bs a = k) :
    nb (lb bs (a + 1 + k) 0 k) (lb bs (a + 1 + k) 1 k) (lb bs (a + 1 + k) 2 k) (lb bs (a + 1 + k) 3 k) = k ∧ fm [lb bs (a + 1 + k) 0 k, lb bs (a + 1 + k) 1 k, lb bs (a + 1 + k) 2 k, lb bs (a + 1 + k) 3 k] k = sub bs a (1 + k) := by
  obtain ⟨h1, h2, h3, h4⟩ := hiF_ok h
  rw [hk] at h2 h3 h4
  refine ⟨lb_nb bs _ k (by omega) (fun h0 => by rw [show a + 1 + k - 1 - (k - 1) = a + 1 by omega]; exact h4 h0), ?_⟩
  have hsl := sub_len bs a (1 + k) (by omega)
  apply List.ext_getElem (by rw [fm_len, hsl]; omega)
  intro p hp1 hp2
  rw [hsl] at hp2
  have e2 : (sub bs a (1 + k))[p]'(by rw [hsl]; exact hp2) = bs[a + p]'(by omega) := by
    have := sub_get bs a (1 + k) p hp2
    rw [List.getElem?_eq_getElem (by rw [hsl]; exact hp2), List.getElem?_eq_getElem (by omega)] at this
    exact Option.some.inj this
  rw [e2]
  have hb : ∀ i (hi : i < bs.length), (bs[i]'hi).toNat = at8 bs i := fun i hi => by unfold at8; rw [List.getD_eq_getElem?_getD, List.getElem?_eq_getElem hi]; rfl
  apply BitVec.eq_of_toNat_eq
  rw [hb]
  cases p with
  | zero =>
    simp only [fm, List.getElem_cons_zero, BitVec.toNat_ofNat, Nat.add_zero]
    rw [hk]
    exact Nat.mod_eq_of_lt (by omega)
  | succ q =>
    simp only [fm, List.getElem_cons_succ, List.getElem_map, List.getElem_range, fb, BitVec.toNat_ofNat]
    have hq : q < k := by omega
    have hi : k - 1 - q < k := by omega
    have ed : [lb bs (a + 1 + k) 0 k, lb bs (a + 1 + k) 1 k, lb bs (a + 1 + k) 2 k, lb bs (a + 1 + k) 3 k].getD ((k - 1 - q) / 8) 0 = lb bs (a + 1 + k) ((k - 1 - q) / 8) k := by
      have : (k - 1 - q) / 8 < 4 := by omega
      generalize (k - 1 - q) / 8 = j at *
      rcases (show j = 0 ∨ j = 1 ∨ j = 2 ∨ j = 3 by omega) with rfl | rfl | rfl | rfl <;> rfl
    rw [ed, show (2 : Nat) ^ 8 = 256 from rfl, lb_dig bs (a + 1 + k) k (k - 1 - q) hi]
    congr 1
    omega
theorem lb_high (bs : List (BitVec 8)) (e k : Nat) (hk : k ≤ 8) : lb bs e 1 k = 0 ∧ lb bs e 2 k = 0 ∧ lb bs e 3 k = 0 := ⟨lb_none bs e 1 k (by omega), lb_none bs e 2 k (by omega), lb_none bs e 3 k (by omega)⟩
/-- Of a number. -/
theorem form_num {bs : List (BitVec 8)} {a : Nat} (h : nuE bs a = 0) : nb (nuW bs a) 0 0 0 = at8 bs a ∧ fm [nuW bs a, 0, 0, 0] (at8 bs a) = sub bs a (1 + at8 bs a) := by
  obtain ⟨h1, _⟩ := nuE_ok h
  obtain ⟨_, h2, _, _⟩ := hiF_ok h1
  obtain ⟨q1, q2⟩ := form_read (by decide) h1 _ rfl
  obtain ⟨e1, e2, e3⟩ := lb_high bs (a + 1 + at8 bs a) (at8 bs a) h2
  rw [e1, e2, e3] at q1 q2
  exact ⟨q1, q2⟩
theorem sub_add (bs : List (BitVec 8)) (a m n : Nat) : sub bs a m ++ sub bs (a + m) n = sub bs a (m + n) := by
  unfold sub
  rw [List.take_add, List.drop_drop]
theorem take_sub (bs : List (BitVec 8)) (a n : Nat) : bs.take a ++ sub bs a n = bs.take (a + n) := by
  unfold sub
  rw [List.take_add]

end Go.Proofs.YtbfahgdienppoaaGreatDoor

namespace Go.Proofs.YtbfahgdienppoaaGreatDoor
open Go Go.RowKit
open Sha

theorem bF_0 {bs : List (BitVec 8)} {a : Nat} {f : Int} (h : bF bs a f = 0) : f = 0 ∧ byE bs a = 0 := by
  unfold bF at h
  by_cases hf : f = 0
  · rw [if_pos hf] at h; exact ⟨hf, h⟩
  · rw [if_neg hf] at h; exact absurd h hf
theorem nF_0 {bs : List (BitVec 8)} {a : Nat} {f : Int} (h : nF bs a f = 0) : f = 0 ∧ nuE bs a = 0 := by
  unfold nF at h
  by_cases hf : f = 0
  · rw [if_pos hf] at h; exact ⟨hf, h⟩
  · rw [if_neg hf] at h; exact absurd h hf
theorem dF_0 {bs : List (BitVec 8)} {a : Nat} {f : Int} (h : dF bs a f = 0) : f = 0 ∧ dgE 20 bs a = 0 := by
  unfold dF at h
  by_cases hf : f = 0
  · rw [if_pos hf] at h; exact ⟨hf, h⟩
  · rw [if_neg hf] at h; exact absurd h hf
theorem wF_0 {bs : List (BitVec 8)} {a : Nat} {f : Int} (h : wF bs a f = 0) : f = 0 ∧ hiF 32 bs a = 0 := by
  unfold wF at h
  by_cases hf : f = 0
  · rw [if_pos hf] at h; exact ⟨hf, h⟩
  · rw [if_neg hf] at h; exact absurd h hf
/-- A number that is taken stands there in its form. -/
theorem took_num {bs : List (BitVec 8)} {a : Nat} (h : nuE bs a = 0) : bs.take a ++ nf ((nuW bs a : Nat) : Int) = bs.take (a + 1 + at8 bs a) := by
  obtain ⟨h1, h2⟩ := form_num h
  have e : nf ((nuW bs a : Nat) : Int) = sub bs a (1 + at8 bs a) := by
    unfold nf
    rw [Int.toNat_natCast, h1]
    exact h2
  rw [e, take_sub, Nat.add_assoc]
theorem wf4 (a b c d : Nat) : wf [a, b, c, d] = fm [a, b, c, d] (nb a b c d) := rfl
theorem took_wide {bs : List (BitVec 8)} {a : Nat} (h : hiF 32 bs a = 0) : bs.take a ++ wf (wV bs a 0) = bs.take (a + 1 + at8 bs a) := by
  have e0 : wV bs a 0 = [lb bs (a + 1 + at8 bs a) 0 (at8 bs a), lb bs (a + 1 + at8 bs a) 1 (at8 bs a), lb bs (a + 1 + at8 bs a) 2 (at8 bs a), lb bs (a + 1 + at8 bs a) 3 (at8 bs a)] := by unfold wV; rw [if_pos ⟨rfl, h⟩]
  obtain ⟨h1, h2⟩ := form_read (Nat.le_refl 32) h _ rfl
  rw [e0]
  have e : wf [lb bs (a + 1 + at8 bs a) 0 (at8 bs a), lb bs (a + 1 + at8 bs a) 1 (at8 bs a), lb bs (a + 1 + at8 bs a) 2 (at8 bs a), lb bs (a + 1 + at8 bs a) 3 (at8 bs a)] = sub bs a (1 + at8 bs a) := by
    rw [wf4, h1]
    exact h2
  rw [e, take_sub, Nat.add_assoc]
theorem good_form (bs : List (BitVec 8)) (m x1 x2 x3 a1 a2 a3 a4 a5 a6 : Nat) (f1 f2 f3 f4 f5 f6 : Int) (rc : List (BitVec 8)) (am : List Nat)
    (hm : m = bV bs 0 (f0 bs)) (h1a : a1 = bA bs 0 (f0 bs)) (h1f : f1 = bF bs 0 (f0 bs)) (h2v : x1 = nV bs a1 f1) (h2a : a2 = nA bs a1 f1) (h2f : f2 = nF bs a1 f1) (h3v : x2 = nV bs a2 f2) (h3a : a3 = nA bs a2 f2) (h3f : f3 = nF bs a2 f2) (h4v : x3 = nV bs a3 f3) (h4a : a4 = nA bs a3 f3) (h4f : f4 = nF bs a3 f3) (h5v : rc = dV bs a4 f4) (h5a : a5 = dA bs a4 f4) (h5f : f5 = dF bs a4 f4) (h6v : am = wV bs a5 f5) (h6a : a6 = wA bs a5 f5) (h6f : f6 = wF bs a5 f5)
    (h : (f6 = 0 ∧ ¬ a6 < bs.length ∧ m = 76 ∧ may (x1 : Int) (x2 : Int) (x3 : Int) am = true)) : bs = lfb (x1 : Int) (x2 : Int) (x3 : Int) rc am := by
  obtain ⟨hf6, hend, hm76, _⟩ := h
  rw [h6f] at hf6
  obtain ⟨g5, e6⟩ := wF_0 hf6
  rw [h5f] at g5
  obtain ⟨g4, e5⟩ := dF_0 g5
  rw [h4f] at g4
  obtain ⟨g3, e4⟩ := nF_0 g4
  rw [h3f] at g3
  obtain ⟨g2, e3⟩ := nF_0 g3
  rw [h2f] at g2
  obtain ⟨g1, e2⟩ := nF_0 g2
  rw [h1f] at g1
  obtain ⟨g0, e1⟩ := bF_0 g1
  have z1 : f1 = 0 := by rw [h1f]; exact g1
  have z2 : f2 = 0 := by rw [h2f]; exact g2
  have z3 : f3 = 0 := by rw [h3f]; exact g3
  have z4 : f4 = 0 := by rw [h4f]; exact g4
  have z5 : f5 = 0 := by rw [h5f]; exact g5
  have b1 : a1 = 1 := by rw [h1a]; unfold bA; rw [if_pos ⟨g0, e1⟩]
  have v1 : at8 bs 0 = 76 := by rw [← hm76, hm]; unfold bV; rw [if_pos ⟨g0, e1⟩]
  have c1 : x1 = nuW bs a1 := by rw [h2v, z1]; unfold nV; rw [if_pos rfl, if_pos e2]
  have b2 : a2 = a1 + 1 + at8 bs a1 := by rw [h2a, z1]; unfold nA; rw [if_pos rfl, if_pos e2]
  have c2 : x2 = nuW bs a2 := by rw [h3v, z2]; unfold nV; rw [if_pos rfl, if_pos e3]
  have b3 : a3 = a2 + 1 + at8 bs a2 := by rw [h3a, z2]; unfold nA; rw [if_pos rfl, if_pos e3]
  have c3 : x3 = nuW bs a3 := by rw [h4v, z3]; unfold nV; rw [if_pos rfl, if_pos e4]
  have b4 : a4 = a3 + 1 + at8 bs a3 := by rw [h4a, z3]; unfold nA; rw [if_pos rfl, if_pos e4]
  have c4 : rc = sub bs a4 20 := by rw [h5v, z4]; unfold dV; rw [if_pos ⟨rfl, e5⟩]
  have b5 : a5 = a4 + 20 := by rw [h5a, z4]; unfold dA; rw [if_pos ⟨rfl, e5⟩]
  have b6 : a6 = a5 + 1 + at8 bs a5 := by rw [h6a, z5]; unfold wA; rw [if_pos ⟨rfl, e6⟩]
  have c6 : am = wV bs a5 0 := by rw [h6v, z5]
  have t1 : bs.take a1 = [76#8] := by
    rw [b1]
    cases bs with
    | nil => unfold byE at e1; simp at e1
    | cons y r =>
      have hy : y.toNat = 76 := v1
      have : y = 76#8 := BitVec.eq_of_toNat_eq hy
      rw [this]
      rfl
  have t2 : bs.take a2 = [76#8] ++ nf (x1 : Int) := by rw [b2, ← took_num e2, t1, c1]
  have t3 : bs.take a3 = [76#8] ++ nf (x1 : Int) ++ nf (x2 : Int) := by rw [b3, ← took_num e3, t2, c2]
  have t4 : bs.take a4 = [76#8] ++ nf (x1 : Int) ++ nf (x2 : Int) ++ nf (x3 : Int) := by rw [b4, ← took_num e4, t3, c3]
  have t5 : bs.take a5 = [76#8] ++ nf (x1 : Int) ++ nf (x2 : Int) ++ nf (x3 : Int) ++ rc := by rw [b5, ← take_sub, t4, c4]
  have t6 : bs.take a6 = lfb (x1 : Int) (x2 : Int) (x3 : Int) rc am := by rw [b6, ← took_wide e6, t5, c6]; rfl
  rw [← t6]
  exact (List.take_of_length_le (by omega)).symm
/-- What is read of any bytes: the leaf whose bytes they are, or nothing. -/
theorem read_is (bs : List (BitVec 8)) (B : Option Addr) (n cb : Nat) (hb : bs.length = n) (hnil : B = none → cb = 0) (w : World) (hv : SlAt w (.slice B n cb) bs) :
    (∀ ix en tk rc am, rc.length = 20 → am.length = 4 → (∀ x ∈ am, x < 18446744073709551616) → may ix en tk am = true → bs = lfb ix en tk rc am → Calls Tryz.prog 13 #[.slice B n cb] w fun e w' => e = .returned (.tuple #[.agg (lf ix en tk rc am).toArray, .int .i64 0]) ∧ Below w.heap.size w w') ∧
    ((¬ ∃ ix en tk rc am, rc.length = 20 ∧ am.length = 4 ∧ (∀ x ∈ am, x < 18446744073709551616) ∧ may ix en tk am = true ∧ bs = lfb ix en tk rc am) → Calls Tryz.prog 13 #[.slice B n cb] w fun e w' => e = .returned (.tuple #[.agg zLf.toArray, .int .i64 110]) ∧ Below w.heap.size w w') := by
  refine ⟨fun ix en tk rc am h1 h2 h3 h4 h5 => read_leaf ix en tk rc am h1 h2 h3 h4 bs h5 B n cb hb hnil w hv, fun hno => ?_⟩
  refine read_x bs _ _ _ _ _ _ _ _ _ _ _ _ _ _ _ _ _ _ rfl rfl rfl rfl rfl rfl rfl rfl rfl rfl rfl rfl rfl rfl rfl rfl rfl rfl zLf 110 (fun hc => absurd ⟨_, _, _, _, _, dV_len _ _ _, wV_len _ _ _, wV_lt _ _ _, hc.2.2.2, good_form bs _ _ _ _ _ _ _ _ _ _ _ _ _ _ _ _ _ _ rfl rfl rfl rfl rfl rfl rfl rfl rfl rfl rfl rfl rfl rfl rfl rfl rfl rfl hc⟩ hno) (fun _ => ⟨rfl, rfl⟩) B n cb hb hnil w hv

end Go.Proofs.YtbfahgdienppoaaGreatDoor
