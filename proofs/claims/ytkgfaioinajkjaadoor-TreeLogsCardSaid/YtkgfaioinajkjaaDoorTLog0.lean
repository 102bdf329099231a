/-
  A log in memory: its row, its list of digests; small laws of its walks.
-/
import Derived.Shelf.Lays7
import Derived.Shelf.Spec.TrailingZeros
import Derived.Test.YtkgfaioinajkjaaDoorTFrM
import Derived.Test.YtkgfaioinajkjaaDoorTChkE
import Derived.Test.YtkgfaioinajkjaaDoorTDg
import Derived.Test.YtkgfaioinajkjaaDoorTOwn0
import Derived.Test.YtkgfaioinajkjaaDoorTMark

namespace Go.Proofs.YtkgfaioinajkjaaDoor
open Go Go.Shelf Go.RowKit
def lays27_ren : Go.Shelf.Ren := ⟨fun | 27 => 26 | 28 => 41 | 29 => 42 | n => n, fun | 0 => 0 | 3 => 3 | 4 => 4 | 5 => 5 | 22 => 74 | 25 => 64 | 27 => 72 | 53 => 41 | 54 => 82 | n => n, fun | 0 => 0 | 1 => 1 | n => n⟩
theorem lays27 : Go.Proofs.Lays7.n27 Tryd.prog lays27_ren := {
  mixed := by kernel_rfl
  f27 := Tryd.func26.trans (congrArg some (by kernel_rfl))
  f28 := Tryd.func41.trans (congrArg some (by kernel_rfl))
  f29 := Tryd.func42.trans (congrArg some (by kernel_rfl))
  t0 := by kernel_rfl
  a0 := fun _ => by kernel_rfl
  z0 := fun _ => by kernel_rfl
  v0 := fun _ => by kernel_rfl
  i0 := by kernel_rfl
  t3 := Tryd.underlying3
  a3 := Tryd.isAgg3
  z3 := Tryd.sizeOf3
  v3 := Tryd.zeroValue3
  i3 := by kernel_rfl
  t4 := Tryd.underlying4
  a4 := Tryd.isAgg4
  z4 := Tryd.sizeOf4
  v4 := Tryd.zeroValue4
  i4 := by kernel_rfl
  t5 := Tryd.underlying5
  a5 := Tryd.isAgg5
  z5 := Tryd.sizeOf5
  v5 := Tryd.zeroValue5
  i5 := by kernel_rfl
  t22 := Tryd.underlying74
  a22 := Tryd.isAgg74
  z22 := Tryd.sizeOf74
  v22 := Tryd.zeroValue74
  i22 := by kernel_rfl
  t25 := Tryd.underlying64
  a25 := Tryd.isAgg64
  z25 := Tryd.sizeOf64
  v25 := Tryd.zeroValue64
  i25 := by kernel_rfl
  t27 := Tryd.underlying72
  a27 := Tryd.isAgg72
  z27 := Tryd.sizeOf72
  v27 := Tryd.zeroValue72
  i27 := by kernel_rfl
  t53 := Tryd.underlying41
  a53 := Tryd.isAgg41
  z53 := Tryd.sizeOf41
  v53 := Tryd.zeroValue41
  i53 := by kernel_rfl
  t54 := Tryd.underlying82
  a54 := Tryd.isAgg82
  z54 := Tryd.sizeOf82
  g0 := by kernel_rfl
  g1 := by kernel_rfl }
theorem ctz_t1 : ∀ (f m : Nat), m + 1 < 2 ^ f → Lib.ctzFrom f (2 ^ f - 1 - m) = t1 m
  | 0, m, h => by simp at h
  | f + 1, m, h => by
    have e : 2 ^ (f + 1) = 2 * 2 ^ f := by rw [Nat.pow_succ, Nat.mul_comm]
    rw [e] at h ⊢
    generalize hp : 2 ^ f = p at *
    by_cases ho : m % 2 = 1
    · rw [Lib.ctzFrom, if_neg (by omega), t1_odd m ho, show (2 * p - 1 - m) / 2 = p - 1 - m / 2 by omega, ← hp, ctz_t1 f (m / 2) (by rw [hp]; omega), Nat.add_comm]
    · rw [Lib.ctzFrom, if_pos (by omega), t1_even m (by omega)]
theorem tz_any (m : Nat) (hm : m < 1099511627777) (w : World) (hT : TabAt 1 Lib.deBruijn64tab w) :
    Calls Tryd.prog 26 #[.int .u64 ((18446744073709551615 - m : Nat) : Int)] w fun e w' => e = .returned (.int .i64 (t1 m : Int)) ∧ w' = w := by
  have h := Any7.bits_TrailingZeros lays27 (18446744073709551615 - m) (by omega) w (fun _ => hT)
  have e : Lib.ctz 64 (18446744073709551615 - m) = t1 m := by
    unfold Lib.ctz
    rw [if_neg (by omega)]
    exact ctz_t1 64 m (by omega)
  rw [e] at h
  exact h

end Go.Proofs.YtkgfaioinajkjaaDoor

namespace Go.Proofs.YtkgfaioinajkjaaDoor
open Go Go.RowKit
open Sha

section
variable {P : Program} {ops : Array Oper} {Q : Exit → Act → World → Prop} {o : Oper} {a : Act} {w : World} {K : Act → World → Prop} {i : Nat}
theorem wpOp_off (ho : ops[i]? = some o) (hw : Region.wanted o (yielded ops a.tmps) = false) (h : K (a.put o.dst undef) w) : wpOp P ops Q i K a w := by
  unfold wpOp
  rw [ho]
  simp only [hw]
  exact h
theorem unwanted_g {g : Nat} {b : Bool} {t : Tmp} (ho : o.guard = some (g, b)) (hg : ((ops[g]?).bind fun o => o.dst) = some t) (h : a.eval (.tmp t) = .bool (!b)) (hs : t < a.tmps.size) : Region.wanted o (yielded ops a.tmps) = false := by
  have h2 : a.tmps[t]? = some (.bool (!b)) := by
    rw [Array.getElem?_eq_getElem hs]
    have : a.tmps[t]?.getD undef = .bool (!b) := by simpa [Act.eval] using h
    rw [Array.getElem?_eq_getElem hs] at this
    simpa using this
  cases b <;> simp [Region.wanted, ho, yielded, hg, h2]
end

/-- What Check answers. -/
def ck (root : List (BitVec 8)) (n i : Int) (lf : List (BitVec 8)) (ds : List (List (BitVec 8))) : Int :=
  if n < 1 ∨ 1099511627776 < n then 40 else if i < 0 ∨ n ≤ i then 41 else if ds.length = pl n.toNat i.toNat ∧ rb n.toNat i.toNat lf ds = root then 0 else 43
end Go.Proofs.YtkgfaioinajkjaaDoor

namespace Go.Proofs.YtkgfaioinajkjaaDoor
open Go Go.RowKit
open Sha

abbrev tL : TypeId := 61
theorem run_load_ds (w : World) (b f : Nat) (v : Value) (h : w.cell? ⟨b, f, none⟩ = some v) : (loadVar 26 ⟨b, f, none⟩).run Tryd.prog w = .ok v w := by
  simp [loadVar, isAgg, run_underlying Tryd.underlying26, h]
section
variable {P : Program} {o : Oper} {a : Act} {w : World} {K : Act → World → Prop} {Q : Exit → Act → World → Prop}
theorem wp_nilck {x : Operand} (b f : Nat) (ho : o.op = .nilCheck x) (hx : a.eval x = .pointer (some ⟨b, f, none⟩)) (h : K (a.put o.dst (.pointer (some ⟨b, f, none⟩))) w) : Oper.wp P o a w K Q := by
  obtain ⟨dst, op, ty, pos, after, guard⟩ := o
  simp only at ho
  subst ho
  unfold Oper.wp execOp
  simp only [hx]
  go_simp
  exact h
theorem wp_lf1 {x : Operand} (b : Nat) (ho : o.op = .fieldAddr tL x 1) (hx : a.eval x = .pointer (some ⟨b, 0, none⟩)) (h : K (a.put o.dst (.pointer (some ⟨b, 1, none⟩))) w) : Oper.wp Tryd.prog o a w K Q := by
  obtain ⟨dst, op, ty, pos, after, guard⟩ := o
  simp only at ho
  subst ho
  unfold Oper.wp execOp
  simp only [hx]
  go_simp
  exact h
theorem wp_subc_v {x : Operand} {m : Nat} (t yt : TypeId) (ho : o.op = .binOp .sub t x (.const (.int .i64 1)) yt) (hx : a.eval x = .int .i64 (m : Int)) (hle : 1 ≤ m) (hm : m < 4611686018427387904) (h : K (a.put o.dst (.int .i64 ((m - 1 : Nat) : Int))) w) : Oper.wp P o a w K Q :=
  wp_sub_v t yt ho hx rfl hle hm h
end
theorem flat_len (F : List (List (BitVec 8))) (h : ∀ d ∈ F, d.length = 32) : F.flatten.length = F.length * 32 := by
  induction F with
  | nil => rfl
  | cons d r ih => rw [List.flatten_cons, List.length_append, ih (fun x hx => h x (List.mem_cons_of_mem _ hx)), h d List.mem_cons_self, List.length_cons]; omega
theorem flat_at (F : List (List (BitVec 8))) (h : ∀ d ∈ F, d.length = 32) (k : Nat) (hk : k < F.length) (j : Nat) (hj : j < 32) : F.flatten[k * 32 + j]? = (F.getD k [])[j]? := by
  induction F generalizing k with
  | nil => simp at hk
  | cons d r ih =>
    have hd := h d List.mem_cons_self
    rw [List.flatten_cons]
    cases k with
    | zero => rw [List.getElem?_append_left (by omega)]; simp
    | succ k =>
      rw [List.getElem?_append_right (by omega), show (k + 1) * 32 + j - d.length = k * 32 + j by omega, ih (fun x hx => h x (List.mem_cons_of_mem _ hx)) k (by simpa using hk)]
      simp
/-- A digest of a list that is owned. -/
theorem Ow.at {w : World} {g n cap : Nat} {F : List (List (BitVec 8))} (h : Ow w (.slice (some ⟨g, 0, none⟩) n cap) n (vB F.flatten)) (hn : F.length = n) (h32 : ∀ d ∈ F, d.length = 32) (k : Nat) (hk : k < n) : w.rangeAt g (k * 32) (vB (F.getD k [])) := by
  have hc := World.ownsRow.cells (g := g) h rfl
  intro j v hj
  have hm : F.getD k [] ∈ F := by rw [List.getD_eq_getElem?_getD, List.getElem?_eq_getElem (by omega)]; exact List.getElem_mem _
  have hjl : j < 32 := by
    have := (List.getElem?_eq_some_iff.1 hj).1
    rw [vB_length, h32 _ hm] at this; exact this
  have := hc (k * 32 + j) v (by
    unfold vB at hj ⊢
    rw [List.getElem?_map] at hj ⊢
    rw [flat_at F h32 k (by omega) j hjl]; exact hj)
  rwa [Addr.add_mid, Nat.zero_add] at this
/-- The first of a list that is owned. -/
theorem Ow.cut {w : World} {g n cap : Nat} {F G : List (List (BitVec 8))} {z : List (BitVec 8)} (h : Ow w (.slice (some ⟨g, 0, none⟩) (n + 1) cap) (n + 1) (vB F.flatten)) (hF : F = G ++ [z]) (hn : G.length = n) (h32 : ∀ d ∈ F, d.length = 32) : Ow w (.slice (some ⟨g, 0, none⟩) n cap) n (vB G.flatten) := by
  subst hF
  have hG : G.flatten.length = n * 32 := by rw [flat_len G (fun d hd => h32 d (List.mem_append_left _ hd)), hn]
  obtain ⟨h1, h2⟩ := h
  refine ⟨by rw [vB_length, hG], ?_⟩
  rcases h2 with ⟨h2, _⟩ | ⟨g', cap', cur, hv, hg, hh, r1, r2, r3, r4⟩
  · cases h2
  · simp only [Value.slice.injEq, Option.some.injEq, Addr.mk.injEq] at hv
    obtain ⟨⟨rfl, _⟩, _, rfl⟩ := hv
    refine .inr ⟨g, cap, cur, rfl, hg, hh, by omega, r2, r3, ?_⟩
    have e : cur.toList.take (n * 32) = (cur.toList.take ((n + 1) * 32)).take (n * 32) := by rw [List.take_take, Nat.min_eq_left (by omega)]
    rw [e, r4, List.flatten_append]
    unfold vB
    rw [List.map_append, List.take_append_of_le_length (by rw [List.length_map, hG]; exact Nat.le_refl _), List.take_of_length_le (by rw [List.length_map, hG]; exact Nat.le_refl _)]

/-- A log of m leaves with a frontier. -/
structure Lg (w : World) (P m : Nat) (v : Value) (F : List (List (BitVec 8))) : Prop where
  row : Row w P [.int .i64 (m : Int), v] tL
  own : Ow w v F.length (vB F.flatten)
  dl : ∀ d ∈ F, d.length = 32
theorem Lg.be {w w' : World} {P m : Nat} {v : Value} {F : List (List (BitVec 8))} (h : Lg w P m v F) (k : Below w.heap.size w w') : Lg w' P m v F := ⟨Row.below h.row k h.row.lt, h.own.be k, h.dl⟩
theorem Lg.gro {R : Nat → Prop} {w w' : World} {P m : Nat} {v : Value} {F : List (List (BitVec 8))} (h : Lg w P m v F) (k : Gro R w w') (h1 : ¬ R P) (h2 : ∀ g, v.ownBlock = some g → ¬ R g) : Lg w' P m v F := ⟨(k.block P h.row.lt h1).trans h.row, h.own.gro k h2, h.dl⟩
theorem Lg.ne {w : World} {P m : Nat} {v : Value} {F : List (List (BitVec 8))} (h : Lg w P m v F) : ∀ g, v.ownBlock = some g → g ≠ P := fun g e q => by
  subst q
  rcases h.own.2 with ⟨h1, _⟩ | ⟨g', cap, cur, hv, _, hh, _⟩
  · rw [h1] at e; simp [Value.ownBlock] at e
  · rw [hv] at e
    simp only [Value.ownBlock, Option.some.injEq] at e
    subst e
    have := h.row.symm.trans hh
    simp only [Option.some.injEq, Obj.cells.injEq] at this
    exact absurd this.2.1 (by decide)
/-- The first blocks of a world. -/
def upto (w : World) (n : Nat) : World := { w with heap := w.heap.extract 0 n }
theorem upto_size (w : World) (n : Nat) (h : n ≤ w.heap.size) : (upto w n).heap.size = n := by
  unfold upto; simp; omega
theorem upto_below (w : World) (n : Nat) (h : n ≤ w.heap.size) : Below n (upto w n) w :=
  ⟨rfl, rfl, rfl, by rw [upto_size w n h]; exact h, fun k hk => by unfold upto; simp [Array.getElem?_extract]; omega⟩

set_option maxRecDepth 100000 in
theorem lnew_any (w : World) : Calls Tryd.prog 5 #[] w fun e w' => e = .returned (.pointer (some ⟨w.heap.size, 0, none⟩)) ∧ Lg w' w.heap.size 0 (.slice none 0 0) [] ∧ Below w.heap.size w w' := by
  go_enter Tryd.func5, Tryd.ntmps5
  go_wp2
  go_ret
  exact ⟨rfl, ⟨Row.new' rfl rfl, ⟨rfl, .inl ⟨rfl, rfl⟩⟩, fun d hd => nomatch hd⟩, (Below.refl _ _).alloc (Nat.le_refl _) _⟩
set_option maxRecDepth 100000 in
theorem lsize_any (P m : Nat) (v : Value) (w : World) (h : Row w P [.int .i64 (m : Int), v] tL) : Calls Tryd.prog 11 #[.pointer (some ⟨P, 0, none⟩)] w fun e w' => e = .returned (.int .i64 (m : Int)) ∧ w' = w := by
  have g0 := h.cell 0 _ rfl
  clear h
  go_enter Tryd.func11, Tryd.ntmps11
  go_wp2
  go_ret
  exact ⟨rfl, rfl⟩

end Go.Proofs.YtkgfaioinajkjaaDoor
