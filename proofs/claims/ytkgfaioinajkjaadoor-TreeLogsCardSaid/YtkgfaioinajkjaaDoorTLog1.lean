/-
  slices.Clone of digests; bits.OnesCount; Front and Resume.
-/
import Derived.Shelf.Lays7
import Derived.Shelf.Spec.TrailingZeros
import Derived.Test.YtkgfaioinajkjaaDoorTFrM
import Derived.Test.YtkgfaioinajkjaaDoorTOwn0
import Derived.Test.YtkgfaioinajkjaaDoorTMark
import Derived.Test.YtkgfaioinajkjaaDoorTChkO

namespace Go.Proofs.YtkgfaioinajkjaaDoor
open Go Go.Shelf Go.RowKit
def lays27_ren : Go.Shelf.Ren := ⟨fun | 27 => 26 | 28 => 41 | 29 => 42 | n => n, fun | 0 => 0 | 3 => 3 | 4 => 4 | 5 => 5 | 22 => 74 | 25 => 64 | 27 => 72 | 53 => 41 | 54 => 82 | n => n, fun | 0 => 0 | 1 => 1 | n => n⟩
theorem lays27 : Go.Proofs.Lays7.n27 Tryd.prog lays27_ren := {
  mixed := by kernel_rfl
  f27 := Tryd.func26.trans (congrArg some (by kernel_rfl))
  f28 := Tryd.func41.trans (congrArg some (by kernel_rfl))
  f29 := Tryd.func42.trans (congrArg some (by kernel_rfl))
  t0 := by kernel_rfl
  a0 := fun _ => by kernel_rfl
  z0 := fun _ => by kernel_rfl
  v0 := fun _ => by kernel_rfl
  i0 := by kernel_rfl
  t3 := Tryd.underlying3
  a3 := Tryd.isAgg3
  z3 := Tryd.sizeOf3
  v3 := Tryd.zeroValue3
  i3 := by kernel_rfl
  t4 := Tryd.underlying4
  a4 := Tryd.isAgg4
  z4 := Tryd.sizeOf4
  v4 := Tryd.zeroValue4
  i4 := by kernel_rfl
  t5 := Tryd.underlying5
  a5 := Tryd.isAgg5
  z5 := Tryd.sizeOf5
  v5 := Tryd.zeroValue5
  i5 := by kernel_rfl
  t22 := Tryd.underlying74
  a22 := Tryd.isAgg74
  z22 := Tryd.sizeOf74
  v22 := Tryd.zeroValue74
  i22 := by kernel_rfl
  t25 := Tryd.underlying64
  a25 := Tryd.isAgg64
  z25 := Tryd.sizeOf64
  v25 := Tryd.zeroValue64
  i25 := by kernel_rfl
  t27 := Tryd.underlying72
  a27 := Tryd.isAgg72
  z27 := Tryd.sizeOf72
  v27 := Tryd.zeroValue72
  i27 := by kernel_rfl
  t53 := Tryd.underlying41
  a53 := Tryd.isAgg41
  z53 := Tryd.sizeOf41
  v53 := Tryd.zeroValue41
  i53 := by kernel_rfl
  t54 := Tryd.underlying82
  a54 := Tryd.isAgg82
  z54 := Tryd.sizeOf82
  g0 := by kernel_rfl
  g1 := by kernel_rfl }
theorem ctz_t1 : ∀ (f m : Nat), m + 1 < 2 ^ f → Lib.ctzFrom f (2 ^ f - 1 - m) = t1 m
  | 0, m, h => by simp at h
  | f + 1, m, h => by
    have e : 2 ^ (f + 1) = 2 * 2 ^ f := by rw [Nat.pow_succ, Nat.mul_comm]
    rw [e] at h ⊢
    generalize hp : 2 ^ f = p at *
    by_cases ho : m % 2 = 1
    · rw [Lib.ctzFrom, if_neg (by omega), t1_odd m ho, show (2 * p - 1 - m) / 2 = p - 1 - m / 2 by omega, ← hp, ctz_t1 f (m / 2) (by rw [hp]; omega), Nat.add_comm]
    · rw [Lib.ctzFrom, if_pos (by omega), t1_even m (by omega)]
theorem tz_any (m : Nat) (hm : m < 1099511627777) (w : World) (hT : TabAt 1 Lib.deBruijn64tab w) :
    Calls Tryd.prog 26 #[.int .u64 ((18446744073709551615 - m : Nat) : Int)] w fun e w' => e = .returned (.int .i64 (t1 m : Int)) ∧ w' = w := by
  have h := Any7.bits_TrailingZeros lays27 (18446744073709551615 - m) (by omega) w (fun _ => hT)
  have e : Lib.ctz 64 (18446744073709551615 - m) = t1 m := by
    unfold Lib.ctz
    rw [if_neg (by omega)]
    exact ctz_t1 64 m (by omega)
  rw [e] at h
  exact h

end Go.Proofs.YtkgfaioinajkjaaDoor

namespace Go.Proofs.YtkgfaioinajkjaaDoor
open Go Go.RowKit
open Sha

abbrev tL : TypeId := 61
theorem run_load_ds (w : World) (b f : Nat) (v : Value) (h : w.cell? ⟨b, f, none⟩ = some v) : (loadVar 26 ⟨b, f, none⟩).run Tryd.prog w = .ok v w := by
  simp [loadVar, isAgg, run_underlying Tryd.underlying26, h]
section
variable {P : Program} {o : Oper} {a : Act} {w : World} {K : Act → World → Prop} {Q : Exit → Act → World → Prop}
theorem wp_nilck {x : Operand} (b f : Nat) (ho : o.op = .nilCheck x) (hx : a.eval x = .pointer (some ⟨b, f, none⟩)) (h : K (a.put o.dst (.pointer (some ⟨b, f, none⟩))) w) : Oper.wp P o a w K Q := by
  obtain ⟨dst, op, ty, pos, after, guard⟩ := o
  simp only at ho
  subst ho
  unfold Oper.wp execOp
  simp only [hx]
  go_simp
  exact h
theorem wp_lf1 {x : Operand} (b : Nat) (ho : o.op = .fieldAddr tL x 1) (hx : a.eval x = .pointer (some ⟨b, 0, none⟩)) (h : K (a.put o.dst (.pointer (some ⟨b, 1, none⟩))) w) : Oper.wp Tryd.prog o a w K Q := by
  obtain ⟨dst, op, ty, pos, after, guard⟩ := o
  simp only at ho
  subst ho
  unfold Oper.wp execOp
  simp only [hx]
  go_simp
  exact h
theorem wp_subc_v {x : Operand} {m : Nat} (t yt : TypeId) (ho : o.op = .binOp .sub t x (.const (.int .i64 1)) yt) (hx : a.eval x = .int .i64 (m : Int)) (hle : 1 ≤ m) (hm : m < 4611686018427387904) (h : K (a.put o.dst (.int .i64 ((m - 1 : Nat) : Int))) w) : Oper.wp P o a w K Q :=
  wp_sub_v t yt ho hx rfl hle hm h
end
theorem flat_len (F : List (List (BitVec 8))) (h : ∀ d ∈ F, d.length = 32) : F.flatten.length = F.length * 32 := by
  induction F with
  | nil => rfl
  | cons d r ih => rw [List.flatten_cons, List.length_append, ih (fun x hx => h x (List.mem_cons_of_mem _ hx)), h d List.mem_cons_self, List.length_cons]; omega
theorem flat_at (F : List (List (BitVec 8))) (h : ∀ d ∈ F, d.length = 32) (k : Nat) (hk : k < F.length) (j : Nat) (hj : j < 32) : F.flatten[k * 32 + j]? = (F.getD k [])[j]? := by
  induction F generalizing k with
  | nil => simp at hk
  | cons d r ih =>
    have hd := h d List.mem_cons_self
    rw [List.flatten_cons]
    cases k with
    | zero => rw [List.getElem?_append_left (by omega)]; simp
    | succ k =>
      rw [List.getElem?_append_right (by omega), show (k + 1) * 32 + j - d.length = k * 32 + j by omega, ih (fun x hx => h x (List.mem_cons_of_mem _ hx)) k (by simpa using hk)]
      simp
/-- A digest of a list that is owned. -/
theorem Ow.at {w : World} {g n cap : Nat} {F : List (List (BitVec 8))} (h : Ow w (.slice (some ⟨g, 0, none⟩) n cap) n (vB F.flatten)) (hn : F.length = n) (h32 : ∀ d ∈ F, d.length = 32) (k : Nat) (hk : k < n) : w.rangeAt g (k * 32) (vB (F.getD k [])) := by
  have hc := World.ownsRow.cells (g := g) h rfl
  intro j v hj
  have hm : F.getD k [] ∈ F := by rw [List.getD_eq_getElem?_getD, List.getElem?_eq_getElem (by omega)]; exact List.getElem_mem _
  have hjl : j < 32 := by
    have := (List.getElem?_eq_some_iff.1 hj).1
    rw [vB_length, h32 _ hm] at this; exact this
  have := hc (k * 32 + j) v (by
    unfold vB at hj ⊢
    rw [List.getElem?_map] at hj ⊢
    rw [flat_at F h32 k (by omega) j hjl]; exact hj)
  rwa [Addr.add_mid, Nat.zero_add] at this
/-- The first of a list that is owned. -/
theorem Ow.cut {w : World} {g n cap : Nat} {F G : List (List (BitVec 8))} {z : List (BitVec 8)} (h : Ow w (.slice (some ⟨g, 0, none⟩) (n + 1) cap) (n + 1) (vB F.flatten)) (hF : F = G ++ [z]) (hn : G.length = n) (h32 : ∀ d ∈ F, d.length = 32) : Ow w (.slice (some ⟨g, 0, none⟩) n cap) n (vB G.flatten) := by
  subst hF
  have hG : G.flatten.length = n * 32 := by rw [flat_len G (fun d hd => h32 d (List.mem_append_left _ hd)), hn]
  obtain ⟨h1, h2⟩ := h
  refine ⟨by rw [vB_length, hG], ?_⟩
  rcases h2 with ⟨h2, _⟩ | ⟨g', cap', cur, hv, hg, hh, r1, r2, r3, r4⟩
  · cases h2
  · simp only [Value.slice.injEq, Option.some.injEq, Addr.mk.injEq] at hv
    obtain ⟨⟨rfl, _⟩, _, rfl⟩ := hv
    refine .inr ⟨g, cap, cur, rfl, hg, hh, by omega, r2, r3, ?_⟩
    have e : cur.toList.take (n * 32) = (cur.toList.take ((n + 1) * 32)).take (n * 32) := by rw [List.take_take, Nat.min_eq_left (by omega)]
    rw [e, r4, List.flatten_append]
    unfold vB
    rw [List.map_append, List.take_append_of_le_length (by rw [List.length_map, hG]; exact Nat.le_refl _), List.take_of_length_le (by rw [List.length_map, hG]; exact Nat.le_refl _)]

/-- A log of m leaves with a frontier. -/
structure Lg (w : World) (P m : Nat) (v : Value) (F : List (List (BitVec 8))) : Prop where
  row : Row w P [.int .i64 (m : Int), v] tL
  own : Ow w v F.length (vB F.flatten)
  dl : ∀ d ∈ F, d.length = 32
theorem Lg.be {w w' : World} {P m : Nat} {v : Value} {F : List (List (BitVec 8))} (h : Lg w P m v F) (k : Below w.heap.size w w') : Lg w' P m v F := ⟨Row.below h.row k h.row.lt, h.own.be k, h.dl⟩
theorem Lg.gro {R : Nat → Prop} {w w' : World} {P m : Nat} {v : Value} {F : List (List (BitVec 8))} (h : Lg w P m v F) (k : Gro R w w') (h1 : ¬ R P) (h2 : ∀ g, v.ownBlock = some g → ¬ R g) : Lg w' P m v F := ⟨(k.block P h.row.lt h1).trans h.row, h.own.gro k h2, h.dl⟩
theorem Lg.ne {w : World} {P m : Nat} {v : Value} {F : List (List (BitVec 8))} (h : Lg w P m v F) : ∀ g, v.ownBlock = some g → g ≠ P := fun g e q => by
  subst q
  rcases h.own.2 with ⟨h1, _⟩ | ⟨g', cap, cur, hv, _, hh, _⟩
  · rw [h1] at e; simp [Value.ownBlock] at e
  · rw [hv] at e
    simp only [Value.ownBlock, Option.some.injEq] at e
    subst e
    have := h.row.symm.trans hh
    simp only [Option.some.injEq, Obj.cells.injEq] at this
    exact absurd this.2.1 (by decide)
/-- The first blocks of a world. -/
def upto (w : World) (n : Nat) : World := { w with heap := w.heap.extract 0 n }
theorem upto_size (w : World) (n : Nat) (h : n ≤ w.heap.size) : (upto w n).heap.size = n := by
  unfold upto; simp; omega
theorem upto_below (w : World) (n : Nat) (h : n ≤ w.heap.size) : Below n (upto w n) w :=
  ⟨rfl, rfl, rfl, by rw [upto_size w n h]; exact h, fun k hk => by unfold upto; simp [Array.getElem?_extract]; omega⟩

set_option maxRecDepth 100000 in
theorem lnew_any (w : World) : Calls Tryd.prog 5 #[] w fun e w' => e = .returned (.pointer (some ⟨w.heap.size, 0, none⟩)) ∧ Lg w' w.heap.size 0 (.slice none 0 0) [] ∧ Below w.heap.size w w' := by
  go_enter Tryd.func5, Tryd.ntmps5
  go_wp2
  go_ret
  exact ⟨rfl, ⟨Row.new' rfl rfl, ⟨rfl, .inl ⟨rfl, rfl⟩⟩, fun d hd => nomatch hd⟩, (Below.refl _ _).alloc (Nat.le_refl _) _⟩
set_option maxRecDepth 100000 in
theorem lsize_any (P m : Nat) (v : Value) (w : World) (h : Row w P [.int .i64 (m : Int), v] tL) : Calls Tryd.prog 11 #[.pointer (some ⟨P, 0, none⟩)] w fun e w' => e = .returned (.int .i64 (m : Int)) ∧ w' = w := by
  have g0 := h.cell 0 _ rfl
  clear h
  go_enter Tryd.func11, Tryd.ntmps11
  go_wp2
  go_ret
  exact ⟨rfl, rfl⟩

end Go.Proofs.YtkgfaioinajkjaaDoor

namespace Go.Proofs.YtkgfaioinajkjaaDoor
open Go Go.RowKit
open Sha

theorem dnil_eq (w : World) : (binOp .eql 26 (.slice none 0 0) (.slice none 0 0)).run Tryd.prog w = .ok (.bool true) w := by
  have h1 : ∀ d, (Op.equalIn (d + 1) 26 (.slice none 0 0) (.slice none 0 0)).run Tryd.prog w = .ok true w := fun d => by simp [Op.equalIn, run_underlying Tryd.underlying26]
  have h2 : (Op.equal 26 (.slice none 0 0) (.slice none 0 0)).run Tryd.prog w = .ok true w := h1 9999
  simp only [binOp]
  simp [h2]
theorem dsome_eq (a : Addr) (n c : Nat) (w : World) : (binOp .eql 26 (.slice (some a) n c) (.slice none 0 0)).run Tryd.prog w = .ok (.bool false) w := by
  have h1 : ∀ d, (Op.equalIn (d + 1) 26 (.slice (some a) n c) (.slice none 0 0)).run Tryd.prog w = .ok false w := fun d => by simp [Op.equalIn, run_underlying Tryd.underlying26]
  have h2 : (Op.equal 26 (.slice (some a) n c) (.slice none 0 0)).run Tryd.prog w = .ok false w := h1 9999
  simp only [binOp]
  simp [h2]
section
variable {ops : Array Oper} {rest : List Oper} {o : Oper} {a : Act} {w : World} {Q : Exit → Act → World → Prop}
/-- append of digests onto digests that are owned. -/
theorem wpList_appd (hgd : o.guard = none) (s x : Operand) (ho : o.op = .call { callee := .builtin .append, args := #[s, x], argTypes := #[26, 26] }) (n : Nat) (v : Value) (l : List Value) (hs : a.eval s = v) (hown : Ow w v n l)
    (g m cap : Nat) (news : List Value) (hl : news.length = m * 32) (hx : a.eval x = .slice (some ⟨g, 0, none⟩) m cap) (hr : w.rangeAt g 0 news) (h1c : ∀ u ∈ news, u.oneCell' = true) (hk : (n + m) * 32 ≤ 140737488355328)
    (h : ∀ v' w', Ow w' v' (n + m) (l ++ news) → w.grownBy w' v.ownBlock → (v'.ownBlock = v.ownBlock ∨ v'.ownBlock = some w.heap.size) → wpList Tryd.prog ops Q rest (a.put o.dst v') w') : wpList Tryd.prog ops Q (o :: rest) a w := by
  obtain ⟨ie, z, h1, h2, h3, h5, h4⟩ := info_d_open
  obtain ⟨v', w', hr', q2, q3, _, q5⟩ := run_append_own_at (P := Tryd.prog) w 0 26 o.type 42 ie z 32 32 Tryd.underlying26 h1 h2 h3 h5 h4 (by decide) v n l hown ⟨g, 0, none⟩ m cap news hl
    (fun j u hj => by rw [Addr.add_mid]; exact hr j u hj) h1c (by unfold maxLen; omega) hk (Nat.zero_le _)
  refine wpList_plain hgd fun K hK => ?_
  unfold Oper.wp execOp
  simp only [ho, resolve, invoke, builtin, Sem.run_bind, Sem.run_pure, Result.andThen_ok, List.map_toArray, List.map_cons, List.map_nil, hs, hx, hr']
  exact hK _ _ (h v' w' q2 q3 q5)
end
theorem ow_empty (w : World) : Ow (w.alloc (Obj.cells #[] 42)) (.slice (some ⟨w.heap.size, 0, none⟩) 0 0) 0 [] :=
  ⟨rfl, .inr ⟨w.heap.size, 0, #[], rfl, Nat.zero_le _, (Row.new' rfl rfl : Row _ _ [] _), Nat.le_refl _, by unfold maxLen; omega, rfl, rfl⟩⟩
theorem Ow.all {w : World} {g n cap : Nat} {xs : List Value} (h : Ow w (.slice (some ⟨g, 0, none⟩) n cap) n xs) : w.rangeAt g 0 xs := fun j v hj => by
  have := World.ownsRow.cells (g := g) h rfl j v hj
  rwa [Addr.add_mid] at this
set_option maxRecDepth 100000 in
set_option maxHeartbeats 1000000 in
theorem dclone_any (n : Nat) (hn : n ≤ 100) (v : Value) (xs : List Value) (hx : ∀ u ∈ xs, u.oneCell' = true) (w : World) (h : Ow w v n xs) :
    Calls Tryd.prog 31 #[v] w fun e w' => ∃ v', e = .returned v' ∧ Ow w' v' n xs ∧ Fresh w.heap.size v' ∧ Below w.heap.size w w' := by
  have hl := h.1
  rcases h.2 with ⟨rfl, rfl⟩ | ⟨g, cap, cur, rfl, hg, hh, r⟩
  · have hq := dnil_eq
    obtain rfl : xs = [] := List.length_eq_zero_iff.1 (by simpa using hl)
    clear h hl hx
    go_enter Tryd.func31, Tryd.ntmps31
    go_wp2
    go_ret
    exact ⟨_, rfl, ⟨rfl, .inl ⟨rfl, rfl⟩⟩, fun g e => by simp [Value.ownBlock] at e, Below.refl _ _⟩
  · have hq := dsome_eq ⟨g, 0, none⟩ n cap
    have hB : Below w.heap.size w (w.alloc (Obj.cells #[] 42)) := (Below.refl _ _).alloc (Nat.le_refl _) _
    have HR : Hid ((w.alloc (Obj.cells #[] 42)).rangeAt g 0 xs) := (h.be hB).all
    have HL : Hid (xs.length = n * 32) := hl
    have HX : Hid (∀ u ∈ xs, u.oneCell' = true) := hx
    have HK : Hid ((0 + n) * 32 ≤ 140737488355328) := by show _ ≤ _; omega
    have HB : Hid (Below w.heap.size w _) := hB
    clear h hl hx hh r hB hn
    go_enter Tryd.func31, Tryd.ntmps31
    go_wp2_with (refine wpList_appd rfl _ (.tmp 6) rfl 0 (.slice (some ⟨w.heap.size, 0, none⟩) 0 0) [] rfl (ow_empty w) g n cap xs HL.out rfl HR.out HX.out HK.out ?_; intro v' w' q1 q2 q3; rw [Nat.zero_add, List.nil_append] at q1; obtain ⟨Ax, cx, ex, _⟩ := Ow.form q1; subst ex; have Q1 : Hid (Ow _ _ _ _) := q1; have Q2 : Hid _ := q2; have Q3 : Hid _ := q3; clear q1 q2 q3; simp only [Act.put, List.setIfInBounds_toArray, List.set_cons_zero, List.set_cons_succ])
    go_ret
    refine ⟨Value.slice Ax n cx, rfl, Q1.out, fun k e => ?_, HB.out.grown Q2.out (by simp) (fun k hk => by simp [Value.ownBlock] at hk; omega)⟩
    rcases Q3.out with q | q
    · rw [e] at q; simp [Value.ownBlock] at q; omega
    · rw [e] at q; simp at q; omega

theorem pop_pc : ∀ (f m : Nat), m < 2 ^ f → Lib.popAux f m = pc m
  | 0, m, h => by
    have : m = 0 := by simpa using h
    subst this
    rw [pc, dif_pos rfl]; rfl
  | f + 1, m, h => by
    rw [Nat.pow_succ] at h
    rw [Lib.popAux, pop_pc f (m / 2) (by omega)]
    by_cases h0 : m = 0
    · subst h0
      have e : pc 0 = 0 := by rw [pc, dif_pos rfl]
      rw [Nat.zero_div, e]
    · conv => rhs; rw [pc, dif_neg h0]
set_option maxRecDepth 100000 in
set_option maxHeartbeats 1000000 in
theorem ones64_c (m : Nat) (hm : m < 261) (w : World) :
    Calls Tryd.prog 47 #[.int .u64 (m : Int)] w fun e w' => e = .returned (.int .i64 (Lib.onesCount m : Int)) ∧ w' = w := by
  go_enter Tryd.func47, Tryd.ntmps47
  go_wp2
  go_ret
  refine ⟨congrArg (fun z => Ending.returned (Value.int .i64 z)) (?_ : _ = _), rfl⟩
  clear w
  revert hm
  revert m
  decide +kernel
theorem ones64_any (m : Nat) (hm : m < 261) (w : World) :
    Calls Tryd.prog 47 #[.int .u64 (m : Int)] w fun e w' => e = .returned (.int .i64 (pc m : Int)) ∧ w' = w := by
  have h := ones64_c m hm w
  rw [show Lib.onesCount m = pc m from pop_pc 64 m (by omega)] at h
  exact h
set_option maxRecDepth 100000 in
set_option maxHeartbeats 1000000 in
theorem ones_any (m : Nat) (hm : m < 261) (w : World) :
    Calls Tryd.prog 33 #[.int .u64 (m : Int)] w fun e w' => e = .returned (.int .i64 (pc m : Int)) ∧ w' = w := by
  have HO : Hid _ := ones64_any m hm w
  clear hm
  generalize pc m = k at *
  go_enter Tryd.func33, Tryd.ntmps33
  go_wp2_with (go_at_call 47; refine Calls.mono HO.out ?_; rintro e W ⟨rfl, rfl⟩)
  go_ret
  exact ⟨rfl, rfl⟩

theorem vB_ones (F : List (List (BitVec 8))) : ∀ u ∈ vB F.flatten, u.oneCell' = true := vB_one _
set_option maxRecDepth 100000 in
theorem lfront_any (P m : Nat) (v : Value) (F : List (List (BitVec 8))) (hn : F.length ≤ 100) (w : World) (h : Lg w P m v F) :
    Calls Tryd.prog 14 #[.pointer (some ⟨P, 0, none⟩)] w fun e w' => ∃ v', e = .returned v' ∧ Ow w' v' F.length (vB F.flatten) ∧ Fresh w.heap.size v' ∧ Below w.heap.size w w' := by
  have g1 := h.row.cell 1 _ rfl
  have HC : Hid _ := dclone_any F.length hn v (vB F.flatten) (vB_ones F) w h.own
  clear h hn
  go_enter Tryd.func14, Tryd.ntmps14
  go_wp2_with fail
  refine Calls.mono HC.out ?_
  rintro e W ⟨v', rfl, h1, h2, h3⟩
  obtain ⟨Ax, cx, ex, _⟩ := Ow.form h1
  subst ex
  have H1 : Hid (Ow _ _ _ _) := h1
  have H2 : Hid (Fresh _ _) := h2
  have H3 : Hid (Below _ _ _) := h3
  clear h1 h2 h3 HC g1
  go_wp2_with fail
  go_ret
  exact ⟨.slice Ax F.length cx, rfl, H1.out, H2.out, H3.out⟩
set_option maxRecDepth 100000 in
set_option maxHeartbeats 1000000 in
theorem lresume_any (m : Nat) (hm : m < 261) (v : Value) (F : List (List (BitVec 8))) (hF : F.length = pc m) (h32 : ∀ d ∈ F, d.length = 32) (hn : F.length ≤ 100) (w : World) (h : Ow w v F.length (vB F.flatten)) :
    Calls Tryd.prog 18 #[.int .i64 (m : Int), v] w fun e w' => ∃ P v', e = .returned (.tuple #[.pointer (some ⟨P, 0, none⟩), .int .i64 0]) ∧ Lg w' P m v' F ∧ w.heap.size ≤ P ∧ Fresh w.heap.size v' ∧ Below w.heap.size w w' := by
  have HO : Hid _ := ones_any m hm w
  rw [← hF] at HO
  have HC : Hid _ := dclone_any F.length hn v (vB F.flatten) (vB_ones F) w h
  have H32 : Hid (∀ d ∈ F, d.length = 32) := h32
  have c1 : ¬ (m : Int) < 0 := by omega
  have c2 : ¬ (1099511627776 : Int) < (m : Int) := by omega
  obtain ⟨A, cap, rfl, _⟩ := h.form
  have hwr : IntKind.u64.wrap (m : Int) = (m : Int) := by rw [IntKind.wrap_u64]; omega
  clear h hF h32 hn
  go_enter Tryd.func18, Tryd.ntmps18
  go_wp2_with (go_at_call 33; refine Calls.mono HO.out ?_; rintro e W ⟨rfl, hqq⟩; obtain rfl := hqq.symm)
  refine Calls.mono HC.out ?_
  rintro e W ⟨v', rfl, h1, h2, h3⟩
  obtain ⟨Ax, cx, ex, _⟩ := Ow.form h1
  subst ex
  have H1 : Hid (Ow _ _ _ _) := h1
  have H2 : Hid (Fresh _ _) := h2
  have H3 : Hid (Below w.heap.size w W) := h3
  clear h1 h2 h3 HC
  go_wp2_with fail
  go_ret2
  have b : Below W.heap.size W (W.alloc (Obj.cells #[.int .i64 (m : Int), .slice Ax F.length cx] tL)) := (Below.refl _ _).alloc (Nat.le_refl _) _
  exact ⟨W.heap.size, .slice Ax F.length cx, rfl, ⟨Row.new' rfl rfl, H1.out.be b, H32.out⟩, H3.out.size, H2.out, H3.out.trans (b.mono H3.out.size)⟩

end Go.Proofs.YtkgfaioinajkjaaDoor
