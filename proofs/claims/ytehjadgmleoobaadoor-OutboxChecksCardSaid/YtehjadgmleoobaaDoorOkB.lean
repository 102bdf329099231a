/-
  the law OutboxChecks: what came in; laws of its walk.
-/
import Derived.Test.YtehjadgmleoobaaDoorObD
import Derived.Lib.SliceRun
import Derived.Test.YtehjadgmleoobaaDoorOcC
import Derived.Test.YtehjadgmleoobaaDoorOcS
import Derived.Test.YtehjadgmleoobaaDoorTAwk
import Derived.Test.YtehjadgmleoobaaDoorOkA
import Derived.Test.YtehjadgmleoobaaDoorTLent

namespace Go.Proofs.YtehjadgmleoobaaDoor
open Go Go.RowKit
open Sha

section
variable {ops : Array Oper} {rest : List Oper} {op : Oper} {a : Act} {w : World} {Q : Exit → Act → World → Prop}
/-- The first k of a list. -/
theorem wpList_slice_k (hw : Region.wanted op (yielded ops a.tmps) = true) (t e : TypeId) (x z : Operand) (b n cap k s : Nat) (ho : op.op = .slice t x none (some z) none) (hx : a.eval x = .slice (some ⟨b, 0, none⟩) n cap) (hz : a.eval z = .int .i64 (k : Int)) (hk : k ≤ cap)
    (hu : Tryd.prog.underlying t = some (.slice e)) (hs : (Tryd.prog.info? e).map (·.size) = some s) (h : wpList Tryd.prog ops Q rest (a.put op.dst (.slice (some ⟨b, 0, none⟩) k cap)) w) : wpList Tryd.prog ops Q (op :: rest) a w :=
  BigFrame.wpList_want hw fun _ hK => by
    cases hq : Tryd.prog.info? e with
    | none => simp [hq] at hs
    | some i =>
      have hr : (Instr.sliceAt t (.slice (some ⟨b, 0, none⟩) n cap) none (some (.int .i64 (k : Int))) none).run Tryd.prog w = .ok (.slice (some ⟨b, 0, none⟩) k cap) w := by
        simp [Instr.sliceAt, Instr.slice, run_underlying hu, Instr.sliceBounds, Instr.sliceBound, asIntOf, sizeOf, typeInfo, hq, hk, Addr.add_mid]
      unfold Oper.wp execOp
      simp only [ho, hx, hz, Option.map_some, Option.map_none, Sem.run_bind, hr, Result.andThen_ok, Sem.run_pure, Oper.upon_value]
      exact hK _ _ h
/-- What lies behind the first k. -/
theorem wpList_slice_b (hgd : op.guard = none) (t e : TypeId) (x z : Operand) (b n cap k : Nat) (ho : op.op = .slice t x (some z) none none) (hx : a.eval x = .slice (some ⟨b, 0, none⟩) n cap) (hz : a.eval z = .int .i64 (k : Int)) (hk : k ≤ n)
    (hu : Tryd.prog.underlying t = some (.slice e)) (hs : (Tryd.prog.info? e).map (·.size) = some 1) (h : ∀ o, (k < cap → o = k) → wpList Tryd.prog ops Q rest (a.put op.dst (.slice (some ⟨b, o, none⟩) (n - k) (cap - k))) w) : wpList Tryd.prog ops Q (op :: rest) a w :=
  wpList_plain hgd fun _ hK => by
    cases hq : Tryd.prog.info? e with
    | none => simp [hq] at hs
    | some i =>
      have h1 : i.size = 1 := by simpa [hq] using hs
      have hr : (Instr.sliceAt t (.slice (some ⟨b, 0, none⟩) n cap) (some (.int .i64 (k : Int))) none none).run Tryd.prog w = .ok (.slice (some ⟨b, if cap = k then 0 else k, none⟩) (n - k) (cap - k)) w := by
        by_cases hck : cap = k
        · simp [Instr.sliceAt, Instr.slice, run_underlying hu, Instr.sliceBounds, Instr.sliceBound, asIntOf, sizeOf, typeInfo, hq, hk, hck]
        · simp [Instr.sliceAt, Instr.slice, run_underlying hu, Instr.sliceBounds, Instr.sliceBound, asIntOf, sizeOf, typeInfo, hq, hk, hck, Addr.add_mid, h1]
      unfold Oper.wp execOp
      simp only [ho, hx, hz, Option.map_some, Option.map_none, Sem.run_bind, hr, Result.andThen_ok, Sem.run_pure, Oper.upon_value]
      exact hK _ _ (h _ (fun q => by rw [if_neg (by omega)]))
theorem zero_sl (w : World) : (zeroValue 63).run Tryd.prog w = .ok (.slice none 0 0) w := by go_simp
/-- clear of what lies behind the first k of a list that is owned. -/
theorem wpList_clearB (hgd : op.guard = none) (ty : TypeId) (hu : Tryd.prog.underlying ty = some (.slice 63)) (x : Operand) (ho : op.op = .call { callee := .builtin .clear, args := #[x], argTypes := #[ty] }) (g n cap k o : Nat) (cs : List Value) (hx : a.eval x = .slice (some ⟨g, o, none⟩) (n - k) (cap - k)) (hk : k ≤ n) (hc : n ≤ cap) (hof : k < cap → o = k)
    (hown : Lw w 63 1 (.slice (some ⟨g, 0, none⟩) n cap) n cs)
    (h : ∀ X, Lw X 63 1 (.slice (some ⟨g, 0, none⟩) k cap) k (cs.take k) → Gro (· = g) w X → wpList Tryd.prog ops Q rest (a.put op.dst (.tuple #[])) X) : wpList Tryd.prog ops Q (op :: rest) a w :=
  wpList_plain hgd fun _ hK => by
    obtain ⟨h1, h2⟩ := hown
    rcases h2 with ⟨h2, _⟩ | ⟨g', cap', cur, hv, _, hh, hc2, hm, hs, ht⟩
    · cases h2
    · simp only [Value.slice.injEq, Option.some.injEq, Addr.mk.injEq] at hv
      obtain ⟨⟨rfl, _, _⟩, _, rfl⟩ := hv
      rw [Nat.mul_one] at hs ht h1
      have hrow : Row w g cur.toList 63 := by unfold Row; rw [hh]
      have hlen : cur.toList.length = cap := by simpa using hs
      by_cases hnk : n = k
      · subst hnk
        rw [Nat.sub_self] at hx
        have hr : (Builtin.clear_ #[ty] op.type #[.slice (some ⟨g, o, none⟩) 0 (cap - n)]).run Tryd.prog w = .ok (.tuple #[]) w := by
          simp [Builtin.clear_, run_underlying hu]
        unfold Oper.wp execOp
        simp only [ho, resolve, invoke, builtin, Sem.run_bind, Sem.run_pure, Result.andThen_ok, List.map_toArray, List.map_cons, List.map_nil, hx, hr]
        refine hK _ _ (h w ⟨by rw [List.length_take]; omega, .inr ⟨g, cap, cur, rfl, Nat.zero_le _, hh, hc2, hm, by rw [Nat.mul_one]; exact hs, ?_⟩⟩ (Gro.refl _ _))
        rw [Nat.mul_one, ht, List.take_of_length_le (by omega)]
      · have hkn : k < n := by omega
        have eo : o = k := hof (by omega)
        rw [eo] at hx
        have hr := Go.Lib.run_clear_slice (P := Tryd.prog) w ty 63 op.type (.slice none 0 0) hu zero_sl rfl rfl g k (n - k) (cap - k) (by omega)
          (fun j hj => by
            have q := hrow.cell (k + j) _ (List.getElem?_eq_getElem (by omega))
            rw [q]; rfl)
          (fun j hj => by
            simp only [World.frozen?, hh]
            simp)
        have hrow2 := hrow.setCells k (List.replicate (n - k) (.slice none 0 0)) (by simp; omega)
        unfold Oper.wp execOp
        simp only [ho, resolve, invoke, builtin, Sem.run_bind, Sem.run_pure, Result.andThen_ok, List.map_toArray, List.map_cons, List.map_nil, hx, hr]
        refine hK _ _ (h _ ⟨by rw [List.length_take]; omega, .inr ⟨g, cap, _, rfl, Nat.zero_le _, hrow2, by omega, hm, by simp; omega, ?_⟩⟩ (gro_over (Gro.refl _ _) g k _ rfl))
        rw [← ht]
        simp only [Nat.mul_one, List.append_assoc]
        rw [List.take_append_of_le_length (by rw [List.length_take]; omega), List.take_take, List.take_take]
        rw [show min k n = k by omega, show min k k = k by omega]
theorem wpList_clear0 (hgd : op.guard = none) (ty : TypeId) (hu : Tryd.prog.underlying ty = some (.slice 63)) (x : Operand) (ho : op.op = .call { callee := .builtin .clear, args := #[x], argTypes := #[ty] }) (hx : a.eval x = .slice none 0 0)
    (h : wpList Tryd.prog ops Q rest (a.put op.dst (.tuple #[])) w) : wpList Tryd.prog ops Q (op :: rest) a w :=
  wpList_plain hgd fun _ hK => by
    have hr : (Builtin.clear_ #[ty] op.type #[.slice none 0 0]).run Tryd.prog w = .ok (.tuple #[]) w := by
      simp [Builtin.clear_, run_underlying hu]
    unfold Oper.wp execOp
    simp only [ho, resolve, invoke, builtin, Sem.run_bind, Sem.run_pure, Result.andThen_ok, List.map_toArray, List.map_cons, List.map_nil, hx, hr]
    exact hK _ _ h
end
theorem info_slb1 : (Tryd.prog.info? 63).map (·.size) = some 1 := by kernel_rfl
set_option maxRecDepth 100000 in
set_option maxHeartbeats 4000000 in
theorem first_some (B g N cap k : Nat) (hk : k ≤ N) (_hN : N ≤ 1000000) (hc : N ≤ cap) (w : World) (h : Row w B [.slice (some ⟨g, 0, none⟩) N cap] 52) :
    Calls Tryd.prog 25 #[.pointer (some ⟨B, 0, none⟩), .int .i64 (k : Int)] w fun e w' => e = .returned (.tuple #[.slice (some ⟨g, 0, none⟩) k cap, .int .i64 0]) ∧ w' = w := by
  have cB : w.cell? ⟨B, 0, none⟩ = some (.slice (some ⟨g, 0, none⟩) N cap) := h.cell 0 _ rfl
  have hkc : Hid (k ≤ cap) := by show _ ≤ _; omega
  clear h hc
  go_enter Tryd.func25, Tryd.ntmps25
  go_wp2_with (first
    | (go_at_call 13; refine Calls.mono (len_any (some ⟨g, 0, none⟩) N cap w) ?_; rintro e X ⟨rfl, hq⟩; obtain rfl := hq.symm)
    | (refine wpList_slice_k rfl 50 63 (.tmp 24) (.tmp 25) g N cap k 1 rfl rfl rfl hkc.out Tryd.underlying50 info_slb1 ?_; simp only [Act.put, List.setIfInBounds_toArray, List.set_cons_zero, List.set_cons_succ]))
  go_ret2
  exact ⟨rfl, rfl⟩
set_option maxRecDepth 100000 in
set_option maxHeartbeats 4000000 in
theorem first_nil (B : Nat) (w : World) (h : Row w B [.slice none 0 0] 52) :
    Calls Tryd.prog 25 #[.pointer (some ⟨B, 0, none⟩), .int .i64 0] w fun e w' => e = .returned (.tuple #[.slice none 0 0, .int .i64 0]) ∧ w' = w := by
  have cB : w.cell? ⟨B, 0, none⟩ = some (.slice none 0 0) := h.cell 0 _ rfl
  clear h
  go_enter Tryd.func25, Tryd.ntmps25
  go_wp2_with (go_at_call 13; refine Calls.mono (len_any none 0 0 w) ?_; rintro e X ⟨rfl, hq⟩; obtain rfl := hq.symm)
  go_ret2
  exact ⟨rfl, rfl⟩
set_option maxRecDepth 100000 in
set_option maxHeartbeats 4000000 in
theorem first_no (B : Nat) (A : Option Addr) (N cap : Nat) (k : Int) (hk : k < 0 ∨ (N : Int) < k) (_hN : N ≤ 1000000) (w : World) (h : Row w B [.slice A N cap] 52) :
    Calls Tryd.prog 25 #[.pointer (some ⟨B, 0, none⟩), .int .i64 k] w fun e w' => e = .returned (.tuple #[.slice none 0 0, .int .i64 112]) ∧ w' = w := by
  have cB : w.cell? ⟨B, 0, none⟩ = some (.slice A N cap) := h.cell 0 _ rfl
  clear h
  by_cases h0 : k < 0
  · clear hk
    go_enter Tryd.func25, Tryd.ntmps25
    go_wp2
    go_ret2
    exact ⟨rfl, rfl⟩
  · have hk2 : (N : Int) < k := by omega
    clear hk
    go_enter Tryd.func25, Tryd.ntmps25
    go_wp2_with (go_at_call 13; refine Calls.mono (len_any A N cap w) ?_; rintro e X ⟨rfl, hq⟩; obtain rfl := hq.symm)
    go_ret2
    exact ⟨rfl, rfl⟩
/-- first, of a book. -/
theorem first_bk (w0 : World) (B : Nat) (v : Value) (ts : List (List (BitVec 8))) (hts : ts.length ≤ 1000000) (k : Nat) (hk : k ≤ ts.length) (w : World) (hb : Bk w0 w B v ts) :
    Calls Tryd.prog 25 #[.pointer (some ⟨B, 0, none⟩), .int .i64 (k : Int)] w fun e w' => (∃ A cap, v = .slice A ts.length cap ∧ e = .returned (.tuple #[.slice A k cap, .int .i64 0])) ∧ w' = w := by
  obtain ⟨cs, h1, h2⟩ := hb.own
  obtain ⟨A, cap, e, hc, hn⟩ := Lw.form h1
  subst e
  cases A with
  | none =>
    obtain rfl := hn rfl
    have e0 : ts.length = 0 := by omega
    have ek : k = 0 := by omega
    have hr := hb.row
    rw [e0] at hr ⊢
    subst ek
    exact (first_nil B w hr).mono fun _ _ ⟨q1, q2⟩ => ⟨⟨none, 0, rfl, q1⟩, q2⟩
  | some ad =>
    obtain ⟨g, hg⟩ : ∃ g, ad = ⟨g, 0, none⟩ := by
      rcases h1.2 with ⟨q, _⟩ | ⟨g, c', cur, q, _⟩
      · cases q
      · simp only [Value.slice.injEq, Option.some.injEq] at q
        exact ⟨g, q.1⟩
    subst hg
    exact (first_some B g ts.length cap k hk hts hc w hb.row).mono fun _ _ ⟨q1, q2⟩ => ⟨⟨_, cap, rfl, q1⟩, q2⟩
set_option maxRecDepth 100000 in
set_option maxHeartbeats 4000000 in
theorem cut_no (w0 : World) (B : Nat) (v : Value) (ts : List (List (BitVec 8))) (hts : ts.length ≤ 1000000) (k : Int) (hk : k < 0 ∨ (ts.length : Int) < k) (w : World) (hb : Bk w0 w B v ts) :
    Calls Tryd.prog 12 #[.pointer (some ⟨B, 0, none⟩), .int .i64 k] w fun e w' => e = .returned (.int .i64 112) ∧ w' = w := by
  obtain ⟨A, cap, e⟩ := hb.form
  subst e
  have HF := first_no B A ts.length cap k hk hts w hb.row
  clear hk hts hb
  go_enter Tryd.func12, Tryd.ntmps12
  go_wp2_with (go_at_call 25; refine Calls.mono HF ?_; rintro e X ⟨rfl, hq⟩; obtain rfl := hq.symm)
  go_ret
  exact ⟨rfl, rfl⟩
set_option maxRecDepth 100000 in
set_option maxHeartbeats 4000000 in
theorem cut_some (B g N cap k : Nat) (cs : List Value) (hk : k ≤ N) (hN : N ≤ 1000000) (hc : N ≤ cap) (w : World) (h : Row w B [.slice (some ⟨g, 0, none⟩) N cap] 52) (hL : Lw w 63 1 (.slice (some ⟨g, 0, none⟩) N cap) N cs) :
    Calls Tryd.prog 12 #[.pointer (some ⟨B, 0, none⟩), .int .i64 (k : Int)] w fun e w' => e = .returned (.int .i64 0) ∧ Lw w' 63 1 (.slice (some ⟨g, 0, none⟩) k cap) k (cs.take k) ∧ Row w' B [.slice (some ⟨g, 0, none⟩) k cap] 52 ∧ Gro (fun j => j = B ∨ j = g) w w' := by
  have HF : Hid (Calls Tryd.prog 25 #[.pointer (some ⟨B, 0, none⟩), .int .i64 (k : Int)] w fun e w' => e = .returned (.tuple #[.slice (some ⟨g, 0, none⟩) k cap, .int .i64 0]) ∧ w' = w) := first_some B g N cap k hk hN hc w h
  have cB : w.cell? ⟨B, 0, none⟩ = some (.slice (some ⟨g, 0, none⟩) N cap) := h.cell 0 _ rfl
  have hkc : Hid (k ≤ N) := hk
  have hNc : Hid (N ≤ cap) := hc
  have HL : Hid (Lw w 63 1 (.slice (some ⟨g, 0, none⟩) N cap) N cs) := hL
  have HR : Hid (Row w B [.slice (some ⟨g, 0, none⟩) N cap] 52) := h
  have hkm : k ≤ 1000000 := by omega
  clear h hc hL hk hN
  go_enter Tryd.func12, Tryd.ntmps12
  go_wp2_with (first
    | (go_at_call 25; refine Calls.mono HF.out ?_; rintro e X ⟨rfl, hq⟩; obtain rfl := hq.symm)
    | (refine wpList_slice_b rfl 50 63 (.tmp 19) (.tmp 20) g N cap k rfl rfl rfl hkc.out Tryd.underlying50 info_slb1 ?_; intro oo qo; have HO : Hid (k < cap → oo = k) := qo; clear qo; simp only [Act.put, List.setIfInBounds_toArray, List.set_cons_zero, List.set_cons_succ])
    | (refine wpList_clearB rfl 50 Tryd.underlying50 (.tmp 21) rfl g N cap k oo cs rfl hkc.out hNc.out HO.out HL.out ?_; intro X1 q1 q2; have L1 : Hid (Lw X1 63 1 (.slice (some ⟨g, 0, none⟩) k cap) k (cs.take k)) := q1; have G1 : Hid (Gro (· = g) w X1) := q2; have R1 : Hid (Row X1 B [.slice (some ⟨g, 0, none⟩) N cap] 52) := q2.row HR.out (fun q => Lw.ne HL.out HR.out (by decide) g rfl q.symm); clear q1 q2; simp only [Act.put])
    | (refine wpList_set1 rfl 50 (.tmp 25) (.tmp 23) rfl B 0 (.slice (some ⟨g, 0, none⟩) k cap) [.slice (some ⟨g, 0, none⟩) N cap] 52 rfl rfl rfl R1.out (Nat.succ_pos _) info_tx rfl ?_; intro X6 q1 q2 q3; have R6 : Hid (Row X6 B [.slice (some ⟨g, 0, none⟩) k cap] 52) := q1; have G6 : Hid (Gro (· = B) X1 X6) := q2; clear q1 q2 q3; simp only [Act.put]))
  go_ret
  exact ⟨rfl, Lw.gro L1.out G6.out (Lw.ne L1.out R1.out (by decide)), R6.out, Gro.trans (Gro.mono G1.out (fun _ q => .inr q)) (Gro.mono G6.out (fun _ q => .inl q))⟩
set_option maxRecDepth 100000 in
set_option maxHeartbeats 4000000 in
theorem cut_nil (B : Nat) (w : World) (h : Row w B [.slice none 0 0] 52) :
    Calls Tryd.prog 12 #[.pointer (some ⟨B, 0, none⟩), .int .i64 0] w fun e w' => e = .returned (.int .i64 0) ∧ Row w' B [.slice none 0 0] 52 ∧ Gro (· = B) w w' := by
  have HF := first_nil B w h
  have cB : w.cell? ⟨B, 0, none⟩ = some (.slice none 0 0) := h.cell 0 _ rfl
  have HR : Hid (Row w B [.slice none 0 0] 52) := h
  clear h
  go_enter Tryd.func12, Tryd.ntmps12
  go_wp2_with (first
    | (go_at_call 25; refine Calls.mono HF ?_; rintro e X ⟨rfl, hq⟩; obtain rfl := hq.symm)
    | (refine wpList_clear0 rfl 50 Tryd.underlying50 (.tmp 21) rfl rfl ?_; simp only [Act.put])
    | (refine wpList_set1 rfl 50 (.tmp 25) (.tmp 23) rfl B 0 (.slice none 0 0) [.slice none 0 0] 52 rfl rfl rfl HR.out (Nat.succ_pos _) info_tx rfl ?_; intro X6 q1 q2 q3; have R6 : Hid (Row X6 B [.slice none 0 0] 52) := q1; have G6 : Hid (Gro (· = B) w X6) := q2; clear q1 q2 q3; simp only [Act.put]))
  go_ret
  exact ⟨rfl, R6.out, G6.out⟩
/-- Cut, of a book. -/
theorem cut_ok (w0 : World) (B : Nat) (v : Value) (ts : List (List (BitVec 8))) (hts : ts.length ≤ 1000000) (k : Nat) (hk : k ≤ ts.length) (w : World) (hb : Bk w0 w B v ts) :
    Calls Tryd.prog 12 #[.pointer (some ⟨B, 0, none⟩), .int .i64 (k : Int)] w fun e w' => e = .returned (.int .i64 0) ∧ ∃ v', Bk w0 w' B v' (ts.take k) ∧ Gro (fun j => j = B ∨ v.ownBlock = some j) w w' ∧ v'.ownBlock = v.ownBlock := by
  obtain ⟨cs, h1, h2⟩ := hb.own
  obtain ⟨A, cap, e, hc, hn⟩ := Lw.form h1
  subst e
  cases A with
  | none =>
    obtain rfl := hn rfl
    have e0 : ts = [] := List.eq_nil_of_length_eq_zero (by omega)
    subst e0
    have ek : k = 0 := by simpa using hk
    subst ek
    refine (cut_nil B w hb.row).mono ?_
    rintro e w' ⟨q1, q2, q3⟩
    refine ⟨q1, .slice none 0 0, ⟨q2, ⟨[], Lw.nil _ _ _, fun i d h => by simp at h⟩, hb.b0, (fun g e => by cases e), ?_⟩, Gro.mono q3 (fun _ q => .inl q), rfl⟩
    exact hb.be.trans (q3.to_below hb.be.size (fun g q => by rw [q]; exact hb.b0))
  | some ad =>
    obtain ⟨g, hg⟩ : ∃ g, ad = ⟨g, 0, none⟩ := by
      rcases h1.2 with ⟨q, _⟩ | ⟨g, c', cur, q, _⟩
      · cases q
      · simp only [Value.slice.injEq, Option.some.injEq] at q
        exact ⟨g, q.1⟩
    subst hg
    refine (cut_some B g ts.length cap k cs hk hts hc w hb.row h1).mono ?_
    rintro e w' ⟨q1, q2, q3, q4⟩
    refine ⟨q1, .slice (some ⟨g, 0, none⟩) k cap, ⟨q3, ⟨cs.take k, by rw [List.length_take, Nat.min_eq_left hk]; exact q2, fun i d hd => ?_⟩, hb.b0, hb.v0, ?_⟩, Gro.mono q4 (fun j q => by rcases q with q | q; exact .inl q; exact .inr (by rw [q]; rfl)), rfl⟩
    · rw [List.getElem?_take] at hd ⊢
      split at hd
      · rename_i hi
        rw [if_pos hi]
        obtain ⟨u, p1, p2⟩ := h2 i d hd
        exact ⟨u, p1, Bw.gro p2 q4 (fun j e q => by
          rcases q with q | q
          · exact Bw.ne p2 hb.row (by decide) j e q
          · exact bl_ne p2 h1 (by decide) j e (by rw [q]; rfl))⟩
      · cases hd
    · exact hb.be.trans (q4.to_below hb.be.size (fun j q => by
        rcases q with q | q
        · rw [q]; exact hb.b0
        · exact hb.v0 j (by rw [q]; rfl)))

end Go.Proofs.YtehjadgmleoobaaDoor

namespace Go.Proofs.YtehjadgmleoobaaDoor
open Go Go.RowKit
open Sha

section
variable {ops : Array Oper} {rest : List Oper} {op : Oper} {a : Act} {w : World} {Q : Exit → Act → World → Prop}
theorem wpList_slice_kf (hgd : op.guard = none) (t e : TypeId) (x z : Operand) (b f n cap k s : Nat) (ho : op.op = .slice t x none (some z) none) (hx : a.eval x = .slice (some ⟨b, f, none⟩) n cap) (hz : a.eval z = .int .i64 (k : Int)) (hk : k ≤ cap)
    (hu : Tryd.prog.underlying t = some (.slice e)) (hs : (Tryd.prog.info? e).map (·.size) = some s) (h : wpList Tryd.prog ops Q rest (a.put op.dst (.slice (some ⟨b, f, none⟩) k cap)) w) : wpList Tryd.prog ops Q (op :: rest) a w :=
  wpList_plain hgd fun _ hK => by
    cases hq : Tryd.prog.info? e with
    | none => simp [hq] at hs
    | some i =>
      have hr : (Instr.sliceAt t (.slice (some ⟨b, f, none⟩) n cap) none (some (.int .i64 (k : Int))) none).run Tryd.prog w = .ok (.slice (some ⟨b, f, none⟩) k cap) w := by
        simp [Instr.sliceAt, Instr.slice, run_underlying hu, Instr.sliceBounds, Instr.sliceBound, asIntOf, sizeOf, typeInfo, hq, hk, Addr.add_mid]
      unfold Oper.wp execOp
      simp only [ho, hx, hz, Option.map_some, Option.map_none, Sem.run_bind, hr, Result.andThen_ok, Sem.run_pure, Oper.upon_value]
      exact hK _ _ h
end
theorem info_raw : (Tryd.prog.info? 46).map (·.size) = some 26 := by kernel_rfl
set_option maxRecDepth 100000 in
theorem few_any (rs : List Rwv) (A : Option Addr) (n cap : Nat) (hn : n = rs.length) (hc : n ≤ cap) (m : Nat) (hm : m = (rs.take 200).length) (w : World) (hra : Ra w A rs) : Calls Tryd.prog 9 #[.slice A n cap] w fun e w' => e = .returned (.slice A m cap) ∧ w' = w := by
  by_cases h : 200 < n
  · obtain ⟨b, o, rfl⟩ : ∃ b o, A = some ⟨b, o, none⟩ := by
      obtain ⟨_, b, o, q, _⟩ := hra 0 _ (List.getElem?_eq_getElem (by omega))
      exact ⟨b, o, q⟩
    have hg : (200 : Int) < (n : Int) := by omega
    have h2 : Hid (200 ≤ cap) := by show _ ≤ _; omega
    obtain rfl : m = 200 := by rw [hm, List.length_take]; omega
    clear hn hc hra hm
    go_enter Tryd.func9, Tryd.ntmps9
    go_wp2_with (refine wpList_slice_kf rfl 40 46 (.tmp 6) (.const (.int .i64 200)) b o n cap 200 26 rfl rfl rfl h2.out Tryd.underlying40 info_raw ?_; simp only [Act.put, List.setIfInBounds_toArray, List.set_cons_zero, List.set_cons_succ])
    go_ret
    exact ⟨rfl, rfl⟩
  · have hg : ¬ (200 : Int) < (n : Int) := by omega
    obtain rfl : m = n := by rw [hm, List.length_take]; omega
    clear hn hra hc hm
    go_enter Tryd.func9, Tryd.ntmps9
    go_wp2
    go_ret
    exact ⟨rfl, rfl⟩
/-- Put, by what the leaf is made of. -/
theorem put_rw (w0 : World) (B : Nat) (v : Value) (rs : List Rwv) (r : Rwv) (hr : r.Ok) (hl : rs.length ≤ 100000) (i : Nat) (hi : i = rs.length) (L : List Value) (hL : L = rwl r i) (w : World) (hb : Bk w0 w B v (bts rs)) :
    Calls Tryd.prog 14 #[.pointer (some ⟨B, 0, none⟩), .agg L.toArray] w fun e w' => e = .returned (.int .i64 0) ∧ ∃ v', Bk w0 w' B v' (bts (rs ++ [r])) ∧ Gro (fun g => g = B ∨ v.ownBlock = some g) w w' ∧ (v'.ownBlock = v.ownBlock ∨ ∃ g, v'.ownBlock = some g ∧ w.heap.size ≤ g) := by
  have e := bts_len rs
  have hm := rw_may r rs.length (by omega)
  rw [← e] at hm
  have q := put_in w0 B v (bts rs) (by omega) _ _ r.rc (am9 r.am) hr.rc (am9_len hr.am) (am9_q hr.q) hm L (by rw [hL, hi, ← e]; rfl) w hb
  rw [e] at q
  rw [bts_snoc]
  exact q
/-- Leaf, by what it is made of. -/
theorem leaf_rw (w0 : World) (B : Nat) (v : Value) (rs : List Rwv) (hl : rs.length ≤ 100000) (i : Nat) (r : Rwv) (hi : rs[i]? = some r) (hr : r.Ok) (L : List Value) (hL : L = rwl r i) (w : World) (hb : Bk w0 w B v (bts rs)) :
    Calls Tryd.prog 17 #[.pointer (some ⟨B, 0, none⟩), .int .i64 (i : Int)] w fun e w' => e = .returned (.tuple #[.agg L.toArray, .int .i64 0]) ∧ Below w.heap.size w w' := by
  have hlt := (List.getElem?_eq_some_iff.1 hi).1
  rw [hL]
  exact leaf_ok w0 B v (bts rs) (by rw [bts_len]; omega) i _ _ _ r.rc (am9 r.am) hr.rc (am9_len hr.am) (am9_q hr.q) (rw_may r i (by omega)) (by rw [bts_get, hi]; rfl) w hb
theorem take_snoc {α : Type} (l : List α) (t : Nat) (x : α) (h : l[t]? = some x) : l.take (t + 1) = l.take t ++ [x] := by
  rw [List.take_add_one, h]
  rfl
set_option maxRecDepth 100000 in
set_option maxHeartbeats 4000000 in
theorem booked_any (rs : List Rwv) (A : Option Addr) (n cap : Nat) (hn : n = rs.length) (h400 : n ≤ 400) (w : World) (hra : Ra w A rs) :
    Calls Tryd.prog 10 #[.slice A n cap] w fun e w' => ∃ B v, e = .returned (.pointer (some ⟨B, 0, none⟩)) ∧ Bk w w' B v (bts rs) := by
  have HN : Hid (n = rs.length) := hn
  have HRA : Hid (Ra w A rs) := hra
  clear hn hra
  go_enter Tryd.func10, Tryd.ntmps10
  go_upto_region 5 with (go_at_call 19; refine Calls.mono (new_any w) ?_; rintro e X1 ⟨rfl, q⟩; have K1 : Hid (Bk w X1 w.heap.size (.slice none 0 0) (bts (rs.take 0))) := q; clear q)
  obtain ⟨B, hB⟩ : ∃ B, B = w.heap.size := ⟨_, rfl⟩
  rw [← hB] at K1 ⊢
  clear hB
  go_loopw [4] (fun k wr => ∃ t : Nat, t ≤ n ∧ k = .int .i64 (t : Int) ∧ ∃ v, Bk w wr B v (bts (rs.take t))) (fun k _ => n - (intOf k).toNat)
  case atStart => exact ⟨0, Nat.zero_le _, rfl, _, K1.out⟩
  case round =>
    obtain ⟨t, ht, rfl, v, hK⟩ := hrel
    clear K1
    by_cases hlt : t < n
    · obtain ⟨r, hr⟩ : ∃ r, rs[t]? = some r := ⟨_, List.getElem?_eq_getElem (by rw [← HN.out]; exact hlt)⟩
      obtain ⟨hok, b, o, rfl, hrg⟩ := (HRA.out.be hK.be) t r hr
      obtain ⟨R, hR⟩ : ∃ R, R = rwc r := ⟨_, rfl⟩
      obtain ⟨L, hL⟩ : ∃ L, L = rwl r t := ⟨_, rfl⟩
      rw [← hR] at hrg
      have HG : Hid (wr.rangeAt b (o + t * 26) R) := hrg
      have HI : Hid ((Tryd.prog.info? 46).map (·.size) = some R.length) := by show _ = _; rw [hR, rwc_len hok]; exact info_raw
      have HLF : Hid (∀ X, Calls Tryd.prog 15 #[.agg R.toArray, .int .i64 (t : Int)] X fun e w' => e = .returned (.agg L.toArray) ∧ Below X.heap.size X w') := fun X => by rw [hL]; exact rleaf_any r hok t R hR X
      have HPU : Hid (∀ X, Bk w X B v (bts (rs.take t)) → Calls Tryd.prog 14 #[.pointer (some ⟨B, 0, none⟩), .agg L.toArray] X fun e w' => e = .returned (.int .i64 0) ∧ ∃ v', Bk w w' B v' (bts (rs.take (t + 1)))) := fun X hX => by
        rw [take_snoc rs t r hr]
        exact (put_rw w B v (rs.take t) r hok (by rw [List.length_take]; omega) t (by rw [List.length_take]; have := HN.out; omega) L hL X hX).mono fun _ _ ⟨q1, v', q2, _⟩ => ⟨q1, v', q2⟩
      have HK : Hid (Bk w wr B v (bts (rs.take t))) := hK
      clear hR hL hr hok hrg hK HRA
      go_wp2_with (first
        | (refine wpList_load_w rfl 46 (.tmp 17) rfl b (o + t * 26) rfl R _ HG.out Tryd.underlying46 rfl HI.out ?_; simp only [Act.put, List.setIfInBounds_toArray, List.set_cons_zero, List.set_cons_succ])
        | (go_at_call 15; refine Calls.mono (HLF.out wr) ?_; rintro e X2 ⟨rfl, q⟩; have K2 : Hid (Bk w X2 B v (bts (rs.take t))) := HK.out.keep q; clear q)
        | (go_at_call 14; refine Calls.mono (HPU.out X2 K2.out) ?_; rintro e X3 ⟨rfl, v3, q⟩; have K3 : Hid (Bk w X3 B v3 (bts (rs.take (t + 1)))) := q; clear q))
      refine ⟨⟨t + 1, hlt, by go_num, v3, K3.out⟩, by simp [intOf]; omega⟩
    · obtain rfl : t = n := by omega
      have HK : Hid (Bk w wr B v (bts rs)) := by have := hK; rwa [List.take_of_length_le (by rw [← HN.out]; exact Nat.le_refl _)] at this
      clear hK HRA
      go_wp2
      go_ret
      exact ⟨B, v, rfl, HK.out⟩

end Go.Proofs.YtehjadgmleoobaaDoor

namespace Go.Proofs.YtehjadgmleoobaaDoor
open Go Go.RowKit
open Sha

theorem slT {w : World} {v : Value} {d : List (BitVec 8)} (h : SlAt w v d) : SlAtT w v d := h
/-- A book's texts in memory. -/
theorem Bk.ls {w0 w : World} {B : Nat} {A : Option Addr} {n cap : Nat} {ts : List (List (BitVec 8))} (h : Bk w0 w B (.slice A n cap) ts) (hn : n = ts.length) : A = none ∧ ts = [] ∧ cap = 0 ∨ ∃ b, A = some ⟨b, 0, none⟩ ∧ ts.length ≤ cap ∧ LsAt w b 0 ts := by
  obtain ⟨cs, h1, h2⟩ := h.own
  rcases h1.2 with ⟨q, q2⟩ | ⟨g, c', cur, q, _, hh, hc, hm, hs, ht⟩
  · simp only [Value.slice.injEq] at q
    exact .inl ⟨q.1, List.eq_nil_of_length_eq_zero q2, q.2.2⟩
  · simp only [Value.slice.injEq] at q
    obtain ⟨rfl, rfl, rfl⟩ := q
    refine .inr ⟨g, rfl, hc, cs, by have := Lw.len h1; omega, Lw.range h1, fun i hi => ?_⟩
    obtain ⟨u, p1, p2⟩ := h2 i _ (List.getElem?_eq_getElem hi)
    rw [List.getD_eq_getElem?_getD, p1, List.getD_eq_getElem?_getD, List.getElem?_eq_getElem hi]
    exact slT (Bw.sl p2)
theorem results_rowA_tmp11 {P : Program} {fn : Func} {p q : Tmp} {ty : TypeId} {k : Nat} {e : TypeId} (h : fn.results = #[.cell p ty, .tmp q]) (tmps : Array Value) (w : World) (g : Nat) (t : TypeId) (cs : List Value) (v : Value)
    (hp : tmps.getD p undef = .pointer (some ⟨g, 0, none⟩)) (hv : tmps.getD q undef = v) (hg : Row w g cs t) (hu : P.underlying ty = some (.array k e)) (hi : (P.info? ty).map (·.size) = some cs.length) :
    (results fn tmps).run P w = .ok (.tuple #[.agg cs.toArray, v]) w := by
  have hp' : tmps[p]?.getD undef = .pointer (some ⟨g, 0, none⟩) := by simpa using hp
  have hv' : tmps[q]?.getD undef = v := by simpa using hv
  have hr := run_loadVar_row (P := P) w g t ty cs.toArray (0, 0) (.array k e) hg hu rfl (by simp [hi])
  simp [results, h, hp', hv', asAddr, hr]
section
variable {ops : Array Oper} {rest : List Oper} {op : Oper} {a : Act} {w : World} {Q : Exit → Act → World → Prop}
set_option maxRecDepth 100000 in
theorem wpList_allocDg (hgd : op.guard = none) (ho : op.op = .alloc 25) (h : ∀ X, Row X w.heap.size (vB (List.replicate 32 0#8)) 25 → Below w.heap.size w X → wpList Tryd.prog ops Q rest (a.put op.dst (.pointer (some ⟨w.heap.size, 0, none⟩))) X) : wpList Tryd.prog ops Q (op :: rest) a w :=
  wpList_plain hgd fun _ hK => by
    unfold Oper.wp execOp
    simp only [ho]
    go_simp
    exact hK _ _ (h _ (Row.new' (cs := vB (List.replicate 32 0#8)) rfl rfl) ((Below.refl _ _).alloc (Nat.le_refl _) _))
end
theorem info_dg11 (d : List (BitVec 8)) (h : d.length = 32) : (Tryd.prog.info? 25).map (·.size) = some (vB d).length := by rw [vB_length, h]; kernel_rfl
theorem vB_all11 (d : List (BitVec 8)) : (vB d).toArray.all (·.oneCell') = true := all_oneCell_toArray (vB_one d)
set_option maxRecDepth 100000 in
set_option maxHeartbeats 4000000 in
/-- Root, of a book. -/
theorem root_bk (w0 : World) (B : Nat) (v : Value) (ts : List (List (BitVec 8))) (hts : ts.length ≤ 1000000) (hm : ∀ i, (ts.getD i []).length ≤ 153) (k : Nat) (hk : k ≤ ts.length) (dd : List (BitVec 8)) (hd : dd = rt (ts.take k)) (w : World) (hT : Tab w 2) (hb : Bk w0 w B v ts) :
    Calls Tryd.prog 16 #[.pointer (some ⟨B, 0, none⟩), .int .i64 (k : Int)] w fun e w' => e = .returned (.tuple #[.agg (vB dd).toArray, .int .i64 0]) ∧ Below w.heap.size w w' := by
  obtain ⟨A, cap, e⟩ := hb.form
  subst e
  have h32 : dd.length = 32 := by rw [hd]; exact rt_length _
  have HF : Hid (∀ X, Below w.heap.size w X → Calls Tryd.prog 25 #[.pointer (some ⟨B, 0, none⟩), .int .i64 (k : Int)] X fun e w' => e = .returned (.tuple #[.slice A k cap, .int .i64 0]) ∧ w' = X) := fun X hX => by
    refine (first_bk w0 B _ ts hts k hk X (hb.keep hX)).mono ?_
    rintro e w' ⟨⟨A', c', q1, q2⟩, q3⟩
    simp only [Value.slice.injEq] at q1
    obtain ⟨rfl, _, rfl⟩ := q1
    exact ⟨q2, q3⟩
  have HR : Hid (∀ X, Below w.heap.size w X → Calls Tryd.prog 26 #[.slice A k cap] X fun e w' => e = .returned (.agg (vB dd).toArray) ∧ Below X.heap.size X w') := fun X hX => by
    have hTX := hT.below hX hT.lt
    rcases hb.ls rfl with ⟨rfl, rfl, rfl⟩ | ⟨b, rfl, hc, hl⟩
    · obtain rfl : k = 0 := by simpa using hk
      exact root_nil none 0 dd (by rw [hd]; exact rt_nil _ rfl) X hTX
    · refine root_any k (ts.take k) (by rw [List.length_take]; omega) (by omega) (fun i hi => ?_) dd hd b 0 cap (by omega) X hTX ((hl.below hX).take k)
      rw [List.length_take] at hi
      have e2 : (ts.take k).getD i [] = ts.getD i [] := by simp [List.getD_eq_getElem?_getD, show i < k by omega]
      rw [e2]
      have := hm i
      omega
  have HI : Hid ((Tryd.prog.info? 25).map (·.size) = some (vB dd).length) := info_dg11 dd h32
  have HLL : Hid ((vB dd).length = (vB (List.replicate 32 0#8)).length) := by show _ = _; rw [vB_length, vB_length, h32]; rfl
  clear hd hts hm hk hT hb h32
  go_enter Tryd.func16, Tryd.ntmps16
  go_wp2_with (first
    | (refine wpList_allocDg rfl rfl ?_; intro X0 q1 q2; have R0 : Hid (Row X0 w.heap.size (vB (List.replicate 32 0#8)) 25) := q1; have B0 : Hid (Below w.heap.size w X0) := q2; clear q1 q2; simp only [Act.put, List.setIfInBounds_toArray, List.set_cons_zero, List.set_cons_succ])
    | (go_at_call 25; refine Calls.mono (HF.out X0 B0.out) ?_; rintro e X ⟨rfl, hq⟩; obtain rfl := hq.symm)
    | (go_at_call 26; refine Calls.mono (HR.out X0 B0.out) ?_; rintro e X1 ⟨rfl, q⟩; have R1 : Hid (Row X1 w.heap.size (vB (List.replicate 32 0#8)) 25) := Row.below R0.out q R0.out.lt; have B1 : Hid (Below w.heap.size w X1) := B0.out.trans (q.mono B0.out.size); clear q)
    | (refine wpList_storeL rfl 25 (.tmp 4) (.tmp 19) rfl w.heap.size (vB dd) (vB (List.replicate 32 0#8)) 25 rfl rfl R1.out HLL.out HI.out (vB_all11 dd) ?_; intro X9 q1 q2; have E9 : Hid (X9 = _) := q1; have R9 : Hid (Row X9 w.heap.size (vB dd) 25) := q2; clear q1 q2; simp only [Act.put]))
  have hE : Below w.heap.size w X9 := by rw [E9.out]; exact below_setCells B1.out (Nat.le_refl _) _
  exact bodyPost_ret (results_rowA_tmp11 Tryd.results16 _ _ w.heap.size 25 (vB dd) (.int .i64 0) rfl rfl R9.out Tryd.underlying25 HI.out) rfl ⟨rfl, hE⟩
set_option maxRecDepth 100000 in
set_option maxHeartbeats 4000000 in
/-- Path, of a book. -/
theorem path_bk (w0 : World) (B : Nat) (v : Value) (ts : List (List (BitVec 8))) (hts : ts.length ≤ 1000000) (hm : ∀ i, (ts.getD i []).length ≤ 153) (i n : Nat) (hn : n = ts.length) (hi : i < n) (ds : List (List (BitVec 8))) (hd : ds = pt i ts) (w : World) (hT : Tab w 2) (hb : Bk w0 w B v ts) :
    Calls Tryd.prog 18 #[.pointer (some ⟨B, 0, none⟩), .int .i64 (i : Int), .int .i64 (n : Int)] w fun e w' => ∃ A cap, e = .returned (.tuple #[.slice A ds.length cap, .int .i64 0]) ∧ PAt w' (.slice A ds.length cap) ds ∧ Below w.heap.size w w' := by
  obtain ⟨A, cap, e⟩ := hb.form
  subst e
  have HF : Hid (Calls Tryd.prog 25 #[.pointer (some ⟨B, 0, none⟩), .int .i64 (n : Int)] w fun e w' => e = .returned (.tuple #[.slice A n cap, .int .i64 0]) ∧ w' = w) := by
    refine (first_bk w0 B _ ts hts n (by omega) w hb).mono ?_
    rintro e w' ⟨⟨A', c', q1, q2⟩, q3⟩
    simp only [Value.slice.injEq] at q1
    obtain ⟨rfl, _, rfl⟩ := q1
    exact ⟨q2, q3⟩
  have HP : Hid (Calls Tryd.prog 28 #[.slice A n cap, .int .i64 (i : Int)] w fun e w' => ∃ A2 c2, e = .returned (.tuple #[.slice A2 ds.length c2, .int .i64 0]) ∧ PAt w' (.slice A2 ds.length c2) ds ∧ Below w.heap.size w w') := by
    rcases hb.ls rfl with ⟨rfl, rfl, rfl⟩ | ⟨b, rfl, hc, hl⟩
    · simp at hn; omega
    · refine (path_in n i ts hn.symm hi (by omega) (fun j hj => by have := hm j; omega) b 0 cap (by omega) w hT hl).mono ?_
      rintro e w' ⟨v, rfl, q1, q2⟩
      rw [← hd] at q1
      have hp : PAt w' v ds := PAt.of_own q1 (by rw [hd]; exact pt_each n i ts hn.symm (by omega) (by omega))
      have hp2 := hp
      obtain ⟨_, A2, c2, e2, _⟩ := hp2
      subst e2
      exact ⟨A2, c2, rfl, hp, q2⟩
  have hi2 : ¬ ((n : Int) ≤ (i : Int)) := by omega
  have hnb : n ≤ 1000000 := by omega
  clear hd hts hm hT hb hn
  go_enter Tryd.func18, Tryd.ntmps18
  go_wp2_with (first
    | (go_at_call 25; refine Calls.mono HF.out ?_; rintro e X ⟨rfl, hq⟩; obtain rfl := hq.symm)
    | (go_at_call 28; refine Calls.mono HP.out ?_; rintro e X1 ⟨A2, c2, rfl, q1, q2⟩; have P1 : Hid (PAt X1 (.slice A2 ds.length c2) ds) := q1; have B1 : Hid (Below w.heap.size w X1) := q2; clear q1 q2))
  go_ret2
  exact ⟨A2, c2, rfl, P1.out, B1.out⟩

end Go.Proofs.YtehjadgmleoobaaDoor

namespace Go.Proofs.YtehjadgmleoobaaDoor
open Go Go.RowKit
open Sha

/-- What a path is asked of. -/
structure Shn where
  root : List (BitVec 8)
  n : Int
  ix : Int
  en : Int
  tk : Int
  rc : List (BitVec 8)
  am : List Nat
  ds : List (List (BitVec 8))
  A : Option Addr
  cap : Nat
structure Shn.Ok (s : Shn) : Prop where
  root : s.root.length = 32
  rc : s.rc.length = 20
  am : s.am.length = 4
  q : ∀ x ∈ s.am, x < 18446744073709551616
  len : s.ds.length * 32 ≤ 140737488351232
  nil : s.A = none → s.cap = 0
def shc (s : Shn) : List Value := vB s.root ++ (.int .i64 s.n :: (lf s.ix s.en s.tk s.rc s.am ++ [.slice s.A s.ds.length s.cap]))
def zSh : List Value := vB (List.replicate 32 0#8) ++ (.int .i64 0 :: (zLf ++ [.slice none 0 0]))
theorem shc_len {s : Shn} (h : s.Ok) : (shc s).length = 61 := by
  unfold shc
  rw [List.length_append, vB_length, h.root, List.length_cons, List.length_append, lf_len h.rc h.am]
  rfl
theorem info_shn : (Tryd.prog.info? 35).map (·.size) = some 61 := by kernel_rfl
theorem shc_one (s : Shn) : ∀ u ∈ shc s, u.oneCell' = true := by
  intro u hu
  unfold shc at hu
  rcases List.mem_append.1 hu with hu | hu
  · exact vB_one _ u hu
  rcases List.mem_cons.1 hu with rfl | hu
  · rfl
  rcases List.mem_append.1 hu with hu | hu
  · exact lf_one u hu
  · obtain rfl := List.mem_singleton.1 hu
    rfl
section
variable {s : Shn} {w : World} {b : Nat}
theorem sh_root (h : Row w b (shc s) 35) : w.rangeAt b 0 (vB s.root) := h.range 0 _ (fun j u hj => by
  have hlt : j < (vB s.root).length := (List.getElem?_eq_some_iff.1 hj).1
  rw [Nat.zero_add]
  exact (List.getElem?_append_left hlt).trans hj)
theorem sh_n (h : Row w b (shc s) 35) (hs : s.Ok) : w.cell? ⟨b, 32, none⟩ = some (.int .i64 s.n) := h.cell 32 _ (by
  unfold shc
  rw [List.getElem?_append_right (by rw [vB_length, hs.root]; exact Nat.le_refl _), vB_length, hs.root]
  rfl)
theorem sh_leaf (h : Row w b (shc s) 35) (hs : s.Ok) : w.rangeAt b 33 (lf s.ix s.en s.tk s.rc s.am) := h.range 33 _ (fun j u hj => by
  have hlt := (List.getElem?_eq_some_iff.1 hj).1
  unfold shc
  rw [List.getElem?_append_right (by rw [vB_length, hs.root]; omega), vB_length, hs.root, show 33 + j - 32 = j + 1 by omega, List.getElem?_cons_succ]
  exact (List.getElem?_append_left hlt).trans hj)
theorem sh_path (h : Row w b (shc s) 35) (hs : s.Ok) : w.cell? ⟨b, 60, none⟩ = some (.slice s.A s.ds.length s.cap) := h.cell 60 _ (by
  unfold shc
  rw [List.getElem?_append_right (by rw [vB_length, hs.root]; decide), vB_length, hs.root, show 60 - 32 = 27 + 1 by omega, List.getElem?_cons_succ, List.getElem?_append_right (by rw [lf_len hs.rc hs.am]; exact Nat.le_refl _), lf_len hs.rc hs.am]
  rfl)
end
/-- A list of them in memory. -/
def Sa (w : World) (A : Option Addr) (ss : List Shn) : Prop := ∀ i s, ss[i]? = some s → s.Ok ∧ PAt w (.slice s.A s.ds.length s.cap) s.ds ∧ ∃ b o, A = some ⟨b, o, none⟩ ∧ w.rangeAt b (o + i * 61) (shc s)
theorem Sa.be {w w' : World} {A : Option Addr} {ss : List Shn} (h : Sa w A ss) (k : Below w.heap.size w w') : Sa w' A ss := fun i s hs => by
  obtain ⟨q, p, b, o, q1, q2⟩ := h i s hs
  exact ⟨q, p.below k, b, o, q1, range_be q2 k⟩
def d1 (x : BitVec 8) : List (BitVec 8) := x :: List.replicate 31 0#8
theorem splice1 (F : List (BitVec 8)) (k : Nat) (hF : F.length = k * 32) : (vB (F ++ List.replicate 64 0#8)).take (k * 32) ++ vB (d1 1#8) ++ (vB (F ++ List.replicate 64 0#8)).drop (k * 32 + (vB (d1 1#8)).length) = vB (F ++ (d1 1#8 ++ List.replicate 32 0#8)) := by
  unfold vB
  rw [← List.map_take, ← List.map_drop, List.length_map, ← List.map_append, ← List.map_append]
  congr 1
  rw [List.take_append_of_le_length (by omega), List.take_of_length_le (by omega), List.drop_append, List.drop_eq_nil_of_le (by omega), List.nil_append, List.append_assoc]
  congr 2
  rw [show k * 32 + (d1 1#8).length - F.length = 32 by rw [hF]; simp [d1]]
  rfl
theorem splice2 (F : List (BitVec 8)) (k : Nat) (hF : F.length = k * 32) : (vB (F ++ (d1 1#8 ++ List.replicate 32 0#8))).take ((k + 1) * 32) ++ vB (d1 2#8) ++ (vB (F ++ (d1 1#8 ++ List.replicate 32 0#8))).drop ((k + 1) * 32 + (vB (d1 2#8)).length) = vB (F ++ (d1 1#8 ++ d1 2#8)) := by
  unfold vB
  rw [← List.map_take, ← List.map_drop, List.length_map, ← List.map_append, ← List.map_append]
  congr 1
  have e1 : (F ++ (d1 1#8 ++ List.replicate 32 0#8)) = (F ++ d1 1#8) ++ List.replicate 32 0#8 := by rw [List.append_assoc]
  have l1 : (F ++ d1 1#8).length = (k + 1) * 32 := by rw [List.length_append, hF]; simp [d1]; omega
  rw [e1, List.take_append_of_le_length (by omega), List.take_of_length_le (by omega), List.drop_eq_nil_of_le (by rw [List.length_append, l1]; simp [d1]), List.append_nil, List.append_assoc]
section
variable {ops : Array Oper} {rest : List Oper} {op : Oper} {a : Act} {w : World} {Q : Exit → Act → World → Prop}
set_option maxRecDepth 100000 in
theorem wpList_allocSh (hgd : op.guard = none) (ho : op.op = .alloc 35) (h : ∀ X, Row X w.heap.size zSh 35 → Below w.heap.size w X → wpList Tryd.prog ops Q rest (a.put op.dst (.pointer (some ⟨w.heap.size, 0, none⟩))) X) : wpList Tryd.prog ops Q (op :: rest) a w :=
  wpList_plain hgd fun _ hK => by
    unfold Oper.wp execOp
    simp only [ho]
    go_simp
    exact hK _ _ (h _ (Row.new' (cs := zSh) rfl rfl) ((Below.refl _ _).alloc (Nat.le_refl _) _))
theorem wpList_makeD (hgd : op.guard = none) (x y : Operand) (ho : op.op = .makeSlice 33 x y) (n : Nat) (l : Int) (hl : l = (n : Int)) (hx : a.eval x = .int .i64 l) (hy : a.eval y = .int .i64 l) (hn : n * 32 ≤ 281474976710656)
    (h : ∀ X, Row X w.heap.size (vB (List.replicate (n * 32) 0#8)) 25 → Below w.heap.size w X → wpList Tryd.prog ops Q rest (a.put op.dst (.slice (some ⟨w.heap.size, 0, none⟩) n n)) X) : wpList Tryd.prog ops Q (op :: rest) a w :=
  wpList_make_d hgd x y ho n l hl hx hy hn (h _ (Row.new' rfl rfl) ((Below.refl _ _).alloc (Nat.le_refl _) _))
theorem wpList_copyD (hgd : op.guard = none) (d s : Operand) (ho : op.op = .call { callee := .builtin .copy, args := #[d, s], argTypes := #[33, 33] })
    (g k : Nat) (A : Option Addr) (cap : Nat) (ds : List (List (BitVec 8))) (hk : k = ds.length) (hd : a.eval d = .slice (some ⟨g, 0, none⟩) (k + 2) (k + 2)) (hs : a.eval s = .slice A k cap) (hp : PAt w (.slice A k cap) ds) (r : Row w g (vB (List.replicate ((k + 2) * 32) 0#8)) 25)
    (h : ∀ X, Row X g (vB (ds.flatten ++ List.replicate 64 0#8)) 25 → Gro (· = g) w X → wpList Tryd.prog ops Q rest (a.put op.dst (.int .i64 (k : Int))) X) : wpList Tryd.prog ops Q (op :: rest) a w := by
  have h32 := hp.1
  have hl := flatten_len ds h32
  subst hk
  refine wpList_copy_d hgd d s ho g (ds.length + 2) (ds.length + 2) A cap ds hd hs hp (by omega) (r.there 0 _ (by rw [vB_length, List.length_replicate]; omega)) (h _ ?_ (gro_over (Gro.refl _ _) g 0 _ rfl))
  have q := Row.setCells 0 (vB ds.flatten) r (by rw [vB_length, vB_length, hl, List.length_replicate]; omega)
  rw [List.take_zero, List.nil_append, Nat.zero_add, vB_length, hl] at q
  have e : vB ds.flatten ++ (vB (List.replicate ((ds.length + 2) * 32) 0#8)).drop (ds.length * 32) = vB (ds.flatten ++ List.replicate 64 0#8) := by
    unfold vB
    rw [← List.map_drop, ← List.map_append, List.drop_replicate, show (ds.length + 2) * 32 - ds.length * 32 = 64 by omega]
  rw [e] at q
  exact q
theorem built_d1 : Tryd.prog.built 25 [(0, .int .u8 1)] = some (vB (d1 1#8)).toArray := by kernel_rfl
theorem built_d2 : Tryd.prog.built 25 [(0, .int .u8 2)] = some (vB (d1 2#8)).toArray := by kernel_rfl
theorem wpList_buildD1 (hw : Region.wanted op (yielded ops a.tmps) = true) (ho : op.op = .build 25 #[(0, .const (.int .u8 1))]) (E : List (BitVec 8)) (hE : E = d1 1#8) (h : wpList Tryd.prog ops Q rest (a.put op.dst (.agg (vB E).toArray)) w) : wpList Tryd.prog ops Q (op :: rest) a w :=
  BigFrame.wpList_want hw fun _ hK => by
    subst hE
    have hr := run_build (P := Tryd.prog) w 25 #[(0, .int .u8 1)] _ built_d1
    have hc : a.eval (.const (.int .u8 1)) = .int .u8 1 := rfl
    unfold Oper.wp execOp
    simp only [ho, List.map_toArray, List.map_cons, List.map_nil, hc, Sem.run_bind, hr, Result.andThen_ok, Sem.run_pure, Oper.upon_value]
    exact hK _ _ h
theorem wpList_buildD2 (hw : Region.wanted op (yielded ops a.tmps) = true) (ho : op.op = .build 25 #[(0, .const (.int .u8 2))]) (E : List (BitVec 8)) (hE : E = d1 2#8) (h : wpList Tryd.prog ops Q rest (a.put op.dst (.agg (vB E).toArray)) w) : wpList Tryd.prog ops Q (op :: rest) a w :=
  BigFrame.wpList_want hw fun _ hK => by
    subst hE
    have hr := run_build (P := Tryd.prog) w 25 #[(0, .int .u8 2)] _ built_d2
    have hc : a.eval (.const (.int .u8 2)) = .int .u8 2 := rfl
    unfold Oper.wp execOp
    simp only [ho, List.map_toArray, List.map_cons, List.map_nil, hc, Sem.run_bind, hr, Result.andThen_ok, Sem.run_pure, Oper.upon_value]
    exact hK _ _ h
theorem wpList_neqDk (hw : Region.wanted op (yielded ops a.tmps) = true) (x y : Operand) (yt : TypeId) (ho : op.op = .binOp .neq 25 x y yt) (d : List (BitVec 8)) (hd : d.length = 32) (hx : a.eval x = .agg (vB d).toArray) (hy : a.eval y = .agg (vB d).toArray)
    (h : wpList Tryd.prog ops Q rest (a.put op.dst (.bool false)) w) : wpList Tryd.prog ops Q (op :: rest) a w :=
  BigFrame.wpList_want hw fun _ hK => wp_neq_d 25 x y yt ho 5 32 d d hx hy Tryd.underlying25 Tryd.underlying5 info_u8T hd hd guard_dig false (by simp) (hK _ _ h)
end
section
variable {o : Oper} {a : Act} {w : World} {K : Act → World → Prop} {Q : Exit → Act → World → Prop}
theorem wp_fs0 {x : Operand} (b : Nat) (ho : o.op = .fieldAddr 35 x 0) (hx : a.eval x = .pointer (some ⟨b, 0, none⟩)) (h : K (a.put o.dst (.pointer (some ⟨b, 0, none⟩))) w) : Oper.wp Tryd.prog o a w K Q := by
  unfold Oper.wp execOp
  simp only [ho, hx]
  go_simp
  exact h
theorem wp_fs1 {x : Operand} (b : Nat) (ho : o.op = .fieldAddr 35 x 1) (hx : a.eval x = .pointer (some ⟨b, 0, none⟩)) (h : K (a.put o.dst (.pointer (some ⟨b, 32, none⟩))) w) : Oper.wp Tryd.prog o a w K Q := by
  unfold Oper.wp execOp
  simp only [ho, hx]
  go_simp
  exact h
theorem wp_fs2 {x : Operand} (b : Nat) (ho : o.op = .fieldAddr 35 x 2) (hx : a.eval x = .pointer (some ⟨b, 0, none⟩)) (h : K (a.put o.dst (.pointer (some ⟨b, 33, none⟩))) w) : Oper.wp Tryd.prog o a w K Q := by
  unfold Oper.wp execOp
  simp only [ho, hx]
  go_simp
  exact h
theorem wp_fs3 {x : Operand} (b : Nat) (ho : o.op = .fieldAddr 35 x 3) (hx : a.eval x = .pointer (some ⟨b, 0, none⟩)) (h : K (a.put o.dst (.pointer (some ⟨b, 60, none⟩))) w) : Oper.wp Tryd.prog o a w K Q := by
  unfold Oper.wp execOp
  simp only [ho, hx]
  go_simp
  exact h
theorem wp_neqE {x y : Operand} {yt : TypeId} (ho : o.op = .binOp .neq 36 x y yt) (n : Int) (hx : a.eval x = .int .i64 n) (hy : a.eval y = .int .i64 n) (h : K (a.put o.dst (.bool false)) w) : Oper.wp Tryd.prog o a w K Q := by
  unfold Oper.wp execOp
  simp only [ho, hx, hy]
  go_simp
  exact h
end

end Go.Proofs.YtehjadgmleoobaaDoor
