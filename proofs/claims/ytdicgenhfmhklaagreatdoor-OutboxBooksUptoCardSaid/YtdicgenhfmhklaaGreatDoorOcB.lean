/-
  the outbox: a book's first so many texts; Cut.
-/
import Derived.Test.YtdicgenhfmhklaaGreatDoorObD
import Derived.Lib.SliceRun
namespace Go.Proofs.YtdicgenhfmhklaaGreatDoor
open Go Go.RowKit
open Sha

section
variable {ops : Array Oper} {rest : List Oper} {op : Oper} {a : Act} {w : World} {Q : Exit → Act → World → Prop}
/-- The first k of a list. -/
theorem wpList_slice_k (hw : Region.wanted op (yielded ops a.tmps) = true) (t e : TypeId) (x z : Operand) (b n cap k s : Nat) (ho : op.op = .slice t x none (some z) none) (hx : a.eval x = .slice (some ⟨b, 0, none⟩) n cap) (hz : a.eval z = .int .i64 (k : Int)) (hk : k ≤ cap)
    (hu : Tryz.prog.underlying t = some (.slice e)) (hs : (Tryz.prog.info? e).map (·.size) = some s) (h : wpList Tryz.prog ops Q rest (a.put op.dst (.slice (some ⟨b, 0, none⟩) k cap)) w) : wpList Tryz.prog ops Q (op :: rest) a w :=
  BigFrame.wpList_want hw fun _ hK => by
    cases hq : Tryz.prog.info? e with
    | none => simp [hq] at hs
    | some i =>
      have hr : (Instr.sliceAt t (.slice (some ⟨b, 0, none⟩) n cap) none (some (.int .i64 (k : Int))) none).run Tryz.prog w = .ok (.slice (some ⟨b, 0, none⟩) k cap) w := by
        simp [Instr.sliceAt, Instr.slice, run_underlying hu, Instr.sliceBounds, Instr.sliceBound, asIntOf, sizeOf, typeInfo, hq, hk, Addr.add_mid]
      unfold Oper.wp execOp
      simp only [ho, hx, hz, Option.map_some, Option.map_none, Sem.run_bind, hr, Result.andThen_ok, Sem.run_pure, Oper.upon_value]
      exact hK _ _ h
/-- What lies behind the first k. -/
theorem wpList_slice_b (hgd : op.guard = none) (t e : TypeId) (x z : Operand) (b n cap k : Nat) (ho : op.op = .slice t x (some z) none none) (hx : a.eval x = .slice (some ⟨b, 0, none⟩) n cap) (hz : a.eval z = .int .i64 (k : Int)) (hk : k ≤ n)
    (hu : Tryz.prog.underlying t = some (.slice e)) (hs : (Tryz.prog.info? e).map (·.size) = some 1) (h : ∀ o, (k < cap → o = k) → wpList Tryz.prog ops Q rest (a.put op.dst (.slice (some ⟨b, o, none⟩) (n - k) (cap - k))) w) : wpList Tryz.prog ops Q (op :: rest) a w :=
  wpList_plain hgd fun _ hK => by
    cases hq : Tryz.prog.info? e with
    | none => simp [hq] at hs
    | some i =>
      have h1 : i.size = 1 := by simpa [hq] using hs
      have hr : (Instr.sliceAt t (.slice (some ⟨b, 0, none⟩) n cap) (some (.int .i64 (k : Int))) none none).run Tryz.prog w = .ok (.slice (some ⟨b, if cap = k then 0 else k, none⟩) (n - k) (cap - k)) w := by
        by_cases hck : cap = k
        · simp [Instr.sliceAt, Instr.slice, run_underlying hu, Instr.sliceBounds, Instr.sliceBound, asIntOf, sizeOf, typeInfo, hq, hk, hck]
        · simp [Instr.sliceAt, Instr.slice, run_underlying hu, Instr.sliceBounds, Instr.sliceBound, asIntOf, sizeOf, typeInfo, hq, hk, hck, Addr.add_mid, h1]
      unfold Oper.wp execOp
      simp only [ho, hx, hz, Option.map_some, Option.map_none, Sem.run_bind, hr, Result.andThen_ok, Sem.run_pure, Oper.upon_value]
      exact hK _ _ (h _ (fun q => by rw [if_neg (by omega)]))
theorem zero_sl (w : World) : (zeroValue 54).run Tryz.prog w = .ok (.slice none 0 0) w := by go_simp
/-- clear of what lies behind the first k of a list that is owned. -/
theorem wpList_clearB (hgd : op.guard = none) (ty : TypeId) (hu : Tryz.prog.underlying ty = some (.slice 54)) (x : Operand) (ho : op.op = .call { callee := .builtin .clear, args := #[x], argTypes := #[ty] }) (g n cap k o : Nat) (cs : List Value) (hx : a.eval x = .slice (some ⟨g, o, none⟩) (n - k) (cap - k)) (hk : k ≤ n) (hc : n ≤ cap) (hof : k < cap → o = k)
    (hown : Lw w 54 1 (.slice (some ⟨g, 0, none⟩) n cap) n cs)
    (h : ∀ X, Lw X 54 1 (.slice (some ⟨g, 0, none⟩) k cap) k (cs.take k) → Gro (· = g) w X → wpList Tryz.prog ops Q rest (a.put op.dst (.tuple #[])) X) : wpList Tryz.prog ops Q (op :: rest) a w :=
  wpList_plain hgd fun _ hK => by
    obtain ⟨h1, h2⟩ := hown
    rcases h2 with ⟨h2, _⟩ | ⟨g', cap', cur, hv, _, hh, hc2, hm, hs, ht⟩
    · cases h2
    · simp only [Value.slice.injEq, Option.some.injEq, Addr.mk.injEq] at hv
      obtain ⟨⟨rfl, _, _⟩, _, rfl⟩ := hv
      rw [Nat.mul_one] at hs ht h1
      have hrow : Row w g cur.toList 54 := by unfold Row; rw [hh]
      have hlen : cur.toList.length = cap := by simpa using hs
      by_cases hnk : n = k
      · subst hnk
        rw [Nat.sub_self] at hx
        have hr : (Builtin.clear_ #[ty] op.type #[.slice (some ⟨g, o, none⟩) 0 (cap - n)]).run Tryz.prog w = .ok (.tuple #[]) w := by
          simp [Builtin.clear_, run_underlying hu]
        unfold Oper.wp execOp
        simp only [ho, resolve, invoke, builtin, Sem.run_bind, Sem.run_pure, Result.andThen_ok, List.map_toArray, List.map_cons, List.map_nil, hx, hr]
        refine hK _ _ (h w ⟨by rw [List.length_take]; omega, .inr ⟨g, cap, cur, rfl, Nat.zero_le _, hh, hc2, hm, by rw [Nat.mul_one]; exact hs, ?_⟩⟩ (Gro.refl _ _))
        rw [Nat.mul_one, ht, List.take_of_length_le (by omega)]
      · have hkn : k < n := by omega
        have eo : o = k := hof (by omega)
        rw [eo] at hx
        have hr := Go.Lib.run_clear_slice (P := Tryz.prog) w ty 54 op.type (.slice none 0 0) hu zero_sl rfl rfl g k (n - k) (cap - k) (by omega)
          (fun j hj => by
            have q := hrow.cell (k + j) _ (List.getElem?_eq_getElem (by omega))
            rw [q]; rfl)
          (fun j hj => by
            simp only [World.frozen?, hh]
            simp)
        have hrow2 := hrow.setCells k (List.replicate (n - k) (.slice none 0 0)) (by simp; omega)
        unfold Oper.wp execOp
        simp only [ho, resolve, invoke, builtin, Sem.run_bind, Sem.run_pure, Result.andThen_ok, List.map_toArray, List.map_cons, List.map_nil, hx, hr]
        refine hK _ _ (h _ ⟨by rw [List.length_take]; omega, .inr ⟨g, cap, _, rfl, Nat.zero_le _, hrow2, by omega, hm, by simp; omega, ?_⟩⟩ (gro_over (Gro.refl _ _) g k _ rfl))
        rw [← ht]
        simp only [Nat.mul_one, List.append_assoc]
        rw [List.take_append_of_le_length (by rw [List.length_take]; omega), List.take_take, List.take_take]
        rw [show min k n = k by omega, show min k k = k by omega]
theorem wpList_clear0 (hgd : op.guard = none) (ty : TypeId) (hu : Tryz.prog.underlying ty = some (.slice 54)) (x : Operand) (ho : op.op = .call { callee := .builtin .clear, args := #[x], argTypes := #[ty] }) (hx : a.eval x = .slice none 0 0)
    (h : wpList Tryz.prog ops Q rest (a.put op.dst (.tuple #[])) w) : wpList Tryz.prog ops Q (op :: rest) a w :=
  wpList_plain hgd fun _ hK => by
    have hr : (Builtin.clear_ #[ty] op.type #[.slice none 0 0]).run Tryz.prog w = .ok (.tuple #[]) w := by
      simp [Builtin.clear_, run_underlying hu]
    unfold Oper.wp execOp
    simp only [ho, resolve, invoke, builtin, Sem.run_bind, Sem.run_pure, Result.andThen_ok, List.map_toArray, List.map_cons, List.map_nil, hx, hr]
    exact hK _ _ h
end
theorem info_slb1 : (Tryz.prog.info? 54).map (·.size) = some 1 := by kernel_rfl
set_option maxRecDepth 100000 in
set_option maxHeartbeats 4000000 in
theorem first_some (B g N cap k : Nat) (hk : k ≤ N) (_hN : N ≤ 1000000) (hc : N ≤ cap) (w : World) (h : Row w B [.slice (some ⟨g, 0, none⟩) N cap] 52) :
    Calls Tryz.prog 23 #[.pointer (some ⟨B, 0, none⟩), .int .i64 (k : Int)] w fun e w' => e = .returned (.tuple #[.slice (some ⟨g, 0, none⟩) k cap, .int .i64 0]) ∧ w' = w := by
  have cB : w.cell? ⟨B, 0, none⟩ = some (.slice (some ⟨g, 0, none⟩) N cap) := h.cell 0 _ rfl
  have hkc : Hid (k ≤ cap) := by show _ ≤ _; omega
  clear h hc
  go_enter Tryz.func23, Tryz.ntmps23
  go_wp2_with (first
    | (go_at_call 9; refine Calls.mono (len_any (some ⟨g, 0, none⟩) N cap w) ?_; rintro e X ⟨rfl, hq⟩; obtain rfl := hq.symm)
    | (refine wpList_slice_k rfl 50 54 (.tmp 24) (.tmp 25) g N cap k 1 rfl rfl rfl hkc.out Tryz.underlying50 info_slb1 ?_; simp only [Act.put, List.setIfInBounds_toArray, List.set_cons_zero, List.set_cons_succ]))
  go_ret2
  exact ⟨rfl, rfl⟩
set_option maxRecDepth 100000 in
set_option maxHeartbeats 4000000 in
theorem first_nil (B : Nat) (w : World) (h : Row w B [.slice none 0 0] 52) :
    Calls Tryz.prog 23 #[.pointer (some ⟨B, 0, none⟩), .int .i64 0] w fun e w' => e = .returned (.tuple #[.slice none 0 0, .int .i64 0]) ∧ w' = w := by
  have cB : w.cell? ⟨B, 0, none⟩ = some (.slice none 0 0) := h.cell 0 _ rfl
  clear h
  go_enter Tryz.func23, Tryz.ntmps23
  go_wp2_with (go_at_call 9; refine Calls.mono (len_any none 0 0 w) ?_; rintro e X ⟨rfl, hq⟩; obtain rfl := hq.symm)
  go_ret2
  exact ⟨rfl, rfl⟩
set_option maxRecDepth 100000 in
set_option maxHeartbeats 4000000 in
theorem first_no (B : Nat) (A : Option Addr) (N cap : Nat) (k : Int) (hk : k < 0 ∨ (N : Int) < k) (_hN : N ≤ 1000000) (w : World) (h : Row w B [.slice A N cap] 52) :
    Calls Tryz.prog 23 #[.pointer (some ⟨B, 0, none⟩), .int .i64 k] w fun e w' => e = .returned (.tuple #[.slice none 0 0, .int .i64 112]) ∧ w' = w := by
  have cB : w.cell? ⟨B, 0, none⟩ = some (.slice A N cap) := h.cell 0 _ rfl
  clear h
  by_cases h0 : k < 0
  · clear hk
    go_enter Tryz.func23, Tryz.ntmps23
    go_wp2
    go_ret2
    exact ⟨rfl, rfl⟩
  · have hk2 : (N : Int) < k := by omega
    clear hk
    go_enter Tryz.func23, Tryz.ntmps23
    go_wp2_with (go_at_call 9; refine Calls.mono (len_any A N cap w) ?_; rintro e X ⟨rfl, hq⟩; obtain rfl := hq.symm)
    go_ret2
    exact ⟨rfl, rfl⟩
/-- first, of a book. -/
theorem first_bk (w0 : World) (B : Nat) (v : Value) (ts : List (List (BitVec 8))) (hts : ts.length ≤ 1000000) (k : Nat) (hk : k ≤ ts.length) (w : World) (hb : Bk w0 w B v ts) :
    Calls Tryz.prog 23 #[.pointer (some ⟨B, 0, none⟩), .int .i64 (k : Int)] w fun e w' => (∃ A cap, v = .slice A ts.length cap ∧ e = .returned (.tuple #[.slice A k cap, .int .i64 0])) ∧ w' = w := by
  obtain ⟨cs, h1, h2⟩ := hb.own
  obtain ⟨A, cap, e, hc, hn⟩ := Lw.form h1
  subst e
  cases A with
  | none =>
    obtain rfl := hn rfl
    have e0 : ts.length = 0 := by omega
    have ek : k = 0 := by omega
    have hr := hb.row
    rw [e0] at hr ⊢
    subst ek
    exact (first_nil B w hr).mono fun _ _ ⟨q1, q2⟩ => ⟨⟨none, 0, rfl, q1⟩, q2⟩
  | some ad =>
    obtain ⟨g, hg⟩ : ∃ g, ad = ⟨g, 0, none⟩ := by
      rcases h1.2 with ⟨q, _⟩ | ⟨g, c', cur, q, _⟩
      · cases q
      · simp only [Value.slice.injEq, Option.some.injEq] at q
        exact ⟨g, q.1⟩
    subst hg
    exact (first_some B g ts.length cap k hk hts hc w hb.row).mono fun _ _ ⟨q1, q2⟩ => ⟨⟨_, cap, rfl, q1⟩, q2⟩
set_option maxRecDepth 100000 in
set_option maxHeartbeats 4000000 in
theorem cut_no (w0 : World) (B : Nat) (v : Value) (ts : List (List (BitVec 8))) (hts : ts.length ≤ 1000000) (k : Int) (hk : k < 0 ∨ (ts.length : Int) < k) (w : World) (hb : Bk w0 w B v ts) :
    Calls Tryz.prog 21 #[.pointer (some ⟨B, 0, none⟩), .int .i64 k] w fun e w' => e = .returned (.int .i64 112) ∧ w' = w := by
  obtain ⟨A, cap, e⟩ := hb.form
  subst e
  have HF := first_no B A ts.length cap k hk hts w hb.row
  clear hk hts hb
  go_enter Tryz.func21, Tryz.ntmps21
  go_wp2_with (go_at_call 23; refine Calls.mono HF ?_; rintro e X ⟨rfl, hq⟩; obtain rfl := hq.symm)
  go_ret
  exact ⟨rfl, rfl⟩
set_option maxRecDepth 100000 in
set_option maxHeartbeats 4000000 in
theorem cut_some (B g N cap k : Nat) (cs : List Value) (hk : k ≤ N) (hN : N ≤ 1000000) (hc : N ≤ cap) (w : World) (h : Row w B [.slice (some ⟨g, 0, none⟩) N cap] 52) (hL : Lw w 54 1 (.slice (some ⟨g, 0, none⟩) N cap) N cs) :
    Calls Tryz.prog 21 #[.pointer (some ⟨B, 0, none⟩), .int .i64 (k : Int)] w fun e w' => e = .returned (.int .i64 0) ∧ Lw w' 54 1 (.slice (some ⟨g, 0, none⟩) k cap) k (cs.take k) ∧ Row w' B [.slice (some ⟨g, 0, none⟩) k cap] 52 ∧ Gro (fun j => j = B ∨ j = g) w w' := by
  have HF : Hid (Calls Tryz.prog 23 #[.pointer (some ⟨B, 0, none⟩), .int .i64 (k : Int)] w fun e w' => e = .returned (.tuple #[.slice (some ⟨g, 0, none⟩) k cap, .int .i64 0]) ∧ w' = w) := first_some B g N cap k hk hN hc w h
  have cB : w.cell? ⟨B, 0, none⟩ = some (.slice (some ⟨g, 0, none⟩) N cap) := h.cell 0 _ rfl
  have hkc : Hid (k ≤ N) := hk
  have hNc : Hid (N ≤ cap) := hc
  have HL : Hid (Lw w 54 1 (.slice (some ⟨g, 0, none⟩) N cap) N cs) := hL
  have HR : Hid (Row w B [.slice (some ⟨g, 0, none⟩) N cap] 52) := h
  have hkm : k ≤ 1000000 := by omega
  clear h hc hL hk hN
  go_enter Tryz.func21, Tryz.ntmps21
  go_wp2_with (first
    | (go_at_call 23; refine Calls.mono HF.out ?_; rintro e X ⟨rfl, hq⟩; obtain rfl := hq.symm)
    | (refine wpList_slice_b rfl 50 54 (.tmp 19) (.tmp 20) g N cap k rfl rfl rfl hkc.out Tryz.underlying50 info_slb1 ?_; intro oo qo; have HO : Hid (k < cap → oo = k) := qo; clear qo; simp only [Act.put, List.setIfInBounds_toArray, List.set_cons_zero, List.set_cons_succ])
    | (refine wpList_clearB rfl 50 Tryz.underlying50 (.tmp 21) rfl g N cap k oo cs rfl hkc.out hNc.out HO.out HL.out ?_; intro X1 q1 q2; have L1 : Hid (Lw X1 54 1 (.slice (some ⟨g, 0, none⟩) k cap) k (cs.take k)) := q1; have G1 : Hid (Gro (· = g) w X1) := q2; have R1 : Hid (Row X1 B [.slice (some ⟨g, 0, none⟩) N cap] 52) := q2.row HR.out (fun q => Lw.ne HL.out HR.out (by decide) g rfl q.symm); clear q1 q2; simp only [Act.put])
    | (refine wpList_set1 rfl 50 (.tmp 25) (.tmp 23) rfl B 0 (.slice (some ⟨g, 0, none⟩) k cap) [.slice (some ⟨g, 0, none⟩) N cap] 52 rfl rfl rfl R1.out (Nat.succ_pos _) info_tx rfl ?_; intro X6 q1 q2 q3; have R6 : Hid (Row X6 B [.slice (some ⟨g, 0, none⟩) k cap] 52) := q1; have G6 : Hid (Gro (· = B) X1 X6) := q2; clear q1 q2 q3; simp only [Act.put]))
  go_ret
  exact ⟨rfl, Lw.gro L1.out G6.out (Lw.ne L1.out R1.out (by decide)), R6.out, Gro.trans (Gro.mono G1.out (fun _ q => .inr q)) (Gro.mono G6.out (fun _ q => .inl q))⟩
set_option maxRecDepth 100000 in
set_option maxHeartbeats 4000000 in
theorem cut_nil (B : Nat) (w : World) (h : Row w B [.slice none 0 0] 52) :
    Calls Tryz.prog 21 #[.pointer (some ⟨B, 0, none⟩), .int .i64 0] w fun e w' => e = .returned (.int .i64 0) ∧ Row w' B [.slice none 0 0] 52 ∧ Gro (· = B) w w' := by
  have HF := first_nil B w h
  have cB : w.cell? ⟨B, 0, none⟩ = some (.slice none 0 0) := h.cell 0 _ rfl
  have HR : Hid (Row w B [.slice none 0 0] 52) := h
  clear h
  go_enter Tryz.func21, Tryz.ntmps21
  go_wp2_with (first
    | (go_at_call 23; refine Calls.mono HF ?_; rintro e X ⟨rfl, hq⟩; obtain rfl := hq.symm)
    | (refine wpList_clear0 rfl 50 Tryz.underlying50 (.tmp 21) rfl rfl ?_; simp only [Act.put])
    | (refine wpList_set1 rfl 50 (.tmp 25) (.tmp 23) rfl B 0 (.slice none 0 0) [.slice none 0 0] 52 rfl rfl rfl HR.out (Nat.succ_pos _) info_tx rfl ?_; intro X6 q1 q2 q3; have R6 : Hid (Row X6 B [.slice none 0 0] 52) := q1; have G6 : Hid (Gro (· = B) w X6) := q2; clear q1 q2 q3; simp only [Act.put]))
  go_ret
  exact ⟨rfl, R6.out, G6.out⟩
/-- Cut, of a book. -/
theorem cut_ok (w0 : World) (B : Nat) (v : Value) (ts : List (List (BitVec 8))) (hts : ts.length ≤ 1000000) (k : Nat) (hk : k ≤ ts.length) (w : World) (hb : Bk w0 w B v ts) :
    Calls Tryz.prog 21 #[.pointer (some ⟨B, 0, none⟩), .int .i64 (k : Int)] w fun e w' => e = .returned (.int .i64 0) ∧ ∃ v', Bk w0 w' B v' (ts.take k) ∧ Gro (fun j => j = B ∨ v.ownBlock = some j) w w' ∧ v'.ownBlock = v.ownBlock := by
  obtain ⟨cs, h1, h2⟩ := hb.own
  obtain ⟨A, cap, e, hc, hn⟩ := Lw.form h1
  subst e
  cases A with
  | none =>
    obtain rfl := hn rfl
    have e0 : ts = [] := List.eq_nil_of_length_eq_zero (by omega)
    subst e0
    have ek : k = 0 := by simpa using hk
    subst ek
    refine (cut_nil B w hb.row).mono ?_
    rintro e w' ⟨q1, q2, q3⟩
    refine ⟨q1, .slice none 0 0, ⟨q2, ⟨[], Lw.nil _ _ _, fun i d h => by simp at h⟩, hb.b0, (fun g e => by cases e), ?_⟩, Gro.mono q3 (fun _ q => .inl q), rfl⟩
    exact hb.be.trans (q3.to_below hb.be.size (fun g q => by rw [q]; exact hb.b0))
  | some ad =>
    obtain ⟨g, hg⟩ : ∃ g, ad = ⟨g, 0, none⟩ := by
      rcases h1.2 with ⟨q, _⟩ | ⟨g, c', cur, q, _⟩
      · cases q
      · simp only [Value.slice.injEq, Option.some.injEq] at q
        exact ⟨g, q.1⟩
    subst hg
    refine (cut_some B g ts.length cap k cs hk hts hc w hb.row h1).mono ?_
    rintro e w' ⟨q1, q2, q3, q4⟩
    refine ⟨q1, .slice (some ⟨g, 0, none⟩) k cap, ⟨q3, ⟨cs.take k, by rw [List.length_take, Nat.min_eq_left hk]; exact q2, fun i d hd => ?_⟩, hb.b0, hb.v0, ?_⟩, Gro.mono q4 (fun j q => by rcases q with q | q; exact .inl q; exact .inr (by rw [q]; rfl)), rfl⟩
    · rw [List.getElem?_take] at hd ⊢
      split at hd
      · rename_i hi
        rw [if_pos hi]
        obtain ⟨u, p1, p2⟩ := h2 i d hd
        exact ⟨u, p1, Bw.gro p2 q4 (fun j e q => by
          rcases q with q | q
          · exact Bw.ne p2 hb.row (by decide) j e q
          · exact bl_ne p2 h1 (by decide) j e (by rw [q]; rfl))⟩
      · cases hd
    · exact hb.be.trans (q4.to_below hb.be.size (fun j q => by
        rcases q with q | q
        · rw [q]; exact hb.b0
        · exact hb.v0 j (by rw [q]; rfl)))

end Go.Proofs.YtdicgenhfmhklaaGreatDoor
