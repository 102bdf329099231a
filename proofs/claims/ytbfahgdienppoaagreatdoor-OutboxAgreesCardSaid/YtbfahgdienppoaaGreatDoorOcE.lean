/-
  the outbox: a book's Root and Path.
-/
import Derived.Test.YtbfahgdienppoaaGreatDoorObD
import Derived.Lib.SliceRun
import Derived.Test.YtbfahgdienppoaaGreatDoorOcC
import Derived.Test.YtbfahgdienppoaaGreatDoorOcS
import Derived.Test.YtbfahgdienppoaaGreatDoorTAwk

namespace Go.Proofs.YtbfahgdienppoaaGreatDoor
open Go Go.RowKit
open Sha

section
variable {ops : Array Oper} {rest : List Oper} {op : Oper} {a : Act} {w : World} {Q : Exit → Act → World → Prop}
/-- The first k of a list. -/
theorem wpList_slice_k (hw : Region.wanted op (yielded ops a.tmps) = true) (t e : TypeId) (x z : Operand) (b n cap k s : Nat) (ho : op.op = .slice t x none (some z) none) (hx : a.eval x = .slice (some ⟨b, 0, none⟩) n cap) (hz : a.eval z = .int .i64 (k : Int)) (hk : k ≤ cap)
    (hu : Tryz.prog.underlying t = some (.slice e)) (hs : (Tryz.prog.info? e).map (·.size) = some s) (h : wpList Tryz.prog ops Q rest (a.put op.dst (.slice (some ⟨b, 0, none⟩) k cap)) w) : wpList Tryz.prog ops Q (op :: rest) a w :=
  BigFrame.wpList_want hw fun _ hK => by
    cases hq : Tryz.prog.info? e with
    | none => simp [hq] at hs
    | some i =>
      have hr : (Instr.sliceAt t (.slice (some ⟨b, 0, none⟩) n cap) none (some (.int .i64 (k : Int))) none).run Tryz.prog w = .ok (.slice (some ⟨b, 0, none⟩) k cap) w := by
        simp [Instr.sliceAt, Instr.slice, run_underlying hu, Instr.sliceBounds, Instr.sliceBound, asIntOf, sizeOf, typeInfo, hq, hk, Addr.add_mid]
      unfold Oper.wp execOp
      simp only [ho, hx, hz, Option.map_some, Option.map_none, Sem.run_bind, hr, Result.andThen_ok, Sem.run_pure, Oper.upon_value]
      exact hK _ _ h
/-- What lies behind the first k. -/
theorem wpList_slice_b (hgd : op.guard = none) (t e : TypeId) (x z : Operand) (b n cap k : Nat) (ho : op.op = .slice t x (some z) none none) (hx : a.eval x = .slice (some ⟨b, 0, none⟩) n cap) (hz : a.eval z = .int .i64 (k : Int)) (hk : k ≤ n)
    (hu : Tryz.prog.underlying t = some (.slice e)) (hs : (Tryz.prog.info? e).map (·.size) = some 1) (h : ∀ o, (k < cap → o = k) → wpList Tryz.prog ops Q rest (a.put op.dst (.slice (some ⟨b, o, none⟩) (n - k) (cap - k))) w) : wpList Tryz.prog ops Q (op :: rest) a w :=
  wpList_plain hgd fun _ hK => by
    cases hq : Tryz.prog.info? e with
    | none => simp [hq] at hs
    | some i =>
      have h1 : i.size = 1 := by simpa [hq] using hs
      have hr : (Instr.sliceAt t (.slice (some ⟨b, 0, none⟩) n cap) (some (.int .i64 (k : Int))) none none).run Tryz.prog w = .ok (.slice (some ⟨b, if cap = k then 0 else k, none⟩) (n - k) (cap - k)) w := by
        by_cases hck : cap = k
        · simp [Instr.sliceAt, Instr.slice, run_underlying hu, Instr.sliceBounds, Instr.sliceBound, asIntOf, sizeOf, typeInfo, hq, hk, hck]
        · simp [Instr.sliceAt, Instr.slice, run_underlying hu, Instr.sliceBounds, Instr.sliceBound, asIntOf, sizeOf, typeInfo, hq, hk, hck, Addr.add_mid, h1]
      unfold Oper.wp execOp
      simp only [ho, hx, hz, Option.map_some, Option.map_none, Sem.run_bind, hr, Result.andThen_ok, Sem.run_pure, Oper.upon_value]
      exact hK _ _ (h _ (fun q => by rw [if_neg (by omega)]))
theorem zero_sl (w : World) : (zeroValue 46).run Tryz.prog w = .ok (.slice none 0 0) w := by go_simp
/-- clear of what lies behind the first k of a list that is owned. -/
theorem wpList_clearB (hgd : op.guard = none) (ty : TypeId) (hu : Tryz.prog.underlying ty = some (.slice 46)) (x : Operand) (ho : op.op = .call { callee := .builtin .clear, args := #[x], argTypes := #[ty] }) (g n cap k o : Nat) (cs : List Value) (hx : a.eval x = .slice (some ⟨g, o, none⟩) (n - k) (cap - k)) (hk : k ≤ n) (hc : n ≤ cap) (hof : k < cap → o = k)
    (hown : Lw w 46 1 (.slice (some ⟨g, 0, none⟩) n cap) n cs)
    (h : ∀ X, Lw X 46 1 (.slice (some ⟨g, 0, none⟩) k cap) k (cs.take k) → Gro (· = g) w X → wpList Tryz.prog ops Q rest (a.put op.dst (.tuple #[])) X) : wpList Tryz.prog ops Q (op :: rest) a w :=
  wpList_plain hgd fun _ hK => by
    obtain ⟨h1, h2⟩ := hown
    rcases h2 with ⟨h2, _⟩ | ⟨g', cap', cur, hv, _, hh, hc2, hm, hs, ht⟩
    · cases h2
    · simp only [Value.slice.injEq, Option.some.injEq, Addr.mk.injEq] at hv
      obtain ⟨⟨rfl, _, _⟩, _, rfl⟩ := hv
      rw [Nat.mul_one] at hs ht h1
      have hrow : Row w g cur.toList 46 := by unfold Row; rw [hh]
      have hlen : cur.toList.length = cap := by simpa using hs
      by_cases hnk : n = k
      · subst hnk
        rw [Nat.sub_self] at hx
        have hr : (Builtin.clear_ #[ty] op.type #[.slice (some ⟨g, o, none⟩) 0 (cap - n)]).run Tryz.prog w = .ok (.tuple #[]) w := by
          simp [Builtin.clear_, run_underlying hu]
        unfold Oper.wp execOp
        simp only [ho, resolve, invoke, builtin, Sem.run_bind, Sem.run_pure, Result.andThen_ok, List.map_toArray, List.map_cons, List.map_nil, hx, hr]
        refine hK _ _ (h w ⟨by rw [List.length_take]; omega, .inr ⟨g, cap, cur, rfl, Nat.zero_le _, hh, hc2, hm, by rw [Nat.mul_one]; exact hs, ?_⟩⟩ (Gro.refl _ _))
        rw [Nat.mul_one, ht, List.take_of_length_le (by omega)]
      · have hkn : k < n := by omega
        have eo : o = k := hof (by omega)
        rw [eo] at hx
        have hr := Go.Lib.run_clear_slice (P := Tryz.prog) w ty 46 op.type (.slice none 0 0) hu zero_sl rfl rfl g k (n - k) (cap - k) (by omega)
          (fun j hj => by
            have q := hrow.cell (k + j) _ (List.getElem?_eq_getElem (by omega))
            rw [q]; rfl)
          (fun j hj => by
            simp only [World.frozen?, hh]
            simp)
        have hrow2 := hrow.setCells k (List.replicate (n - k) (.slice none 0 0)) (by simp; omega)
        unfold Oper.wp execOp
        simp only [ho, resolve, invoke, builtin, Sem.run_bind, Sem.run_pure, Result.andThen_ok, List.map_toArray, List.map_cons, List.map_nil, hx, hr]
        refine hK _ _ (h _ ⟨by rw [List.length_take]; omega, .inr ⟨g, cap, _, rfl, Nat.zero_le _, hrow2, by omega, hm, by simp; omega, ?_⟩⟩ (gro_over (Gro.refl _ _) g k _ rfl))
        rw [← ht]
        simp only [Nat.mul_one, List.append_assoc]
        rw [List.take_append_of_le_length (by rw [List.length_take]; omega), List.take_take, List.take_take]
        rw [show min k n = k by omega, show min k k = k by omega]
theorem wpList_clear0 (hgd : op.guard = none) (ty : TypeId) (hu : Tryz.prog.underlying ty = some (.slice 46)) (x : Operand) (ho : op.op = .call { callee := .builtin .clear, args := #[x], argTypes := #[ty] }) (hx : a.eval x = .slice none 0 0)
    (h : wpList Tryz.prog ops Q rest (a.put op.dst (.tuple #[])) w) : wpList Tryz.prog ops Q (op :: rest) a w :=
  wpList_plain hgd fun _ hK => by
    have hr : (Builtin.clear_ #[ty] op.type #[.slice none 0 0]).run Tryz.prog w = .ok (.tuple #[]) w := by
      simp [Builtin.clear_, run_underlying hu]
    unfold Oper.wp execOp
    simp only [ho, resolve, invoke, builtin, Sem.run_bind, Sem.run_pure, Result.andThen_ok, List.map_toArray, List.map_cons, List.map_nil, hx, hr]
    exact hK _ _ h
end
theorem info_slb1 : (Tryz.prog.info? 46).map (·.size) = some 1 := by kernel_rfl
set_option maxRecDepth 100000 in
set_option maxHeartbeats 4000000 in
theorem first_some (B g N cap k : Nat) (hk : k ≤ N) (_hN : N ≤ 1000000) (hc : N ≤ cap) (w : World) (h : Row w B [.slice (some ⟨g, 0, none⟩) N cap] 61) :
    Calls Tryz.prog 40 #[.pointer (some ⟨B, 0, none⟩), .int .i64 (k : Int)] w fun e w' => e = .returned (.tuple #[.slice (some ⟨g, 0, none⟩) k cap, .int .i64 0]) ∧ w' = w := by
  have cB : w.cell? ⟨B, 0, none⟩ = some (.slice (some ⟨g, 0, none⟩) N cap) := h.cell 0 _ rfl
  have hkc : Hid (k ≤ cap) := by show _ ≤ _; omega
  clear h hc
  go_enter Tryz.func40, Tryz.ntmps40
  go_wp2_with (first
    | (go_at_call 17; refine Calls.mono (len_any (some ⟨g, 0, none⟩) N cap w) ?_; rintro e X ⟨rfl, hq⟩; obtain rfl := hq.symm)
    | (refine wpList_slice_k rfl 59 46 (.tmp 24) (.tmp 25) g N cap k 1 rfl rfl rfl hkc.out Tryz.underlying59 info_slb1 ?_; simp only [Act.put, List.setIfInBounds_toArray, List.set_cons_zero, List.set_cons_succ]))
  go_ret2
  exact ⟨rfl, rfl⟩
set_option maxRecDepth 100000 in
set_option maxHeartbeats 4000000 in
theorem first_nil (B : Nat) (w : World) (h : Row w B [.slice none 0 0] 61) :
    Calls Tryz.prog 40 #[.pointer (some ⟨B, 0, none⟩), .int .i64 0] w fun e w' => e = .returned (.tuple #[.slice none 0 0, .int .i64 0]) ∧ w' = w := by
  have cB : w.cell? ⟨B, 0, none⟩ = some (.slice none 0 0) := h.cell 0 _ rfl
  clear h
  go_enter Tryz.func40, Tryz.ntmps40
  go_wp2_with (go_at_call 17; refine Calls.mono (len_any none 0 0 w) ?_; rintro e X ⟨rfl, hq⟩; obtain rfl := hq.symm)
  go_ret2
  exact ⟨rfl, rfl⟩
set_option maxRecDepth 100000 in
set_option maxHeartbeats 4000000 in
theorem first_no (B : Nat) (A : Option Addr) (N cap : Nat) (k : Int) (hk : k < 0 ∨ (N : Int) < k) (_hN : N ≤ 1000000) (w : World) (h : Row w B [.slice A N cap] 61) :
    Calls Tryz.prog 40 #[.pointer (some ⟨B, 0, none⟩), .int .i64 k] w fun e w' => e = .returned (.tuple #[.slice none 0 0, .int .i64 112]) ∧ w' = w := by
  have cB : w.cell? ⟨B, 0, none⟩ = some (.slice A N cap) := h.cell 0 _ rfl
  clear h
  by_cases h0 : k < 0
  · clear hk
    go_enter Tryz.func40, Tryz.ntmps40
    go_wp2
    go_ret2
    exact ⟨rfl, rfl⟩
  · have hk2 : (N : Int) < k := by omega
    clear hk
    go_enter Tryz.func40, Tryz.ntmps40
    go_wp2_with (go_at_call 17; refine Calls.mono (len_any A N cap w) ?_; rintro e X ⟨rfl, hq⟩; obtain rfl := hq.symm)
    go_ret2
    exact ⟨rfl, rfl⟩
/-- first, of a book. -/
theorem first_bk (w0 : World) (B : Nat) (v : Value) (ts : List (List (BitVec 8))) (hts : ts.length ≤ 1000000) (k : Nat) (hk : k ≤ ts.length) (w : World) (hb : Bk w0 w B v ts) :
    Calls Tryz.prog 40 #[.pointer (some ⟨B, 0, none⟩), .int .i64 (k : Int)] w fun e w' => (∃ A cap, v = .slice A ts.length cap ∧ e = .returned (.tuple #[.slice A k cap, .int .i64 0])) ∧ w' = w := by
  obtain ⟨cs, h1, h2⟩ := hb.own
  obtain ⟨A, cap, e, hc, hn⟩ := Lw.form h1
  subst e
  cases A with
  | none =>
    obtain rfl := hn rfl
    have e0 : ts.length = 0 := by omega
    have ek : k = 0 := by omega
    have hr := hb.row
    rw [e0] at hr ⊢
    subst ek
    exact (first_nil B w hr).mono fun _ _ ⟨q1, q2⟩ => ⟨⟨none, 0, rfl, q1⟩, q2⟩
  | some ad =>
    obtain ⟨g, hg⟩ : ∃ g, ad = ⟨g, 0, none⟩ := by
      rcases h1.2 with ⟨q, _⟩ | ⟨g, c', cur, q, _⟩
      · cases q
      · simp only [Value.slice.injEq, Option.some.injEq] at q
        exact ⟨g, q.1⟩
    subst hg
    exact (first_some B g ts.length cap k hk hts hc w hb.row).mono fun _ _ ⟨q1, q2⟩ => ⟨⟨_, cap, rfl, q1⟩, q2⟩
end Go.Proofs.YtbfahgdienppoaaGreatDoor

namespace Go.Proofs.YtbfahgdienppoaaGreatDoor
open Go Go.RowKit
open Sha

section
variable {ops : Array Oper} {rest : List Oper} {op : Oper} {a : Act} {w : World} {Q : Exit → Act → World → Prop}
theorem wpList_slice_kf (hgd : op.guard = none) (t e : TypeId) (x z : Operand) (b f n cap k s : Nat) (ho : op.op = .slice t x none (some z) none) (hx : a.eval x = .slice (some ⟨b, f, none⟩) n cap) (hz : a.eval z = .int .i64 (k : Int)) (hk : k ≤ cap)
    (hu : Tryz.prog.underlying t = some (.slice e)) (hs : (Tryz.prog.info? e).map (·.size) = some s) (h : wpList Tryz.prog ops Q rest (a.put op.dst (.slice (some ⟨b, f, none⟩) k cap)) w) : wpList Tryz.prog ops Q (op :: rest) a w :=
  wpList_plain hgd fun _ hK => by
    cases hq : Tryz.prog.info? e with
    | none => simp [hq] at hs
    | some i =>
      have hr : (Instr.sliceAt t (.slice (some ⟨b, f, none⟩) n cap) none (some (.int .i64 (k : Int))) none).run Tryz.prog w = .ok (.slice (some ⟨b, f, none⟩) k cap) w := by
        simp [Instr.sliceAt, Instr.slice, run_underlying hu, Instr.sliceBounds, Instr.sliceBound, asIntOf, sizeOf, typeInfo, hq, hk, Addr.add_mid]
      unfold Oper.wp execOp
      simp only [ho, hx, hz, Option.map_some, Option.map_none, Sem.run_bind, hr, Result.andThen_ok, Sem.run_pure, Oper.upon_value]
      exact hK _ _ h
end
theorem info_raw : (Tryz.prog.info? 42).map (·.size) = some 26 := by kernel_rfl
set_option maxRecDepth 100000 in
theorem few_any (rs : List Rwv) (A : Option Addr) (n cap : Nat) (hn : n = rs.length) (hc : n ≤ cap) (m : Nat) (hm : m = (rs.take 200).length) (w : World) (hra : Ra w A rs) : Calls Tryz.prog 4 #[.slice A n cap] w fun e w' => e = .returned (.slice A m cap) ∧ w' = w := by
  by_cases h : 200 < n
  · obtain ⟨b, o, rfl⟩ : ∃ b o, A = some ⟨b, o, none⟩ := by
      obtain ⟨_, b, o, q, _⟩ := hra 0 _ (List.getElem?_eq_getElem (by omega))
      exact ⟨b, o, q⟩
    have hg : (200 : Int) < (n : Int) := by omega
    have h2 : Hid (200 ≤ cap) := by show _ ≤ _; omega
    obtain rfl : m = 200 := by rw [hm, List.length_take]; omega
    clear hn hc hra hm
    go_enter Tryz.func4, Tryz.ntmps4
    go_wp2_with (refine wpList_slice_kf rfl 22 42 (.tmp 6) (.const (.int .i64 200)) b o n cap 200 26 rfl rfl rfl h2.out Tryz.underlying22 info_raw ?_; simp only [Act.put, List.setIfInBounds_toArray, List.set_cons_zero, List.set_cons_succ])
    go_ret
    exact ⟨rfl, rfl⟩
  · have hg : ¬ (200 : Int) < (n : Int) := by omega
    obtain rfl : m = n := by rw [hm, List.length_take]; omega
    clear hn hra hc hm
    go_enter Tryz.func4, Tryz.ntmps4
    go_wp2
    go_ret
    exact ⟨rfl, rfl⟩
/-- Put, by what the leaf is made of. -/
theorem put_rw (w0 : World) (B : Nat) (v : Value) (rs : List Rwv) (r : Rwv) (hr : r.Ok) (hl : rs.length ≤ 100000) (i : Nat) (hi : i = rs.length) (L : List Value) (hL : L = rwl r i) (w : World) (hb : Bk w0 w B v (bts rs)) :
    Calls Tryz.prog 11 #[.pointer (some ⟨B, 0, none⟩), .agg L.toArray] w fun e w' => e = .returned (.int .i64 0) ∧ ∃ v', Bk w0 w' B v' (bts (rs ++ [r])) ∧ Gro (fun g => g = B ∨ v.ownBlock = some g) w w' ∧ (v'.ownBlock = v.ownBlock ∨ ∃ g, v'.ownBlock = some g ∧ w.heap.size ≤ g) := by
  have e := bts_len rs
  have hm := rw_may r rs.length (by omega)
  rw [← e] at hm
  have q := put_in w0 B v (bts rs) (by omega) _ _ r.rc (am9 r.am) hr.rc (am9_len hr.am) (am9_q hr.q) hm L (by rw [hL, hi, ← e]; rfl) w hb
  rw [e] at q
  rw [bts_snoc]
  exact q
/-- Leaf, by what it is made of. -/
theorem leaf_rw (w0 : World) (B : Nat) (v : Value) (rs : List Rwv) (hl : rs.length ≤ 100000) (i : Nat) (r : Rwv) (hi : rs[i]? = some r) (hr : r.Ok) (L : List Value) (hL : L = rwl r i) (w : World) (hb : Bk w0 w B v (bts rs)) :
    Calls Tryz.prog 20 #[.pointer (some ⟨B, 0, none⟩), .int .i64 (i : Int)] w fun e w' => e = .returned (.tuple #[.agg L.toArray, .int .i64 0]) ∧ Below w.heap.size w w' := by
  have hlt := (List.getElem?_eq_some_iff.1 hi).1
  rw [hL]
  exact leaf_ok w0 B v (bts rs) (by rw [bts_len]; omega) i _ _ _ r.rc (am9 r.am) hr.rc (am9_len hr.am) (am9_q hr.q) (rw_may r i (by omega)) (by rw [bts_get, hi]; rfl) w hb
theorem take_snoc {α : Type} (l : List α) (t : Nat) (x : α) (h : l[t]? = some x) : l.take (t + 1) = l.take t ++ [x] := by
  rw [List.take_add_one, h]
  rfl
end Go.Proofs.YtbfahgdienppoaaGreatDoor

namespace Go.Proofs.YtbfahgdienppoaaGreatDoor
open Go Go.RowKit
open Sha

theorem slT {w : World} {v : Value} {d : List (BitVec 8)} (h : SlAt w v d) : SlAtT w v d := h
/-- A book's texts in memory. -/
theorem Bk.ls {w0 w : World} {B : Nat} {A : Option Addr} {n cap : Nat} {ts : List (List (BitVec 8))} (h : Bk w0 w B (.slice A n cap) ts) (hn : n = ts.length) : A = none ∧ ts = [] ∧ cap = 0 ∨ ∃ b, A = some ⟨b, 0, none⟩ ∧ ts.length ≤ cap ∧ LsAt w b 0 ts := by
  obtain ⟨cs, h1, h2⟩ := h.own
  rcases h1.2 with ⟨q, q2⟩ | ⟨g, c', cur, q, _, hh, hc, hm, hs, ht⟩
  · simp only [Value.slice.injEq] at q
    exact .inl ⟨q.1, List.eq_nil_of_length_eq_zero q2, q.2.2⟩
  · simp only [Value.slice.injEq] at q
    obtain ⟨rfl, rfl, rfl⟩ := q
    refine .inr ⟨g, rfl, hc, cs, by have := Lw.len h1; omega, Lw.range h1, fun i hi => ?_⟩
    obtain ⟨u, p1, p2⟩ := h2 i _ (List.getElem?_eq_getElem hi)
    rw [List.getD_eq_getElem?_getD, p1, List.getD_eq_getElem?_getD, List.getElem?_eq_getElem hi]
    exact slT (Bw.sl p2)
theorem results_rowA_tmp11 {P : Program} {fn : Func} {p q : Tmp} {ty : TypeId} {k : Nat} {e : TypeId} (h : fn.results = #[.cell p ty, .tmp q]) (tmps : Array Value) (w : World) (g : Nat) (t : TypeId) (cs : List Value) (v : Value)
    (hp : tmps.getD p undef = .pointer (some ⟨g, 0, none⟩)) (hv : tmps.getD q undef = v) (hg : Row w g cs t) (hu : P.underlying ty = some (.array k e)) (hi : (P.info? ty).map (·.size) = some cs.length) :
    (results fn tmps).run P w = .ok (.tuple #[.agg cs.toArray, v]) w := by
  have hp' : tmps[p]?.getD undef = .pointer (some ⟨g, 0, none⟩) := by simpa using hp
  have hv' : tmps[q]?.getD undef = v := by simpa using hv
  have hr := run_loadVar_row (P := P) w g t ty cs.toArray (0, 0) (.array k e) hg hu rfl (by simp [hi])
  simp [results, h, hp', hv', asAddr, hr]
section
variable {ops : Array Oper} {rest : List Oper} {op : Oper} {a : Act} {w : World} {Q : Exit → Act → World → Prop}
set_option maxRecDepth 100000 in
theorem wpList_allocDg (hgd : op.guard = none) (ho : op.op = .alloc 53) (h : ∀ X, Row X w.heap.size (vB (List.replicate 32 0#8)) 53 → Below w.heap.size w X → wpList Tryz.prog ops Q rest (a.put op.dst (.pointer (some ⟨w.heap.size, 0, none⟩))) X) : wpList Tryz.prog ops Q (op :: rest) a w :=
  wpList_plain hgd fun _ hK => by
    unfold Oper.wp execOp
    simp only [ho]
    go_simp
    exact hK _ _ (h _ (Row.new' (cs := vB (List.replicate 32 0#8)) rfl rfl) ((Below.refl _ _).alloc (Nat.le_refl _) _))
end
theorem info_dg11 (d : List (BitVec 8)) (h : d.length = 32) : (Tryz.prog.info? 53).map (·.size) = some (vB d).length := by rw [vB_length, h]; kernel_rfl
theorem vB_all11 (d : List (BitVec 8)) : (vB d).toArray.all (·.oneCell') = true := all_oneCell_toArray (vB_one d)
set_option maxRecDepth 100000 in
set_option maxHeartbeats 4000000 in
/-- Root, of a book. -/
theorem root_bk (w0 : World) (B : Nat) (v : Value) (ts : List (List (BitVec 8))) (hts : ts.length ≤ 1000000) (hm : ∀ i, (ts.getD i []).length ≤ 153) (k : Nat) (hk : k ≤ ts.length) (dd : List (BitVec 8)) (hd : dd = rt (ts.take k)) (w : World) (hT : Tab w 2) (hb : Bk w0 w B v ts) :
    Calls Tryz.prog 16 #[.pointer (some ⟨B, 0, none⟩), .int .i64 (k : Int)] w fun e w' => e = .returned (.tuple #[.agg (vB dd).toArray, .int .i64 0]) ∧ Below w.heap.size w w' := by
  obtain ⟨A, cap, e⟩ := hb.form
  subst e
  have h32 : dd.length = 32 := by rw [hd]; exact rt_length _
  have HF : Hid (∀ X, Below w.heap.size w X → Calls Tryz.prog 40 #[.pointer (some ⟨B, 0, none⟩), .int .i64 (k : Int)] X fun e w' => e = .returned (.tuple #[.slice A k cap, .int .i64 0]) ∧ w' = X) := fun X hX => by
    refine (first_bk w0 B _ ts hts k hk X (hb.keep hX)).mono ?_
    rintro e w' ⟨⟨A', c', q1, q2⟩, q3⟩
    simp only [Value.slice.injEq] at q1
    obtain ⟨rfl, _, rfl⟩ := q1
    exact ⟨q2, q3⟩
  have HR : Hid (∀ X, Below w.heap.size w X → Calls Tryz.prog 41 #[.slice A k cap] X fun e w' => e = .returned (.agg (vB dd).toArray) ∧ Below X.heap.size X w') := fun X hX => by
    have hTX := hT.below hX hT.lt
    rcases hb.ls rfl with ⟨rfl, rfl, rfl⟩ | ⟨b, rfl, hc, hl⟩
    · obtain rfl : k = 0 := by simpa using hk
      exact root_nil none 0 dd (by rw [hd]; exact rt_nil _ rfl) X hTX
    · refine root_any k (ts.take k) (by rw [List.length_take]; omega) (by omega) (fun i hi => ?_) dd hd b 0 cap (by omega) X hTX ((hl.below hX).take k)
      rw [List.length_take] at hi
      have e2 : (ts.take k).getD i [] = ts.getD i [] := by simp [List.getD_eq_getElem?_getD, show i < k by omega]
      rw [e2]
      have := hm i
      omega
  have HI : Hid ((Tryz.prog.info? 53).map (·.size) = some (vB dd).length) := info_dg11 dd h32
  have HLL : Hid ((vB dd).length = (vB (List.replicate 32 0#8)).length) := by show _ = _; rw [vB_length, vB_length, h32]; rfl
  clear hd hts hm hk hT hb h32
  go_enter Tryz.func16, Tryz.ntmps16
  go_wp2_with (first
    | (refine wpList_allocDg rfl rfl ?_; intro X0 q1 q2; have R0 : Hid (Row X0 w.heap.size (vB (List.replicate 32 0#8)) 53) := q1; have B0 : Hid (Below w.heap.size w X0) := q2; clear q1 q2; simp only [Act.put, List.setIfInBounds_toArray, List.set_cons_zero, List.set_cons_succ])
    | (go_at_call 40; refine Calls.mono (HF.out X0 B0.out) ?_; rintro e X ⟨rfl, hq⟩; obtain rfl := hq.symm)
    | (go_at_call 41; refine Calls.mono (HR.out X0 B0.out) ?_; rintro e X1 ⟨rfl, q⟩; have R1 : Hid (Row X1 w.heap.size (vB (List.replicate 32 0#8)) 53) := Row.below R0.out q R0.out.lt; have B1 : Hid (Below w.heap.size w X1) := B0.out.trans (q.mono B0.out.size); clear q)
    | (refine wpList_storeL rfl 53 (.tmp 4) (.tmp 19) rfl w.heap.size (vB dd) (vB (List.replicate 32 0#8)) 53 rfl rfl R1.out HLL.out HI.out (vB_all11 dd) ?_; intro X9 q1 q2; have E9 : Hid (X9 = _) := q1; have R9 : Hid (Row X9 w.heap.size (vB dd) 53) := q2; clear q1 q2; simp only [Act.put]))
  have hE : Below w.heap.size w X9 := by rw [E9.out]; exact below_setCells B1.out (Nat.le_refl _) _
  exact bodyPost_ret (results_rowA_tmp11 Tryz.results16 _ _ w.heap.size 53 (vB dd) (.int .i64 0) rfl rfl R9.out Tryz.underlying53 HI.out) rfl ⟨rfl, hE⟩
set_option maxRecDepth 100000 in
set_option maxHeartbeats 4000000 in
/-- Path, of a book. -/
theorem path_bk (w0 : World) (B : Nat) (v : Value) (ts : List (List (BitVec 8))) (hts : ts.length ≤ 1000000) (hm : ∀ i, (ts.getD i []).length ≤ 153) (i n : Nat) (hn : n = ts.length) (hi : i < n) (ds : List (List (BitVec 8))) (hd : ds = pt i ts) (w : World) (hT : Tab w 2) (hb : Bk w0 w B v ts) :
    Calls Tryz.prog 19 #[.pointer (some ⟨B, 0, none⟩), .int .i64 (i : Int), .int .i64 (n : Int)] w fun e w' => ∃ A cap, e = .returned (.tuple #[.slice A ds.length cap, .int .i64 0]) ∧ PAt w' (.slice A ds.length cap) ds ∧ Below w.heap.size w w' := by
  obtain ⟨A, cap, e⟩ := hb.form
  subst e
  have HF : Hid (Calls Tryz.prog 40 #[.pointer (some ⟨B, 0, none⟩), .int .i64 (n : Int)] w fun e w' => e = .returned (.tuple #[.slice A n cap, .int .i64 0]) ∧ w' = w) := by
    refine (first_bk w0 B _ ts hts n (by omega) w hb).mono ?_
    rintro e w' ⟨⟨A', c', q1, q2⟩, q3⟩
    simp only [Value.slice.injEq] at q1
    obtain ⟨rfl, _, rfl⟩ := q1
    exact ⟨q2, q3⟩
  have HP : Hid (Calls Tryz.prog 42 #[.slice A n cap, .int .i64 (i : Int)] w fun e w' => ∃ A2 c2, e = .returned (.tuple #[.slice A2 ds.length c2, .int .i64 0]) ∧ PAt w' (.slice A2 ds.length c2) ds ∧ Below w.heap.size w w') := by
    rcases hb.ls rfl with ⟨rfl, rfl, rfl⟩ | ⟨b, rfl, hc, hl⟩
    · simp at hn; omega
    · refine (path_in n i ts hn.symm hi (by omega) (fun j hj => by have := hm j; omega) b 0 cap (by omega) w hT hl).mono ?_
      rintro e w' ⟨v, rfl, q1, q2⟩
      rw [← hd] at q1
      have hp : PAt w' v ds := PAt.of_own q1 (by rw [hd]; exact pt_each n i ts hn.symm (by omega) (by omega))
      have hp2 := hp
      obtain ⟨_, A2, c2, e2, _⟩ := hp2
      subst e2
      exact ⟨A2, c2, rfl, hp, q2⟩
  have hi2 : ¬ ((n : Int) ≤ (i : Int)) := by omega
  have hnb : n ≤ 1000000 := by omega
  clear hd hts hm hT hb hn
  go_enter Tryz.func19, Tryz.ntmps19
  go_wp2_with (first
    | (go_at_call 40; refine Calls.mono HF.out ?_; rintro e X ⟨rfl, hq⟩; obtain rfl := hq.symm)
    | (go_at_call 42; refine Calls.mono HP.out ?_; rintro e X1 ⟨A2, c2, rfl, q1, q2⟩; have P1 : Hid (PAt X1 (.slice A2 ds.length c2) ds) := q1; have B1 : Hid (Below w.heap.size w X1) := q2; clear q1 q2))
  go_ret2
  exact ⟨A2, c2, rfl, P1.out, B1.out⟩

end Go.Proofs.YtbfahgdienppoaaGreatDoor
