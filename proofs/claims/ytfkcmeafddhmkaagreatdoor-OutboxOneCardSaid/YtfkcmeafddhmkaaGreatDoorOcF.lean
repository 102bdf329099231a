/-
  the law OutboxCuts: laws of its walk; two books beside one another.
-/
import Derived.Test.YtfkcmeafddhmkaaGreatDoorObD
import Derived.Lib.SliceRun
import Derived.Test.YtfkcmeafddhmkaaGreatDoorOcC
import Derived.Test.YtfkcmeafddhmkaaGreatDoorOcS
import Derived.Test.YtfkcmeafddhmkaaGreatDoorTAwk

namespace Go.Proofs.YtfkcmeafddhmkaaGreatDoor
open Go Go.RowKit
open Sha

section
variable {ops : Array Oper} {rest : List Oper} {op : Oper} {a : Act} {w : World} {Q : Exit → Act → World → Prop}
/-- The first k of a list. -/
theorem wpList_slice_k (hw : Region.wanted op (yielded ops a.tmps) = true) (t e : TypeId) (x z : Operand) (b n cap k s : Nat) (ho : op.op = .slice t x none (some z) none) (hx : a.eval x = .slice (some ⟨b, 0, none⟩) n cap) (hz : a.eval z = .int .i64 (k : Int)) (hk : k ≤ cap)
    (hu : Tryz.prog.underlying t = some (.slice e)) (hs : (Tryz.prog.info? e).map (·.size) = some s) (h : wpList Tryz.prog ops Q rest (a.put op.dst (.slice (some ⟨b, 0, none⟩) k cap)) w) : wpList Tryz.prog ops Q (op :: rest) a w :=
  BigFrame.wpList_want hw fun _ hK => by
    cases hq : Tryz.prog.info? e with
    | none => simp [hq] at hs
    | some i =>
      have hr : (Instr.sliceAt t (.slice (some ⟨b, 0, none⟩) n cap) none (some (.int .i64 (k : Int))) none).run Tryz.prog w = .ok (.slice (some ⟨b, 0, none⟩) k cap) w := by
        simp [Instr.sliceAt, Instr.slice, run_underlying hu, Instr.sliceBounds, Instr.sliceBound, asIntOf, sizeOf, typeInfo, hq, hk, Addr.add_mid]
      unfold Oper.wp execOp
      simp only [ho, hx, hz, Option.map_some, Option.map_none, Sem.run_bind, hr, Result.andThen_ok, Sem.run_pure, Oper.upon_value]
      exact hK _ _ h
/-- What lies behind the first k. -/
theorem wpList_slice_b (hgd : op.guard = none) (t e : TypeId) (x z : Operand) (b n cap k : Nat) (ho : op.op = .slice t x (some z) none none) (hx : a.eval x = .slice (some ⟨b, 0, none⟩) n cap) (hz : a.eval z = .int .i64 (k : Int)) (hk : k ≤ n)
    (hu : Tryz.prog.underlying t = some (.slice e)) (hs : (Tryz.prog.info? e).map (·.size) = some 1) (h : ∀ o, (k < cap → o = k) → wpList Tryz.prog ops Q rest (a.put op.dst (.slice (some ⟨b, o, none⟩) (n - k) (cap - k))) w) : wpList Tryz.prog ops Q (op :: rest) a w :=
  wpList_plain hgd fun _ hK => by
    cases hq : Tryz.prog.info? e with
    | none => simp [hq] at hs
    | some i =>
      have h1 : i.size = 1 := by simpa [hq] using hs
      have hr : (Instr.sliceAt t (.slice (some ⟨b, 0, none⟩) n cap) (some (.int .i64 (k : Int))) none none).run Tryz.prog w = .ok (.slice (some ⟨b, if cap = k then 0 else k, none⟩) (n - k) (cap - k)) w := by
        by_cases hck : cap = k
        · simp [Instr.sliceAt, Instr.slice, run_underlying hu, Instr.sliceBounds, Instr.sliceBound, asIntOf, sizeOf, typeInfo, hq, hk, hck]
        · simp [Instr.sliceAt, Instr.slice, run_underlying hu, Instr.sliceBounds, Instr.sliceBound, asIntOf, sizeOf, typeInfo, hq, hk, hck, Addr.add_mid, h1]
      unfold Oper.wp execOp
      simp only [ho, hx, hz, Option.map_some, Option.map_none, Sem.run_bind, hr, Result.andThen_ok, Sem.run_pure, Oper.upon_value]
      exact hK _ _ (h _ (fun q => by rw [if_neg (by omega)]))
theorem zero_sl (w : World) : (zeroValue 52).run Tryz.prog w = .ok (.slice none 0 0) w := by go_simp
/-- clear of what lies behind the first k of a list that is owned. -/
theorem wpList_clearB (hgd : op.guard = none) (ty : TypeId) (hu : Tryz.prog.underlying ty = some (.slice 52)) (x : Operand) (ho : op.op = .call { callee := .builtin .clear, args := #[x], argTypes := #[ty] }) (g n cap k o : Nat) (cs : List Value) (hx : a.eval x = .slice (some ⟨g, o, none⟩) (n - k) (cap - k)) (hk : k ≤ n) (hc : n ≤ cap) (hof : k < cap → o = k)
    (hown : Lw w 52 1 (.slice (some ⟨g, 0, none⟩) n cap) n cs)
    (h : ∀ X, Lw X 52 1 (.slice (some ⟨g, 0, none⟩) k cap) k (cs.take k) → Gro (· = g) w X → wpList Tryz.prog ops Q rest (a.put op.dst (.tuple #[])) X) : wpList Tryz.prog ops Q (op :: rest) a w :=
  wpList_plain hgd fun _ hK => by
    obtain ⟨h1, h2⟩ := hown
    rcases h2 with ⟨h2, _⟩ | ⟨g', cap', cur, hv, _, hh, hc2, hm, hs, ht⟩
    · cases h2
    · simp only [Value.slice.injEq, Option.some.injEq, Addr.mk.injEq] at hv
      obtain ⟨⟨rfl, _, _⟩, _, rfl⟩ := hv
      rw [Nat.mul_one] at hs ht h1
      have hrow : Row w g cur.toList 52 := by unfold Row; rw [hh]
      have hlen : cur.toList.length = cap := by simpa using hs
      by_cases hnk : n = k
      · subst hnk
        rw [Nat.sub_self] at hx
        have hr : (Builtin.clear_ #[ty] op.type #[.slice (some ⟨g, o, none⟩) 0 (cap - n)]).run Tryz.prog w = .ok (.tuple #[]) w := by
          simp [Builtin.clear_, run_underlying hu]
        unfold Oper.wp execOp
        simp only [ho, resolve, invoke, builtin, Sem.run_bind, Sem.run_pure, Result.andThen_ok, List.map_toArray, List.map_cons, List.map_nil, hx, hr]
        refine hK _ _ (h w ⟨by rw [List.length_take]; omega, .inr ⟨g, cap, cur, rfl, Nat.zero_le _, hh, hc2, hm, by rw [Nat.mul_one]; exact hs, ?_⟩⟩ (Gro.refl _ _))
        rw [Nat.mul_one, ht, List.take_of_length_le (by omega)]
      · have hkn : k < n := by omega
        have eo : o = k := hof (by omega)
        rw [eo] at hx
        have hr := Go.Lib.run_clear_slice (P := Tryz.prog) w ty 52 op.type (.slice none 0 0) hu zero_sl rfl rfl g k (n - k) (cap - k) (by omega)
          (fun j hj => by
            have q := hrow.cell (k + j) _ (List.getElem?_eq_getElem (by omega))
            rw [q]; rfl)
          (fun j hj => by
            simp only [World.frozen?, hh]
            simp)
        have hrow2 := hrow.setCells k (List.replicate (n - k) (.slice none 0 0)) (by simp; omega)
        unfold Oper.wp execOp
        simp only [ho, resolve, invoke, builtin, Sem.run_bind, Sem.run_pure, Result.andThen_ok, List.map_toArray, List.map_cons, List.map_nil, hx, hr]
        refine hK _ _ (h _ ⟨by rw [List.length_take]; omega, .inr ⟨g, cap, _, rfl, Nat.zero_le _, hrow2, by omega, hm, by simp; omega, ?_⟩⟩ (gro_over (Gro.refl _ _) g k _ rfl))
        rw [← ht]
        simp only [Nat.mul_one, List.append_assoc]
        rw [List.take_append_of_le_length (by rw [List.length_take]; omega), List.take_take, List.take_take]
        rw [show min k n = k by omega, show min k k = k by omega]
theorem wpList_clear0 (hgd : op.guard = none) (ty : TypeId) (hu : Tryz.prog.underlying ty = some (.slice 52)) (x : Operand) (ho : op.op = .call { callee := .builtin .clear, args := #[x], argTypes := #[ty] }) (hx : a.eval x = .slice none 0 0)
    (h : wpList Tryz.prog ops Q rest (a.put op.dst (.tuple #[])) w) : wpList Tryz.prog ops Q (op :: rest) a w :=
  wpList_plain hgd fun _ hK => by
    have hr : (Builtin.clear_ #[ty] op.type #[.slice none 0 0]).run Tryz.prog w = .ok (.tuple #[]) w := by
      simp [Builtin.clear_, run_underlying hu]
    unfold Oper.wp execOp
    simp only [ho, resolve, invoke, builtin, Sem.run_bind, Sem.run_pure, Result.andThen_ok, List.map_toArray, List.map_cons, List.map_nil, hx, hr]
    exact hK _ _ h
end
theorem info_slb1 : (Tryz.prog.info? 52).map (·.size) = some 1 := by kernel_rfl
set_option maxRecDepth 100000 in
set_option maxHeartbeats 4000000 in
theorem first_some (B g N cap k : Nat) (hk : k ≤ N) (_hN : N ≤ 1000000) (hc : N ≤ cap) (w : World) (h : Row w B [.slice (some ⟨g, 0, none⟩) N cap] 65) :
    Calls Tryz.prog 20 #[.pointer (some ⟨B, 0, none⟩), .int .i64 (k : Int)] w fun e w' => e = .returned (.tuple #[.slice (some ⟨g, 0, none⟩) k cap, .int .i64 0]) ∧ w' = w := by
  have cB : w.cell? ⟨B, 0, none⟩ = some (.slice (some ⟨g, 0, none⟩) N cap) := h.cell 0 _ rfl
  have hkc : Hid (k ≤ cap) := by show _ ≤ _; omega
  clear h hc
  go_enter Tryz.func20, Tryz.ntmps20
  go_wp2_with (first
    | (go_at_call 19; refine Calls.mono (len_any (some ⟨g, 0, none⟩) N cap w) ?_; rintro e X ⟨rfl, hq⟩; obtain rfl := hq.symm)
    | (refine wpList_slice_k rfl 63 52 (.tmp 24) (.tmp 25) g N cap k 1 rfl rfl rfl hkc.out Tryz.underlying63 info_slb1 ?_; simp only [Act.put, List.setIfInBounds_toArray, List.set_cons_zero, List.set_cons_succ]))
  go_ret2
  exact ⟨rfl, rfl⟩
set_option maxRecDepth 100000 in
set_option maxHeartbeats 4000000 in
theorem first_nil (B : Nat) (w : World) (h : Row w B [.slice none 0 0] 65) :
    Calls Tryz.prog 20 #[.pointer (some ⟨B, 0, none⟩), .int .i64 0] w fun e w' => e = .returned (.tuple #[.slice none 0 0, .int .i64 0]) ∧ w' = w := by
  have cB : w.cell? ⟨B, 0, none⟩ = some (.slice none 0 0) := h.cell 0 _ rfl
  clear h
  go_enter Tryz.func20, Tryz.ntmps20
  go_wp2_with (go_at_call 19; refine Calls.mono (len_any none 0 0 w) ?_; rintro e X ⟨rfl, hq⟩; obtain rfl := hq.symm)
  go_ret2
  exact ⟨rfl, rfl⟩
set_option maxRecDepth 100000 in
set_option maxHeartbeats 4000000 in
theorem first_no (B : Nat) (A : Option Addr) (N cap : Nat) (k : Int) (hk : k < 0 ∨ (N : Int) < k) (_hN : N ≤ 1000000) (w : World) (h : Row w B [.slice A N cap] 65) :
    Calls Tryz.prog 20 #[.pointer (some ⟨B, 0, none⟩), .int .i64 k] w fun e w' => e = .returned (.tuple #[.slice none 0 0, .int .i64 112]) ∧ w' = w := by
  have cB : w.cell? ⟨B, 0, none⟩ = some (.slice A N cap) := h.cell 0 _ rfl
  clear h
  by_cases h0 : k < 0
  · clear hk
    go_enter Tryz.func20, Tryz.ntmps20
    go_wp2
    go_ret2
    exact ⟨rfl, rfl⟩
  · have hk2 : (N : Int) < k := by omega
    clear hk
    go_enter Tryz.func20, Tryz.ntmps20
    go_wp2_with (go_at_call 19; refine Calls.mono (len_any A N cap w) ?_; rintro e X ⟨rfl, hq⟩; obtain rfl := hq.symm)
    go_ret2
    exact ⟨rfl, rfl⟩
/-- first, of a book. -/
theorem first_bk (w0 : World) (B : Nat) (v : Value) (ts : List (List (BitVec 8))) (hts : ts.length ≤ 1000000) (k : Nat) (hk : k ≤ ts.length) (w : World) (hb : Bk w0 w B v ts) :
    Calls Tryz.prog 20 #[.pointer (some ⟨B, 0, none⟩), .int .i64 (k : Int)] w fun e w' => (∃ A cap, v = .slice A ts.length cap ∧ e = .returned (.tuple #[.slice A k cap, .int .i64 0])) ∧ w' = w := by
  obtain ⟨cs, h1, h2⟩ := hb.own
  obtain ⟨A, cap, e, hc, hn⟩ := Lw.form h1
  subst e
  cases A with
  | none =>
    obtain rfl := hn rfl
    have e0 : ts.length = 0 := by omega
    have ek : k = 0 := by omega
    have hr := hb.row
    rw [e0] at hr ⊢
    subst ek
    exact (first_nil B w hr).mono fun _ _ ⟨q1, q2⟩ => ⟨⟨none, 0, rfl, q1⟩, q2⟩
  | some ad =>
    obtain ⟨g, hg⟩ : ∃ g, ad = ⟨g, 0, none⟩ := by
      rcases h1.2 with ⟨q, _⟩ | ⟨g, c', cur, q, _⟩
      · cases q
      · simp only [Value.slice.injEq, Option.some.injEq] at q
        exact ⟨g, q.1⟩
    subst hg
    exact (first_some B g ts.length cap k hk hts hc w hb.row).mono fun _ _ ⟨q1, q2⟩ => ⟨⟨_, cap, rfl, q1⟩, q2⟩
end Go.Proofs.YtfkcmeafddhmkaaGreatDoor

namespace Go.Proofs.YtfkcmeafddhmkaaGreatDoor
open Go Go.RowKit
open Sha

section
variable {ops : Array Oper} {rest : List Oper} {op : Oper} {a : Act} {w : World} {Q : Exit → Act → World → Prop}
theorem wpList_slice_kf (hgd : op.guard = none) (t e : TypeId) (x z : Operand) (b f n cap k s : Nat) (ho : op.op = .slice t x none (some z) none) (hx : a.eval x = .slice (some ⟨b, f, none⟩) n cap) (hz : a.eval z = .int .i64 (k : Int)) (hk : k ≤ cap)
    (hu : Tryz.prog.underlying t = some (.slice e)) (hs : (Tryz.prog.info? e).map (·.size) = some s) (h : wpList Tryz.prog ops Q rest (a.put op.dst (.slice (some ⟨b, f, none⟩) k cap)) w) : wpList Tryz.prog ops Q (op :: rest) a w :=
  wpList_plain hgd fun _ hK => by
    cases hq : Tryz.prog.info? e with
    | none => simp [hq] at hs
    | some i =>
      have hr : (Instr.sliceAt t (.slice (some ⟨b, f, none⟩) n cap) none (some (.int .i64 (k : Int))) none).run Tryz.prog w = .ok (.slice (some ⟨b, f, none⟩) k cap) w := by
        simp [Instr.sliceAt, Instr.slice, run_underlying hu, Instr.sliceBounds, Instr.sliceBound, asIntOf, sizeOf, typeInfo, hq, hk, Addr.add_mid]
      unfold Oper.wp execOp
      simp only [ho, hx, hz, Option.map_some, Option.map_none, Sem.run_bind, hr, Result.andThen_ok, Sem.run_pure, Oper.upon_value]
      exact hK _ _ h
end
theorem info_raw : (Tryz.prog.info? 29).map (·.size) = some 26 := by kernel_rfl
set_option maxRecDepth 100000 in
theorem few_any (rs : List Rwv) (A : Option Addr) (n cap : Nat) (hn : n = rs.length) (hc : n ≤ cap) (m : Nat) (hm : m = (rs.take 200).length) (w : World) (hra : Ra w A rs) : Calls Tryz.prog 4 #[.slice A n cap] w fun e w' => e = .returned (.slice A m cap) ∧ w' = w := by
  by_cases h : 200 < n
  · obtain ⟨b, o, rfl⟩ : ∃ b o, A = some ⟨b, o, none⟩ := by
      obtain ⟨_, b, o, q, _⟩ := hra 0 _ (List.getElem?_eq_getElem (by omega))
      exact ⟨b, o, q⟩
    have hg : (200 : Int) < (n : Int) := by omega
    have h2 : Hid (200 ≤ cap) := by show _ ≤ _; omega
    obtain rfl : m = 200 := by rw [hm, List.length_take]; omega
    clear hn hc hra hm
    go_enter Tryz.func4, Tryz.ntmps4
    go_wp2_with (refine wpList_slice_kf rfl 22 29 (.tmp 6) (.const (.int .i64 200)) b o n cap 200 26 rfl rfl rfl h2.out Tryz.underlying22 info_raw ?_; simp only [Act.put, List.setIfInBounds_toArray, List.set_cons_zero, List.set_cons_succ])
    go_ret
    exact ⟨rfl, rfl⟩
  · have hg : ¬ (200 : Int) < (n : Int) := by omega
    obtain rfl : m = n := by rw [hm, List.length_take]; omega
    clear hn hra hc hm
    go_enter Tryz.func4, Tryz.ntmps4
    go_wp2
    go_ret
    exact ⟨rfl, rfl⟩
/-- Put, by what the leaf is made of. -/
theorem put_rw (w0 : World) (B : Nat) (v : Value) (rs : List Rwv) (r : Rwv) (hr : r.Ok) (hl : rs.length ≤ 100000) (i : Nat) (hi : i = rs.length) (L : List Value) (hL : L = rwl r i) (w : World) (hb : Bk w0 w B v (bts rs)) :
    Calls Tryz.prog 16 #[.pointer (some ⟨B, 0, none⟩), .agg L.toArray] w fun e w' => e = .returned (.int .i64 0) ∧ ∃ v', Bk w0 w' B v' (bts (rs ++ [r])) ∧ Gro (fun g => g = B ∨ v.ownBlock = some g) w w' ∧ (v'.ownBlock = v.ownBlock ∨ ∃ g, v'.ownBlock = some g ∧ w.heap.size ≤ g) := by
  have e := bts_len rs
  have hm := rw_may r rs.length (by omega)
  rw [← e] at hm
  have q := put_in w0 B v (bts rs) (by omega) _ _ r.rc (am9 r.am) hr.rc (am9_len hr.am) (am9_q hr.q) hm L (by rw [hL, hi, ← e]; rfl) w hb
  rw [e] at q
  rw [bts_snoc]
  exact q
/-- Leaf, by what it is made of. -/
theorem leaf_rw (w0 : World) (B : Nat) (v : Value) (rs : List Rwv) (hl : rs.length ≤ 100000) (i : Nat) (r : Rwv) (hi : rs[i]? = some r) (hr : r.Ok) (L : List Value) (hL : L = rwl r i) (w : World) (hb : Bk w0 w B v (bts rs)) :
    Calls Tryz.prog 18 #[.pointer (some ⟨B, 0, none⟩), .int .i64 (i : Int)] w fun e w' => e = .returned (.tuple #[.agg L.toArray, .int .i64 0]) ∧ Below w.heap.size w w' := by
  have hlt := (List.getElem?_eq_some_iff.1 hi).1
  rw [hL]
  exact leaf_ok w0 B v (bts rs) (by rw [bts_len]; omega) i _ _ _ r.rc (am9 r.am) hr.rc (am9_len hr.am) (am9_q hr.q) (rw_may r i (by omega)) (by rw [bts_get, hi]; rfl) w hb
theorem take_snoc {α : Type} (l : List α) (t : Nat) (x : α) (h : l[t]? = some x) : l.take (t + 1) = l.take t ++ [x] := by
  rw [List.take_add_one, h]
  rfl
set_option maxRecDepth 100000 in
set_option maxHeartbeats 4000000 in
theorem booked_any (rs : List Rwv) (A : Option Addr) (n cap : Nat) (hn : n = rs.length) (h400 : n ≤ 400) (w : World) (hra : Ra w A rs) :
    Calls Tryz.prog 5 #[.slice A n cap] w fun e w' => ∃ B v, e = .returned (.pointer (some ⟨B, 0, none⟩)) ∧ Bk w w' B v (bts rs) := by
  have HN : Hid (n = rs.length) := hn
  have HRA : Hid (Ra w A rs) := hra
  clear hn hra
  go_enter Tryz.func5, Tryz.ntmps5
  go_upto_region 5 with (go_at_call 15; refine Calls.mono (new_any w) ?_; rintro e X1 ⟨rfl, q⟩; have K1 : Hid (Bk w X1 w.heap.size (.slice none 0 0) (bts (rs.take 0))) := q; clear q)
  obtain ⟨B, hB⟩ : ∃ B, B = w.heap.size := ⟨_, rfl⟩
  rw [← hB] at K1 ⊢
  clear hB
  go_loopw [4] (fun k wr => ∃ t : Nat, t ≤ n ∧ k = .int .i64 (t : Int) ∧ ∃ v, Bk w wr B v (bts (rs.take t))) (fun k _ => n - (intOf k).toNat)
  case atStart => exact ⟨0, Nat.zero_le _, rfl, _, K1.out⟩
  case round =>
    obtain ⟨t, ht, rfl, v, hK⟩ := hrel
    clear K1
    by_cases hlt : t < n
    · obtain ⟨r, hr⟩ : ∃ r, rs[t]? = some r := ⟨_, List.getElem?_eq_getElem (by rw [← HN.out]; exact hlt)⟩
      obtain ⟨hok, b, o, rfl, hrg⟩ := (HRA.out.be hK.be) t r hr
      obtain ⟨R, hR⟩ : ∃ R, R = rwc r := ⟨_, rfl⟩
      obtain ⟨L, hL⟩ : ∃ L, L = rwl r t := ⟨_, rfl⟩
      rw [← hR] at hrg
      have HG : Hid (wr.rangeAt b (o + t * 26) R) := hrg
      have HI : Hid ((Tryz.prog.info? 29).map (·.size) = some R.length) := by show _ = _; rw [hR, rwc_len hok]; exact info_raw
      have HLF : Hid (∀ X, Calls Tryz.prog 10 #[.agg R.toArray, .int .i64 (t : Int)] X fun e w' => e = .returned (.agg L.toArray) ∧ Below X.heap.size X w') := fun X => by rw [hL]; exact rleaf_any r hok t R hR X
      have HPU : Hid (∀ X, Bk w X B v (bts (rs.take t)) → Calls Tryz.prog 16 #[.pointer (some ⟨B, 0, none⟩), .agg L.toArray] X fun e w' => e = .returned (.int .i64 0) ∧ ∃ v', Bk w w' B v' (bts (rs.take (t + 1)))) := fun X hX => by
        rw [take_snoc rs t r hr]
        exact (put_rw w B v (rs.take t) r hok (by rw [List.length_take]; omega) t (by rw [List.length_take]; have := HN.out; omega) L hL X hX).mono fun _ _ ⟨q1, v', q2, _⟩ => ⟨q1, v', q2⟩
      have HK : Hid (Bk w wr B v (bts (rs.take t))) := hK
      clear hR hL hr hok hrg hK HRA
      go_wp2_with (first
        | (refine wpList_load_w rfl 29 (.tmp 17) rfl b (o + t * 26) rfl R _ HG.out Tryz.underlying29 rfl HI.out ?_; simp only [Act.put, List.setIfInBounds_toArray, List.set_cons_zero, List.set_cons_succ])
        | (go_at_call 10; refine Calls.mono (HLF.out wr) ?_; rintro e X2 ⟨rfl, q⟩; have K2 : Hid (Bk w X2 B v (bts (rs.take t))) := HK.out.keep q; clear q)
        | (go_at_call 16; refine Calls.mono (HPU.out X2 K2.out) ?_; rintro e X3 ⟨rfl, v3, q⟩; have K3 : Hid (Bk w X3 B v3 (bts (rs.take (t + 1)))) := q; clear q))
      refine ⟨⟨t + 1, hlt, by go_num, v3, K3.out⟩, by simp [intOf]; omega⟩
    · obtain rfl : t = n := by omega
      have HK : Hid (Bk w wr B v (bts rs)) := by have := hK; rwa [List.take_of_length_le (by rw [← HN.out]; exact Nat.le_refl _)] at this
      clear hK HRA
      go_wp2
      go_ret
      exact ⟨B, v, rfl, HK.out⟩

end Go.Proofs.YtfkcmeafddhmkaaGreatDoor

namespace Go.Proofs.YtfkcmeafddhmkaaGreatDoor
open Go Go.RowKit
open Sha

theorem slT {w : World} {v : Value} {d : List (BitVec 8)} (h : SlAt w v d) : SlAtT w v d := h
/-- A book's texts in memory. -/
theorem Bk.ls {w0 w : World} {B : Nat} {A : Option Addr} {n cap : Nat} {ts : List (List (BitVec 8))} (h : Bk w0 w B (.slice A n cap) ts) (hn : n = ts.length) : A = none ∧ ts = [] ∧ cap = 0 ∨ ∃ b, A = some ⟨b, 0, none⟩ ∧ ts.length ≤ cap ∧ LsAt w b 0 ts := by
  obtain ⟨cs, h1, h2⟩ := h.own
  rcases h1.2 with ⟨q, q2⟩ | ⟨g, c', cur, q, _, hh, hc, hm, hs, ht⟩
  · simp only [Value.slice.injEq] at q
    exact .inl ⟨q.1, List.eq_nil_of_length_eq_zero q2, q.2.2⟩
  · simp only [Value.slice.injEq] at q
    obtain ⟨rfl, rfl, rfl⟩ := q
    refine .inr ⟨g, rfl, hc, cs, by have := Lw.len h1; omega, Lw.range h1, fun i hi => ?_⟩
    obtain ⟨u, p1, p2⟩ := h2 i _ (List.getElem?_eq_getElem hi)
    rw [List.getD_eq_getElem?_getD, p1, List.getD_eq_getElem?_getD, List.getElem?_eq_getElem hi]
    exact slT (Bw.sl p2)
theorem results_rowA_tmp11 {P : Program} {fn : Func} {p q : Tmp} {ty : TypeId} {k : Nat} {e : TypeId} (h : fn.results = #[.cell p ty, .tmp q]) (tmps : Array Value) (w : World) (g : Nat) (t : TypeId) (cs : List Value) (v : Value)
    (hp : tmps.getD p undef = .pointer (some ⟨g, 0, none⟩)) (hv : tmps.getD q undef = v) (hg : Row w g cs t) (hu : P.underlying ty = some (.array k e)) (hi : (P.info? ty).map (·.size) = some cs.length) :
    (results fn tmps).run P w = .ok (.tuple #[.agg cs.toArray, v]) w := by
  have hp' : tmps[p]?.getD undef = .pointer (some ⟨g, 0, none⟩) := by simpa using hp
  have hv' : tmps[q]?.getD undef = v := by simpa using hv
  have hr := run_loadVar_row (P := P) w g t ty cs.toArray (0, 0) (.array k e) hg hu rfl (by simp [hi])
  simp [results, h, hp', hv', asAddr, hr]
section
variable {ops : Array Oper} {rest : List Oper} {op : Oper} {a : Act} {w : World} {Q : Exit → Act → World → Prop}
set_option maxRecDepth 100000 in
theorem wpList_allocDg (hgd : op.guard = none) (ho : op.op = .alloc 39) (h : ∀ X, Row X w.heap.size (vB (List.replicate 32 0#8)) 39 → Below w.heap.size w X → wpList Tryz.prog ops Q rest (a.put op.dst (.pointer (some ⟨w.heap.size, 0, none⟩))) X) : wpList Tryz.prog ops Q (op :: rest) a w :=
  wpList_plain hgd fun _ hK => by
    unfold Oper.wp execOp
    simp only [ho]
    go_simp
    exact hK _ _ (h _ (Row.new' (cs := vB (List.replicate 32 0#8)) rfl rfl) ((Below.refl _ _).alloc (Nat.le_refl _) _))
end
theorem info_dg11 (d : List (BitVec 8)) (h : d.length = 32) : (Tryz.prog.info? 39).map (·.size) = some (vB d).length := by rw [vB_length, h]; kernel_rfl
theorem vB_all11 (d : List (BitVec 8)) : (vB d).toArray.all (·.oneCell') = true := all_oneCell_toArray (vB_one d)
set_option maxRecDepth 100000 in
set_option maxHeartbeats 4000000 in
/-- Root, of a book. -/
theorem root_bk (w0 : World) (B : Nat) (v : Value) (ts : List (List (BitVec 8))) (hts : ts.length ≤ 1000000) (hm : ∀ i, (ts.getD i []).length ≤ 153) (k : Nat) (hk : k ≤ ts.length) (dd : List (BitVec 8)) (hd : dd = rt (ts.take k)) (w : World) (hT : Tab w 2) (hb : Bk w0 w B v ts) :
    Calls Tryz.prog 8 #[.pointer (some ⟨B, 0, none⟩), .int .i64 (k : Int)] w fun e w' => e = .returned (.tuple #[.agg (vB dd).toArray, .int .i64 0]) ∧ Below w.heap.size w w' := by
  obtain ⟨A, cap, e⟩ := hb.form
  subst e
  have h32 : dd.length = 32 := by rw [hd]; exact rt_length _
  have HF : Hid (∀ X, Below w.heap.size w X → Calls Tryz.prog 20 #[.pointer (some ⟨B, 0, none⟩), .int .i64 (k : Int)] X fun e w' => e = .returned (.tuple #[.slice A k cap, .int .i64 0]) ∧ w' = X) := fun X hX => by
    refine (first_bk w0 B _ ts hts k hk X (hb.keep hX)).mono ?_
    rintro e w' ⟨⟨A', c', q1, q2⟩, q3⟩
    simp only [Value.slice.injEq] at q1
    obtain ⟨rfl, _, rfl⟩ := q1
    exact ⟨q2, q3⟩
  have HR : Hid (∀ X, Below w.heap.size w X → Calls Tryz.prog 21 #[.slice A k cap] X fun e w' => e = .returned (.agg (vB dd).toArray) ∧ Below X.heap.size X w') := fun X hX => by
    have hTX := hT.below hX hT.lt
    rcases hb.ls rfl with ⟨rfl, rfl, rfl⟩ | ⟨b, rfl, hc, hl⟩
    · obtain rfl : k = 0 := by simpa using hk
      exact root_nil none 0 dd (by rw [hd]; exact rt_nil _ rfl) X hTX
    · refine root_any k (ts.take k) (by rw [List.length_take]; omega) (by omega) (fun i hi => ?_) dd hd b 0 cap (by omega) X hTX ((hl.below hX).take k)
      rw [List.length_take] at hi
      have e2 : (ts.take k).getD i [] = ts.getD i [] := by simp [List.getD_eq_getElem?_getD, show i < k by omega]
      rw [e2]
      have := hm i
      omega
  have HI : Hid ((Tryz.prog.info? 39).map (·.size) = some (vB dd).length) := info_dg11 dd h32
  have HLL : Hid ((vB dd).length = (vB (List.replicate 32 0#8)).length) := by show _ = _; rw [vB_length, vB_length, h32]; rfl
  clear hd hts hm hk hT hb h32
  go_enter Tryz.func8, Tryz.ntmps8
  go_wp2_with (first
    | (refine wpList_allocDg rfl rfl ?_; intro X0 q1 q2; have R0 : Hid (Row X0 w.heap.size (vB (List.replicate 32 0#8)) 39) := q1; have B0 : Hid (Below w.heap.size w X0) := q2; clear q1 q2; simp only [Act.put, List.setIfInBounds_toArray, List.set_cons_zero, List.set_cons_succ])
    | (go_at_call 20; refine Calls.mono (HF.out X0 B0.out) ?_; rintro e X ⟨rfl, hq⟩; obtain rfl := hq.symm)
    | (go_at_call 21; refine Calls.mono (HR.out X0 B0.out) ?_; rintro e X1 ⟨rfl, q⟩; have R1 : Hid (Row X1 w.heap.size (vB (List.replicate 32 0#8)) 39) := Row.below R0.out q R0.out.lt; have B1 : Hid (Below w.heap.size w X1) := B0.out.trans (q.mono B0.out.size); clear q)
    | (refine wpList_storeL rfl 39 (.tmp 4) (.tmp 19) rfl w.heap.size (vB dd) (vB (List.replicate 32 0#8)) 39 rfl rfl R1.out HLL.out HI.out (vB_all11 dd) ?_; intro X9 q1 q2; have E9 : Hid (X9 = _) := q1; have R9 : Hid (Row X9 w.heap.size (vB dd) 39) := q2; clear q1 q2; simp only [Act.put]))
  have hE : Below w.heap.size w X9 := by rw [E9.out]; exact below_setCells B1.out (Nat.le_refl _) _
  exact bodyPost_ret (results_rowA_tmp11 Tryz.results8 _ _ w.heap.size 39 (vB dd) (.int .i64 0) rfl rfl R9.out Tryz.underlying39 HI.out) rfl ⟨rfl, hE⟩
set_option maxRecDepth 100000 in
set_option maxHeartbeats 4000000 in
/-- Path, of a book. -/
theorem path_bk (w0 : World) (B : Nat) (v : Value) (ts : List (List (BitVec 8))) (hts : ts.length ≤ 1000000) (hm : ∀ i, (ts.getD i []).length ≤ 153) (i n : Nat) (hn : n = ts.length) (hi : i < n) (ds : List (List (BitVec 8))) (hd : ds = pt i ts) (w : World) (hT : Tab w 2) (hb : Bk w0 w B v ts) :
    Calls Tryz.prog 9 #[.pointer (some ⟨B, 0, none⟩), .int .i64 (i : Int), .int .i64 (n : Int)] w fun e w' => ∃ A cap, e = .returned (.tuple #[.slice A ds.length cap, .int .i64 0]) ∧ PAt w' (.slice A ds.length cap) ds ∧ Below w.heap.size w w' := by
  obtain ⟨A, cap, e⟩ := hb.form
  subst e
  have HF : Hid (Calls Tryz.prog 20 #[.pointer (some ⟨B, 0, none⟩), .int .i64 (n : Int)] w fun e w' => e = .returned (.tuple #[.slice A n cap, .int .i64 0]) ∧ w' = w) := by
    refine (first_bk w0 B _ ts hts n (by omega) w hb).mono ?_
    rintro e w' ⟨⟨A', c', q1, q2⟩, q3⟩
    simp only [Value.slice.injEq] at q1
    obtain ⟨rfl, _, rfl⟩ := q1
    exact ⟨q2, q3⟩
  have HP : Hid (Calls Tryz.prog 22 #[.slice A n cap, .int .i64 (i : Int)] w fun e w' => ∃ A2 c2, e = .returned (.tuple #[.slice A2 ds.length c2, .int .i64 0]) ∧ PAt w' (.slice A2 ds.length c2) ds ∧ Below w.heap.size w w') := by
    rcases hb.ls rfl with ⟨rfl, rfl, rfl⟩ | ⟨b, rfl, hc, hl⟩
    · simp at hn; omega
    · refine (path_in n i ts hn.symm hi (by omega) (fun j hj => by have := hm j; omega) b 0 cap (by omega) w hT hl).mono ?_
      rintro e w' ⟨v, rfl, q1, q2⟩
      rw [← hd] at q1
      have hp : PAt w' v ds := PAt.of_own q1 (by rw [hd]; exact pt_each n i ts hn.symm (by omega) (by omega))
      have hp2 := hp
      obtain ⟨_, A2, c2, e2, _⟩ := hp2
      subst e2
      exact ⟨A2, c2, rfl, hp, q2⟩
  have hi2 : ¬ ((n : Int) ≤ (i : Int)) := by omega
  have hnb : n ≤ 1000000 := by omega
  clear hd hts hm hT hb hn
  go_enter Tryz.func9, Tryz.ntmps9
  go_wp2_with (first
    | (go_at_call 20; refine Calls.mono HF.out ?_; rintro e X ⟨rfl, hq⟩; obtain rfl := hq.symm)
    | (go_at_call 22; refine Calls.mono HP.out ?_; rintro e X1 ⟨A2, c2, rfl, q1, q2⟩; have P1 : Hid (PAt X1 (.slice A2 ds.length c2) ds) := q1; have B1 : Hid (Below w.heap.size w X1) := q2; clear q1 q2))
  go_ret2
  exact ⟨A2, c2, rfl, P1.out, B1.out⟩

end Go.Proofs.YtfkcmeafddhmkaaGreatDoor

namespace Go.Proofs.YtfkcmeafddhmkaaGreatDoor
open Go Go.RowKit
open Sha

section
variable {ops : Array Oper} {rest : List Oper} {op : Oper} {a : Act} {w : World} {Q : Exit → Act → World → Prop}
theorem info_raw_open : ∃ ie z, Tryz.prog.info? 29 = some ie ∧ ie.zero = some z ∧ ie.size = 26 ∧ ie.bytes = 72 ∧ z.cells.size = 26 := by
  have i1 : (Tryz.prog.info? 29).map (fun i => (i.size, i.bytes)) = some (26, 72) := by kernel_rfl
  have i2 : ((Tryz.prog.info? 29).bind (·.zero)).map (·.cells.size) = some 26 := by kernel_rfl
  cases hi : Tryz.prog.info? 29 with
  | none => rw [hi] at i1; cases i1
  | some ie =>
    rw [hi] at i1 i2
    cases hz : ie.zero with
    | none => simp [hz] at i2
    | some z =>
      have i3 : ie.size = 26 ∧ ie.bytes = 72 := by simpa using i1
      exact ⟨ie, z, rfl, hz, i3.1, i3.2, by simpa [hz] using i2⟩
/-- A list of one thing. -/
theorem wpList_buildRaw (hgd : op.guard = none) (x : Operand) (ho : op.op = .buildSlice 22 1 #[(0, x)]) (L : List Value) (hL : L.length = 26) (hx : a.eval x = .agg L.toArray)
    (h : ∀ X, Row X w.heap.size L 29 → Below w.heap.size w X → wpList Tryz.prog ops Q rest (a.put op.dst (.slice (some ⟨w.heap.size, 0, none⟩) 1 1)) X) : wpList Tryz.prog ops Q (op :: rest) a w := by
  obtain ⟨ie, z, h1, h2, h3, _, h4⟩ := info_raw_open
  refine wpList_buildSlice hgd 22 29 1 _ ho L.toArray ie z Tryz.underlying22 h1 h2 (by rw [h3]; omega) (by rw [h3]; omega) ?_ (h _ (Row.new' rfl rfl) ((Below.refl _ _).alloc (Nat.le_refl _) _))
  rw [show (Array.map (fun (p : Nat × Operand) => match p with | (i, x) => (i, a.eval x)) #[(0, x)]).toList = [(0, a.eval x)] by simp, hx, h3]
  exact fill_one 26 (by decide) _ _ (by simp [hL]) (by simp)
end
theorem eqA11 (w : World) (l : List (BitVec 8)) (hl : l.length = 20) : (Op.equalIn 9999 24 (.agg (vB l).toArray) (.agg (vB l).toArray)).run Tryz.prog w = .ok true w := by
  have q := run_equalIn_bytes (P := Tryz.prog) w 9997 24 5 20 Tryz.underlying24 Tryz.underlying5 szU8 (toU l) (toU l) (by rw [toU_length, hl]) (by rw [toU_length, hl])
  rw [toU_beq, decide_eq_true rfl, ← vB_cell] at q
  exact q
theorem eqW11 (w : World) (l : List Nat) (hl : l.length = 4) : (Op.equalIn 9999 27 (.agg (vQ l).toArray) (.agg (vQ l).toArray)).run Tryz.prog w = .ok true w := by
  have q := run_equalIn_vQ (P := Tryz.prog) (w := w) 9997 27 25 4 Tryz.underlying27 Tryz.underlying25 szU64 l l hl hl
  rw [decide_eq_true rfl] at q
  exact q
set_option maxRecDepth 100000 in
set_option maxHeartbeats 4000000 in
theorem neL1 (ix en tk : Int) (s0 s1 s2 s3 s4 s5 s6 s7 s8 s9 s10 s11 s12 s13 s14 s15 s16 s17 s18 s19 : BitVec 8) (a0 a1 a2 a3 : Nat) (w : World) : (binOp .neq 46 (.agg #[.int .i64 ix, .int .i64 en, .int .i64 tk, .int .u8 (c s0), .int .u8 (c s1), .int .u8 (c s2), .int .u8 (c s3), .int .u8 (c s4), .int .u8 (c s5), .int .u8 (c s6), .int .u8 (c s7), .int .u8 (c s8), .int .u8 (c s9), .int .u8 (c s10), .int .u8 (c s11), .int .u8 (c s12), .int .u8 (c s13), .int .u8 (c s14), .int .u8 (c s15), .int .u8 (c s16), .int .u8 (c s17), .int .u8 (c s18), .int .u8 (c s19), .int .u64 (a0 : Int), .int .u64 (a1 : Int), .int .u64 (a2 : Int), .int .u64 (a3 : Int)]) (.agg #[.int .i64 ix, .int .i64 en, .int .i64 tk, .int .u8 (c s0), .int .u8 (c s1), .int .u8 (c s2), .int .u8 (c s3), .int .u8 (c s4), .int .u8 (c s5), .int .u8 (c s6), .int .u8 (c s7), .int .u8 (c s8), .int .u8 (c s9), .int .u8 (c s10), .int .u8 (c s11), .int .u8 (c s12), .int .u8 (c s13), .int .u8 (c s14), .int .u8 (c s15), .int .u8 (c s16), .int .u8 (c s17), .int .u8 (c s18), .int .u8 (c s19), .int .u64 (a0 : Int), .int .u64 (a1 : Int), .int .u64 (a2 : Int), .int .u64 (a3 : Int)])).run Tryz.prog w = .ok (.bool false) w := by
  have hA : ∀ w, (Op.equalIn 9999 24 (.agg #[.int .u8 (c s0), .int .u8 (c s1), .int .u8 (c s2), .int .u8 (c s3), .int .u8 (c s4), .int .u8 (c s5), .int .u8 (c s6), .int .u8 (c s7), .int .u8 (c s8), .int .u8 (c s9), .int .u8 (c s10), .int .u8 (c s11), .int .u8 (c s12), .int .u8 (c s13), .int .u8 (c s14), .int .u8 (c s15), .int .u8 (c s16), .int .u8 (c s17), .int .u8 (c s18), .int .u8 (c s19)]) (.agg #[.int .u8 (c s0), .int .u8 (c s1), .int .u8 (c s2), .int .u8 (c s3), .int .u8 (c s4), .int .u8 (c s5), .int .u8 (c s6), .int .u8 (c s7), .int .u8 (c s8), .int .u8 (c s9), .int .u8 (c s10), .int .u8 (c s11), .int .u8 (c s12), .int .u8 (c s13), .int .u8 (c s14), .int .u8 (c s15), .int .u8 (c s16), .int .u8 (c s17), .int .u8 (c s18), .int .u8 (c s19)])).run Tryz.prog w = .ok true w := fun w => eqA11 w [s0, s1, s2, s3, s4, s5, s6, s7, s8, s9, s10, s11, s12, s13, s14, s15, s16, s17, s18, s19] rfl
  have hW : ∀ w, (Op.equalIn 9999 27 (.agg #[.int .u64 (a0 : Int), .int .u64 (a1 : Int), .int .u64 (a2 : Int), .int .u64 (a3 : Int)]) (.agg #[.int .u64 (a0 : Int), .int .u64 (a1 : Int), .int .u64 (a2 : Int), .int .u64 (a3 : Int)])).run Tryz.prog w = .ok true w := fun w => eqW11 w [a0, a1, a2, a3] rfl
  go_simp
theorem neL (ix en tk : Int) (rc : List (BitVec 8)) (am : List Nat) (h : rc.length = 20) (h4 : am.length = 4) (w : World) : (binOp .neq 46 (.agg (lf ix en tk rc am).toArray) (.agg (lf ix en tk rc am).toArray)).run Tryz.prog w = .ok (.bool false) w := by
  match rc, h, am, h4 with
  | [s0, s1, s2, s3, s4, s5, s6, s7, s8, s9, s10, s11, s12, s13, s14, s15, s16, s17, s18, s19], _, [a0, a1, a2, a3], _ => exact neL1 ix en tk s0 s1 s2 s3 s4 s5 s6 s7 s8 s9 s10 s11 s12 s13 s14 s15 s16 s17 s18 s19 a0 a1 a2 a3 w
section
variable {ops : Array Oper} {rest : List Oper} {op : Oper} {a : Act} {w : World} {Q : Exit → Act → World → Prop}
theorem wpList_neqLf (hw : Region.wanted op (yielded ops a.tmps) = true) (x y : Operand) (yt : TypeId) (ho : op.op = .binOp .neq 46 x y yt) (L : List Value) (hx : a.eval x = .agg L.toArray) (hy : a.eval y = .agg L.toArray)
    (hr : ∀ w, (binOp .neq 46 (.agg L.toArray) (.agg L.toArray)).run Tryz.prog w = .ok (.bool false) w) (h : wpList Tryz.prog ops Q rest (a.put op.dst (.bool false)) w) : wpList Tryz.prog ops Q (op :: rest) a w :=
  BigFrame.wpList_want hw fun _ hK => by
    unfold Oper.wp execOp
    simp only [ho, hx, hy, Sem.run_bind, run_eqGuard_agg w .neq 46 x y _ _ guardL, Result.andThen_ok, hr, Sem.run_pure, Oper.upon_value]
    exact hK _ _ h
theorem wpList_neqDg (hw : Region.wanted op (yielded ops a.tmps) = true) (x y : Operand) (yt : TypeId) (ho : op.op = .binOp .neq 39 x y yt) (d : List (BitVec 8)) (hd : d.length = 32) (hx : a.eval x = .agg (vB d).toArray) (hy : a.eval y = .agg (vB d).toArray)
    (h : wpList Tryz.prog ops Q rest (a.put op.dst (.bool false)) w) : wpList Tryz.prog ops Q (op :: rest) a w :=
  BigFrame.wpList_want hw fun _ hK => wp_neq_d 39 x y yt ho 5 32 d d hx hy Tryz.underlying39 Tryz.underlying5 info_u8T hd hd guard_dig false (by simp) (hK _ _ h)
end
theorem rwc_one (r : Rwv) : ∀ u ∈ rwc r, u.oneCell' = true := by
  intro u hu
  unfold rwc at hu
  rcases List.mem_cons.1 hu with rfl | hu
  · rfl
  rcases List.mem_cons.1 hu with rfl | hu
  · rfl
  rcases List.mem_append.1 hu with hu | hu
  · exact vB_one _ u hu
  · unfold vQ at hu
    obtain ⟨x, _, rfl⟩ := List.mem_map.1 hu
    rfl
/-- The base may lie lower. -/
theorem Bk.down {w0 w1 w : World} {B : Nat} {v : Value} {ts : List (List (BitVec 8))} (h : Bk w1 w B v ts) (k : Below w0.heap.size w0 w1) : Bk w0 w B v ts :=
  ⟨h.row, h.own, Nat.le_trans k.size h.b0, fun g e => Nat.le_trans k.size (h.v0 g e), k.trans (h.be.mono k.size)⟩
/-- A book stays where none but blocks of other kinds turn. -/
theorem Bk.apart {R : Nat → Prop} {w0 w w' : World} {B : Nat} {v : Value} {ts : List (List (BitVec 8))} (h : Bk w0 w B v ts) (k : Gro R w w') (hT : ∀ g, R g → ∃ cs t, Row w g cs t ∧ t ≠ 5 ∧ t ≠ 52 ∧ t ≠ 65) (h0 : ∀ g, R g → w0.heap.size ≤ g) : Bk w0 w' B v ts := by
  obtain ⟨cs, h1, h2⟩ := h.own
  have two : ∀ {b : Nat} {c1 c2 : List Value} {t1 t2 : TypeId}, Row w b c1 t1 → Row w b c2 t2 → t1 = t2 := fun p q => by
    have := p.symm.trans q
    simp only [Option.some.injEq, Obj.cells.injEq] at this
    exact this.2.1
  refine ⟨k.row h.row (fun q => ?_), ⟨cs, Lw.gro h1 k (fun g e q => ?_), fun i d hd => ?_⟩, h.b0, h.v0, h.be.trans (k.to_below h.be.size h0)⟩
  · obtain ⟨c, t, q1, _, _, q4⟩ := hT B q
    exact q4 (two q1 h.row)
  · obtain ⟨c, t, q1, _, q3, _⟩ := hT g q
    exact Lw.ne h1 q1 q3 g e rfl
  · obtain ⟨u, p1, p2⟩ := h2 i d hd
    refine ⟨u, p1, Bw.gro p2 k (fun g e q => ?_)⟩
    obtain ⟨c, t, q1, q2, _, _⟩ := hT g q
    exact Bw.ne p2 q1 q2 g e rfl
/-- A book stays while another one turns. -/
theorem Bk.beside {w0 w w' : World} {B B2 : Nat} {v v2 : Value} {ts ts2 : List (List (BitVec 8))} (h : Bk w0 w B2 v2 ts2) (a : Bk w0 w B v ts) (k : Gro (fun g => g = B ∨ v.ownBlock = some g) w w') (hB : B2 ≠ B) (hv : ∀ g, v.ownBlock = some g → v2.ownBlock ≠ some g) : Bk w0 w' B2 v2 ts2 := by
  obtain ⟨cs, h1, h2⟩ := h.own
  obtain ⟨cs2, a1, a2⟩ := a.own
  refine ⟨k.row h.row (fun q => ?_), ⟨cs, Lw.gro h1 k (fun g e q => ?_), fun i d hd => ?_⟩, h.b0, h.v0, h.be.trans (k.to_below h.be.size (fun g q => ?_))⟩
  · rcases q with q | q
    · exact hB q
    · exact Lw.ne a1 h.row (by decide) B2 q rfl
  · rcases q with q | q
    · exact Lw.ne h1 a.row (by decide) g e q
    · exact hv g q e
  · obtain ⟨u, p1, p2⟩ := h2 i d hd
    refine ⟨u, p1, Bw.gro p2 k (fun g e q => ?_)⟩
    rcases q with q | q
    · exact Bw.ne p2 a.row (by decide) g e q
    · exact bl_ne p2 a1 (by decide) g e q.symm
  · rcases q with q | q
    · rw [q]; exact a.b0
    · exact a.v0 g q
theorem Bk.vlt {w0 w : World} {B : Nat} {v : Value} {ts : List (List (BitVec 8))} (h : Bk w0 w B v ts) : ∀ g, v.ownBlock = some g → g < w.heap.size := fun g e => by
  obtain ⟨cs, h1, _⟩ := h.own
  exact Lw.lt h1 g e
/-- append of one thing onto a list of them keeps a book. -/
theorem Bk.app {w0 w w' : World} {B : Nat} {v u : Value} {ts : List (List (BitVec 8))} {n : Nat} {xs : List Value} (h : Bk w0 w B v ts) (L : Lw w 29 26 u n xs) (k : w.grownBy w' u.ownBlock) (h0 : ∀ g, u.ownBlock = some g → w0.heap.size ≤ g) : Bk w0 w' B v ts := by
  refine h.apart (R := fun g => u.ownBlock = some g) ((Gro.refl _ w).grown k (fun g e => .inl e)) (fun g e => ?_) h0
  rcases L.2 with ⟨q, _⟩ | ⟨g', cap, cur, q, _, hh, _⟩
  · rw [q] at e; cases e
  · rw [q] at e
    obtain rfl : g' = g := by simpa [Value.ownBlock] using e
    exact ⟨cur.toList, 29, by unfold Row; rw [hh], by decide, by decide, by decide⟩

end Go.Proofs.YtfkcmeafddhmkaaGreatDoor
