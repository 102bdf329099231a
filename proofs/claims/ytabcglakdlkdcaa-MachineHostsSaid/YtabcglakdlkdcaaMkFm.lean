/-
  the law MachineHosts.
-/
import Derived.Test.YtabcglakdlkdcaaMkFk

namespace Go.Proofs.Ytabcglakdlkdcaa
open Go Go.RowKit
open Sha
open Wd

theorem Lw.row {w : World} {e : TypeId} {s n g c : Nat} {xs : List Value} (h : Lw w e s (.slice (some ⟨g, 0, none⟩) n c) n xs) : ∃ cur, Row w g cur e := by
  obtain ⟨_, h2⟩ := h
  rcases h2 with ⟨h2, _⟩ | ⟨g', cap, cur, hv, _, hh, _⟩
  · cases h2
  · simp only [Value.slice.injEq, Option.some.injEq, Addr.mk.injEq] at hv
    obtain ⟨⟨rfl, _, _⟩, _, _⟩ := hv
    exact ⟨cur.toList, by unfold Row; simpa using hh⟩
theorem mid_get {α : Type} (A v : List α) (a j : Nat) (ha : a + v.length ≤ A.length) : (A.take a ++ v ++ A.drop (a + v.length))[j]? = if j < a then A[j]? else if j < a + v.length then v[j - a]? else A[j]? := by
  have hl : (A.take a).length = a := by rw [List.length_take]; omega
  by_cases h1 : j < a
  · rw [if_pos h1, List.append_assoc, List.getElem?_append_left (by omega), List.getElem?_take_of_lt h1]
  rw [if_neg h1]
  by_cases h2 : j < a + v.length
  · rw [if_pos h2, List.getElem?_append_left (by rw [List.length_append]; omega), List.getElem?_append_right (by omega), hl]
  · rw [if_neg h2, List.getElem?_append_right (by rw [List.length_append]; omega), List.length_append, hl, List.getElem?_drop]
    congr 1
    omega
theorem lw_setY {w : World} {g N c k : Nat} {ls : List (Nat × Int)} (hN : N = ls.length) (hk : k < N) (p : Nat × Int) (h : Lw w tYr 5 (.slice (some ⟨g, 0, none⟩) N c) N (frs ls)) : Lw (w.setCells g (k * 5) (ry p)) tYr 5 (.slice (some ⟨g, 0, none⟩) N c) N (frs (ls.set k p)) := by
  obtain ⟨h1, h2⟩ := h
  refine ⟨by rw [frs_len, List.length_set, ← hN], ?_⟩
  rcases h2 with ⟨h2, _⟩ | ⟨g', cap, cur, hv, hg, hh, hc, hx, hs, ht⟩
  · cases h2
  · simp only [Value.slice.injEq, Option.some.injEq, Addr.mk.injEq] at hv
    obtain ⟨⟨rfl, _, _⟩, _, rfl⟩ := hv
    have hr : Row w g cur.toList tYr := by unfold Row; simpa using hh
    have hcl : cur.toList.length = c * 5 := by simpa using hs
    have hk5 : k * 5 + (ry p).length ≤ cur.toList.length := by rw [ry_len, hcl]; have := Nat.mul_le_mul_right 5 (show k + 1 ≤ c by omega); omega
    have q := Row.setCells (k * 5) (ry p) hr hk5
    refine .inr ⟨g, c, (cur.toList.take (k * 5) ++ ry p ++ cur.toList.drop (k * 5 + (ry p).length)).toArray, rfl, hg, q, hc, hx, ?_, ?_⟩
    · rw [List.size_toArray, List.length_append, List.length_append, List.length_take, List.length_drop, ry_len, hcl]
      rw [ry_len, hcl] at hk5
      omega
    · show (cur.toList.take (k * 5) ++ ry p ++ cur.toList.drop (k * 5 + (ry p).length)).take (N * 5) = _
      refine List.ext_getElem? fun j => ?_
      by_cases hj : j < N * 5
      · rw [List.getElem?_take_of_lt hj, mid_get _ _ _ _ hk5, ry_len]
        obtain ⟨i, r, hjr, hr5⟩ : ∃ i r, j = i * 5 + r ∧ r < 5 := ⟨j / 5, j % 5, by omega, by omega⟩
        have hi : i < ls.length := by omega
        have old : cur.toList[j]? = (frs ls)[j]? := by
          have ht' : List.take (N * 5) cur.toList = frs ls := ht
          rw [← ht', List.getElem?_take_of_lt hj]
        have e := frs_get ls i (ls[i]) (List.getElem?_eq_getElem hi) r hr5
        by_cases hik : i = k
        · subst hik
          have hset : (ls.set i p)[i]? = some p := by rw [List.getElem?_set_self hi]
          rw [hjr, frs_get _ i p hset r hr5, if_neg (by omega), if_pos (by omega), show i * 5 + r - i * 5 = r by omega]
        · have hset : (ls.set k p)[i]? = some ls[i] := by rw [List.getElem?_set_ne (fun z => hik z.symm), List.getElem?_eq_getElem hi]
          rw [old, hjr, frs_get _ i _ hset r hr5, e]
          split
          · rfl
          · rw [if_neg (by omega)]
      · rw [List.getElem?_eq_none (by rw [List.length_take]; omega), List.getElem?_eq_none (by rw [frs_len, List.length_set, ← hN]; omega)]
theorem frs_app (a b : List (Nat × Int)) : frs (a ++ b) = frs a ++ frs b := List.flatMap_append
theorem ev2_len (cl : Cl) (ags : List Nat) (ls : List Ins) (rs : List (Nat × Int)) (hls : ∀ y ∈ ls, y.c < 28) : ∀ (f : Nat) (st : List Nat) (l nx nq : Nat), (ev2 cl ags ls rs f st l nx nq).2.length * 200 ≤ l := by
  intro f
  induction f with
  | zero => exact fun st l nx nq => by rw [show (ev2 cl ags ls rs 0 st l nx nq).2 = [] from rfl]; simp
  | succ f ih =>
    intro st l nx nq
    unfold ev2
    cases hx : ls[nx]? with
    | none => simp
    | some x =>
      simp only
      have hc := hls x (List.mem_of_getElem? hx)
      have h1 := stU_one (cl := cl) (ags := ags) (ls := ls) (rs := rs) (x := x) (st := st) (l := l) (nx := nx) (nq := nq)
      have h2 : (stU cl ags ls rs x st l nx nq).2 ≠ [] → 200 ≤ gT x.c ∧ gT x.c ≤ l := fun h => stU_200 hc h
      have h3 : ∀ y, (stU cl ags ls rs x st l nx nq).1 = .ok y → gT x.c ≤ l := fun y h => stU_gas h
      rcases hst : stU cl ags ls rs x st l nx nq with ⟨r1, q⟩
      rw [hst] at h1 h2 h3
      simp only at h1 h2 h3
      have hq : q.length * 200 ≤ l ∧ (q ≠ [] → q.length = 1) := by
        rcases h1 with h1 | ⟨a, h1, _⟩
        · rw [h1]; exact ⟨by simp, fun h => absurd rfl h⟩
        · have := h2 (by rw [h1]; simp)
          rw [h1]
          exact ⟨by rw [List.length_singleton]; omega, fun _ => rfl⟩
      cases r1 with
      | error E => exact hq.1
      | ok y =>
        obtain ⟨st', nx'⟩ := y
        simp only
        split
        · exact hq.1
        · have hi := ih st' (l - gT x.c) nx' (nq + q.length)
          have hg := h3 _ rfl
          simp only [List.length_append]
          by_cases hqe : q = []
          · rw [hqe] at hi ⊢
            simp only [List.length_nil] at hi ⊢
            omega
          · have := h2 hqe
            have := hq.2 hqe
            omega
theorem mrun_len (pd : List (BitVec 8)) (c : Ca) (ags : List Nat) (rs : List (Nat × Int)) : (mrun pd c ags rs).2.length ≤ 50 := by
  unfold mrun
  cases hck : chk pd with
  | none => simp
  | some ls =>
    simp only
    split
    · have := ev2_len c.cl ags ls rs (fun y hy => ((chk_ok hck).2.2.1 y hy).1) 10001 [] c.gas.toNat 0 0
      simp only
      omega
    · simp
theorem mrun_host (pd : List (BitVec 8)) (c : Ca) (ags : List Nat) (rs rs' : List (Nat × Int)) (k V : Nat) (E : Int) (hr : rs'.getD k (0, 0) = (V, E)) (hE : E ≠ 0) (hs : ∀ j, j < k → rs.getD j (0, 0) = rs'.getD j (0, 0)) (hk : k < (mrun pd c ags rs).2.length) : mrun pd c ags rs' = ((zR, E), (mrun pd c ags rs).2.take (k + 1)) := by
  unfold mrun at hk ⊢
  cases hck : chk pd with
  | none => rw [hck] at hk; simp at hk
  | some ls =>
    rw [hck] at hk
    simp only at hk ⊢
    split
    · rename_i hm
      rw [if_pos hm] at hk
      simp only at hk
      have := ev2_host c.cl ags ls rs rs' k V E hr hE hs 10001 [] c.gas.toNat 0 0 (Nat.zero_le _) (by omega)
      rw [this]
      rfl
    · rename_i hm
      rw [if_neg hm] at hk
      simp at hk
/-- The law's replies: those that came in, noughts behind them, an error at the k-th. -/
def rs2 (rs : List (Nat × Int)) (t k V : Nat) (E : Int) : List (Nat × Int) := (rs ++ List.replicate t (0, 0)).set k (V, E)
theorem rs2_at (rs : List (Nat × Int)) (t k V : Nat) (E : Int) (h : k < rs.length + t) : (rs2 rs t k V E).getD k (0, 0) = (V, E) := by
  unfold rs2
  rw [List.getD_eq_getElem?_getD, List.getElem?_set_self (by rw [List.length_append, List.length_replicate]; exact h)]
  rfl
theorem rs2_old (rs : List (Nat × Int)) (t k V : Nat) (E : Int) (j : Nat) (h : j < k) : rs.getD j (0, 0) = (rs2 rs t k V E).getD j (0, 0) := by
  unfold rs2
  rw [List.getD_eq_getElem?_getD, List.getD_eq_getElem?_getD, List.getElem?_set_ne (by omega)]
  by_cases hj : j < rs.length
  · rw [List.getElem?_append_left hj]
  · rw [List.getElem?_append_right (by omega), List.getElem?_eq_none (by omega)]
    by_cases h2 : j - rs.length < t
    · rw [List.getElem?_replicate, if_pos h2]
      rfl
    · rw [List.getElem?_eq_none (by rw [List.length_replicate]; omega)]
theorem rs2_lt (rs : List (Nat × Int)) (t k V : Nat) (E : Int) (hV : V < 2 ^ 256) (hrs : ∀ p ∈ rs, p.1 < 2 ^ 256) : ∀ p ∈ rs2 rs t k V E, p.1 < 2 ^ 256 := fun p hp => by
  unfold rs2 at hp
  rcases List.mem_or_eq_of_mem_set hp with hp | rfl
  · rcases List.mem_append.1 hp with hp | hp
    · exact hrs p hp
    · obtain rfl := List.eq_of_mem_replicate hp
      exact Nat.two_pow_pos 256
  · exact hV
def v1234 : Nat := 1 + 2 * 2 ^ 64 + 3 * 2 ^ 128 + 4 * 2 ^ 192
theorem wq_1234 : wq v1234 = [.int .u64 1, .int .u64 2, .int .u64 3, .int .u64 4] := by
  rw [wq_cells, show lim v1234 0 = 1 by decide +kernel, show lim v1234 1 = 2 by decide +kernel, show lim v1234 2 = 3 by decide +kernel, show lim v1234 3 = 4 by decide +kernel]
  rfl
theorem v1234_lt : v1234 < 2 ^ 256 := by decide +kernel
theorem built_play2 (kv lv : Value) (h1 : kv.cells = #[kv]) (h2 : lv.cells = #[lv]) (L : List Value) (hL : L.length = 48) : ∀ A n c A2 n2 c2, kv = .slice A n c → lv = .slice A2 n2 c2 → Try.prog.built 33 [(0, kv), (1, .agg L.toArray), (2, lv)] = some (kv :: (L ++ [lv])).toArray := by
  intro A n c A2 n2 c2 e1 e2
  subst e1 e2
  obtain ⟨y_0, y_1, y_2, y_3, y_4, y_5, y_6, y_7, y_8, y_9, y_10, y_11, y_12, y_13, y_14, y_15, y_16, y_17, y_18, y_19, y_20, y_21, y_22, y_23, y_24, y_25, y_26, y_27, y_28, y_29, y_30, y_31, y_32, y_33, y_34, y_35, y_36, y_37, y_38, y_39, y_40, y_41, y_42, y_43, y_44, y_45, y_46, y_47, rfl⟩ := len48 hL
  kernel_rfl

end Go.Proofs.Ytabcglakdlkdcaa

namespace Go.Proofs.Ytabcglakdlkdcaa
open Go Go.RowKit
open Sha
open Wd

section
variable {ops : Array Oper} {rest : List Oper} {op : Oper} {a : Act} {w : World} {Q : Exit → Act → World → Prop}
theorem wpList_eqRn (hgd : op.guard = none) (x y : Operand) (yt : TypeId) (ho : op.op = .binOp .eql 35 x y yt) (L : List Value) (m : Nat) (g : Int) (hL : L = wq m ++ [.int .i64 g]) (hx : a.eval x = .agg L.toArray) (hy : a.eval y = .agg L.toArray) (h : wpList Try.prog ops Q rest (a.put op.dst (.bool true)) w) : wpList Try.prog ops Q (op :: rest) a w :=
  wpList_plain hgd fun _ hK => by
    have hr : (binOp .eql 35 (.agg L.toArray) (.agg L.toArray)).run Try.prog w = .ok (.bool true) w := by rw [run_eql_struct, selfRn w 9996 m g L hL]; rfl
    unfold Oper.wp execOp
    simp only [ho, hx, hy, Sem.run_bind, run_eqGuard_agg w .eql 35 x y _ _ guardRn, Result.andThen_ok, hr, Sem.run_pure, Oper.upon_value]
    exact hK _ _ h
theorem wpList_cutA (hw : Region.wanted op (yielded ops a.tmps) = true) (x z : Operand) (ho : op.op = .slice tAks x none (some z) none) (b n cap k : Nat) (hx : a.eval x = .slice (some ⟨b, 0, none⟩) n cap) (hz : a.eval z = .int .i64 ((k : Nat) : Int)) (hk : k ≤ cap) (h : wpList Try.prog ops Q rest (a.put op.dst (.slice (some ⟨b, 0, none⟩) k cap)) w) : wpList Try.prog ops Q (op :: rest) a w :=
  BigFrame.wpList_want hw fun _ hK => by
    obtain ⟨ie, hq⟩ : ∃ ie, Try.prog.info? tAk = some ie := by obtain ⟨ie, z, h1, _⟩ := all_Ak; exact ⟨ie, h1⟩
    have hr : (Instr.sliceAt tAks (.slice (some ⟨b, 0, none⟩) n cap) none (some (.int .i64 ((k : Nat) : Int))) none).run Try.prog w = .ok (.slice (some ⟨b, 0, none⟩) k cap) w := by
      simp [Instr.sliceAt, Instr.slice, run_underlying Try.underlying37, Instr.sliceBounds, Instr.sliceBound, asIntOf, sizeOf, typeInfo, hq, hk, Addr.add_mid]
    unfold Oper.wp execOp
    simp only [ho, hx, hz, Option.map_some, Option.map_none, Sem.run_bind, hr, Result.andThen_ok, Sem.run_pure, Oper.upon_value]
    exact hK _ _ h
theorem wpList_ixY (hgd : op.guard = none) (x y : Operand) (ho : op.op = .indexAddr tYs x y) (g p n c i : Nat) (hx : a.eval x = .slice (some ⟨g, p, none⟩) n c) (hy : a.eval y = .int .i64 (i : Int)) (hi : i < n) (h : wpList Try.prog ops Q rest (a.put op.dst (.pointer (some ⟨g, p + i * 5, none⟩))) w) : wpList Try.prog ops Q (op :: rest) a w :=
  wpList_plain hgd fun _ hK => wpH_ix ho g p n c i hx hy hi (hK _ _ h)
theorem wpList_stY (hgd : op.guard = none) (x y : Operand) (ho : op.op = .store tYr x y) (g N c k : Nat) (ls : List (Nat × Int)) (p : Nat × Int) (Y : List Value) (hY : Y = ry p) (hN : N = ls.length) (hk : k < N) (hx : a.eval x = .pointer (some ⟨g, 0 + k * 5, none⟩)) (hy : a.eval y = .agg Y.toArray) (hl : Lw w tYr 5 (.slice (some ⟨g, 0, none⟩) N c) N (frs ls))
    (h : ∀ X, Lw X tYr 5 (.slice (some ⟨g, 0, none⟩) N c) N (frs (ls.set k p)) → Gro (· = g) w X → wpList Try.prog ops Q rest (a.put op.dst undef) X) : wpList Try.prog ops Q (op :: rest) a w := by
  subst hY
  rw [Nat.zero_add] at hx
  obtain ⟨cur, hc⟩ := Lw.row hl
  have hcl : (k + 1) * 5 ≤ cur.length := by
    have hr := Lw.range hl
    have h5 : (frs ls)[k * 5 + 4]? ≠ none := by rw [Ne, List.getElem?_eq_none_iff, frs_len, ← hN]; omega
    obtain ⟨u, hu⟩ := Option.ne_none_iff_exists'.1 h5
    have hcell := hr (k * 5 + 4) u hu
    have hlt : k * 5 + 4 < cur.length := by
      by_cases hh : k * 5 + 4 < cur.length
      · exact hh
      · exfalso
        rw [Nat.zero_add, cell_of_row w g (k * 5 + 4) cur.toArray tYr (0, 0) hc] at hcell
        simp at hcell
        have := (List.getElem?_eq_some_iff.1 hcell).1
        omega
    omega
  have T := hc.there (k * 5) (ry p).toArray.size (by rw [List.size_toArray, ry_len]; omega)
  have ho1 : (ry p).toArray.all (·.oneCell') = true := by
    rw [← Array.all_toList]
    unfold ry
    simp only [List.all_append, List.all_cons, List.all_nil]
    have := wq_one p.1
    rw [← Array.all_toList] at this
    rw [this]
    rfl
  refine wpList_plain hgd fun K hK => wp_store_mid tYr x y ho g (k * 5) (ry p).toArray hx hy T (by rw [List.size_toArray, ry_len]; exact info_Yr) ho1 (hK _ _ (h _ (lw_setY hN hk p hl) (gro_setCells g _ _ w w (Gro.refl _ w))))
end
def slN (v : Value) : Nat := match v with | .slice _ n _ => n | _ => 0
theorem built_w1234 : Try.prog.built 27 [(0, .int .u64 1), (1, .int .u64 2), (2, .int .u64 3), (3, .int .u64 4)] = some [Value.int .u64 1, .int .u64 2, .int .u64 3, .int .u64 4].toArray := by kernel_rfl
theorem built_y0 : Try.prog.built tYr [] = some zY.toArray := by kernel_rfl
theorem built_yE (E : Int) : Try.prog.built tYr [(0, .agg #[.int .u64 1, .int .u64 2, .int .u64 3, .int .u64 4]), (1, .int .i64 E)] = some [Value.int .u64 1, .int .u64 2, .int .u64 3, .int .u64 4, .int .i64 E].toArray := by kernel_rfl
theorem zY_ry : zY = ry (0, 0) := by unfold ry; rw [wq_zero]; rfl
theorem ry_1234 (E : Int) : [Value.int .u64 1, .int .u64 2, .int .u64 3, .int .u64 4, .int .i64 E] = ry (v1234, E) := by unfold ry; rw [wq_1234]; rfl
theorem zY_mem : ∀ v ∈ zY, v.oneCell' = true := by
  intro v hv
  simp only [zY, List.mem_cons, List.not_mem_nil, or_false] at hv
  rcases hv with rfl | rfl | rfl | rfl | rfl <;> rfl
theorem info_Y_open4 : ∃ ie z, Try.prog.info? tYr = some ie ∧ ie.zero = some z ∧ ie.size = 5 ∧ z.cells.size = 5 := by
  obtain ⟨ie, z, h1, h2, h3, _, h5⟩ := info_Y_open
  exact ⟨ie, z, h1, h2, h3, h5⟩
theorem lw_qin {w : World} {A : Option Addr} {c : Nat} {Q : List (List Value)} (h : Lw w tAk 30 (.slice A Q.length c) Q.length Q.flatten) : Qin w A Q := by
  by_cases hq : Q = []
  · exact .inl hq
  · have hpos : 0 < Q.length := by cases Q with | nil => exact absurd rfl hq | cons _ _ => simp
    obtain ⟨g, cap, e, _⟩ := Lw.open h hpos
    simp only [Value.slice.injEq] at e
    obtain ⟨rfl, _, rfl⟩ := e
    exact .inr ⟨g, rfl, Lw.range h⟩
theorem lw_qinN {w : World} {A : Option Addr} {n c : Nat} {Q : List (List Value)} (hn : n = Q.length) (h : Lw w tAk 30 (.slice A n c) n Q.flatten) : Qin w A Q := by
  subst hn
  exact lw_qin h
theorem flat_take (Q : List (List Value)) (hQ : ∀ q ∈ Q, q.length = 30) (n : Nat) : (Q.take n).flatten = Q.flatten.take (n * 30) := by
  induction Q generalizing n with
  | nil => simp
  | cons y r ih =>
    cases n with
    | zero => simp
    | succ k =>
      have hy := hQ y (by simp)
      rw [List.take_succ_cons, List.flatten_cons, List.flatten_cons, ih (fun q hq => hQ q (by simp [hq])), List.take_append, hy, List.take_of_length_le (l := y) (by rw [hy]; omega), show (k + 1) * 30 - 30 = k * 30 by omega]
theorem qin_take {w : World} {A : Option Addr} {Q : List (List Value)} (hQ : ∀ q ∈ Q, q.length = 30) (h : Qin w A Q) (n : Nat) : Qin w A (Q.take n) := by
  rcases h with h | ⟨g, h1, h2⟩
  · exact .inl (by rw [h]; simp)
  · refine .inr ⟨g, h1, fun j u hj => h2 j u ?_⟩
    rw [flat_take Q hQ] at hj
    by_cases hl : j < n * 30
    · rwa [List.getElem?_take_of_lt hl] at hj
    · rw [List.getElem?_eq_none (by rw [List.length_take]; omega)] at hj
      cases hj
set_option maxRecDepth 100000 in
set_option maxHeartbeats 8000000 in
theorem hosts_walk (pd : List (BitVec 8)) (m : Nat) (hpd : pd.length = m) (c : Ca) (hc : c.Wf) (ags : List Nat) (rs : List (Nat × Int)) (hag : ∀ a ∈ ags, a < 2 ^ 256) (hrs : ∀ p ∈ rs, p.1 < 2 ^ 256) (Ak Aa Ar : Option Addr) (ck ca cr0 : Nat) (PL : List Value) (hPL : PL = .slice Ak m ck :: (c.cs (.slice Aa ags.length ca) ++ [.slice Ar rs.length cr0])) (k er : Int) (w : World)
    (hk : Sin w 1 Ak m ck (vB pd)) (hkm : m ≤ maxLen ∧ m * 1 ≤ 140737488355328) (ha : Sin w 4 Aa ags.length ca (fw ags)) (ham : ags.length ≤ maxLen ∧ ags.length * 32 ≤ 140737488355328) (hr : Sin w 5 Ar rs.length cr0 (frs rs)) (hrm : rs.length ≤ maxLen ∧ rs.length * 40 ≤ 140737488355328) :
    Calls Try.prog 4 #[.agg PL.toArray, .int .i64 k, .int .i64 er] w fun e w' => e = .returned (.bool true) ∧ Below w.heap.size w w' := by
  obtain ⟨RV, RE, Q, hmr⟩ : ∃ RV RE Q, mrun pd c ags rs = ((RV, RE), Q) := ⟨_, _, _, rfl⟩
  have hQl := mrun_len pd c ags rs
  have hQa := mrun_ask1 pd c ags rs
  rw [hmr] at hQl hQa
  have HQA : Hid (∀ q ∈ Q, Ask1 q) := hQa.1
  have hr0 := rans2_len 0 (.ok (0, 0))
  have HRV : Hid (RV.length = 5 ∧ RV.toArray.all (·.oneCell') = true) := by
    obtain ⟨m0, g0, h0⟩ := hQa.2
    have h0' : RV = wq m0 ++ [.int .i64 g0] := h0
    rw [h0']
    exact ⟨by rw [List.length_append, wq_len]; rfl, by
      rw [← Array.all_toList, List.all_append]
      have := wq_one m0
      rw [← Array.all_toList] at this
      rw [this]
      rfl⟩
  have HRVI : Hid ((Try.prog.info? 35).map (·.size) = some RV.length) := by show _ = _; rw [HRV.out.1]; exact info_Ran
  have HPLL : Hid (PL.length = 50) := by show _ = _; rw [hPL, List.length_cons, List.length_append, Ca.len hc]; rfl
  have HPLI : Hid ((Try.prog.info? 33).map (·.size) = some PL.length) := by show _ = _; rw [HPLL.out]; kernel_rfl
  have HIN : Hid (∀ W, Inr W (.slice none 0 0) []) := fun W => .inl ⟨rfl, none, 0, rfl⟩
  have HC1 : Hid (∀ W, Below w.heap.size w W → Calls Try.prog 6 #[.agg PL.toArray, .slice none 0 0] W fun e w' => ∃ A7 c7, e = .returned (.tuple #[.agg RV.toArray, .int .i64 RE, .slice A7 Q.length c7]) ∧ Lw w' tAk 30 (.slice A7 Q.length c7) Q.length Q.flatten ∧ Below W.heap.size W w') := fun W kk =>
    lrun_all nextOK_nil pd m hpd c hc ags rs hag hrs Ak Aa Ar none ck ca cr0 0 0 PL hPL RV RE Q hmr W (hk.be kk) hkm (ha.be kk) ham (hr.be kk) hrm (.inl ⟨rfl, none, 0, rfl⟩)
  obtain ⟨L, hL⟩ : ∃ L, L = c.cs (.slice Aa ags.length ca) := ⟨_, rfl⟩
  have HLL : Hid (L.length = 48) := by show _ = _; rw [hL]; exact Ca.len hc _
  have HLI : Hid ((Try.prog.info? 30).map (·.size) = some L.length) := by show _ = _; rw [HLL.out]; exact info_C
  obtain ⟨nr, hnr⟩ : ∃ n, n = rs.length := ⟨_, rfl⟩
  have HPL : Hid (PL = .slice Ak m ck :: (L ++ [.slice Ar nr cr0])) := by show _ = _; rw [hL, hnr]; exact hPL
  have HR0 : Hid (Sin w 5 Ar nr cr0 (frs rs) ∧ nr ≤ maxLen ∧ nr * 40 ≤ 140737488355328) := by rw [hnr]; exact ⟨hr, hrm⟩
  have HNR : Hid (nr = rs.length) := hnr
  have HC2 : Hid (∀ (gl N cl t kn : Nat) (W : World), N = nr + t → kn < N → kn < Q.length → er ≠ 0 → (t = 0 ∨ N ≤ 100) → Below w.heap.size w W → Lw W tYr 5 (.slice (some ⟨gl, 0, none⟩) N cl) N (frs (rs2 rs t kn v1234 er)) → Calls Try.prog 6 #[.agg (Value.slice Ak m ck :: (L ++ [.slice (some ⟨gl, 0, none⟩) N cl])).toArray, .slice none 0 0] W fun e w' => ∃ A7 c7, e = .returned (.tuple #[.agg zR.toArray, .int .i64 er, .slice A7 (kn + 1) c7]) ∧ Lw w' tAk 30 (.slice A7 (kn + 1) c7) (kn + 1) (Q.take (kn + 1)).flatten ∧ Below W.heap.size W w') := fun gl N cl t kn W hN hkn hkq he ht kk hl => by
    have h2 := mrun_host pd c ags rs (rs2 rs t kn v1234 er) kn v1234 er (rs2_at rs t kn v1234 er (by omega)) he (fun j hj => rs2_old rs t kn v1234 er j hj) (by rw [hmr]; exact hkq)
    rw [hmr] at h2
    have hlen : (rs2 rs t kn v1234 er).length = N := by unfold rs2; rw [List.length_set, List.length_append, List.length_replicate, ← hnr, hN]
    have hql : (Q.take (kn + 1)).length = kn + 1 := by rw [List.length_take]; omega
    have q := lrun_all nextOK_nil pd m hpd c hc ags (rs2 rs t kn v1234 er) hag (rs2_lt rs t kn v1234 er v1234_lt hrs) Ak Aa (some ⟨gl, 0, none⟩) none ck ca cl 0 0 _ rfl zR er (Q.take (kn + 1)) h2 W (hk.be kk) hkm (ha.be kk) ham (by rw [hlen]; exact .inr ⟨gl, 0, rfl, Lw.len hl, Lw.range hl⟩) (by rw [hlen]; rcases ht with ht | ht; exact ⟨by have := hrm.1; omega, by have := hrm.2; rw [hN, ht]; rw [hnr]; simpa using this⟩; exact ⟨by unfold maxLen; omega, by omega⟩) (.inl ⟨rfl, none, 0, rfl⟩)
    rw [hql, hlen, ← hL] at q
    exact q
  clear hk hkm ha ham hr hrm hag hrs hpd hPL hL hnr hQa hmr hr0 hc
  obtain ⟨n7, hn7⟩ : ∃ n, n = Q.length := ⟨_, rfl⟩
  rw [← hn7] at HC1 HC2 hQl
  have HN7 : Hid (n7 = Q.length) := hn7
  clear hn7
  go_enter Try.func4, Try.ntmps4
  go_upto_region 1 with (refine wpList_boxG 33 rfl (.tmp 0) rfl PL rfl ?_; intro X1 q1 q2 q3; have R1 : Hid (Row X1 w.heap.size PL 33) := q1; have B1 : Hid (Below w.heap.size w X1) := q2; clear q1 q2 q3; simp only [Act.put, List.setIfInBounds_toArray, List.set_cons_zero, List.set_cons_succ])
  obtain ⟨b3, hb3⟩ : ∃ b, b = w.heap.size := ⟨_, rfl⟩
  rw [← hb3] at R1
  rw [← hb3]
  have HB3 : Hid (w.heap.size ≤ b3) := by show _ ≤ _; omega
  clear hb3
  go_upto_region 2 with (first
    | (refine wpList_load_w rfl 33 (.tmp 3) rfl b3 0 rfl PL _ R1.out.all Try.underlying33 rfl HPLI.out ?_; simp only [Act.put, List.setIfInBounds_toArray, List.set_cons_zero, List.set_cons_succ])
    | (go_at_call 6; refine Calls.mono (HC1.out X1 B1.out) ?_; rintro e X2 ⟨A7, c7, rfl, q1, q2⟩; have LA2 : Hid (Lw X2 tAk 30 (.slice A7 n7 c7) n7 Q.flatten) := q1; have B2 : Hid (Below w.heap.size w X2) := B1.out.trans (q2.mono B1.out.size); have RP2 : Hid (Row X2 b3 PL 33) := Row.below R1.out q2 R1.out.lt; clear q1 q2)
    | (refine wpList_allocR rfl rfl ?_; intro X3 q1 q2 q3; have R3 : Hid (Row X3 X2.heap.size zR 35) := q1; have K3 : Hid (Below X2.heap.size X2 X3) := q2; clear q1 q2 q3; simp only [Act.put, List.setIfInBounds_toArray, List.set_cons_zero, List.set_cons_succ])
    | (refine wpList_storeL rfl 35 (.tmp 7) (.tmp 17) rfl X2.heap.size RV zR 35 rfl rfl R3.out HRV.out.1 HRVI.out HRV.out.2 ?_; intro X4 q1 q2; have E4 : Hid (X4 = _) := q1; clear q1 q2; simp only [Act.put]))
  have k4 : Below X2.heap.size X2 X4 := by rw [E4.out]; exact below_setCells K3.out (Nat.le_refl _) _
  have LA4 : Hid (Lw X4 tAk 30 (.slice A7 n7 c7) n7 Q.flatten) := Lw.be LA2.out k4
  have B4 : Hid (Below w.heap.size w X4) := B2.out.trans (k4.mono B2.out.size)
  have RP4 : Hid (Row X4 b3 PL 33) := Row.below RP2.out k4 RP2.out.lt
  obtain ⟨b7, hb7⟩ : ∃ b, b = X2.heap.size := ⟨_, rfl⟩
  rw [← hb7]
  clear hb7 k4 E4 R3 K3 LA2 B2 RP2 R1 B1 HC1
  by_cases a1 : k < 0
  · go_upto_region 3 with fail
    go_wp2_with (go_at_call 7; refine Calls.mono (alive_any X4) ?_; rintro e X5 ⟨rfl, q⟩; have B5 : Hid (Below w.heap.size w X5) := B4.out.trans (q.mono B4.out.size); clear q)
    go_ret
    exact ⟨rfl, B5.out⟩
  by_cases a2 : (n7 : Int) ≤ k
  · have a1a : 0 ≤ k := by omega
    go_upto_region 3 with fail
    go_wp2_with (go_at_call 7; refine Calls.mono (alive_any X4) ?_; rintro e X5 ⟨rfl, q⟩; have B5 : Hid (Below w.heap.size w X5) := B4.out.trans (q.mono B4.out.size); clear q)
    go_ret
    exact ⟨rfl, B5.out⟩
  by_cases a3 : er < 1
  · have a1a : 0 ≤ k := by omega
    have a2a : k < (n7 : Int) := by omega
    go_upto_region 3 with fail
    go_wp2_with (go_at_call 7; refine Calls.mono (alive_any X4) ?_; rintro e X5 ⟨rfl, q⟩; have B5 : Hid (Below w.heap.size w X5) := B4.out.trans (q.mono B4.out.size); clear q)
    go_ret
    exact ⟨rfl, B5.out⟩
  by_cases a4 : 999 < er
  · have a1a : 0 ≤ k := by omega
    have a2a : k < (n7 : Int) := by omega
    have a3a : 1 ≤ er := by omega
    go_upto_region 3 with fail
    go_wp2_with (go_at_call 7; refine Calls.mono (alive_any X4) ?_; rintro e X5 ⟨rfl, q⟩; have B5 : Hid (Below w.heap.size w X5) := B4.out.trans (q.mono B4.out.size); clear q)
    go_ret
    exact ⟨rfl, B5.out⟩
  obtain ⟨kn, hkn⟩ : ∃ n : Nat, (n : Int) = k := ⟨k.toNat, by omega⟩
  subst hkn
  have a1a : 0 ≤ (kn : Int) := by omega
  have a2a : (kn : Int) < (n7 : Int) := by omega
  have a3a : 1 ≤ er := by omega
  have a4a : er ≤ 999 := by omega
  have hknq : kn < n7 := by omega
  have hkn50 : kn ≤ 50 := by omega
  have HPK : Hid (kn < n7 ∧ er ≠ 0) := ⟨hknq, by omega⟩
  go_upto_region 4 with fail
  have HP49 : Hid (PL[49]? = some (.slice Ar nr cr0)) := by show _ = _; rw [HPL.out, show 49 = 48 + 1 by decide, List.getElem?_cons_succ, List.getElem?_append_right (by rw [HLL.out]; decide), HLL.out]; rfl
  have HP0 : Hid (PL[0]? = some (.slice Ak m ck)) := by show _ = _; rw [HPL.out]; rfl
  have HPC : Hid (∀ (j : Nat) (v : Value), L[j]? = some v → PL[1 + j]? = some v) := fun j v hj => by
    rw [HPL.out, show 1 + j = j + 1 by omega, List.getElem?_cons_succ, List.getElem?_append_left (List.getElem?_eq_some_iff.1 hj).1]
    exact hj
  clear a1 a2 a3 a4 a2a
  go_wp2_with (first
    | (refine wpList_build0Y rfl rfl ?_; intro X5 q1 q2 q3; have RY : Hid (Row X5 X4.heap.size [] tYr) := q1; have B5 : Hid (Below w.heap.size w X5) := B4.out.trans (q2.mono B4.out.size); have RP5 : Hid (Row X5 b3 PL 33) := Row.below RP4.out q2 RP4.out.lt; have LA5 : Hid (Lw X5 tAk 30 (.slice A7 n7 c7) n7 Q.flatten) := Lw.be LA4.out q2; have c49 : X5.cell? ⟨b3, 49, none⟩ = some (.slice Ar nr cr0) := (Row.below RP4.out q2 RP4.out.lt).cell 49 _ HP49.out; clear q1 q2 q3; simp only [Act.put, List.setIfInBounds_toArray, List.set_cons_zero, List.set_cons_succ])
    | (refine wpList_appE tYs tYr 5 40 Try.underlying31 info_Y_open (by decide) rfl (.tmp 37) (.tmp 39) rfl X4.heap.size rfl RY.out Ar nr cr0 (frs rs) rfl (HR0.out.1.be B5.out) HR0.out.2.1 HR0.out.2.2 ?_; intro gr cr X6 q1 q2 q3 q4; have LR6 : Hid (Lw X6 tYr 5 (.slice (some ⟨gr, 0, none⟩) nr cr) nr (frs rs)) := q1; have B6 : Hid (Below w.heap.size w X6) := B5.out.trans (q3.mono B5.out.size); have RP6 : Hid (Row X6 b3 PL 33) := Row.below RP5.out q3 RP5.out.lt; have LA6 : Hid (Lw X6 tAk 30 (.slice A7 n7 c7) n7 Q.flatten) := Lw.be LA5.out q3; have HGR : Hid (w.heap.size ≤ gr) := (by rcases q4 with q4 | q4; rw [q4]; exact B4.out.size; exact Nat.le_trans B5.out.size q4); clear q1 q2 q3 q4; simp only [Act.put, List.setIfInBounds_toArray, List.set_cons_zero, List.set_cons_succ]))
  have LR60 : Hid (Lw X6 tYr 5 (.slice (some ⟨gr, 0, none⟩) nr cr) nr (frs (rs ++ List.replicate 0 (0, 0)))) := by rw [List.replicate_zero, List.append_nil]; exact LR6.out
  clear B4 RP4 LA4 RY B5 RP5 LA5 c49 LR6 HR0
  go_loopw [10] (fun v wr => ∃ (t N gl cl : Nat), v = .slice (some ⟨gl, 0, none⟩) N cl ∧ Hid (Below w.heap.size w wr) ∧ Hid (Row wr b3 PL 33) ∧ Hid (Lw wr tAk 30 (.slice A7 n7 c7) n7 Q.flatten) ∧ Hid (Lw wr tYr 5 (.slice (some ⟨gl, 0, none⟩) N cl) N (frs (rs ++ List.replicate t (0, 0)))) ∧ Hid (w.heap.size ≤ gl) ∧ Hid (N = nr + t) ∧ (t = 0 ∨ N ≤ kn + 1)) (fun v _ => (kn + 1) - slN v)
  case atStart => exact ⟨0, nr, gr, cr, rfl, B6, RP6, LA6, LR60, HGR, (Nat.add_zero _).symm, .inl rfl⟩
  case round =>
    clear B6 RP6 LA6 LR60 HGR
    obtain ⟨t, N, gl, cl, rfl, HBW, HRP, HLA, HLY, HGL, HNT, ht⟩ := hrel
    by_cases hle : N ≤ kn
    · have hle1 : (N : Int) ≤ (kn : Int) := by omega
      have HHT : Hid (t = 0 ∨ N ≤ kn + 1) := ht
      have HNB : Hid (N ≤ 1000000) := by show _ ≤ _; omega
      clear ht
      go_wp2_with (first
        | (refine wpList_bltH rfl tYr _ rfl [] rfl zY built_y0 ?_; simp only [Act.put, List.setIfInBounds_toArray, List.set_cons_zero, List.set_cons_succ])
        | (refine wpList_build1 tYs tYr 5 Try.underlying31 info_Y_open4 (by decide) (by decide) rfl (.tmp 46) rfl zY rfl rfl ?_; intro Z1 q1 q2 q3; have RZ : Hid (Row Z1 wr.heap.size zY tYr) := q1; have BZ : Hid (Below wr.heap.size wr Z1) := q2; have LZ : Hid (Lw Z1 tYr 5 (.slice (some ⟨gl, 0, none⟩) N cl) N (frs (rs ++ List.replicate t (0, 0)))) := Lw.be HLY.out q2; clear q1 q2 q3; simp only [Act.put, List.setIfInBounds_toArray, List.set_cons_zero, List.set_cons_succ])
        | (refine wpList_appL tYs tYr 5 40 Try.underlying31 info_Y_open (by decide) (by decide) rfl (.tmp 45) (.tmp 47) rfl (.slice (some ⟨gl, 0, none⟩) N cl) N _ zY rfl LZ.out wr.heap.size rfl rfl RZ.out.all zY_mem HNB.out ?_; intro v8 Z2 q1 q2 q3; obtain ⟨g9, c9, e9, _⟩ := Lw.open q1 (Nat.succ_pos _); subst e9; have LZ2 : Hid (Lw Z2 tYr 5 (.slice (some ⟨g9, 0, none⟩) (N + 1) c9) (N + 1) (frs (rs ++ List.replicate t (0, 0)) ++ zY)) := q1; have G2 : Hid (Z1.grownBy Z2 (some gl)) := q2; have P2 : Hid (g9 = gl ∨ g9 = Z1.heap.size) := (by rcases q3 with q3 | q3; left; simpa [Value.ownBlock] using q3; right; simpa [Value.ownBlock] using q3); clear q1 q2 q3; simp only [Act.put, List.setIfInBounds_toArray, List.set_cons_zero, List.set_cons_succ]))
      have k1 : Below w.heap.size w Z1 := HBW.out.trans (BZ.out.mono HBW.out.size)
      have k2 : Below w.heap.size w Z2 := below_gb k1 G2.out (fun g e => by cases e; exact HGL.out)
      obtain ⟨cur9, hcur9⟩ := Lw.row LZ.out
      have rp1 := Row.below HRP.out BZ.out HRP.out.lt
      have la1 := Lw.be HLA.out BZ.out
      have hLY2 : Lw Z2 tYr 5 (.slice (some ⟨g9, 0, none⟩) (N + 1) c9) (N + 1) (frs (rs ++ List.replicate (t + 1) (0, 0))) := by
        rw [List.replicate_succ', ← List.append_assoc, frs_app (rs ++ List.replicate t (0, 0)) [(0, 0)], show frs [((0 : Nat), (0 : Int))] = zY by rw [zY_ry]; unfold frs; simp]
        exact LZ2.out
      refine ⟨⟨t + 1, N + 1, g9, c9, rfl, k2, row_gb rp1 G2.out (some_ne (fun g e => by cases e; exact row_ne2 hcur9 rp1 (by decide))), Lw.gb (u := .slice (some ⟨gl, 0, none⟩) N cl) la1 G2.out (fun g e z => by simp only [Value.ownBlock, Option.some.injEq] at z; exact Lw.ne la1 hcur9 (by decide) g e z), hLY2, ?_, ?_, ?_⟩, ?_⟩
      · rcases P2.out with z | z
        · show _ ≤ _
          rw [z]; exact HGL.out
        · show _ ≤ _
          rw [z]; exact k1.size
      · show _ = _
        have := HNT.out
        omega
      · right; omega
      · simp only [slN]; omega
    · have hgt : ¬ ((N : Int) ≤ (kn : Int)) := by omega
      have HKN : Hid (kn < N) := by show _ < _; omega
      have HT : Hid (t = 0 ∨ N ≤ 100) := by rcases ht with h | h; exact .inl h; exact .inr (by omega)
      have HLEN : Hid (N = (rs ++ List.replicate t (0, 0)).length) := by show _ = _; rw [List.length_append, List.length_replicate, ← HNR.out]; exact HNT.out
      clear ht hle
      go_upto_region 8 with (first
        | (refine wpList_bltH rfl 27 _ rfl [(0, .int .u64 1), (1, .int .u64 2), (2, .int .u64 3), (3, .int .u64 4)] rfl [.int .u64 1, .int .u64 2, .int .u64 3, .int .u64 4] built_w1234 ?_; simp only [Act.put, List.setIfInBounds_toArray, List.set_cons_zero, List.set_cons_succ])
        | (refine wpList_bltH rfl tYr _ rfl [(0, .agg #[.int .u64 1, .int .u64 2, .int .u64 3, .int .u64 4]), (1, .int .i64 er)] rfl [.int .u64 1, .int .u64 2, .int .u64 3, .int .u64 4, .int .i64 er] (built_yE er) ?_; simp only [Act.put, List.setIfInBounds_toArray, List.set_cons_zero, List.set_cons_succ])
        | (refine wpList_ixY rfl (.tmp 49) (.tmp 50) rfl gl 0 N cl kn rfl rfl HKN.out ?_; simp only [Act.put, List.setIfInBounds_toArray, List.set_cons_zero, List.set_cons_succ])
        | (refine wpList_stY rfl (.tmp 54) (.tmp 53) rfl gl N cl kn (rs ++ List.replicate t (0, 0)) (v1234, er) [.int .u64 1, .int .u64 2, .int .u64 3, .int .u64 4, .int .i64 er] (ry_1234 er) HLEN.out HKN.out rfl rfl HLY.out ?_; intro X7 q1 q2; have LY7 : Hid (Lw X7 tYr 5 (.slice (some ⟨gl, 0, none⟩) N cl) N (frs (rs2 rs t kn v1234 er))) := q1; have G7 : Hid (Gro (· = gl) wr X7) := q2; clear q1 q2; simp only [Act.put]))
      obtain ⟨cur9, hcur9⟩ := Lw.row HLY.out
      have B7 : Hid (Below w.heap.size w X7) := HBW.out.trans (G7.out.to_below HBW.out.size (fun g e => by rw [e]; exact HGL.out))
      have RP7 : Hid (Row X7 b3 PL 33) := G7.out.row HRP.out (row_ne2 HRP.out hcur9 (by decide))
      have LA7 : Hid (Lw X7 tAk 30 (.slice A7 n7 c7) n7 Q.flatten) := Lw.gro HLA.out G7.out (Lw.ne HLA.out hcur9 (by decide))
      have HCC : Hid _ := HC2.out gl N cl t kn X7 HNT.out HKN.out HPK.out.1 HPK.out.2 HT.out B7.out LY7.out
      have RG7 : Hid (X7.rangeAt b3 1 L) := RP7.out.range 1 L (fun j v hj => HPC.out j v hj)
      have c0 : X7.cell? ⟨b3, 0, none⟩ = some (.slice Ak m ck) := RP7.out.cell 0 _ HP0.out
      obtain ⟨PL2, hPL2⟩ : ∃ P, P = Value.slice Ak m ck :: (L ++ [.slice (some ⟨gl, 0, none⟩) N cl]) := ⟨_, rfl⟩
      have HBP : Hid (Try.prog.built 33 [(0, .slice Ak m ck), (1, .agg L.toArray), (2, .slice (some ⟨gl, 0, none⟩) N cl)] = some PL2.toArray) := by show _ = _; rw [hPL2]; exact built_play2 _ _ rfl rfl L HLL.out _ _ _ _ _ _ rfl rfl
      rw [← hPL2] at HCC
      clear hPL2 HBW HRP HLA HLY G7 hcur9 hgt HC2
      go_upto_region 9 with (first
        | (refine wpList_load_w rfl 30 (.tmp 58) rfl b3 1 rfl L _ RG7.out Try.underlying30 rfl HLI.out ?_; simp only [Act.put, List.setIfInBounds_toArray, List.set_cons_zero, List.set_cons_succ])
        | (refine wpList_bltH rfl 33 _ rfl [(0, .slice Ak m ck), (1, .agg L.toArray), (2, .slice (some ⟨gl, 0, none⟩) N cl)] rfl PL2 HBP.out ?_; simp only [Act.put, List.setIfInBounds_toArray, List.set_cons_zero, List.set_cons_succ])
        | (go_at_call 6; refine Calls.mono HCC.out ?_; rintro e X8 ⟨A8, c8, rfl, q1, q2⟩; have LB8 : Hid (Lw X8 tAk 30 (.slice A8 (kn + 1) c8) (kn + 1) (Q.take (kn + 1)).flatten) := q1; have LA8 : Hid (Lw X8 tAk 30 (.slice A7 n7 c7) n7 Q.flatten) := Lw.be LA7.out q2; have B8 : Hid (Below w.heap.size w X8) := B7.out.trans (q2.mono B7.out.size); clear q1 q2)
        | (refine wpList_allocR rfl rfl ?_; intro X9 q1 q2 q3; have R9 : Hid (Row X9 X8.heap.size zR 35) := q1; have K9 : Hid (Below X8.heap.size X8 X9) := q2; clear q1 q2 q3; simp only [Act.put, List.setIfInBounds_toArray, List.set_cons_zero, List.set_cons_succ])
        | (refine wpList_storeL rfl 35 (.tmp 11) (.tmp 63) rfl X8.heap.size zR zR 35 rfl rfl R9.out rfl info_Ran zR_one ?_; intro XA q1 q2; have EA : Hid (XA = _) := q1; have RA : Hid (Row XA X8.heap.size zR 35) := q2; clear q1 q2; simp only [Act.put]))
      have kA : Below X8.heap.size X8 XA := by rw [EA.out]; exact below_setCells K9.out (Nat.le_refl _) _
      have BA : Hid (Below w.heap.size w XA) := B8.out.trans (kA.mono B8.out.size)
      obtain ⟨bA, hbA⟩ : ∃ b, b = X8.heap.size := ⟨_, rfl⟩
      rw [← hbA] at RA
      rw [← hbA]
      have HQ1 : Hid (Qin XA A8 (Q.take (kn + 1))) := by
        have hql : kn + 1 = (Q.take (kn + 1)).length := by rw [List.length_take, ← HN7.out]; have := HPK.out.1; omega
        exact lw_qinN hql (Lw.be LB8.out kA)
      have hQA : Qin XA A7 Q := by
        have := Lw.be LA8.out kA
        rw [HN7.out] at this
        exact lw_qin this
      have HQ2 : Hid (Qin XA A7 (Q.take (kn + 1))) := qin_take (fun q hq => (HQA.out q hq).len) hQA (kn + 1)
      obtain ⟨g7, cc7, eg7, hcc7⟩ := Lw.open LA8.out (by have := HPK.out.1; omega)
      simp only [Value.slice.injEq] at eg7
      obtain ⟨hA7, _, hc7⟩ := eg7
      subst hA7 hc7
      have HSA : Hid (Calls Try.prog 9 #[.slice A8 (kn + 1) c8, .slice (some ⟨g7, 0, none⟩) (kn + 1) c7] XA fun e w' => e = .returned (.bool true) ∧ Below XA.heap.size XA w') := same_asks (Q.take (kn + 1)) (fun q hq => HQA.out q (List.mem_of_mem_take hq)) (kn + 1) (by rw [List.length_take, ← HN7.out]; have := HPK.out.1; omega) (by omega) A8 (some ⟨g7, 0, none⟩) c8 c7 XA HQ1.out HQ2.out
      have hadd : IntKind.i64.wrap ((kn : Int) + 1) = ((kn + 1 : Nat) : Int) := by rw [IntKind.wrap_i64]; omega
      have HCA : Hid (kn + 1 ≤ c7) := by show _ ≤ _; have := HPK.out.1; omega
      have ee : (er == er) = true := by simp
      clear hbA kA EA R9 K9 LB8 LA8 B8 c0 RG7 HCC hQA hcc7 LA7 LY7 RP7 B7
      go_wp2_with (first
        | (refine wpList_load_w rfl 35 (.tmp 11) rfl bA 0 rfl zR _ RA.out.all Try.underlying35 rfl info_Ran ?_; simp only [Act.put, List.setIfInBounds_toArray, List.set_cons_zero, List.set_cons_succ])
        | (refine wpList_eqRn rfl (.tmp 66) (.tmp 67) _ rfl zR 0 0 zR_form rfl rfl ?_; simp only [Act.put, List.setIfInBounds_toArray, List.set_cons_zero, List.set_cons_succ])
        | (refine wpList_cutA (by rfl) (.tmp 76) (.tmp 78) rfl g7 n7 c7 (kn + 1) rfl rfl HCA.out ?_; simp only [Act.put, List.setIfInBounds_toArray, List.set_cons_zero, List.set_cons_succ])
        | (go_at_call 9; refine Calls.mono HSA.out ?_; rintro e XB ⟨rfl, q⟩; have BB : Hid (Below w.heap.size w XB) := BA.out.trans (q.mono BA.out.size); clear q)
        | (go_at_call 7; refine Calls.mono (alive_any XB) ?_; rintro e XC ⟨rfl, q⟩; have BC : Hid (Below w.heap.size w XC) := BB.out.trans (q.mono BB.out.size); clear q))
      go_ret
      exact ⟨rfl, BC.out⟩

end Go.Proofs.Ytabcglakdlkdcaa
