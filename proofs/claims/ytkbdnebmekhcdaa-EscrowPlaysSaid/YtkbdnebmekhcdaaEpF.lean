/-
  EscrowPlays: the document's New and Copy; the law's change and alike.
-/
import Derived.Test.YtkbdnebmekhcdaaEpE
import Derived.Test.YtkbdnebmekhcdaaEsT
import Derived.OpenShut
namespace Go.Proofs.Ytkbdnebmekhcdaa
open Go Go.RowKit Go.Maps
open Wd

theorem Rx.of {w X Y : World} {q n : Nat} {v : Value} {s : St} (k : Below w.heap.size w X) (h : Rx X Y q v n s) : Rx w Y q v n s := by
  obtain ⟨l', h1, h2, h3⟩ := h
  exact ⟨l', h1, h2, Rt.of k h3⟩
theorem built_r0 : Try.prog.built tRV [] = some #[.slice none 0 0] := by kernel_rfl
theorem built_r1 (A : Option Addr) (n c : Nat) : Try.prog.built tRV [(0, .slice A n c)] = some #[.slice A n c] := by kernel_rfl
theorem Ro.none {w : World} {q : Nat} (h : Row w q [.slice none 0 0] tRV) : Ro w q (.slice none 0 0) [] := ⟨h, Lw.nil _ _ _, (fun r hr => by cases hr), by show 0 < _; decide⟩
set_option maxRecDepth 100000 in
set_option maxHeartbeats 4000000 in
theorem rnew_any (w : World) : Calls Try.prog 10 #[] w fun e w' => ∃ q, e = .returned (.pointer (some ⟨q, 0, none⟩)) ∧ w.heap.size ≤ q ∧ Ro w' q (.slice none 0 0) [] ∧ Below w.heap.size w w' := by
  have HB : Hid (Try.prog.built tRV [] = some [Value.slice none 0 0].toArray) := built_r0
  go_enter Try.func10, Try.ntmps10
  go_wp2_with (first
    | (refine wpList_blt rfl tRV _ rfl [] rfl [.slice none 0 0] HB.out ?_; simp only [Act.put, List.setIfInBounds_toArray, List.set_cons_zero, List.set_cons_succ])
    | (refine wpList_bxG tRV rfl (.tmp 1) rfl [.slice none 0 0] rfl ?_; intro X q1 q2 q3; have R1 : Hid (Row X w.heap.size [.slice none 0 0] tRV) := q1; have B1 : Hid (Below w.heap.size w X) := q2; clear q1 q2 q3; simp only [Act.put, List.setIfInBounds_toArray, List.set_cons_zero, List.set_cons_succ]))
  go_ret
  exact ⟨w.heap.size, rfl, Nat.le_refl _, Ro.none R1.out, B1.out⟩
section
variable {ops : Array Oper} {rest : List Oper} {op : Oper} {a : Act} {w : World} {Q : Exit → Act → World → Prop}
theorem wpP_build0 (hgd : op.guard = none) (ho : op.op = .buildSlice tAcs 0 #[]) (h : ∀ X, Row X w.heap.size [] tAc → Below w.heap.size w X → wpList Try.prog ops Q rest (a.put op.dst (.slice (some ⟨w.heap.size, 0, none⟩) 0 0)) X) : wpList Try.prog ops Q (op :: rest) a w :=
  wpList_plain hgd fun _ hK => by
    unfold Oper.wp execOp
    simp only [ho]
    go_simp
    exact hK _ _ (h _ (Row.new' rfl rfl) ((Below.refl _ _).alloc (Nat.le_refl _) _))
theorem wpP_appM (hgd : op.guard = none) (s x : Operand) (ho : op.op = .call { callee := .builtin .append, args := #[s, x], argTypes := #[tAcs, tAcs] }) (v : Value) (hs : a.eval s = v) (hown : Lw w tAc 7 v 0 [])
    (A : Option Addr) (m cap : Nat) (news : List Value) (hx : a.eval x = .slice A m cap) (hl : Lw w tAc 7 (.slice A m cap) m news) (h1 : ∀ v ∈ news, v.oneCell' = true) (hk : m ≤ 2199023255552)
    (h : ∀ v' w', Lw w' tAc 7 v' m news → w.grownBy w' v.ownBlock → (v'.ownBlock = v.ownBlock ∨ v'.ownBlock = some w.heap.size) → wpList Try.prog ops Q rest (a.put op.dst v') w') : wpList Try.prog ops Q (op :: rest) a w :=
  wpList_plain hgd fun _ hK => by
    obtain ⟨ie, z, i1, i2, i3, i5, i4⟩ := all_Ac
    have hlen := hl.1
    cases A with
    | none =>
      rcases hl.2 with ⟨e, h0⟩ | ⟨g, c', cur, e, _⟩
      · simp only [Value.slice.injEq] at e
        obtain ⟨_, rfl, rfl⟩ := e
        have hn : news = [] := List.length_eq_zero_iff.1 (by rw [hlen])
        subst hn
        have hr := run_append_owned_none (P := Try.prog) (w := w) 0 tAcs op.type tAc ie 7 und_As i1 v 0 [] hown
        unfold Oper.wp execOp
        simp only [ho, resolve, invoke, builtin, Sem.run_bind, Sem.run_pure, Result.andThen_ok, List.map_toArray, List.map_cons, List.map_nil, hs, hx, hr]
        exact hK _ _ (h v w hown ⟨rfl, rfl, rfl, Nat.le_refl _, fun _ _ _ => rfl⟩ (.inl rfl))
      · cases e
    | some ad =>
      have hc : ∀ j u, news[j]? = some u → w.cell? (ad.add j) = some u := fun j u hj => by
        rcases hl.2 with ⟨e, _⟩ | ⟨g, c', cur, e, _⟩
        · cases e
        · simp only [Value.slice.injEq, Option.some.injEq] at e
          obtain ⟨rfl, _, rfl⟩ := e
          have := Lw.range hl j u hj
          rw [Addr.add_mid]
          exact this
      obtain ⟨v', w', hr, q2, q3, _, q5⟩ := run_append_own_at (P := Try.prog) w 0 tAcs op.type tAc ie z 7 56 und_As i1 i2 i3 i5 i4 (by decide) v 0 [] hown ad m cap news hlen hc h1 (by unfold maxLen; omega) (by omega) (Nat.zero_le _)
      unfold Oper.wp execOp
      simp only [ho, resolve, invoke, builtin, Sem.run_bind, Sem.run_pure, Result.andThen_ok, List.map_toArray, List.map_cons, List.map_nil, hs, hx, hr]
      exact hK _ _ (h v' w' (by rw [Nat.zero_add, List.nil_append] at q2; exact q2) q3 q5)
end
theorem lwA_empty {w : World} {g : Nat} (r : Row w g [] tAc) : Lw w tAc 7 (.slice (some ⟨g, 0, none⟩) 0 0) 0 [] :=
  ⟨rfl, .inr ⟨g, 0, #[], rfl, Nat.zero_le _, r, Nat.le_refl _, by unfold maxLen; omega, rfl, rfl⟩⟩
theorem acs_ones (l : List Acv) : ∀ v ∈ acs l, v.oneCell' = true := fun v hv => by
  unfold acs at hv
  obtain ⟨x, hx, hv⟩ := List.mem_flatten.1 hv
  obtain ⟨a, _, rfl⟩ := List.mem_map.1 hx
  exact acv_one a v hv
set_option maxRecDepth 100000 in
set_option maxHeartbeats 4000000 in
theorem rcopy_any {w : World} {q : Nat} {v : Value} {l : List Acv} (h : Ro w q v l) (hn : l.length < 2199023255551) : Calls Try.prog 15 #[.pointer (some ⟨q, 0, none⟩)] w fun e w' => ∃ q' v', e = .returned (.pointer (some ⟨q', 0, none⟩)) ∧ w.heap.size ≤ q' ∧ Ro w' q' v' l ∧ (∀ g, v'.ownBlock = some g → w.heap.size ≤ g) ∧ Below w.heap.size w w' := by
  obtain ⟨A, cap, e, _⟩ := h.rv
  obtain ⟨n, hn0⟩ : ∃ n, n = l.length := ⟨_, rfl⟩
  rw [← hn0] at e hn
  subst e
  have HRO : Hid (∀ X, Below w.heap.size w X → Ro X q (.slice A n cap) l) := fun X k => h.be k
  have HNL : Hid (n = l.length) := hn0
  have HN : Hid (n ≤ 2199023255552) := by show _ ≤ _; omega
  have HM : Hid (∀ r ∈ l, r.m < 2 ^ 256) := h.m
  have HNB : Hid (l.length < 4398046511104) := h.nb
  clear h hn0 hn
  go_enter Try.func15, Try.ntmps15
  go_wp2_with (first
    | (refine wpP_build0 rfl rfl ?_; intro X1 q1 q2; have R1 : Hid (Row X1 w.heap.size [] tAc) := q1; have B1 : Hid (Below w.heap.size w X1) := q2; have c0 := (HRO.out X1 q2).row.cell 0 _ rfl; clear q1 q2; simp only [Act.put, List.setIfInBounds_toArray, List.set_cons_zero, List.set_cons_succ])
    | (refine wpP_appM rfl (.tmp 3) (.tmp 7) rfl (.slice (some ⟨w.heap.size, 0, none⟩) 0 0) rfl (lwA_empty R1.out) A n cap (acs l) rfl (by { have hh := (HRO.out X1 B1.out).own; rwa [← HNL.out] at hh }) (acs_ones l) HN.out ?_; intro v' X2 q1 q2 q3; obtain ⟨A2, c2, e2, _⟩ := Lw.form q1; subst e2; have L2 : Hid (Lw X2 tAc 7 (.slice A2 n c2) n (acs l)) := q1; have B2 : Hid (Below w.heap.size w X2) := below_gb B1.out q2 (fun g e => by { cases e; exact Nat.le_refl _ }); have F2 : Hid (∀ g, (Value.slice A2 n c2).ownBlock = some g → w.heap.size ≤ g) := (fun g e => by { rcases q3 with z | z; (rw [z] at e; cases e; exact Nat.le_refl _); (rw [z] at e; simp only [Option.some.injEq] at e; have := B1.out.size; omega) }); clear q1 q2 q3 c0; simp only [Act.put, List.setIfInBounds_toArray, List.set_cons_zero, List.set_cons_succ])
    | (refine wpList_blt rfl tRV _ rfl [(0, .slice A2 n c2)] rfl [.slice A2 n c2] (built_r1 A2 n c2) ?_; simp only [Act.put, List.setIfInBounds_toArray, List.set_cons_zero, List.set_cons_succ])
    | (refine wpList_bxG tRV rfl (.tmp 9) rfl [.slice A2 n c2] rfl ?_; intro X3 q1 q2 q3; have R3 : Hid (Row X3 X2.heap.size [.slice A2 n c2] tRV) := q1; have B3 : Hid (Below X2.heap.size X2 X3) := q2; clear q1 q2 q3; simp only [Act.put, List.setIfInBounds_toArray, List.set_cons_zero, List.set_cons_succ]))
  go_ret
  exact ⟨X2.heap.size, _, rfl, B2.out.size, ⟨R3.out, by rw [← HNL.out]; exact Lw.be L2.out B3.out, HM.out, HNB.out⟩, F2.out, B2.out.trans (B3.out.mono B2.out.size)⟩
set_option maxRecDepth 100000 in
set_option maxHeartbeats 4000000 in
theorem change_any {w : World} {q : Nat} {v : Value} {l : List Acv} {s : St} (h : Ro w q v l) (hR : Rel l s) (hO : s.Ok) (hn : l.length < 2199023255551) (r : Stv) (hr : r.Ok) (k : Int) (hk : pk r.kd 11 = k) (s' : St) (E : Int) (hs : act s k r = (s', E)) :
    Calls Try.prog 13 #[.pointer (some ⟨q, 0, none⟩), .agg r.cells.toArray] w fun e w' => e = .returned (.int .i64 E) ∧ Rx w w' q v l.length s' := by
  obtain ⟨wh, kd, tk, ix, m⟩ := r
  obtain ⟨rc, hrc⟩ : ∃ c, c = (Stv.mk wh kd tk ix m).cells := ⟨_, rfl⟩
  have H1 : Hid (rc[1]? = some (.int .i64 kd)) := by rw [hrc]; exact rfl
  have H2 : Hid (rc[2]? = some (.int .i64 tk)) := by rw [hrc]; exact rfl
  have H3 : Hid (rc[3]? = some (.int .i64 ix)) := by rw [hrc]; exact rfl
  have hm : m < 2 ^ 256 := hr.m
  obtain ⟨cm, hcm⟩ : ∃ c, c = vQ (dgs m 4) := ⟨_, rfl⟩
  have HMI : Hid ((Try.prog.info? 33).map (·.size) = some cm.length) := by show _ = _; rw [hcm]; exact wd4_info m
  have HRA : Hid (∀ X g, Row X g rc 35 → X.rangeAt g 4 cm) := fun X g h => by rw [hcm]; rw [hrc] at h; exact Stv.am h
  have HPK : Hid (∀ X, Calls Try.prog 11 #[.int .i64 kd, .int .i64 11] X fun e w' => e = .returned (.int .i64 k) ∧ w' = X) := fun X => by rw [← hk]; exact pick_any kd 11 (by decide) (bounds_i64 hr.kd).1 (bounds_i64 hr.kd).2 (by decide) X
  have HX0 : Hid (∀ X, Below w.heap.size w X → Rx w X q v l.length s) := fun X k => Rx.same h hR k
  rw [← hrc]
  clear hk hr hrc
  unfold act at hs
  by_cases hk0 : k = 0
  · subst hk0
    have HF : Hid (∀ X, Below w.heap.size w X → Calls Try.prog 31 #[.pointer (some ⟨q, 0, none⟩), .int .i64 tk] X fun e w' => e = .returned (.int .i64 E) ∧ Rx w w' q v l.length s') := fun X k9 => by
      have hs9 : sList s tk = (s', E) := by simpa using hs
      have := rlist_any (h.be k9) hR hn tk s' E hs9
      exact this.mono fun e w' hh => ⟨hh.1, Rx.of k9 hh.2⟩
    clear hcm hs
    clear h hR hO
    go_enter Try.func13, Try.ntmps13
    go_wp2_with (first
      | (refine wpList_bxG 35 rfl (.tmp 1) rfl rc rfl ?_; intro X q1 q2 q3; have R1 : Hid (Row X w.heap.size rc 35) := q1; have B1 : Hid (Below w.heap.size w X) := q2; have c1 := q1.cell 1 _ H1.out; have c2 := q1.cell 2 _ H2.out; have c3 := q1.cell 3 _ H3.out; have RM : Hid (X.rangeAt w.heap.size 4 cm) := HRA.out X _ q1; clear q1 q2 q3; simp only [Act.put, List.setIfInBounds_toArray, List.set_cons_zero, List.set_cons_succ])
      | (go_at_call 11; refine Calls.mono (HPK.out _) ?_; rintro e X ⟨rfl, rfl⟩)
      | (go_at_call 31; refine Calls.mono (HF.out _ B1.out) ?_; rintro e Y ⟨rfl, q⟩; have HX := (show Hid _ from q); clear q))
    go_ret
    exact ⟨rfl, HX.out⟩
  by_cases hk1 : k = 1
  · subst hk1
    have HF : Hid (∀ X, Below w.heap.size w X → Calls Try.prog 32 #[.pointer (some ⟨q, 0, none⟩), .int .i64 tk, .bool true] X fun e w' => e = .returned (.int .i64 E) ∧ Rx w w' q v l.length s') := fun X k9 => by
      have hs9 : sStop s tk true = (s', E) := by simpa using hs
      have := rstop_true (h.be k9) hR hn tk s' E hs9
      exact this.mono fun e w' hh => ⟨hh.1, Rx.of k9 hh.2⟩
    clear hcm hs
    clear h hR hO
    go_enter Try.func13, Try.ntmps13
    go_wp2_with (first
      | (refine wpList_bxG 35 rfl (.tmp 1) rfl rc rfl ?_; intro X q1 q2 q3; have R1 : Hid (Row X w.heap.size rc 35) := q1; have B1 : Hid (Below w.heap.size w X) := q2; have c1 := q1.cell 1 _ H1.out; have c2 := q1.cell 2 _ H2.out; have c3 := q1.cell 3 _ H3.out; have RM : Hid (X.rangeAt w.heap.size 4 cm) := HRA.out X _ q1; clear q1 q2 q3; simp only [Act.put, List.setIfInBounds_toArray, List.set_cons_zero, List.set_cons_succ])
      | (go_at_call 11; refine Calls.mono (HPK.out _) ?_; rintro e X ⟨rfl, rfl⟩)
      | (go_at_call 32; refine Calls.mono (HF.out _ B1.out) ?_; rintro e Y ⟨rfl, q⟩; have HX := (show Hid _ from q); clear q))
    go_ret
    exact ⟨rfl, HX.out⟩
  by_cases hk2 : k = 2
  · subst hk2
    have HF : Hid (∀ X, Below w.heap.size w X → Calls Try.prog 32 #[.pointer (some ⟨q, 0, none⟩), .int .i64 tk, .bool false] X fun e w' => e = .returned (.int .i64 E) ∧ Rx w w' q v l.length s') := fun X k9 => by
      have hs9 : sStop s tk false = (s', E) := by simpa using hs
      have := rstop_false (h.be k9) hR hn tk s' E hs9
      exact this.mono fun e w' hh => ⟨hh.1, Rx.of k9 hh.2⟩
    clear hcm hs
    clear h hR hO
    go_enter Try.func13, Try.ntmps13
    go_wp2_with (first
      | (refine wpList_bxG 35 rfl (.tmp 1) rfl rc rfl ?_; intro X q1 q2 q3; have R1 : Hid (Row X w.heap.size rc 35) := q1; have B1 : Hid (Below w.heap.size w X) := q2; have c1 := q1.cell 1 _ H1.out; have c2 := q1.cell 2 _ H2.out; have c3 := q1.cell 3 _ H3.out; have RM : Hid (X.rangeAt w.heap.size 4 cm) := HRA.out X _ q1; clear q1 q2 q3; simp only [Act.put, List.setIfInBounds_toArray, List.set_cons_zero, List.set_cons_succ])
      | (go_at_call 11; refine Calls.mono (HPK.out _) ?_; rintro e X ⟨rfl, rfl⟩)
      | (go_at_call 32; refine Calls.mono (HF.out _ B1.out) ?_; rintro e Y ⟨rfl, q⟩; have HX := (show Hid _ from q); clear q))
    go_ret
    exact ⟨rfl, HX.out⟩
  by_cases hk3 : k = 3
  · subst hk3
    have HF : Hid (∀ X, Below w.heap.size w X → Calls Try.prog 33 #[.pointer (some ⟨q, 0, none⟩), .int .i64 tk, .agg cm.toArray] X fun e w' => e = .returned (.int .i64 E) ∧ Rx w w' q v l.length s') := fun X k9 => by
      have hs9 : sDep s tk m = (s', E) := by simpa using hs
      have := rdep_any (h.be k9) hR hO hn tk m hm s' E hs9
      rw [hcm]
      exact this.mono fun e w' hh => ⟨hh.1, Rx.of k9 hh.2⟩
    clear hcm hs
    clear h hR hO
    go_enter Try.func13, Try.ntmps13
    go_wp2_with (first
      | (refine wpList_bxG 35 rfl (.tmp 1) rfl rc rfl ?_; intro X q1 q2 q3; have R1 : Hid (Row X w.heap.size rc 35) := q1; have B1 : Hid (Below w.heap.size w X) := q2; have c1 := q1.cell 1 _ H1.out; have c2 := q1.cell 2 _ H2.out; have c3 := q1.cell 3 _ H3.out; have RM : Hid (X.rangeAt w.heap.size 4 cm) := HRA.out X _ q1; clear q1 q2 q3; simp only [Act.put, List.setIfInBounds_toArray, List.set_cons_zero, List.set_cons_succ])
      | (go_at_call 11; refine Calls.mono (HPK.out _) ?_; rintro e X ⟨rfl, rfl⟩)
      | (refine wpList_ldS rfl 33 (.tmp 31) rfl w.heap.size 4 rfl cm _ RM.out Try.underlying33 rfl HMI.out ?_; simp only [Act.put, List.setIfInBounds_toArray, List.set_cons_zero, List.set_cons_succ])
      | (go_at_call 33; refine Calls.mono (HF.out _ B1.out) ?_; rintro e Y ⟨rfl, q⟩; have HX := (show Hid _ from q); clear q))
    go_ret
    exact ⟨rfl, HX.out⟩
  by_cases hk4 : k = 4
  · subst hk4
    have HF : Hid (∀ X, Below w.heap.size w X → Calls Try.prog 34 #[.pointer (some ⟨q, 0, none⟩), .int .i64 ix, .int .i64 tk, .agg cm.toArray] X fun e w' => e = .returned (.int .i64 E) ∧ Rx w w' q v l.length s') := fun X k9 => by
      have hs9 : sPay s ix tk m = (s', E) := by simpa using hs
      have := rpay_any (h.be k9) hR hO hn ix tk m hm s' E hs9
      rw [hcm]
      exact this.mono fun e w' hh => ⟨hh.1, Rx.of k9 hh.2⟩
    clear hcm hs
    clear h hR hO
    go_enter Try.func13, Try.ntmps13
    go_wp2_with (first
      | (refine wpList_bxG 35 rfl (.tmp 1) rfl rc rfl ?_; intro X q1 q2 q3; have R1 : Hid (Row X w.heap.size rc 35) := q1; have B1 : Hid (Below w.heap.size w X) := q2; have c1 := q1.cell 1 _ H1.out; have c2 := q1.cell 2 _ H2.out; have c3 := q1.cell 3 _ H3.out; have RM : Hid (X.rangeAt w.heap.size 4 cm) := HRA.out X _ q1; clear q1 q2 q3; simp only [Act.put, List.setIfInBounds_toArray, List.set_cons_zero, List.set_cons_succ])
      | (go_at_call 11; refine Calls.mono (HPK.out _) ?_; rintro e X ⟨rfl, rfl⟩)
      | (refine wpList_ldS rfl 33 (.tmp 41) rfl w.heap.size 4 rfl cm _ RM.out Try.underlying33 rfl HMI.out ?_; simp only [Act.put, List.setIfInBounds_toArray, List.set_cons_zero, List.set_cons_succ])
      | (go_at_call 34; refine Calls.mono (HF.out _ B1.out) ?_; rintro e Y ⟨rfl, q⟩; have HX := (show Hid _ from q); clear q))
    go_ret
    exact ⟨rfl, HX.out⟩
  by_cases hk5 : k = 5
  · subst hk5
    have HF : Hid (∀ X, Below w.heap.size w X → Calls Try.prog 35 #[.pointer (some ⟨q, 0, none⟩), .agg cm.toArray] X fun e w' => e = .returned (.int .i64 E) ∧ Rx w w' q v l.length s') := fun X k9 => by
      have hs9 : sLock s m = (s', E) := by simpa using hs
      have := rlock_any (h.be k9) hR hO hn m hm s' E hs9
      rw [hcm]
      exact this.mono fun e w' hh => ⟨hh.1, Rx.of k9 hh.2⟩
    clear hcm hs
    clear h hR hO
    go_enter Try.func13, Try.ntmps13
    go_wp2_with (first
      | (refine wpList_bxG 35 rfl (.tmp 1) rfl rc rfl ?_; intro X q1 q2 q3; have R1 : Hid (Row X w.heap.size rc 35) := q1; have B1 : Hid (Below w.heap.size w X) := q2; have c1 := q1.cell 1 _ H1.out; have c2 := q1.cell 2 _ H2.out; have c3 := q1.cell 3 _ H3.out; have RM : Hid (X.rangeAt w.heap.size 4 cm) := HRA.out X _ q1; clear q1 q2 q3; simp only [Act.put, List.setIfInBounds_toArray, List.set_cons_zero, List.set_cons_succ])
      | (go_at_call 11; refine Calls.mono (HPK.out _) ?_; rintro e X ⟨rfl, rfl⟩)
      | (refine wpList_ldS rfl 33 (.tmp 47) rfl w.heap.size 4 rfl cm _ RM.out Try.underlying33 rfl HMI.out ?_; simp only [Act.put, List.setIfInBounds_toArray, List.set_cons_zero, List.set_cons_succ])
      | (go_at_call 35; refine Calls.mono (HF.out _ B1.out) ?_; rintro e Y ⟨rfl, q⟩; have HX := (show Hid _ from q); clear q))
    go_ret
    exact ⟨rfl, HX.out⟩
  by_cases hk6 : k = 6
  · subst hk6
    have HF : Hid (∀ X, Below w.heap.size w X → Calls Try.prog 36 #[.pointer (some ⟨q, 0, none⟩), .agg cm.toArray] X fun e w' => e = .returned (.int .i64 E) ∧ Rx w w' q v l.length s') := fun X k9 => by
      have hs9 : sFree s m = (s', E) := by simpa using hs
      have := rfree_any (h.be k9) hR hO.l hn m hm s' E hs9
      rw [hcm]
      exact this.mono fun e w' hh => ⟨hh.1, Rx.of k9 hh.2⟩
    clear hcm hs
    clear h hR hO
    go_enter Try.func13, Try.ntmps13
    go_wp2_with (first
      | (refine wpList_bxG 35 rfl (.tmp 1) rfl rc rfl ?_; intro X q1 q2 q3; have R1 : Hid (Row X w.heap.size rc 35) := q1; have B1 : Hid (Below w.heap.size w X) := q2; have c1 := q1.cell 1 _ H1.out; have c2 := q1.cell 2 _ H2.out; have c3 := q1.cell 3 _ H3.out; have RM : Hid (X.rangeAt w.heap.size 4 cm) := HRA.out X _ q1; clear q1 q2 q3; simp only [Act.put, List.setIfInBounds_toArray, List.set_cons_zero, List.set_cons_succ])
      | (go_at_call 11; refine Calls.mono (HPK.out _) ?_; rintro e X ⟨rfl, rfl⟩)
      | (refine wpList_ldS rfl 33 (.tmp 53) rfl w.heap.size 4 rfl cm _ RM.out Try.underlying33 rfl HMI.out ?_; simp only [Act.put, List.setIfInBounds_toArray, List.set_cons_zero, List.set_cons_succ])
      | (go_at_call 36; refine Calls.mono (HF.out _ B1.out) ?_; rintro e Y ⟨rfl, q⟩; have HX := (show Hid _ from q); clear q))
    go_ret
    exact ⟨rfl, HX.out⟩
  have HS : Hid (s' = s ∧ E = 0) := by
    rw [if_neg hk0, if_neg hk1, if_neg hk2, if_neg hk3, if_neg hk4, if_neg hk5, if_neg hk6] at hs
    cases hs
    exact ⟨rfl, rfl⟩
  clear hs hcm
  clear h hR hO
  go_enter Try.func13, Try.ntmps13
  go_wp2_with (first
    | (refine wpList_bxG 35 rfl (.tmp 1) rfl rc rfl ?_; intro X q1 q2 q3; have R1 : Hid (Row X w.heap.size rc 35) := q1; have B1 : Hid (Below w.heap.size w X) := q2; have c1 := q1.cell 1 _ H1.out; have c2 := q1.cell 2 _ H2.out; have c3 := q1.cell 3 _ H3.out; have RM : Hid (X.rangeAt w.heap.size 4 cm) := HRA.out X _ q1; clear q1 q2 q3; simp only [Act.put, List.setIfInBounds_toArray, List.set_cons_zero, List.set_cons_succ])
    | (go_at_call 11; refine Calls.mono (HPK.out _) ?_; rintro e X ⟨rfl, rfl⟩))
  go_ret
  exact ⟨by rw [HS.out.2]; rfl, by rw [HS.out.1]; exact HX0.out _ B1.out⟩
theorem rel_rl {l : List Acv} {s : St} (h : Rel l s) (t : Int) : rl l t = ((fnd s.T t).2.2 == 0, (fnd s.T t).1) ∧ rh l t = (fnd s.T t).2.1 := by
  unfold fnd
  by_cases hx : t < 0 ∨ 64 ≤ t
  · rw [if_pos hx]
    exact ⟨(h.o t hx).1, (h.o t hx).2⟩
  · rw [if_neg hx]
    have := h.t t (by omega) (by omega)
    cases hT : s.T t with
    | none => rw [hT] at this; exact ⟨this.1, this.2⟩
    | some p => rw [hT] at this; exact ⟨this.1, this.2⟩
set_option maxRecDepth 100000 in
set_option maxHeartbeats 4000000 in
theorem alike_any {w : World} {p c q : Nat} {m1 m2 v : Value} {l : List Acv} {s : St} (hV : Vt w p c m1 m2 s) (h : Ro w q v l) (hR : Rel l s) (t i : Int) (hi : I64 i) :
    Calls Try.prog 16 #[.pointer (some ⟨p, 0, none⟩), .pointer (some ⟨q, 0, none⟩), .int .i64 t, .int .i64 i] w fun e w' => e = .returned (.bool true) ∧ Below w.heap.size w w' := by
  obtain ⟨b1, hb1⟩ : ∃ b, b = ((fnd s.T t).2.2 == 0) := ⟨_, rfl⟩
  obtain ⟨b2, hb2⟩ : ∃ b, b = (fnd s.T t).1 := ⟨_, rfl⟩
  obtain ⟨hh, hhh⟩ : ∃ b, b = (fnd s.T t).2.1 := ⟨_, rfl⟩
  obtain ⟨pd, hpd⟩ : ∃ b, b = paid s.U i := ⟨_, rfl⟩
  obtain ⟨cH, hcH⟩ : ∃ c, c = vQ (dgs hh 4) := ⟨_, rfl⟩
  obtain ⟨cL, hcL⟩ : ∃ c, c = vQ (dgs s.L 4) := ⟨_, rfl⟩
  have hr := rel_rl hR t
  have HL : Hid (∀ X, Vt X p c m1 m2 s → Calls Try.prog 30 #[.pointer (some ⟨p, 0, none⟩), .int .i64 t] X fun e w' => e = .returned (.tuple #[.bool b1, .bool b2]) ∧ Below X.heap.size X w') := fun X k => by rw [hb1, hb2]; exact listed_any k t _ _ _ rfl
  have HRL : Hid (∀ X, Ro X q v l → Calls Try.prog 39 #[.pointer (some ⟨q, 0, none⟩), .int .i64 t] X fun e w' => e = .returned (.tuple #[.bool b1, .bool b2]) ∧ w' = X) := fun X k => by have := rlL k t; rw [hr.1] at this; rw [hb1, hb2]; exact this
  have HH : Hid (∀ X, Vt X p c m1 m2 s → Calls Try.prog 20 #[.pointer (some ⟨p, 0, none⟩), .int .i64 t] X fun e w' => e = .returned (.agg cH.toArray) ∧ Below X.heap.size X w') := fun X k => by rw [hcH, hhh]; exact held_any k t _ _ _ rfl
  have HRH : Hid (∀ X, Ro X q v l → Calls Try.prog 40 #[.pointer (some ⟨q, 0, none⟩), .int .i64 t] X fun e w' => e = .returned (.agg cH.toArray) ∧ Below X.heap.size X w') := fun X k => by have := rhL k t; rw [hr.2] at this; rw [hcH, hhh]; exact this
  have HP : Hid (∀ X, Vt X p c m1 m2 s → Calls Try.prog 21 #[.pointer (some ⟨p, 0, none⟩), .int .i64 i] X fun e w' => e = .returned (.bool pd) ∧ Below X.heap.size X w') := fun X k => by rw [hpd]; exact paid_any k i hi
  have HRP : Hid (∀ X, Ro X q v l → Calls Try.prog 41 #[.pointer (some ⟨q, 0, none⟩), .int .i64 i] X fun e w' => e = .returned (.bool pd) ∧ w' = X) := fun X k => by rw [hpd]; exact rpL k hR i
  have HK : Hid (∀ X, Vt X p c m1 m2 s → Calls Try.prog 19 #[.pointer (some ⟨p, 0, none⟩)] X fun e w' => e = .returned (.agg cL.toArray) ∧ Below X.heap.size X w') := fun X k => by rw [hcL]; exact locked_any k
  have HRK : Hid (∀ X, Ro X q v l → Calls Try.prog 42 #[.pointer (some ⟨q, 0, none⟩)] X fun e w' => e = .returned (.agg cL.toArray) ∧ Below X.heap.size X w') := fun X k => by rw [hcL]; exact rkL k hR
  have HWH : Hid (Wc cH hh) := hcH
  have HWL : Hid (Wc cL s.L) := hcL
  have HH1 : Hid (hh < 2 ^ 256) := by show _ < _; rw [hhh]; exact fnd_lt hV.ok (s1 := (fnd s.T t).1) (E := (fnd s.T t).2.2) rfl
  have HL1 : Hid (s.L < 2 ^ 256) := hV.ok.l
  have VX0 : Hid (Vt w p c m1 m2 s) := hV
  have OX0 : Hid (Ro w q v l) := h
  have BX0 : Hid (Below w.heap.size w w) := Below.refl _ _
  clear hV h hR hb1 hb2 hhh hpd hcH hcL hr
  go_enter Try.func16, Try.ntmps16
  go_wp2_with (first
    | (go_at_call 30; refine Calls.mono (HL.out _ VX0.out) ?_; rintro e X1 ⟨rfl, qq⟩; have VX1 : Hid (Vt X1 p c m1 m2 s) := VX0.out.be qq; have OX1 : Hid (Ro X1 q v l) := OX0.out.be qq; have BX1 : Hid (Below w.heap.size w X1) := BX0.out.trans (qq.mono BX0.out.size); clear qq)
    | (go_at_call 39; refine Calls.mono (HRL.out _ OX1.out) ?_; rintro e X1 ⟨rfl, rfl⟩)
    | (go_at_call 20; refine Calls.mono (HH.out _ VX1.out) ?_; rintro e X2 ⟨rfl, qq⟩; have VX2 : Hid (Vt X2 p c m1 m2 s) := VX1.out.be qq; have OX2 : Hid (Ro X2 q v l) := OX1.out.be qq; have BX2 : Hid (Below w.heap.size w X2) := BX1.out.trans (qq.mono BX1.out.size); clear qq)
    | (go_at_call 40; refine Calls.mono (HRH.out _ OX2.out) ?_; rintro e X3 ⟨rfl, qq⟩; have VX3 : Hid (Vt X3 p c m1 m2 s) := VX2.out.be qq; have OX3 : Hid (Ro X3 q v l) := OX2.out.be qq; have BX3 : Hid (Below w.heap.size w X3) := BX2.out.trans (qq.mono BX2.out.size); clear qq)
    | (refine eql_o (.tmp 36) (.tmp 39) _ rfl HWH.out HWH.out HH1.out HH1.out rfl rfl (decide_eq_true rfl) rfl ?_; simp only [Act.put, List.setIfInBounds_toArray, List.set_cons_zero, List.set_cons_succ])
    | (go_at_call 21; refine Calls.mono (HP.out _ VX3.out) ?_; rintro e X4 ⟨rfl, qq⟩; have VX4 : Hid (Vt X4 p c m1 m2 s) := VX3.out.be qq; have OX4 : Hid (Ro X4 q v l) := OX3.out.be qq; have BX4 : Hid (Below w.heap.size w X4) := BX3.out.trans (qq.mono BX3.out.size); clear qq)
    | (go_at_call 41; refine Calls.mono (HRP.out _ OX4.out) ?_; rintro e X4 ⟨rfl, rfl⟩)
    | (go_at_call 19; refine Calls.mono (HK.out _ VX4.out) ?_; rintro e X5 ⟨rfl, qq⟩; have VX5 : Hid (Vt X5 p c m1 m2 s) := VX4.out.be qq; have OX5 : Hid (Ro X5 q v l) := OX4.out.be qq; have BX5 : Hid (Below w.heap.size w X5) := BX4.out.trans (qq.mono BX4.out.size); clear qq)
    | (go_at_call 42; refine Calls.mono (HRK.out _ OX5.out) ?_; rintro e X6 ⟨rfl, qq⟩; have VX6 : Hid (Vt X6 p c m1 m2 s) := VX5.out.be qq; have OX6 : Hid (Ro X6 q v l) := OX5.out.be qq; have BX6 : Hid (Below w.heap.size w X6) := BX5.out.trans (qq.mono BX5.out.size); clear qq)
    | (refine eql_o (.tmp 53) (.tmp 55) _ rfl HWL.out HWL.out HL1.out HL1.out rfl rfl (decide_eq_true rfl) rfl ?_; simp only [Act.put, List.setIfInBounds_toArray, List.set_cons_zero, List.set_cons_succ]))
  go_ret
  exact ⟨rfl, BX6.out⟩

end Go.Proofs.Ytkbdnebmekhcdaa
