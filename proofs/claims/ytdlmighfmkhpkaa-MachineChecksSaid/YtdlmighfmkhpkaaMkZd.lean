/-
  Check, on both sides.
-/
import Derived.Test.YtdlmighfmkhpkaaMkZc
import Derived.Test.YtdlmighfmkhpkaaMkY
namespace Go.Proofs.Ytdlmighfmkhpkaa
open Go Go.RowKit
open Sha
open Wd

theorem pg_mem {d : List (BitVec 8)} : ∀ {f p : Nat} {ls : List Ins}, pg d f p = some ls → ∀ x ∈ ls, x.p < d.length ∧ ∃ s, ri (d.drop x.p) = some (x.c, x.a, x.n, s)
  | 0, _, _, h => by cases h
  | f + 1, p, ls, h => by
    by_cases hp : d.length ≤ p
    · rw [pg_end hp] at h
      obtain rfl := Option.some.inj h
      intro x hx
      cases hx
    · cases hri : ri (d.drop p) with
      | none => rw [pg_none (by omega) hri] at h; cases h
      | some y =>
        obtain ⟨c, a, m, z⟩ := y
        rw [pg_some (by omega) hri] at h
        cases hr : pg d f (p + z) with
        | none => rw [hr] at h; cases h
        | some r =>
          rw [hr] at h
          simp only [Option.map_some, Option.some.injEq] at h
          subst h
          intro x hx
          rcases List.mem_cons.1 hx with rfl | hx
          · exact ⟨by show p < _; omega, z, hri⟩
          · exact pg_mem hr x hx
theorem ri_head {b : List (BitVec 8)} {c a n s : Nat} (h : ri b = some (c, a, n, s)) : ∃ x r, b = x :: r ∧ x.toNat = c ∧ ow (oper c) r ≤ r.length ∧ ro (oper c) (r.take (ow (oper c) r)) = some (a, n) := by
  cases b with
  | nil => cases h
  | cons x r =>
    unfold ri at h
    simp only at h
    split at h
    · cases h
    · split at h
      · cases h
      · split at h
        · cases h
        · rename_i h1 h2 _ _ _ h3
          simp only [Option.some.injEq, Prod.mk.injEq] at h
          obtain ⟨rfl, rfl, rfl, rfl⟩ := h
          exact ⟨x, r, rfl, rfl, by omega, h3⟩
theorem ri_jump {b : List (BitVec 8)} {c a n s : Nat} (h : ri b = some (c, a, n, s)) (h5 : oper c = 5) : ∃ x y z r, b = x :: y :: z :: r ∧ x.toNat = c ∧ n = y.toNat * 256 + z.toNat := by
  obtain ⟨x, r, rfl, hx, hl, ho⟩ := ri_head h
  rw [h5] at hl ho
  have hw : ow 5 r = 2 := rfl
  rw [hw] at hl ho
  match r, hl with
  | y :: z :: r, _ =>
    refine ⟨x, y, z, r, rfl, hx, ?_⟩
    unfold ro at ho
    rw [if_neg (by decide)] at ho
    split at ho
    · cases ho
    · rw [if_neg (by decide), if_pos rfl] at ho
      simp only [Option.some.injEq, Prod.mk.injEq] at ho
      exact ho.2.symm
theorem oper5 (c : Nat) (hc : c < 28) : oper c = 5 ↔ c = 14 ∨ c = 15 := by
  have h : ∀ c < 28, oper c = 5 ↔ c = 14 ∨ c = 15 := by decide
  exact h c hc
/-- What Check answers. -/
def ec (d : List (BitVec 8)) : Int := if (chk d).isSome then 0 else 100
theorem ec_len {d : List (BitVec 8)} (h : d.length = 0 ∨ 1024 < d.length) : ec d = 100 := by
  unfold ec chk
  rw [if_pos h]
  rfl
theorem ec_no {d : List (BitVec 8)} (h : chk d = none) : ec d = 100 := by unfold ec; rw [h]; rfl
theorem ec_yes {d : List (BitVec 8)} {ls : List Ins} (h : chk d = some ls) : ec d = 0 := by unfold ec; rw [h]; rfl
theorem ec_pg {d : List (BitVec 8)} {n : Nat} (hd : d.length = n) (h0 : 0 < n) (h1 : n ≤ 1024) (h : pg d (n + 1) 0 = none) : ec d = 100 := by
  refine ec_no ?_
  unfold chk
  rw [if_neg (by omega), hd, h]
theorem ec_led {d : List (BitVec 8)} {n : Nat} (hd : d.length = n) (h0 : 0 < n) (h1 : n ≤ 1024) {ls : List Ins} (h : pg d (n + 1) 0 = some ls) (hl : leads ls = true) : ec d = 0 := by
  refine ec_yes (ls := ls) ?_
  unfold chk
  rw [if_neg (by omega), hd, h]
  exact if_pos hl
theorem ec_not {d : List (BitVec 8)} {n : Nat} (hd : d.length = n) (h0 : 0 < n) (h1 : n ≤ 1024) {ls : List Ins} (h : pg d (n + 1) 0 = some ls) (hl : leads ls = false) : ec d = 100 := by
  refine ec_no ?_
  unfold chk
  rw [if_neg (by omega), hd, h]
  exact if_neg (by rw [hl]; decide)
theorem any_p (ls : List Ins) (m : Nat) : (ls.map (·.p)).any (· == m) = ls.any (fun j => j.p == m) := by rw [List.any_map]; rfl
set_option maxRecDepth 100000 in
set_option maxHeartbeats 4000000 in
theorem refCheck_len (A : Option Addr) (n cap : Nat) (d : List (BitVec 8)) (hd : d.length = n) (h : n = 0 ∨ 1024 < n) (hm : n < 9223372036854775808) (w : World) : Calls Try.prog 8 #[.slice A n cap] w fun e w' => e = .returned (.int .i64 (ec d)) ∧ w' = w := by
  have HE : Hid (ec d = 100) := ec_len (by omega)
  clear hd
  rcases h with h | h
  · subst h
    go_enter Try.func8, Try.ntmps8
    go_wp2
    go_ret
    exact ⟨by rw [HE.out]; rfl, rfl⟩
  · have e1 : ¬ ((n : Int) < 1) := by omega
    have e2 : (1024 : Int) < (n : Int) := by omega
    go_enter Try.func8, Try.ntmps8
    go_wp2
    go_ret
    exact ⟨by rw [HE.out]; rfl, rfl⟩
set_option maxRecDepth 100000 in
set_option maxHeartbeats 4000000 in
theorem refCheck_in (g o n cap : Nat) (d : List (BitVec 8)) (hd : d.length = n) (h0 : 0 < n) (h1 : n ≤ 1024) (w : World) (hr : w.rangeAt g o (vB d)) : Calls Try.prog 8 #[.slice (some ⟨g, o, none⟩) n cap] w fun e w' => e = .returned (.int .i64 (ec d)) ∧ Below w.heap.size w w' := by
  have HR : Hid (w.rangeAt g o (vB d)) := hr
  have HDL : Hid (d.length = n) := hd
  have HP : Hid _ := places_any g o n cap d hd h1 w hr
  have e1 : ¬ ((n : Int) < 1) := by omega
  have e2 : ¬ ((1024 : Int) < (n : Int)) := by omega
  cases hpg : pg d (n + 1) 0 with
  | none =>
    have HE : Hid (ec d = 100) := ec_pg hd h0 h1 hpg
    have HQ : Hid (Calls Try.prog 13 #[.slice (some ⟨g, o, none⟩) n cap] w fun e w' => e = .returned (.tuple #[.slice none 0 0, .bool false]) ∧ Below w.heap.size w w') := Calls.mono HP.out (fun e w' ⟨q, b⟩ => by
      rcases q with ⟨ls, v, q, _⟩ | ⟨_, q⟩
      · rw [hpg] at q; cases q
      · exact ⟨q, b⟩)
    clear hr hd hpg HP
    go_enter Try.func8, Try.ntmps8
    go_wp2_with (go_at_call 13; refine Calls.mono HQ.out ?_; rintro e X ⟨rfl, q⟩; have B : Hid (Below w.heap.size w X) := q; clear q)
    go_ret
    exact ⟨by rw [HE.out]; rfl, B.out⟩
  | some ls =>
    have HM : Hid (∀ x ∈ ls, x.p < d.length ∧ ∃ s, ri (d.drop x.p) = some (x.c, x.a, x.n, s)) := pg_mem hpg
    have HPG : Hid (pg d (n + 1) 0 = some ls) := hpg
    have HQ : Hid (Calls Try.prog 13 #[.slice (some ⟨g, o, none⟩) n cap] w fun e w' => ∃ v, e = .returned (.tuple #[v, .bool true]) ∧ Lw w' 3 1 v ls.length (vI (ls.map (·.p))) ∧ ls.length ≤ n ∧ Below w.heap.size w w') := Calls.mono HP.out (fun e w' ⟨q, b⟩ => by
      rcases q with ⟨ls', v, q, q1, q2, q3⟩ | ⟨q, _⟩
      · rw [hpg] at q; obtain rfl := Option.some.inj q; exact ⟨v, q2, q3, q1, b⟩
      · rw [hpg] at q; cases q)
    clear hr hd hpg HP
    go_enter Try.func8, Try.ntmps8
    go_upto_region 6 with (go_at_call 13; refine Calls.mono HQ.out ?_; rintro e X ⟨v, rfl, q1, q2, q3⟩; obtain ⟨A, cp, rfl, _, _⟩ := Lw.form q1; have L : Hid (Lw X 3 1 (.slice A ls.length cp) ls.length (vI (ls.map (·.p)))) := q1; have hln : ls.length ≤ 1024 := Nat.le_trans q2 h1; have B : Hid (Below w.heap.size w X) := q3; clear q1 q2 q3)
    obtain ⟨N, hN⟩ : ∃ N, N = ls.length := ⟨_, rfl⟩
    have HN : Hid (N = ls.length) := hN
    rw [← hN] at L hln ⊢
    clear hN
    go_wp2_with fail
    go_loopw [5] (fun v wr => ∃ t : Nat, t ≤ N ∧ v = .int .i64 (t : Int) ∧ Hid (Lw wr 3 1 (.slice A N cp) N (vI (ls.map (·.p)))) ∧ Hid (Below w.heap.size w wr) ∧ Hid (ledT ls t = true)) (fun v _ => N - (intOf v).toNat)
    case atStart => exact ⟨0, Nat.zero_le _, rfl, L, B, by show _ = _; unfold ledT; simp⟩
    case round =>
      clear L B
      obtain ⟨t, ht, rfl, L, B, HT⟩ := hrel
      by_cases hlt : t < N
      · obtain ⟨x, hx⟩ : ∃ x, ls[t]? = some x := ⟨_, List.getElem?_eq_getElem (by rw [← HN.out]; exact hlt)⟩
        obtain ⟨gl, cap', e, hcc⟩ := Lw.open L.out (by omega)
        simp only [Value.slice.injEq] at e
        obtain ⟨rfl, _, rfl⟩ := e
        have hRL := Lw.range L.out
        have cl : wr.cell? ⟨gl, t, none⟩ = some (.int .i64 (x.p : Int)) := by
          have := hRL t (.int .i64 (x.p : Int)) (by unfold vI; rw [List.getElem?_map, List.getElem?_map, hx]; rfl)
          rwa [Nat.zero_add] at this
        obtain ⟨hxp, s, hri⟩ := HM.out x (List.mem_of_getElem? hx)
        rw [HDL.out] at hxp
        obtain ⟨b, r, hbr, hbc, _, _⟩ := ri_head hri
        have hRB := range_be HR.out B.out
        have c0 := drop_cell hbr hRB
        rw [hbc] at c0
        have hc28 : x.c < 28 := (ri_size hri).1
        have HX : Hid (ls[t]? = some x) := hx
        by_cases h5 : oper x.c = 5
        · obtain ⟨b0, y, z, r0, hb0, _, hnn⟩ := ri_jump hri h5
          have c1 := drop_cell (drop_next hb0) hRB
          have c2 := drop_cell (drop_next (drop_next hb0)) hRB
          have hl3 : x.p + 2 < n := by
            have := congrArg List.length hb0
            rw [List.length_drop, HDL.out] at this
            simp at this
            omega
          have HTG : Hid _ := target_any g o n cap x.p y.toNat z.toNat hl3 h1 y.isLt z.isLt wr c1 c2
          rw [← hnn] at HTG
          have HAM : Hid (∀ Y, Below wr.heap.size wr Y → Calls Try.prog 14 #[.slice (some ⟨gl, 0, none⟩) N cp, .int .i64 (x.n : Int)] Y fun e w' => e = .returned (.bool (ls.any (fun j => j.p == x.n))) ∧ w' = Y) := fun Y hY => by
            have := among_any gl cp (ls.map (·.p)) x.n (by rw [List.length_map, ← HN.out]; exact hln) Y (range_be hRL hY)
            rw [List.length_map, any_p, ← HN.out] at this
            exact this
          obtain ⟨p, hp⟩ : ∃ p, p = x.p := ⟨_, rfl⟩
          obtain ⟨m, hm⟩ : ∃ m, m = x.n := ⟨_, rfl⟩
          obtain ⟨c, hc⟩ : ∃ c, c = x.c := ⟨_, rfl⟩
          have h1415 := (oper5 x.c hc28).1 h5
          rw [← hc] at c0 h1415
          rw [← hp] at c0 cl hxp HTG
          rw [← hm] at HTG HAM
          have HC : Hid (oper x.c = 5) := h5
          have HMM : Hid (m = x.n) := hm
          clear hp hm hc hx hri hbr hbc hb0 hnn c1 c2 hRB hRL h5 hc28 hl3 hcc
          cases hany : ls.any (fun j => j.p == m) with
          | true =>
            have HD : Hid (ledT ls (t + 1) = true) := ledT_more HX.out HT.out (.inr (by rw [← HMM.out]; exact hany))
            rw [hany] at HAM
            clear hany
            rcases h1415 with h | h <;> subst h
            all_goals
              go_wp2_with (first
                | (go_at_call 15; refine Calls.mono HTG.out ?_; rintro e X1 ⟨rfl, q⟩; have BX : Hid (Below wr.heap.size wr X1) := q; clear q)
                | (go_at_call 14; refine Calls.mono (HAM.out X1 BX.out) ?_; rintro e X2 ⟨rfl, rfl⟩))
              exact ⟨⟨t + 1, hlt, by go_num, Lw.be L.out BX.out, B.out.trans (BX.out.mono B.out.size), HD⟩, by simp [intOf]; omega⟩
          | false =>
            have HD : Hid (ec d = 100) := ec_not HDL.out h0 h1 HPG.out (leads_not HX.out HC.out (by rw [← HMM.out]; exact hany))
            rw [hany] at HAM
            clear hany
            rcases h1415 with h | h <;> subst h
            all_goals
              go_wp2_with (first
                | (go_at_call 15; refine Calls.mono HTG.out ?_; rintro e X1 ⟨rfl, q⟩; have BX : Hid (Below wr.heap.size wr X1) := q; clear q)
                | (go_at_call 14; refine Calls.mono (HAM.out X1 BX.out) ?_; rintro e X2 ⟨rfl, rfl⟩))
              go_ret
              exact ⟨by rw [HD.out]; rfl, B.out.trans (BX.out.mono B.out.size)⟩
        · have HD : Hid (ledT ls (t + 1) = true) := ledT_more HX.out HT.out (.inl h5)
          have hno : ¬ (x.c = 14 ∨ x.c = 15) := fun q => h5 ((oper5 x.c hc28).2 q)
          obtain ⟨p, hp⟩ : ∃ p, p = x.p := ⟨_, rfl⟩
          obtain ⟨c, hc⟩ : ∃ c, c = x.c := ⟨_, rfl⟩
          rw [← hc] at c0 hno hc28
          rw [← hp] at c0 cl hxp
          have e14 : ((c : Int) == 14) = false := by simp; omega
          have e15 : ((c : Int) == 15) = false := by simp; omega
          clear hp hc hx hri hbr hbc hRB hRL h5 hcc hno
          go_wp2
          exact ⟨⟨t + 1, hlt, by go_num, L, B, HD⟩, by simp [intOf]; omega⟩
      · have et : t = N := by omega
        have HD : Hid (ec d = 0) := ec_led HDL.out h0 h1 HPG.out (ledT_all (by rw [← HN.out, ← et]; exact HT.out))
        have e4 : (t : Int) = (N : Int) := by omega
        rw [e4]
        clear e4 et ht hlt HT
        go_wp2
        go_ret
        exact ⟨by rw [HD.out]; rfl, B.out⟩
theorem refCheck_any (A : Option Addr) (n cap : Nat) (d : List (BitVec 8)) (hd : d.length = n) (hm : n < 9223372036854775808) (w : World) (hs : SlAt w (.slice A n cap) d) : Calls Try.prog 8 #[.slice A n cap] w fun e w' => e = .returned (.int .i64 (ec d)) ∧ Below w.heap.size w w' := by
  by_cases h : n = 0 ∨ 1024 < n
  · exact Calls.mono (refCheck_len A n cap d hd h hm w) (fun e w' ⟨q, b⟩ => ⟨q, by rw [b]; exact Below.refl _ _⟩)
  · rcases hs with ⟨q, _⟩ | ⟨ab, ao, c', hv, _, hr⟩
    · rw [q] at hd; exact absurd (.inl hd.symm) h
    · simp only [Value.slice.injEq] at hv
      obtain ⟨rfl, _, rfl⟩ := hv
      exact refCheck_in ab ao n cap d hd (by omega) (by omega) w hr
set_option maxRecDepth 100000 in
set_option maxHeartbeats 4000000 in
theorem mCheck_any (A : Option Addr) (n cap : Nat) (d : List (BitVec 8)) (hd : d.length = n) (hm : n < 9223372036854775808) (hA : ∀ ab ao, A = some ⟨ab, ao, none⟩ → ao = 0) (w : World) (hs : SlAt w (.slice A n cap) d) : Calls Try.prog 7 #[.slice A n cap] w fun e w' => e = .returned (.int .i64 (ec d)) ∧ Below w.heap.size w w' := by
  have HRD : Hid (∀ X, Row X w.heap.size mtab 72 → Below w.heap.size w X → Calls Try.prog 11 #[.slice (some ⟨w.heap.size, 0, none⟩) 28 28, .slice A n cap] X fun e w' => ∃ L : List Value, L.length = 2 ∧ L.toArray.all (·.oneCell') = true ∧ e = .returned (.tuple #[.agg L.toArray, .int .i64 (ec d)]) ∧ Below X.heap.size X w') := by
    intro X hT hB
    by_cases h : n = 0 ∨ 1024 < n
    · refine Calls.mono (read_len w.heap.size n cap A d hd h hm X) ?_
      rintro e w' ⟨⟨q1, q2⟩, q3⟩
      exact ⟨zP, rfl, zP_one, by rw [q2, ec_no q1], q3⟩
    · rcases hs with ⟨q, _⟩ | ⟨ab, ao, c', hv, hcc, hr⟩
      · rw [q] at hd; exact absurd (.inl hd.symm) h
      · simp only [Value.slice.injEq] at hv
        obtain ⟨rfl, hdn, rfl⟩ := hv
        obtain rfl := hA ab ao rfl
        refine Calls.mono (read_any w.heap.size ab n cap d hd (by omega) (by omega) (by omega) X hT (range_be hr hB)) ?_
        rintro e w' ⟨q, q3⟩
        rcases q with ⟨ls, v, gs, q1, _, q2, q4, _⟩ | ⟨q1, q2⟩
        · obtain ⟨A', c', rfl, _, _⟩ := Lw.form q4
          exact ⟨[.slice A' ls.length c', .slice (some ⟨gs, 0, none⟩) n n], rfl, pp_one _ _ _ _ _, by rw [q2, ec_yes q1], q3⟩
        · exact ⟨zP, rfl, zP_one, by rw [q2, ec_no q1], q3⟩
  obtain ⟨E, hE⟩ : ∃ E, E = ec d := ⟨_, rfl⟩
  rw [← hE] at HRD ⊢
  clear hd hA hs hE
  go_enter Try.func7, Try.ntmps7
  go_wp2_with (first
    | (go_at_call 12; refine Calls.mono (table_any w) ?_; rintro e X1 ⟨rfl, q1, q2⟩; have R1 : Hid _ := HRD.out X1 q1 q2; have B1 : Hid (Below w.heap.size w X1) := q2; clear q1 q2)
    | (go_at_call 11; refine Calls.mono R1.out ?_; rintro e X2 ⟨L, l1, l2, rfl, q⟩; have HL1 : Hid (L.length = 2) := l1; have HL2 : Hid (L.toArray.all (·.oneCell') = true) := l2; have B2 : Hid (Below w.heap.size w X2) := B1.out.trans (q.mono B1.out.size); clear q l1 l2)
    | (refine wpList_allocP rfl rfl ?_; intro X3 q1 q2 q3; have R3 : Hid (Row X3 X2.heap.size zP 49) := q1; have B3 : Hid (Below X2.heap.size X2 X3) := q2; clear q1 q2 q3; simp only [Act.put, List.setIfInBounds_toArray, List.set_cons_zero, List.set_cons_succ])
    | (refine wpList_storeL rfl 49 (.tmp 3) (.tmp 9) rfl X2.heap.size L zP 49 rfl rfl R3.out (by rw [HL1.out]; rfl) (by rw [HL1.out]; exact info_P) HL2.out ?_; intro X4 q1 q2; have E4 : Hid (X4 = _) := q1; clear q1 q2; simp only [Act.put]))
  go_ret
  exact ⟨rfl, B2.out.trans ((by rw [E4.out]; exact below_setCells B3.out (Nat.le_refl _) _ : Below X2.heap.size X2 X4).mono B2.out.size)⟩

end Go.Proofs.Ytdlmighfmkhpkaa
