/-
  InboxShows: its walk.
-/
import Derived.Test.YtmfmdlaeflahlaaGreatDoorIbL
import Derived.Test.YtmfmdlaeflahlaaGreatDoorIbP
namespace Go.Proofs.YtmfmdlaeflahlaaGreatDoor
open Go Go.RowKit
open Sha

theorem rowv_get (rs : List Rwi) : ∀ M, M ≤ rs.length → ∀ i r, i < M → rs[i]? = some r → (rowv rs M)[i]? = some (r.ev (tmf (rs.take (i + 1))))
  | 0, _, _, _, h, _ => by omega
  | M + 1, hM, i, r, hi, hr => by
    obtain ⟨s, hs⟩ : ∃ s, rs[M]? = some s := ⟨_, List.getElem?_eq_getElem (by omega)⟩
    rw [rowv_succ rs M s hs]
    by_cases h : i < M
    · rw [List.getElem?_append_left (by rw [rowv_len rs M (by omega)]; exact h)]
      exact rowv_get rs M (by omega) i r h hr
    · obtain rfl : i = M := by omega
      rw [List.getElem?_append_right (by rw [rowv_len rs i (by omega)]; exact Nat.le_refl _), rowv_len rs i (by omega), Nat.sub_self]
      rw [hs] at hr
      obtain rfl := Option.some.inj hr
      rfl
theorem rowv_okr {w : World} {A : Option Addr} {rs : List Rwi} (h : RsAt w A rs) (M : Nat) (hM : M ≤ rs.length) (h100 : M ≤ 100) : Okr (rowv rs M) := by
  have get : ∀ i e, (rowv rs M)[i]? = some e → ∃ r, i < M ∧ rs[i]? = some r ∧ e = r.ev (tmf (rs.take (i + 1))) := fun i e he => by
    have hi : i < M := by have := (List.getElem?_eq_some_iff.1 he).1; rwa [rowv_len rs M hM] at this
    obtain ⟨r, hr⟩ : ∃ r, rs[i]? = some r := ⟨_, List.getElem?_eq_getElem (by omega)⟩
    rw [rowv_get rs M hM i r hi hr] at he
    exact ⟨r, hi, hr, (Option.some.inj he).symm⟩
  refine ⟨fun e he => ?_, fun i e he => ?_⟩
  · obtain ⟨i, hi⟩ := List.getElem?_of_mem he
    obtain ⟨r, hiM, hr, rfl⟩ := get i e hi
    have hb := tmf_bound rs (i + 1)
    have hb2 : tmf (rs.take (i + 1)) ≤ 4611686018427387904 := by have := hb.2; omega
    exact ⟨Rwi.wf (h i r hr).1 _, Rwi.may r _ hb.1 hb2⟩
  · obtain ⟨r, hiM, hr, rfl⟩ := get i e he
    rw [Rwi.tm]
    cases i with
    | zero => show ¬ _ < (0 : Int); have := (tmf_bound rs (0 + 1)).1; omega
    | succ i =>
      obtain ⟨s, hs⟩ : ∃ s, rs[i]? = some s := ⟨_, List.getElem?_eq_getElem (by omega)⟩
      have e1 : ltm (rowv rs M) (i + 1) = tmf (rs.take (i + 1)) := by
        simp only [ltm]
        rw [rowv_get rs M hM i s (by omega) hs]
        simp [Rwi.tm]
      rw [e1, tmf_succ rs (i + 1) r hr]
      have := (pk_range r.la 1000000 (by decide)).1
      omega
theorem pk_nat (c : Int) (n : Nat) : ∃ k : Nat, (k : Int) = pk c ((n : Int) + 1) ∧ k ≤ n := by
  have h := pk_range c ((n : Int) + 1) (by omega)
  exact ⟨(pk c ((n : Int) + 1)).toNat, by omega, by omega⟩
/-- What InboxShows has at hand. -/
structure Sw (w X : World) (es : List Ev) (A : Option Addr) (p : Nat) (v : Value) : Prop where
  be : Below w.heap.size w X
  ea : EsAt X A es
  bx : ∃ w0, Bx w0 X p v es
theorem Sw.keep {w X Y : World} {es : List Ev} {A : Option Addr} {p : Nat} {v : Value} (h : Sw w X es A p v) (k : Below X.heap.size X Y) : Sw w Y es A p v :=
  ⟨h.be.trans (k.mono h.be.size), h.ea.be k, by obtain ⟨w0, hb⟩ := h.bx; exact ⟨w0, hb.keep k⟩⟩
theorem dgl (es : List Ev) (i : Nat) : (vB (lk es i)).length = (vB zK).length := by rw [vB_length, vB_length, lk_len]; rfl
theorem dgi (es : List Ev) (i : Nat) : (Tryz.prog.info? 51).map (·.size) = some (vB (lk es i)).length := by rw [vB_length, lk_len]; exact info_dg
set_option maxRecDepth 100000 in
set_option maxHeartbeats 8000000 in
theorem shows_walk (rs : List Rwi) (A0 : Option Addr) (N c0 : Nat) (hN : N = rs.length) (hNb : N < 140737488355328) (pf pt po : Int) (f0 : -9223372036854775808 ≤ pf) (f1 : pf ≤ 9223372036854775807) (t0 : -9223372036854775808 ≤ pt) (t1 : pt ≤ 9223372036854775807) (o0 : -9223372036854775808 ≤ po) (o1 : po ≤ 9223372036854775807) (w : World) (hG : Given w) (h0 : RsAt w A0 rs) (LP : List Value) (hLP : LP = [.int .i64 pf, .int .i64 pt, .int .i64 po]) :
    Calls Tryz.prog 6 #[.slice A0 N c0, .agg LP.toArray] w fun r w' => r = .returned (.bool true) ∧ Below w.heap.size w w' := by
  obtain ⟨M, hM⟩ : ∃ M, M = min N 100 := ⟨_, rfl⟩
  have hM1 : M ≤ N := by omega
  have hM2 : M ≤ 100 := by omega
  obtain ⟨es, hes⟩ : ∃ es, es = rowv rs M := ⟨_, rfl⟩
  have hel : es.length = M := by rw [hes]; exact rowv_len rs M (by omega)
  have hok : Okr es := by rw [hes]; exact rowv_okr h0 M (by omega) hM2
  obtain ⟨j, hj, hjM⟩ := pk_nat pt M
  obtain ⟨i, hi, hij⟩ := pk_nat pf j
  obtain ⟨o, ho, hoM⟩ := pk_nat po M
  obtain ⟨m, hm⟩ : ∃ m, j = i + m := ⟨j - i, by omega⟩
  have HGW : Hid (∀ X, Below w.heap.size w X → Given X) := fun X k => hG.below k (Nat.le_refl _)
  have HRW : Hid (∀ X, Below w.heap.size w X → Calls Tryz.prog 23 #[.slice A0 N c0] X fun r w' => ∃ A c, r = .returned (.slice A M c) ∧ Eo X w' (.slice A M c) es) := fun X k => by
    rw [hes]
    exact row_any rs A0 N c0 M hN hM hNb X (fun z r hr => by obtain ⟨q1, q2, b, o9, A', c', q3, q4, q5⟩ := h0 z r hr; exact ⟨q1, q2, b, o9, A', c', q3, range_be q4 k, q5.be k⟩)
  have HBX : Hid (∀ X A c, Below w.heap.size w X → EsAt X A es → Calls Tryz.prog 24 #[.slice A M c] X fun r w' => ∃ p v, r = .returned (.pointer (some ⟨p, 0, none⟩)) ∧ Bx X w' p v es) := fun X A c k he => boxed_any es hok A M c hel.symm (by omega) X (HGW.out X k).cub he
  have HLE : Hid (∀ X p v A, Sw w X es A p v → Calls Tryz.prog 25 #[.pointer (some ⟨p, 0, none⟩)] X fun r w' => r = .returned (.int .i64 (M : Int)) ∧ w' = X) := fun X p v A h => by obtain ⟨w0, hb⟩ := h.bx; have := blen_any hb; rw [hel] at this; exact this
  have HLK0 : Hid (∀ X p v A z, Sw w X es A p v → z ≤ M → Calls Tryz.prog 27 #[.pointer (some ⟨p, 0, none⟩), .int .i64 (z : Int)] X fun r w' => r = .returned (.tuple #[.agg (vB (lk es z)).toArray, .int .i64 0]) ∧ Below X.heap.size X w') := fun X p v A z h hz => by obtain ⟨w0, hb⟩ := h.bx; exact link_ok hb (by omega) z (by omega)
  have HEN : Hid (∀ X p v A, Sw w X es A p v → Calls Tryz.prog 28 #[.pointer (some ⟨p, 0, none⟩), .int .i64 (i : Int), .int .i64 (j : Int)] X fun r w' => ∃ A c, r = .returned (.tuple #[.slice A m c, .int .i64 0]) ∧ Eo X w' (.slice A m c) ((es.drop i).take m)) := fun X p v A h => by obtain ⟨w0, hb⟩ := h.bx; exact entries_ok hb (by omega) i j m hm (by omega)
  have hpl : m = ((es.drop i).take m).length := by rw [List.length_take, List.length_drop]; omega
  have HAL : Hid (∀ X A1 A2 c1 c2, EsAt X A1 ((es.drop i).take m) → EsAt X A2 ((es.drop i).take m) → Calls Tryz.prog 29 #[.slice A1 m c1, .slice A2 m c2] X fun r w' => r = .returned (.bool true) ∧ Below X.heap.size X w') := fun X A1 A2 c1 c2 h1 h2 => alike_same _ (fun e he => ((hok.cut i m).ok e he).1) A1 A2 m c1 c2 hpl (by omega) X h1 h2
  have HCK0 : Hid (∀ X A c, EsAt X A ((es.drop i).take m) → Below w.heap.size w X → ∀ tt : List (BitVec 8), tt.length = 32 → ∀ E : Int, (E = if lkf (lk es i) ((es.drop i).take m) = tt then 0 else 154) → Calls Tryz.prog 17 #[.agg (vB (lk es i)).toArray, .agg (vB tt).toArray, .slice A m c] X fun r w' => r = .returned (.int .i64 E) ∧ Below X.heap.size X w') := fun X A c h1 k tt htt E hE => check_any _ (hok.cut i m) A m c hpl (by omega) (lk es i) tt (lk_len _ _) htt X (HGW.out X k).cub h1 E hE
  have HLC : Hid (lkf (lk es i) ((es.drop i).take m) = lk es j) := by rw [hm]; exact lkf_cut es i m
  have HP1 : Hid (∀ X, Calls Tryz.prog 26 #[.int .i64 pt, .int .i64 ((M : Int) + 1)] X fun e w' => e = .returned (.int .i64 (j : Int)) ∧ w' = X) := fun X => by rw [hj]; exact ipick_any pt _ (by omega) t0 t1 (by omega) X
  have HP2 : Hid (∀ X, Calls Tryz.prog 26 #[.int .i64 pf, .int .i64 ((j : Int) + 1)] X fun e w' => e = .returned (.int .i64 (i : Int)) ∧ w' = X) := fun X => by rw [hi]; exact ipick_any pf _ (by omega) f0 f1 (by omega) X
  have HP3 : Hid (∀ X, Calls Tryz.prog 26 #[.int .i64 po, .int .i64 ((M : Int) + 1)] X fun e w' => e = .returned (.int .i64 (o : Int)) ∧ w' = X) := fun X => by rw [ho]; exact ipick_any po _ (by omega) o0 o1 (by omega) X
  have HIJ : Hid (i ≤ j ∧ j ≤ M ∧ j = i + m) := ⟨hij, hjM, hm⟩
  have HEL : Hid (es.length = M) := hel
  have HC : Hid (LP[0]? = some (.int .i64 pf) ∧ LP[1]? = some (.int .i64 pt) ∧ LP[2]? = some (.int .i64 po)) := by rw [hLP]; exact ⟨rfl, rfl, rfl⟩
  have HGI : Hid (Given w) := hG
  have hiM : i ≤ M := by omega
  clear hM hes hel hok hj hi ho hpl h0 hG hLP f0 f1 t0 t1 o0 o1 hm hN hNb hM1 hij
  go_enter Tryz.func6, Tryz.ntmps6
  go_upto_region 1 with (refine wpList_boxG 66 rfl (.tmp 1) rfl LP rfl ?_; intro X0 q1 q2 q3; have R0 : Hid (Row X0 w.heap.size LP 66) := q1; have B0 : Hid (Below w.heap.size w X0) := q2; clear q1 q2 q3; simp only [Act.put, List.setIfInBounds_toArray, List.set_cons_zero, List.set_cons_succ])
  obtain ⟨bp, hbp⟩ : ∃ b, b = w.heap.size := ⟨_, rfl⟩
  rw [← hbp] at R0 ⊢
  clear hbp
  go_upto_region 3 with (go_at_call 9; refine Calls.mono (iknown_any X0 (HGW.out X0 B0.out)) ?_; rintro e1 X1 ⟨rfl, q⟩; have B1 : Hid (Below w.heap.size w X1) := B0.out.trans (q.mono B0.out.size); have R1 : Hid (Row X1 bp LP 66) := Row.below R0.out q R0.out.lt; clear q)
  clear R0 B0
  go_upto_region 4 with (go_at_call 23; refine Calls.mono (HRW.out X1 B1.out) ?_; rintro e2 X2 ⟨A, c, rfl, q⟩; have E2 : Hid (EsAt X2 A es) := q.at; have B2 : Hid (Below w.heap.size w X2) := B1.out.trans (q.be.mono B1.out.size); have R2 : Hid (Row X2 bp LP 66) := Row.below R1.out q.be R1.out.lt; have HCP : Hid (M ≤ c) := (by obtain ⟨cs, h1, _⟩ := q.own; obtain ⟨A9, c9, e9, h9, _⟩ := Lw.form h1; simp only [Value.slice.injEq] at e9; obtain ⟨_, _, rfl⟩ := e9; rw [HEL.out] at h9; exact h9); clear q)
  clear R1 B1 HRW
  go_upto_region 5 with (go_at_call 24; refine Calls.mono (HBX.out X2 A c B2.out E2.out) ?_; rintro e3 X3 ⟨p, v, rfl, q⟩; have S3 : Hid (Sw w X3 es A p v) := ⟨B2.out.trans (q.be.mono B2.out.size), E2.out.be q.be, ⟨X2, q⟩⟩; have R3 : Hid (Row X3 bp LP 66) := Row.below R2.out q.be R2.out.lt; clear q)
  clear R2 B2 E2 HBX
  have HLK : Hid (∀ X z, Sw w X es A p v → z ≤ M → Calls Tryz.prog 27 #[.pointer (some ⟨p, 0, none⟩), .int .i64 (z : Int)] X fun r w' => r = .returned (.tuple #[.agg (vB (lk es z)).toArray, .int .i64 0]) ∧ Below X.heap.size X w') := fun X z h hz => HLK0.out X p v A z h hz
  have cp0 := R3.out.cell 0 _ HC.out.1
  have cp1 := R3.out.cell 1 _ HC.out.2.1
  have cp2 := R3.out.cell 2 _ HC.out.2.2
  clear HLK0
  go_upto_region 7 with (go_at_call 25; refine Calls.mono (HLE.out X3 p v A S3.out) ?_; rintro e4 X ⟨rfl, hq⟩; obtain rfl := hq.symm)
  go_upto_region 8 with (go_at_call 26; refine Calls.mono (HP1.out X3) ?_; rintro e4 X ⟨rfl, hq⟩; obtain rfl := hq.symm)
  go_upto_region 9 with (go_at_call 26; refine Calls.mono (HP2.out X3) ?_; rintro e4 X ⟨rfl, hq⟩; obtain rfl := hq.symm)
  go_upto_region 10 with (go_at_call 26; refine Calls.mono (HP3.out X3) ?_; rintro e4 X ⟨rfl, hq⟩; obtain rfl := hq.symm)
  clear cp0 cp1 cp2 R3 HP1 HP2 HP3 HC HLE
  go_upto_region 11 with (first
    | (go_at_call 27; refine Calls.mono (HLK.out X3 i S3.out (by omega)) ?_; rintro e9 X4a ⟨rfl, q2⟩; have BX4a : Hid (Below X3.heap.size X3 X4a) := q2; clear q2)
    | (refine wpList_allocD rfl rfl ?_; intro X4b q1 q2; have ZX4b : Hid (Row X4b X4a.heap.size (vB zK) 51) := q1; have BX4b : Hid (Below X4a.heap.size X4a X4b) := q2; clear q1 q2; simp only [Act.put, List.setIfInBounds_toArray, List.set_cons_zero, List.set_cons_succ])
    | (refine wpList_storeL rfl 51 (.tmp 10) (.tmp 56) rfl X4a.heap.size (vB (lk es i)) (vB zK) 51 rfl rfl ZX4b.out (dgl es i) (dgi es i) (all_oneCell_toArray (vB_one _)) ?_; intro X4 q1 q2; have DX4 : Hid (Row X4 X4a.heap.size (vB (lk es i)) 51) := q2; have BX4 : Hid (Below X4a.heap.size X4a X4) := (by rw [q1]; exact below_setCells BX4b.out (Nat.le_refl _) _); clear q1 q2; simp only [Act.put]))
  have CX4 : Hid (Below X3.heap.size X3 X4) := BX4a.out.trans (BX4.out.mono BX4a.out.size)
  have S4 : Hid (Sw w X4 es A p v) := S3.out.keep CX4.out
  obtain ⟨bI, hbI⟩ : ∃ b, b = X4a.heap.size := ⟨_, rfl⟩
  rw [← hbI] at DX4 ⊢
  clear hbI BX4a BX4b BX4 ZX4b S3
  have DI4 : Hid (Row X4 bI (vB (lk es i)) 51) := DX4
  clear DX4
  go_upto_region 12 with (first
    | (go_at_call 27; refine Calls.mono (HLK.out X4 j S4.out (by omega)) ?_; rintro e9 X5a ⟨rfl, q2⟩; have BX5a : Hid (Below X4.heap.size X4 X5a) := q2; clear q2)
    | (refine wpList_allocD rfl rfl ?_; intro X5b q1 q2; have ZX5b : Hid (Row X5b X5a.heap.size (vB zK) 51) := q1; have BX5b : Hid (Below X5a.heap.size X5a X5b) := q2; clear q1 q2; simp only [Act.put, List.setIfInBounds_toArray, List.set_cons_zero, List.set_cons_succ])
    | (refine wpList_storeL rfl 51 (.tmp 12) (.tmp 62) rfl X5a.heap.size (vB (lk es j)) (vB zK) 51 rfl rfl ZX5b.out (dgl es j) (dgi es j) (all_oneCell_toArray (vB_one _)) ?_; intro X5 q1 q2; have DX5 : Hid (Row X5 X5a.heap.size (vB (lk es j)) 51) := q2; have BX5 : Hid (Below X5a.heap.size X5a X5) := (by rw [q1]; exact below_setCells BX5b.out (Nat.le_refl _) _); clear q1 q2; simp only [Act.put]))
  have CX5 : Hid (Below X4.heap.size X4 X5) := BX5a.out.trans (BX5.out.mono BX5a.out.size)
  have S5 : Hid (Sw w X5 es A p v) := S4.out.keep CX5.out
  obtain ⟨bJ, hbJ⟩ : ∃ b, b = X5a.heap.size := ⟨_, rfl⟩
  rw [← hbJ] at DX5 ⊢
  clear hbJ BX5a BX5b BX5 ZX5b S4
  have DI5 : Hid (Row X5 bI (vB (lk es i)) 51) := Row.below DI4.out CX5.out DI4.out.lt
  have DJ5 : Hid (Row X5 bJ (vB (lk es j)) 51) := DX5
  clear DX5 DI4 CX5 CX4
  go_upto_region 13 with (first
    | (go_at_call 27; refine Calls.mono (HLK.out X5 o S5.out (by omega)) ?_; rintro e9 X6a ⟨rfl, q2⟩; have BX6a : Hid (Below X5.heap.size X5 X6a) := q2; clear q2)
    | (refine wpList_allocD rfl rfl ?_; intro X6b q1 q2; have ZX6b : Hid (Row X6b X6a.heap.size (vB zK) 51) := q1; have BX6b : Hid (Below X6a.heap.size X6a X6b) := q2; clear q1 q2; simp only [Act.put, List.setIfInBounds_toArray, List.set_cons_zero, List.set_cons_succ])
    | (refine wpList_storeL rfl 51 (.tmp 14) (.tmp 68) rfl X6a.heap.size (vB (lk es o)) (vB zK) 51 rfl rfl ZX6b.out (dgl es o) (dgi es o) (all_oneCell_toArray (vB_one _)) ?_; intro X6 q1 q2; have DX6 : Hid (Row X6 X6a.heap.size (vB (lk es o)) 51) := q2; have BX6 : Hid (Below X6a.heap.size X6a X6) := (by rw [q1]; exact below_setCells BX6b.out (Nat.le_refl _) _); clear q1 q2; simp only [Act.put]))
  have CX6 : Hid (Below X5.heap.size X5 X6) := BX6a.out.trans (BX6.out.mono BX6a.out.size)
  have S6 : Hid (Sw w X6 es A p v) := S5.out.keep CX6.out
  obtain ⟨bO, hbO⟩ : ∃ b, b = X6a.heap.size := ⟨_, rfl⟩
  rw [← hbO] at DX6 ⊢
  clear hbO BX6a BX6b BX6 ZX6b S5
  have DI6 : Hid (Row X6 bI (vB (lk es i)) 51) := Row.below DI5.out CX6.out DI5.out.lt
  have DJ6 : Hid (Row X6 bJ (vB (lk es j)) 51) := Row.below DJ5.out CX6.out DJ5.out.lt
  have DO6 : Hid (Row X6 bO (vB (lk es o)) 51) := DX6
  clear DX6 DI5 DJ5 CX6 HLK
  go_upto_region 14 with (go_at_call 28; refine Calls.mono (HEN.out X6 p v A S6.out) ?_; rintro e5 X7 ⟨A5, c5, rfl, q⟩; have P7 : Hid (EsAt X7 A5 ((es.drop i).take m)) := q.at; have C7 : Hid (Below X6.heap.size X6 X7) := q.be; clear q)
  have S7 : Hid (Sw w X7 es A p v) := S6.out.keep C7.out
  have DI7 : Hid (Row X7 bI (vB (lk es i)) 51) := Row.below DI6.out C7.out DI6.out.lt
  have DJ7 : Hid (Row X7 bJ (vB (lk es j)) 51) := Row.below DJ6.out C7.out DJ6.out.lt
  have DO7 : Hid (Row X7 bO (vB (lk es o)) 51) := Row.below DO6.out C7.out DO6.out.lt
  obtain ⟨A2, hA2⟩ : ∃ A2, A2 = cutA A c i 49 := ⟨_, rfl⟩
  have HA2 : Hid (A2 = cutA A c i 49) := hA2
  have Q7 : Hid (EsAt X7 A2 ((es.drop i).take m)) := by rw [hA2]; exact S7.out.ea.cut c i m (by rw [HEL.out]; exact HCP.out) (by have := HIJ.out; have := HEL.out; omega)
  clear S6 DI6 DJ6 DO6 C7 hA2 HEN
  have HCK : Hid (∀ X, EsAt X A5 ((es.drop i).take m) → Below w.heap.size w X → ∀ tt : List (BitVec 8), tt.length = 32 → ∀ E : Int, (E = if lkf (lk es i) ((es.drop i).take m) = tt then 0 else 154) → Calls Tryz.prog 17 #[.agg (vB (lk es i)).toArray, .agg (vB tt).toArray, .slice A5 m c5] X fun r w' => r = .returned (.int .i64 E) ∧ Below X.heap.size X w') := fun X h k => HCK0.out X A5 c5 h k
  clear HCK0
  go_upto_region 17 with (first
    | (refine wpList_slice_ij rfl 52 46 (.tmp 93) (.tmp 94) (.tmp 95) A M c i j 49 rfl rfl rfl rfl HIJ.out.1 (by have := HIJ.out; have := HCP.out; omega) Tryz.underlying52 info_ent A2 HA2.out m HIJ.out.2.2 ?_; simp only [Act.put, List.setIfInBounds_toArray, List.set_cons_zero, List.set_cons_succ])
    | (go_at_call 29; refine Calls.mono (HAL.out X7 A5 A2 _ _ P7.out Q7.out) ?_; rintro e6 X8 ⟨rfl, q⟩; have C8 : Hid (Below X7.heap.size X7 X8) := q; clear q))
  have S8 : Hid (Sw w X8 es A p v) := S7.out.keep C8.out
  have DI : Hid (Row X8 bI (vB (lk es i)) 51) := Row.below DI7.out C8.out DI7.out.lt
  have DJ : Hid (Row X8 bJ (vB (lk es j)) 51) := Row.below DJ7.out C8.out DJ7.out.lt
  have DO : Hid (Row X8 bO (vB (lk es o)) 51) := Row.below DO7.out C8.out DO7.out.lt
  have PE : Hid (EsAt X8 A5 ((es.drop i).take m)) := P7.out.be C8.out
  clear S7 DI7 DJ7 DO7 P7 Q7 C8 HAL HA2 HCP
  by_cases hoj : lk es o = lk es j
  · have HOJ : Hid (decide (lk es o = lk es j) = true) := decide_eq_true hoj
    have HE2 : Hid ((if lk es j = lk es o then (0 : Int) else 154) = 0) := by show _ = _; rw [if_pos hoj.symm]
    clear hoj
    go_upto_region 19 with (first
      | (refine wpList_load_w rfl 51 (.tmp 14) rfl bO (0) rfl (vB (lk es o)) _ DO.out.all Tryz.underlying51 rfl (dgi es o) ?_; simp only [Act.put, List.setIfInBounds_toArray, List.set_cons_zero, List.set_cons_succ])
      | (refine wpList_load_w rfl 51 (.tmp 12) rfl bJ (0) rfl (vB (lk es j)) _ DJ.out.all Tryz.underlying51 rfl (dgi es j) ?_; simp only [Act.put, List.setIfInBounds_toArray, List.set_cons_zero, List.set_cons_succ])
      | (refine wpList_eql_b rfl 51 (.tmp 100) (.tmp 101) _ rfl 5 32 (lk es o) (lk es j) rfl rfl Tryz.underlying51 Tryz.underlying5 info_u8 (lk_len _ _) (lk_len _ _) guardDE true HOJ.out ?_; simp only [Act.put, List.setIfInBounds_toArray, List.set_cons_zero, List.set_cons_succ]))
    go_upto_region 20 with (first
      | (refine wpList_load_w rfl 51 (.tmp 10) rfl bI (0) rfl (vB (lk es i)) _ DI.out.all Tryz.underlying51 rfl (dgi es i) ?_; simp only [Act.put, List.setIfInBounds_toArray, List.set_cons_zero, List.set_cons_succ])
      | (refine wpList_load_w rfl 51 (.tmp 12) rfl bJ (0) rfl (vB (lk es j)) _ DJ.out.all Tryz.underlying51 rfl (dgi es j) ?_; simp only [Act.put, List.setIfInBounds_toArray, List.set_cons_zero, List.set_cons_succ])
      | (go_at_call 17; refine Calls.mono (HCK.out X8 PE.out S8.out.be (lk es j) (lk_len _ _) 0 (by rw [HLC.out, if_pos rfl])) ?_; rintro e9 X9 ⟨rfl, q⟩; have B9 : Hid (Below X8.heap.size X8 X9) := q; clear q))
    have S9 : Hid (Sw w X9 es A p v) := S8.out.keep B9.out
    have DI9 : Hid (Row X9 bI (vB (lk es i)) 51) := Row.below DI.out B9.out DI.out.lt
    have DO9 : Hid (Row X9 bO (vB (lk es o)) 51) := Row.below DO.out B9.out DO.out.lt
    have PE9 : Hid (EsAt X9 A5 ((es.drop i).take m)) := PE.out.be B9.out
    clear DI DJ DO PE S8 B9
    go_wp2_with (first
      | (refine wpList_load_w rfl 51 (.tmp 10) rfl bI (0) rfl (vB (lk es i)) _ DI9.out.all Tryz.underlying51 rfl (dgi es i) ?_; simp only [Act.put, List.setIfInBounds_toArray, List.set_cons_zero, List.set_cons_succ])
      | (refine wpList_load_w rfl 51 (.tmp 14) rfl bO (0) rfl (vB (lk es o)) _ DO9.out.all Tryz.underlying51 rfl (dgi es o) ?_; simp only [Act.put, List.setIfInBounds_toArray, List.set_cons_zero, List.set_cons_succ])
      | (go_at_call 17; refine Calls.mono (HCK.out X9 PE9.out S9.out.be (lk es o) (lk_len _ _) 0 (by rw [HLC.out]; exact HE2.out.symm)) ?_; rintro e10 X10 ⟨rfl, q⟩; have B10 : Hid (Below w.heap.size w X10) := S9.out.be.trans (q.mono S9.out.be.size); clear q))
    go_ret
    exact ⟨rfl, B10.out⟩
  · have HOJ : Hid (decide (lk es o = lk es j) = false) := decide_eq_false hoj
    have HE2 : Hid ((if lk es j = lk es o then (0 : Int) else 154) = 154) := by show _ = _; rw [if_neg (fun h => hoj h.symm)]
    clear hoj
    go_upto_region 19 with (first
      | (refine wpList_load_w rfl 51 (.tmp 14) rfl bO (0) rfl (vB (lk es o)) _ DO.out.all Tryz.underlying51 rfl (dgi es o) ?_; simp only [Act.put, List.setIfInBounds_toArray, List.set_cons_zero, List.set_cons_succ])
      | (refine wpList_load_w rfl 51 (.tmp 12) rfl bJ (0) rfl (vB (lk es j)) _ DJ.out.all Tryz.underlying51 rfl (dgi es j) ?_; simp only [Act.put, List.setIfInBounds_toArray, List.set_cons_zero, List.set_cons_succ])
      | (refine wpList_eql_b rfl 51 (.tmp 100) (.tmp 101) _ rfl 5 32 (lk es o) (lk es j) rfl rfl Tryz.underlying51 Tryz.underlying5 info_u8 (lk_len _ _) (lk_len _ _) guardDE false HOJ.out ?_; simp only [Act.put, List.setIfInBounds_toArray, List.set_cons_zero, List.set_cons_succ]))
    go_upto_region 20 with (first
      | (refine wpList_load_w rfl 51 (.tmp 10) rfl bI (0) rfl (vB (lk es i)) _ DI.out.all Tryz.underlying51 rfl (dgi es i) ?_; simp only [Act.put, List.setIfInBounds_toArray, List.set_cons_zero, List.set_cons_succ])
      | (refine wpList_load_w rfl 51 (.tmp 12) rfl bJ (0) rfl (vB (lk es j)) _ DJ.out.all Tryz.underlying51 rfl (dgi es j) ?_; simp only [Act.put, List.setIfInBounds_toArray, List.set_cons_zero, List.set_cons_succ])
      | (go_at_call 17; refine Calls.mono (HCK.out X8 PE.out S8.out.be (lk es j) (lk_len _ _) 0 (by rw [HLC.out, if_pos rfl])) ?_; rintro e9 X9 ⟨rfl, q⟩; have B9 : Hid (Below X8.heap.size X8 X9) := q; clear q))
    have S9 : Hid (Sw w X9 es A p v) := S8.out.keep B9.out
    have DI9 : Hid (Row X9 bI (vB (lk es i)) 51) := Row.below DI.out B9.out DI.out.lt
    have DO9 : Hid (Row X9 bO (vB (lk es o)) 51) := Row.below DO.out B9.out DO.out.lt
    have PE9 : Hid (EsAt X9 A5 ((es.drop i).take m)) := PE.out.be B9.out
    clear DI DJ DO PE S8 B9
    go_wp2_with (first
      | (refine wpList_load_w rfl 51 (.tmp 10) rfl bI (0) rfl (vB (lk es i)) _ DI9.out.all Tryz.underlying51 rfl (dgi es i) ?_; simp only [Act.put, List.setIfInBounds_toArray, List.set_cons_zero, List.set_cons_succ])
      | (refine wpList_load_w rfl 51 (.tmp 14) rfl bO (0) rfl (vB (lk es o)) _ DO9.out.all Tryz.underlying51 rfl (dgi es o) ?_; simp only [Act.put, List.setIfInBounds_toArray, List.set_cons_zero, List.set_cons_succ])
      | (go_at_call 17; refine Calls.mono (HCK.out X9 PE9.out S9.out.be (lk es o) (lk_len _ _) 154 (by rw [HLC.out]; exact HE2.out.symm)) ?_; rintro e10 X10 ⟨rfl, q⟩; have B10 : Hid (Below w.heap.size w X10) := S9.out.be.trans (q.mono S9.out.be.size); clear q))
    go_ret
    exact ⟨rfl, B10.out⟩

end Go.Proofs.YtmfmdlaeflahlaaGreatDoor
