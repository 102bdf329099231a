/-
  InboxRefuses: its walk.
-/
import Derived.Test.YtmfmdlaeflahlaaGreatDoorIbX
import Derived.Test.YtmfmdlaeflahlaaGreatDoorIbQ
namespace Go.Proofs.YtmfmdlaeflahlaaGreatDoor
open Go Go.RowKit
open Sha

/-- A list of entries of one's own whose bodies are another's. -/
structure Yo (w0 w : World) (v : Value) (es : List Ev) : Prop where
  own : ∃ cs, Lw w 46 49 v es.length cs ∧ ∀ (i : Nat) (e : Ev), es[i]? = some e → ∃ A c, (∀ j u, (e.cells (.slice A e.d.length c))[j]? = some u → cs[i * 49 + j]? = some u) ∧ SlAt w0 (.slice A e.d.length c) e.d ∧ (A = none → c = 0)
  v0 : ∀ g, v.ownBlock = some g → w0.heap.size ≤ g
  be : Below w0.heap.size w0 w
theorem Yo.keep {w0 w w' : World} {v : Value} {es : List Ev} (h : Yo w0 w v es) (k : Below w.heap.size w w') : Yo w0 w' v es := by
  obtain ⟨cs, h1, h2⟩ := h.own
  exact ⟨⟨cs, Lw.be h1 k, h2⟩, h.v0, h.be.trans (k.mono h.be.size)⟩
theorem Yo.nil {w0 w : World} (h : Below w0.heap.size w0 w) : Yo w0 w (.slice none 0 0) [] := ⟨⟨[], Lw.nil _ _ _, fun i e h => by simp at h⟩, (fun g e => by cases e), h⟩
theorem Yo.at {w0 w : World} {A : Option Addr} {n cap : Nat} {es : List Ev} (h : Yo w0 w (.slice A n cap) es) : EsAt w A es := fun i e he => by
  obtain ⟨cs, h1, h2⟩ := h.own
  obtain ⟨A', c, q1, q2, q3⟩ := h2 i e he
  obtain ⟨g, cap', hv, _⟩ := Lw.open h1 (by have := (List.getElem?_eq_some_iff.1 he).1; omega)
  simp only [Value.slice.injEq] at hv
  obtain ⟨rfl, rfl, rfl⟩ := hv
  exact ⟨g, 0, A', c, rfl, fun j u hj => by have := Lw.range h1 (i * 49 + j) u (q1 j u hj); rw [Nat.zero_add] at this ⊢; exact this, q2.be h.be, q3⟩
/-- One more entry. -/
theorem Yo.grow {w0 w w' : World} {N c : Nat} {v v' : Value} {es : List Ev} {e : Ev} {A : Option Addr} {cs L : List Value} (h : Yo w0 w v es) (hl : Lw w 46 49 v es.length cs)
    (hc : ∀ (i : Nat) (e : Ev), es[i]? = some e → ∃ A c, (∀ j u, (e.cells (.slice A e.d.length c))[j]? = some u → cs[i * 49 + j]? = some u) ∧ SlAt w0 (.slice A e.d.length c) e.d ∧ (A = none → c = 0)) (hN : N = es.length)
    (hb : SlAt w0 (.slice A e.d.length c) e.d) (hnil : A = none → c = 0) (hL : L = e.cells (.slice A e.d.length c)) (p1 : Lw w' 46 49 v' (N + 1) (cs ++ L)) (p2 : w.grownBy w' v.ownBlock) (p3 : v'.ownBlock = v.ownBlock ∨ v'.ownBlock = some w.heap.size) : Yo w0 w' v' (es ++ [e]) := by
  subst hN hL
  have hcl : cs.length = es.length * 49 := Lw.len hl
  refine ⟨⟨_, by rw [List.length_append, List.length_singleton]; exact p1, fun i e' he => ?_⟩, fun g eg => ?_, below_gb h.be p2 h.v0⟩
  · by_cases hi : i < es.length
    · rw [List.getElem?_append_left hi] at he
      obtain ⟨A1, c1, q1, q2, q3⟩ := hc i e' he
      refine ⟨A1, c1, fun j u hj => ?_, q2, q3⟩
      have := q1 j u hj
      rw [List.getElem?_append_left ((List.getElem?_eq_some_iff.1 this).1)]
      exact this
    · have hi2 : i = es.length := by
        have := (List.getElem?_eq_some_iff.1 he).1
        rw [List.length_append, List.length_singleton] at this
        omega
      subst hi2
      rw [List.getElem?_append_right (Nat.le_refl _), Nat.sub_self] at he
      obtain rfl : e = e' := by simpa using he
      refine ⟨A, c, fun j u hj => ?_, hb, hnil⟩
      rw [List.getElem?_append_right (by omega), hcl, Nat.add_sub_cancel_left]
      exact hj
  · rcases p3 with q | q
    · exact h.v0 g (by rw [← q]; exact eg)
    · rw [q] at eg; cases eg; exact h.be.size
set_option maxRecDepth 100000 in
set_option maxHeartbeats 8000000 in
theorem refuses_walk (rs : List Rwi) (A0 : Option Addr) (N c0 : Nat) (hN : N = rs.length) (hNb : N < 140737488355328) (e : Ev) (hw : e.Wf) (Ae : Option Addr) (n cap : Nat) (hn : e.d.length = n) (hnil : Ae = none → cap = 0) (L : List Value) (hL : L = e.cells (.slice Ae n cap)) (w : World) (hG : Given w) (h0 : RsAt w A0 rs) (hS : SlAt w (.slice Ae n cap) e.d) :
    Calls Tryz.prog 8 #[.slice A0 N c0, .agg L.toArray] w fun r w' => r = .returned (.bool true) ∧ Below w.heap.size w w' := by
  obtain ⟨M, hM⟩ : ∃ M, M = min N 100 := ⟨_, rfl⟩
  have hM2 : M ≤ 100 := by omega
  obtain ⟨es, hes⟩ : ∃ es, es = rowv rs M := ⟨_, rfl⟩
  have hel : es.length = M := by rw [hes]; exact rowv_len rs M (by omega)
  have hok : Okr es := by rw [hes]; exact rowv_okr h0 M (by omega) hM2
  have HOK : Hid (Okr es) := hok
  have HGW : Hid (∀ X, Below w.heap.size w X → Given X) := fun X k => hG.below k (Nat.le_refl _)
  have HRW : Hid (∀ X, Below w.heap.size w X → Calls Tryz.prog 23 #[.slice A0 N c0] X fun r w' => ∃ A c, r = .returned (.slice A M c) ∧ Eo X w' (.slice A M c) es) := fun X k => by
    rw [hes]
    exact row_any rs A0 N c0 M hN hM hNb X (fun z r hr => by obtain ⟨q1, q2, b, o9, A', c', q3, q4, q5⟩ := h0 z r hr; exact ⟨q1, q2, b, o9, A', c', q3, range_be q4 k, q5.be k⟩)
  have HBX : Hid (∀ X A c, Below w.heap.size w X → EsAt X A es → Calls Tryz.prog 24 #[.slice A M c] X fun r w' => ∃ p v, r = .returned (.pointer (some ⟨p, 0, none⟩)) ∧ Bx X w' p v es) := fun X A c k he => boxed_any es hok A M c hel.symm (by omega) X (HGW.out X k).cub he
  obtain ⟨dg, hdg⟩ : ∃ d, d = lk es M := ⟨_, rfl⟩
  have HDG : Hid (dg.length = 32) := by rw [hdg]; exact lk_len _ _
  have HDL : Hid ((vB dg).length = (vB zK).length) := by rw [hdg]; exact dgl _ _
  have HDI : Hid ((Tryz.prog.info? 51).map (·.size) = some (vB dg).length) := by rw [hdg]; exact dgi _ _
  have HLN0 : Hid (∀ X p v A, Sw w X es A p v → Calls Tryz.prog 25 #[.pointer (some ⟨p, 0, none⟩)] X fun r w' => r = .returned (.int .i64 (M : Int)) ∧ w' = X) := fun X p v A h => by obtain ⟨w0, hb⟩ := h.bx; have := blen_any hb; rw [hel] at this; exact this
  have HLK0 : Hid (∀ X p v A, Sw w X es A p v → Calls Tryz.prog 27 #[.pointer (some ⟨p, 0, none⟩), .int .i64 (M : Int)] X fun r w' => r = .returned (.tuple #[.agg (vB dg).toArray, .int .i64 0]) ∧ Below X.heap.size X w') := fun X p v A h => by obtain ⟨w0, hb⟩ := h.bx; rw [hdg]; exact link_ok hb (by omega) M (by omega)
  obtain ⟨ze, hze⟩ : ∃ z, z = zE := ⟨_, rfl⟩
  have HZE : Hid (ze = zE) := hze
  have HZI : Hid ((Tryz.prog.info? 46).map (·.size) = some ze.length) := by rw [hze]; exact info_ent
  have HZO : Hid (ze.toArray.all (·.oneCell') = true) := by rw [hze]; exact all_oneCell_toArray zE_one
  obtain ⟨zk, hzk⟩ : ∃ z, z = zK := ⟨_, rfl⟩
  have HZK : Hid (zk = zK) := hzk
  have HEN0 : Hid (∀ X p v A, Sw w X es A p v → Calls Tryz.prog 34 #[.pointer (some ⟨p, 0, none⟩), .int .i64 (M : Int)] X fun r w' => r = .returned (.tuple #[.agg ze.toArray, .int .i64 151]) ∧ Below X.heap.size X w') := fun X p v A h => by obtain ⟨w0, hb⟩ := h.bx; rw [hze]; exact entry_no hb (by omega) _ (.inr (by omega))
  have HEL : Hid (es.length = M) := hel
  have HWF : Hid e.Wf := hw
  have HNE : Hid (e.d.length = n) := hn
  have HNI : Hid (Ae = none → cap = 0) := hnil
  have HLE : Hid (L = e.cells (.slice Ae n cap)) := hL
  have HSL : Hid (SlAt w (.slice Ae n cap) e.d) := hS
  have HI : Hid ((Tryz.prog.info? 46).map (·.size) = some L.length) := by rw [hL]; exact Ev.info hw _
  have HLL : Hid (L.length = 49) := by rw [hL]; exact Ev.len hw _
  have HLO : Hid (∀ u ∈ L, u.oneCell' = true) := by rw [hL]; exact Ev.one e _ _ _
  obtain ⟨tm, htm⟩ : ∃ t, t = e.tm := ⟨_, rfl⟩
  have HTM : Hid (tm = e.tm) := htm
  have HLT : Hid (L[21]? = some (.int .i64 tm)) := by rw [hL, htm]; exact Ev.time hw _
  have HRCN : Hid (¬ e.May → ∀ X, Calls Tryz.prog 32 #[.agg L.toArray] X fun r w' => r = .returned (.int .i64 63) ∧ Below X.heap.size X w') := fun h X => rcheck_no e hw h Ae n cap hn L hL X
  have HRCY : Hid (e.May → ∀ X, Calls Tryz.prog 32 #[.agg L.toArray] X fun r w' => r = .returned (.int .i64 0) ∧ Below X.heap.size X w') := fun h X => rcheck_ok e hw h Ae n cap hn L hL X
  clear hM hes hel hok h0 hG hL hw hn hnil hS hN hNb hdg hze hzk htm
  go_enter Tryz.func8, Tryz.ntmps8
  go_upto_region 1 with (refine wpList_boxG 46 rfl (.tmp 1) rfl L rfl ?_; intro X0 q1 q2 q3; have R0 : Hid (Row X0 w.heap.size L 46) := q1; have B0 : Hid (Below w.heap.size w X0) := q2; clear q1 q2 q3; simp only [Act.put, List.setIfInBounds_toArray, List.set_cons_zero, List.set_cons_succ])
  obtain ⟨be, hbe⟩ : ∃ b, b = w.heap.size := ⟨_, rfl⟩
  rw [← hbe] at R0 ⊢
  clear hbe
  go_upto_region 3 with (go_at_call 9; refine Calls.mono (iknown_any X0 (HGW.out X0 B0.out)) ?_; rintro e1 X1 ⟨rfl, q⟩; have B1 : Hid (Below w.heap.size w X1) := B0.out.trans (q.mono B0.out.size); have R1 : Hid (Row X1 be L 46) := Row.below R0.out q R0.out.lt; clear q)
  clear R0 B0
  go_upto_region 4 with (go_at_call 23; refine Calls.mono (HRW.out X1 B1.out) ?_; rintro e2 X2 ⟨A, c, rfl, q⟩; have E2 : Hid (EsAt X2 A es) := q.at; have B2 : Hid (Below w.heap.size w X2) := B1.out.trans (q.be.mono B1.out.size); have R2 : Hid (Row X2 be L 46) := Row.below R1.out q.be R1.out.lt; clear q)
  clear R1 B1 HRW
  go_upto_region 5 with (go_at_call 24; refine Calls.mono (HBX.out X2 A c B2.out E2.out) ?_; rintro e3 X3 ⟨p, v, rfl, q⟩; have S3 : Hid (Sw w X3 es A p v) := ⟨B2.out.trans (q.be.mono B2.out.size), E2.out.be q.be, ⟨X2, q⟩⟩; have R3 : Hid (Row X3 be L 46) := Row.below R2.out q.be R2.out.lt; clear q)
  clear R2 B2 E2 HBX
  have HLK : Hid (∀ X, Sw w X es A p v → Calls Tryz.prog 27 #[.pointer (some ⟨p, 0, none⟩), .int .i64 (M : Int)] X fun r w' => r = .returned (.tuple #[.agg (vB dg).toArray, .int .i64 0]) ∧ Below X.heap.size X w') := fun X h => HLK0.out X p v A h
  have HLN : Hid (∀ X, Sw w X es A p v → Calls Tryz.prog 25 #[.pointer (some ⟨p, 0, none⟩)] X fun r w' => r = .returned (.int .i64 (M : Int)) ∧ w' = X) := fun X h => HLN0.out X p v A h
  have HEN : Hid (∀ X, Sw w X es A p v → Calls Tryz.prog 34 #[.pointer (some ⟨p, 0, none⟩), .int .i64 (M : Int)] X fun r w' => r = .returned (.tuple #[.agg ze.toArray, .int .i64 151]) ∧ Below X.heap.size X w') := fun X h => HEN0.out X p v A h
  clear HLK0 HLN0 HEN0
  go_upto_region 7 with fail
  go_upto_region 8 with (first
    | (go_at_call 27; refine Calls.mono (HLK.out X3 S3.out) ?_; rintro e9 X4a ⟨rfl, q2⟩; have BX4a : Hid (Below X3.heap.size X3 X4a) := q2; clear q2)
    | (refine wpList_allocD rfl rfl ?_; intro X4b q1 q2; have ZX4b : Hid (Row X4b X4a.heap.size (vB zK) 51) := q1; have BX4b : Hid (Below X4a.heap.size X4a X4b) := q2; clear q1 q2; simp only [Act.put, List.setIfInBounds_toArray, List.set_cons_zero, List.set_cons_succ])
    | (refine wpList_storeL rfl 51 (.tmp 7) (.tmp 34) rfl X4a.heap.size (vB dg) (vB zK) 51 rfl rfl ZX4b.out HDL.out HDI.out (all_oneCell_toArray (vB_one _)) ?_; intro X4 q1 q2; have DX4 : Hid (Row X4 X4a.heap.size (vB dg) 51) := q2; have BX4 : Hid (Below X4a.heap.size X4a X4) := (by rw [q1]; exact below_setCells BX4b.out (Nat.le_refl _) _); clear q1 q2; simp only [Act.put]))
  have CX4 : Hid (Below X3.heap.size X3 X4) := BX4a.out.trans (BX4.out.mono BX4a.out.size)
  have S4 : Hid (Sw w X4 es A p v) := S3.out.keep CX4.out
  obtain ⟨bB, hbB⟩ : ∃ b, b = X4a.heap.size := ⟨_, rfl⟩
  rw [← hbB] at DX4 ⊢
  clear hbB BX4a BX4b BX4 ZX4b S3
  have R4 : Hid (Row X4 be L 46) := Row.below R3.out CX4.out R3.out.lt
  have D4 : Hid (Row X4 bB (vB dg) 51) := DX4
  clear DX4 CX4 R3
  by_cases hmay : e.May
  · have HMY : Hid e.May := hmay
    clear hmay
    go_upto_region 9 with (first
      | (refine wpList_load_w (by rfl) 46 (.tmp 3) rfl be (0) rfl (L) _ R4.out.all Tryz.underlying46 rfl HI.out ?_; simp only [Act.put, List.setIfInBounds_toArray, List.set_cons_zero, List.set_cons_succ])
      | (go_at_call 32; refine Calls.mono (HRCY.out HMY.out X4) ?_; rintro e5 X5 ⟨rfl, q⟩; have S5 : Hid (Sw w X5 es A p v) := S4.out.keep q; have R5 : Hid (Row X5 be L 46) := Row.below R4.out q R4.out.lt; have D5 : Hid (Row X5 bB (vB dg) 51) := Row.below D4.out q D4.out.lt; clear q))
    clear S4 R4 D4
    have ct := R5.out.cell 21 _ HLT.out
    by_cases hM0 : M = 0
    · have hM3 : ¬ ((0 : Int) < (M : Int)) := by omega
      have hM4 : ¬ 0 < M := by omega
      have hM5 : decide (0 < M) = false := decide_eq_false hM4
      clear hM0
      go_quiet (fail)
      clear hM3 hM4 hM5
      have hk6 : Below X5.heap.size X5 (World.drewN X5 nq) := below_drewN (Below.refl _ _) _
      obtain ⟨Xq, hXq⟩ : ∃ X, X = World.drewN X5 nq := ⟨_, rfl⟩
      rw [← hXq] at hk6 ⊢
      have Sq : Hid (Sw w Xq es A p v) := S5.out.keep hk6
      have Rq : Hid (Row Xq be L 46) := Row.below R5.out hk6 R5.out.lt
      have Dq : Hid (Row Xq bB (vB dg) 51) := Row.below D5.out hk6 D5.out.lt
      clear hk6 hXq S5 R5 D5 ct
      go_wp2_with (go_at_call 25; refine Calls.mono (HLN.out Xq Sq.out) ?_; rintro e4 X ⟨rfl, hq⟩; obtain rfl := hq.symm)
      go_ret
      exact ⟨rfl, Sq.out.be⟩
    · obtain ⟨m, hm⟩ : ∃ m, M = m + 1 := ⟨M - 1, by omega⟩
      obtain ⟨x, hx⟩ : ∃ x, es[m]? = some x := ⟨_, List.getElem?_eq_getElem (by have := HEL.out; omega)⟩
      have hlt9 : ltm es M = x.tm := by rw [hm]; simp [ltm, hx]
      obtain ⟨b, o, A', c', hA0, hrg, _, _⟩ := S5.out.ea m x hx
      have H0A : Hid (A = some ⟨b, o, none⟩) := hA0
      have cx : X5.cell? ⟨b, o + m * 49 + 21, none⟩ = some (.int .i64 x.tm) := hrg 21 _ (Ev.time (HOK.out.wf hx).1 _)
      obtain ⟨tx, htx⟩ : ∃ t, t = x.tm := ⟨_, rfl⟩
      rw [← htx] at cx hlt9
      have HL9 : Hid (ltm es M = tx) := hlt9
      have hMm : (M : Int) - 1 = (m : Int) := by omega
      have hMg : (0 : Int) < (M : Int) := by omega
      have hmM : m < M := by omega
      rw [hA0]
      have hM4 : 0 < M := by omega
      clear hrg hx htx hlt9 hm hA0
      by_cases ht : tm < tx
      · have HT9 : Hid (tm < tx) := ht
        go_quiet (fail)
        rw [← H0A.out]
        clear cx hMm hMg hmM ht hM0 hM4
        have hk6 : Below X5.heap.size X5 (World.drewN X5 nq) := below_drewN (Below.refl _ _) _
        obtain ⟨Xq, hXq⟩ : ∃ X, X = World.drewN X5 nq := ⟨_, rfl⟩
        rw [← hXq] at hk6 ⊢
        have Sq : Hid (Sw w Xq es A p v) := S5.out.keep hk6
        have Rq : Hid (Row Xq be L 46) := Row.below R5.out hk6 R5.out.lt
        have Dq : Hid (Row Xq bB (vB dg) 51) := Row.below D5.out hk6 D5.out.lt
        clear hk6 hXq S5 R5 D5 ct
        have HRE : rfE e (ltm es M) 153 := .inr ⟨HMY.out, by rw [HL9.out, ← HTM.out]; exact HT9.out, rfl⟩
        have hE0 : rfE e (ltm es M) 153 := HRE
        have HAD : Hid (∀ X, Sw w X es A p v → Calls Tryz.prog 33 #[.pointer (some ⟨p, 0, none⟩), .agg L.toArray] X fun r w' => r = .returned (.tuple #[.int .i64 0, .int .i64 153]) ∧ Below X.heap.size X w') := fun X h => by obtain ⟨w0, hb⟩ := h.bx; exact add_no w0 p v es (by have := HEL.out; omega) e HWF.out Ae n cap HNE.out HNI.out L HLE.out 153 (by rw [HEL.out]; exact hE0) X hb (HGW.out X h.be).cub (HSL.out.be h.be)
        have HCK : Hid (∀ X A9 c9, EsAt X A9 (es ++ [e]) → Below w.heap.size w X → Calls Tryz.prog 17 #[.agg (vB zk).toArray, .agg (vB dg).toArray, .slice A9 (M + 1) c9] X fun r w' => r = .returned (.int .i64 153) ∧ Below X.heap.size X w') := fun X A9 c9 h k => check_no es HOK.out A9 (M + 1) c9 M HEL.out.symm rfl (by omega) zk dg (by rw [HZK.out]; rfl) HDG.out X (HGW.out X k).cub e HWF.out h 153 (by rw [HEL.out]; exact hE0)
        clear hE0 HRE
        go_upto_region 16 with (first
          | (refine wpList_load_w (by rfl) 46 (.tmp 3) rfl be (0) rfl (L) _ Rq.out.all Tryz.underlying46 rfl HI.out ?_; simp only [Act.put, List.setIfInBounds_toArray, List.set_cons_zero, List.set_cons_succ])
          | (go_at_call 33; refine Calls.mono (HAD.out Xq Sq.out) ?_; rintro e6 X6 ⟨rfl, q⟩; have C6 : Hid (Below Xq.heap.size Xq X6) := q; clear q))
        have S6 : Hid (Sw w X6 es A p v) := Sq.out.keep C6.out
        have R6 : Hid (Row X6 be L 46) := Row.below Rq.out C6.out Rq.out.lt
        have D6 : Hid (Row X6 bB (vB dg) 51) := Row.below Dq.out C6.out Dq.out.lt
        clear Sq Rq Dq C6 HAD
        obtain ⟨dh, hdh⟩ : ∃ d, d = dg := ⟨_, rfl⟩
        rw [← hdh] at HLK HDL
        have HHD : Hid ((Tryz.prog.info? 51).map (·.size) = some (vB dh).length) := by rw [hdh]; exact HDI.out
        have HHG : Hid (dh.length = 32) := by rw [hdh]; exact HDG.out
        have HEQ : Hid (decide (dg = dh) = true) := decide_eq_true hdh.symm
        clear hdh
        go_upto_region 17 with (first
          | (go_at_call 27; refine Calls.mono (HLK.out X6 S6.out) ?_; rintro e9 X7a ⟨rfl, q2⟩; have BX7a : Hid (Below X6.heap.size X6 X7a) := q2; clear q2)
          | (refine wpList_allocD rfl rfl ?_; intro X7b q1 q2; have ZX7b : Hid (Row X7b X7a.heap.size (vB zK) 51) := q1; have BX7b : Hid (Below X7a.heap.size X7a X7b) := q2; clear q1 q2; simp only [Act.put, List.setIfInBounds_toArray, List.set_cons_zero, List.set_cons_succ])
          | (refine wpList_storeL rfl 51 (.tmp 14) (.tmp 82) rfl X7a.heap.size (vB dh) (vB zK) 51 rfl rfl ZX7b.out HDL.out HHD.out (all_oneCell_toArray (vB_one _)) ?_; intro X7 q1 q2; have DX7 : Hid (Row X7 X7a.heap.size (vB dh) 51) := q2; have BX7 : Hid (Below X7a.heap.size X7a X7) := (by rw [q1]; exact below_setCells BX7b.out (Nat.le_refl _) _); clear q1 q2; simp only [Act.put]))
        have CX7 : Hid (Below X6.heap.size X6 X7) := BX7a.out.trans (BX7.out.mono BX7a.out.size)
        have S7 : Hid (Sw w X7 es A p v) := S6.out.keep CX7.out
        obtain ⟨bC, hbC⟩ : ∃ b, b = X7a.heap.size := ⟨_, rfl⟩
        rw [← hbC] at DX7 ⊢
        clear hbC BX7a BX7b BX7 ZX7b S6
        have R7 : Hid (Row X7 be L 46) := Row.below R6.out CX7.out R6.out.lt
        have D7 : Hid (Row X7 bB (vB dg) 51) := Row.below D6.out CX7.out D6.out.lt
        clear R6 D6 CX7 HLK
        go_upto_region 18 with (first
          | (go_at_call 34; refine Calls.mono (HEN.out X7 S7.out) ?_; rintro e9 X8a ⟨rfl, q2⟩; have B8a : Hid (Below X7.heap.size X7 X8a) := q2; clear q2)
          | (refine wpList_allocE rfl rfl ?_; intro X8b q1 q2; have Z8 : Hid (Row X8b X8a.heap.size ze 46) := (by rw [HZE.out]; exact q1); have B8b : Hid (Below X8a.heap.size X8a X8b) := q2; clear q1 q2; simp only [Act.put, List.setIfInBounds_toArray, List.set_cons_zero, List.set_cons_succ])
          | (refine wpList_storeL rfl 46 (.tmp 16) (.tmp 89) rfl X8a.heap.size ze ze 46 rfl rfl Z8.out rfl HZI.out HZO.out ?_; intro X8 q1 q2; have B8 : Hid (Below X8a.heap.size X8a X8) := (by rw [q1]; exact below_setCells B8b.out (Nat.le_refl _) _); clear q1 q2; simp only [Act.put]))
        have C8 : Hid (Below X7.heap.size X7 X8) := B8a.out.trans (B8.out.mono B8a.out.size)
        have S8 : Hid (Sw w X8 es A p v) := S7.out.keep C8.out
        have R8 : Hid (Row X8 be L 46) := Row.below R7.out C8.out R7.out.lt
        have D8 : Hid (Row X8 bB (vB dg) 51) := Row.below D7.out C8.out D7.out.lt
        have G8 : Hid (Row X8 bC (vB dh) 51) := Row.below DX7.out C8.out DX7.out.lt
        generalize X8a.heap.size = bE
        clear S7 R7 D7 DX7 C8 B8a B8b B8 Z8 HEN
        obtain ⟨W0, hW0⟩ : ∃ W, W = X8 := ⟨_, rfl⟩
        rw [← hW0] at S8 R8 D8 G8 ⊢
        clear hW0
        have Y0 : Hid (Yo W0 W0 (.slice none 0 0) (es.take 0)) := Yo.nil (Below.refl _ _)
        go_wp2_with fail
        go_loopw [18, 19] (fun v18 v19 wr => ∃ (i : Nat) (A7 : Option Addr) (c7 : Nat), i ≤ M ∧ v19 = .int .i64 (i : Int) ∧ v18 = .slice A7 i c7 ∧ Hid (Yo W0 wr (.slice A7 i c7) (es.take i))) (fun _ v19 _ => M - (intOf v19).toNat)
        case atStart => exact ⟨0, none, 0, Nat.zero_le _, rfl, rfl, Y0⟩
        case round =>
          obtain ⟨i, A7, c7, hi, rfl, rfl, HY⟩ := hrel
          clear Y0
          have SR : Hid (Sw w wr es A p v) := S8.out.keep HY.out.be
          by_cases hlt : i < M
          · obtain ⟨x, hx⟩ : ∃ x, es[i]? = some x := ⟨_, List.getElem?_eq_getElem (by have := HEL.out; omega)⟩
            obtain ⟨b, o, A', c', hA0, hrg, hsl, hnil⟩ := S8.out.ea i x hx
            have hwx := (HOK.out.wf hx).1
            obtain ⟨Lx, hLx⟩ : ∃ L, L = x.cells (.slice A' x.d.length c') := ⟨_, rfl⟩
            rw [← hLx] at hrg
            obtain ⟨q, hq⟩ : ∃ q, q = o + i * 49 := ⟨_, rfl⟩
            have HQ : Hid (o + i * 49 = q) := hq.symm
            rw [← hq] at hrg
            have HRG : Hid (wr.rangeAt b q Lx) := range_be hrg HY.out.be
            have HSX : Hid (SlAt W0 (.slice A' x.d.length c') x.d) := hsl
            have HNX : Hid (A' = none → c' = 0) := hnil
            have HLX : Hid (Lx = x.cells (.slice A' x.d.length c')) := hLx
            have HXI : Hid ((Tryz.prog.info? 46).map (·.size) = some Lx.length) := by rw [hLx]; exact Ev.info hwx _
            have HXL : Hid (Lx.length = 49) := by rw [hLx]; exact Ev.len hwx _
            have HXO : Hid (∀ u ∈ Lx, u.oneCell' = true) := by rw [hLx]; exact Ev.one x _ _ _
            have HIN : Hid (i < M) := hlt
            have HTE : Hid (es.take i ++ [x] = es.take (i + 1)) := by show _ = _; rw [List.take_add_one, hx]; rfl
            have HTL : Hid ((es.take i).length = i) := by show _ = _; rw [List.length_take]; have := HEL.out; omega
            have HA0 : Hid (A = some ⟨b, o, none⟩) := hA0
            obtain ⟨cs, hcs1, hcs2⟩ := HY.out.own
            have HLW : Hid (Lw wr 46 49 (.slice A7 i c7) (es.take i).length cs) := hcs1
            have HCS : Hid _ := hcs2
            clear hx hrg hsl hnil hwx hLx hq hA0 hcs1 hcs2
            have hiM : i ≤ 100 := by omega
            go_upto_region 21 with (first
              | (refine wpList_ixO 52 46 (.tmp 98) (.tmp 99) rfl b o M c i 49 q HQ.out (by show Value.slice _ M c = _; rw [HA0.out]) rfl HIN.out Tryz.underlying52 info_ent rfl ?_; simp only [Act.put, List.setIfInBounds_toArray, List.set_cons_zero, List.set_cons_succ])
              | (refine wpList_load_w (by rfl) 46 (.tmp 100) rfl b (q) rfl (Lx) _ HRG.out Tryz.underlying46 rfl HXI.out ?_; simp only [Act.put, List.setIfInBounds_toArray, List.set_cons_zero, List.set_cons_succ])
              | (refine wpList_bEnt rfl (.tmp 101) rfl Lx HXL.out rfl ?_; intro Y4 q1 q2; have R4 : Hid (Row Y4 wr.heap.size Lx 46) := q1; have D4 : Hid (Below wr.heap.size wr Y4) := q2; clear q1 q2; simp only [Act.put, List.setIfInBounds_toArray, List.set_cons_zero, List.set_cons_succ])
              | (refine wpList_appL 52 46 49 136 Tryz.underlying52 info_entO (by decide) (by decide) rfl (.tmp 97) (.tmp 102) rfl (.slice A7 i c7) i cs Lx rfl (by have := Lw.be HLW.out D4.out; rw [HTL.out] at this; exact this) wr.heap.size HXL.out rfl R4.out.all HXO.out (by omega) ?_; intro v9 Y5 q1 q2 q3; have EG : Hid (Yo W0 Y5 v9 (es.take (i + 1))) := (by rw [← HTE.out]; exact Yo.grow (HY.out.keep D4.out) (Lw.be HLW.out D4.out) HCS.out HTL.out.symm HSX.out HNX.out HLX.out q1 q2 q3); obtain ⟨A9, c9, e9, _, _⟩ := Lw.form q1; subst e9; clear q1 q2 q3; simp only [Act.put, List.setIfInBounds_toArray, List.set_cons_zero, List.set_cons_succ]))
            clear HLW HCS HY SR HRG HSX R4 D4
            go_wp2_with fail
            go_roundw
            case rel => exact ⟨i + 1, A9, c9, hlt, rfl, rfl, EG⟩
            case measure => simp [intOf]; omega
          · obtain rfl : i = M := by omega
            have h5 : ¬ ((i : Int) < (i : Int)) := by omega
            have HTK : Hid (es.take i = es) := by rw [← HEL.out]; exact List.take_length
            have HY2 : Hid (Yo W0 wr (.slice A7 i c7) es) := by have := HY.out; rw [HTK.out] at this; exact this
            have RR : Hid (Row wr be L 46) := Row.below R8.out HY.out.be R8.out.lt
            have HSE : Hid (SlAt W0 (.slice Ae n cap) e.d) := HSL.out.be S8.out.be
            obtain ⟨cs, hcs1, hcs2⟩ := HY2.out.own
            have HLW : Hid (Lw wr 46 49 (.slice A7 i c7) es.length cs) := hcs1
            have HCS : Hid _ := hcs2
            clear hcs1 hcs2 R8 HY HTK
            go_upto_region 24 with (first
              | (refine wpList_load_w (by rfl) 46 (.tmp 3) rfl be (0) rfl (L) _ RR.out.all Tryz.underlying46 rfl HI.out ?_; simp only [Act.put, List.setIfInBounds_toArray, List.set_cons_zero, List.set_cons_succ])
              | (refine wpList_bEnt rfl (.tmp 105) rfl L HLL.out rfl ?_; intro Y4 q1 q2; have R4 : Hid (Row Y4 wr.heap.size L 46) := q1; have D4 : Hid (Below wr.heap.size wr Y4) := q2; clear q1 q2; simp only [Act.put, List.setIfInBounds_toArray, List.set_cons_zero, List.set_cons_succ])
              | (refine wpList_appL 52 46 49 136 Tryz.underlying52 info_entO (by decide) (by decide) rfl (.tmp 104) (.tmp 106) rfl (.slice A7 i c7) i cs L rfl (by have := Lw.be HLW.out D4.out; rw [HEL.out] at this; exact this) wr.heap.size HLL.out rfl R4.out.all HLO.out (by omega) ?_; intro v9 Y5 q1 q2 q3; have EG : Hid (Yo W0 Y5 v9 (es ++ [e])) := Yo.grow (HY2.out.keep D4.out) (Lw.be HLW.out D4.out) HCS.out HEL.out.symm (by rw [HNE.out]; exact HSE.out) HNI.out (by rw [HNE.out]; exact HLE.out) q1 q2 q3; obtain ⟨A9, c9, e9, _, _⟩ := Lw.form q1; subst e9; clear q1 q2 q3; simp only [Act.put, List.setIfInBounds_toArray, List.set_cons_zero, List.set_cons_succ]))
            have C5 : Hid (Below W0.heap.size W0 Y5) := EG.out.be
            have SY : Hid (Sw w Y5 es A p v) := S8.out.keep C5.out
            have DY : Hid (Row Y5 bB (vB dg) 51) := Row.below D8.out C5.out D8.out.lt
            have GY : Hid (Row Y5 bC (vB dh) 51) := Row.below G8.out C5.out G8.out.lt
            clear S8 HY2 RR D8 G8 HSE HLW HCS R4 D4 C5 SR
            go_upto_region 25 with (first
              | (refine wpList_load_w (by rfl) 51 (.tmp 7) rfl bB (0) rfl (vB dg) _ DY.out.all Tryz.underlying51 rfl HDI.out ?_; simp only [Act.put, List.setIfInBounds_toArray, List.set_cons_zero, List.set_cons_succ])
              | (refine wpList_load_w (by rfl) 51 (.tmp 14) rfl bC (0) rfl (vB dh) _ GY.out.all Tryz.underlying51 rfl HHD.out ?_; simp only [Act.put, List.setIfInBounds_toArray, List.set_cons_zero, List.set_cons_succ])
              | (refine wpList_eql_b (by rfl) 51 (.tmp 124) (.tmp 125) _ rfl 5 32 dg dh rfl rfl Tryz.underlying51 Tryz.underlying5 info_u8 HDG.out HHG.out guardDE true HEQ.out ?_; simp only [Act.put, List.setIfInBounds_toArray, List.set_cons_zero, List.set_cons_succ])
              | (go_at_call 25; refine Calls.mono (HLN.out Y5 SY.out) ?_; rintro e4 X ⟨rfl, hq⟩; obtain rfl := hq.symm))
            go_wp2_with (first
              | (refine wpList_buildD0 (by rfl) rfl zk HZK.out ?_; simp only [Act.put, List.setIfInBounds_toArray, List.set_cons_zero, List.set_cons_succ])
              | (refine wpList_load_w (by rfl) 51 (.tmp 7) rfl bB (0) rfl (vB dg) _ DY.out.all Tryz.underlying51 rfl HDI.out ?_; simp only [Act.put, List.setIfInBounds_toArray, List.set_cons_zero, List.set_cons_succ])
              | (go_at_call 17; refine Calls.mono (HCK.out Y5 A9 c9 EG.out.at SY.out.be) ?_; rintro e10 X10 ⟨rfl, q⟩; have B10 : Hid (Below w.heap.size w X10) := SY.out.be.trans (q.mono SY.out.be.size); clear q))
            go_ret
            exact ⟨rfl, B10.out⟩
      · go_quiet (fail)
        rw [← H0A.out]
        clear cx hMm hMg hmM ht hM0 hM4
        have hk6 : Below X5.heap.size X5 (World.drewN X5 nq) := below_drewN (Below.refl _ _) _
        obtain ⟨Xq, hXq⟩ : ∃ X, X = World.drewN X5 nq := ⟨_, rfl⟩
        rw [← hXq] at hk6 ⊢
        have Sq : Hid (Sw w Xq es A p v) := S5.out.keep hk6
        have Rq : Hid (Row Xq be L 46) := Row.below R5.out hk6 R5.out.lt
        have Dq : Hid (Row Xq bB (vB dg) 51) := Row.below D5.out hk6 D5.out.lt
        clear hk6 hXq S5 R5 D5 ct
        go_wp2_with (go_at_call 25; refine Calls.mono (HLN.out Xq Sq.out) ?_; rintro e4 X ⟨rfl, hq⟩; obtain rfl := hq.symm)
        go_ret
        exact ⟨rfl, Sq.out.be⟩
  · have HMY : Hid (¬ e.May) := hmay
    clear hmay
    go_upto_region 9 with (first
      | (refine wpList_load_w (by rfl) 46 (.tmp 3) rfl be (0) rfl (L) _ R4.out.all Tryz.underlying46 rfl HI.out ?_; simp only [Act.put, List.setIfInBounds_toArray, List.set_cons_zero, List.set_cons_succ])
      | (go_at_call 32; refine Calls.mono (HRCN.out HMY.out X4) ?_; rintro e5 X5 ⟨rfl, q⟩; have S5 : Hid (Sw w X5 es A p v) := S4.out.keep q; have R5 : Hid (Row X5 be L 46) := Row.below R4.out q R4.out.lt; have D5 : Hid (Row X5 bB (vB dg) 51) := Row.below D4.out q D4.out.lt; clear q))
    clear S4 R4 D4
    have ct := R5.out.cell 21 _ HLT.out
    by_cases hM0 : M = 0
    · have hM3 : ¬ ((0 : Int) < (M : Int)) := by omega
      have hM4 : ¬ 0 < M := by omega
      have hM5 : decide (0 < M) = false := decide_eq_false hM4
      clear hM0
      go_quiet (fail)
      clear hM3 hM4 hM5
      have hk6 : Below X5.heap.size X5 (World.drewN X5 nq) := below_drewN (Below.refl _ _) _
      obtain ⟨Xq, hXq⟩ : ∃ X, X = World.drewN X5 nq := ⟨_, rfl⟩
      rw [← hXq] at hk6 ⊢
      have Sq : Hid (Sw w Xq es A p v) := S5.out.keep hk6
      have Rq : Hid (Row Xq be L 46) := Row.below R5.out hk6 R5.out.lt
      have Dq : Hid (Row Xq bB (vB dg) 51) := Row.below D5.out hk6 D5.out.lt
      clear hk6 hXq S5 R5 D5 ct
      have HRE : rfE e (ltm es M) 150 := .inl ⟨HMY.out, rfl⟩
      have hE0 : rfE e (ltm es M) 150 := HRE
      have HAD : Hid (∀ X, Sw w X es A p v → Calls Tryz.prog 33 #[.pointer (some ⟨p, 0, none⟩), .agg L.toArray] X fun r w' => r = .returned (.tuple #[.int .i64 0, .int .i64 150]) ∧ Below X.heap.size X w') := fun X h => by obtain ⟨w0, hb⟩ := h.bx; exact add_no w0 p v es (by have := HEL.out; omega) e HWF.out Ae n cap HNE.out HNI.out L HLE.out 150 (by rw [HEL.out]; exact hE0) X hb (HGW.out X h.be).cub (HSL.out.be h.be)
      have HCK : Hid (∀ X A9 c9, EsAt X A9 (es ++ [e]) → Below w.heap.size w X → Calls Tryz.prog 17 #[.agg (vB zk).toArray, .agg (vB dg).toArray, .slice A9 (M + 1) c9] X fun r w' => r = .returned (.int .i64 150) ∧ Below X.heap.size X w') := fun X A9 c9 h k => check_no es HOK.out A9 (M + 1) c9 M HEL.out.symm rfl (by omega) zk dg (by rw [HZK.out]; rfl) HDG.out X (HGW.out X k).cub e HWF.out h 150 (by rw [HEL.out]; exact hE0)
      clear hE0 HRE
      go_upto_region 16 with (first
        | (refine wpList_load_w (by rfl) 46 (.tmp 3) rfl be (0) rfl (L) _ Rq.out.all Tryz.underlying46 rfl HI.out ?_; simp only [Act.put, List.setIfInBounds_toArray, List.set_cons_zero, List.set_cons_succ])
        | (go_at_call 33; refine Calls.mono (HAD.out Xq Sq.out) ?_; rintro e6 X6 ⟨rfl, q⟩; have C6 : Hid (Below Xq.heap.size Xq X6) := q; clear q))
      have S6 : Hid (Sw w X6 es A p v) := Sq.out.keep C6.out
      have R6 : Hid (Row X6 be L 46) := Row.below Rq.out C6.out Rq.out.lt
      have D6 : Hid (Row X6 bB (vB dg) 51) := Row.below Dq.out C6.out Dq.out.lt
      clear Sq Rq Dq C6 HAD
      obtain ⟨dh, hdh⟩ : ∃ d, d = dg := ⟨_, rfl⟩
      rw [← hdh] at HLK HDL
      have HHD : Hid ((Tryz.prog.info? 51).map (·.size) = some (vB dh).length) := by rw [hdh]; exact HDI.out
      have HHG : Hid (dh.length = 32) := by rw [hdh]; exact HDG.out
      have HEQ : Hid (decide (dg = dh) = true) := decide_eq_true hdh.symm
      clear hdh
      go_upto_region 17 with (first
        | (go_at_call 27; refine Calls.mono (HLK.out X6 S6.out) ?_; rintro e9 X7a ⟨rfl, q2⟩; have BX7a : Hid (Below X6.heap.size X6 X7a) := q2; clear q2)
        | (refine wpList_allocD rfl rfl ?_; intro X7b q1 q2; have ZX7b : Hid (Row X7b X7a.heap.size (vB zK) 51) := q1; have BX7b : Hid (Below X7a.heap.size X7a X7b) := q2; clear q1 q2; simp only [Act.put, List.setIfInBounds_toArray, List.set_cons_zero, List.set_cons_succ])
        | (refine wpList_storeL rfl 51 (.tmp 14) (.tmp 82) rfl X7a.heap.size (vB dh) (vB zK) 51 rfl rfl ZX7b.out HDL.out HHD.out (all_oneCell_toArray (vB_one _)) ?_; intro X7 q1 q2; have DX7 : Hid (Row X7 X7a.heap.size (vB dh) 51) := q2; have BX7 : Hid (Below X7a.heap.size X7a X7) := (by rw [q1]; exact below_setCells BX7b.out (Nat.le_refl _) _); clear q1 q2; simp only [Act.put]))
      have CX7 : Hid (Below X6.heap.size X6 X7) := BX7a.out.trans (BX7.out.mono BX7a.out.size)
      have S7 : Hid (Sw w X7 es A p v) := S6.out.keep CX7.out
      obtain ⟨bC, hbC⟩ : ∃ b, b = X7a.heap.size := ⟨_, rfl⟩
      rw [← hbC] at DX7 ⊢
      clear hbC BX7a BX7b BX7 ZX7b S6
      have R7 : Hid (Row X7 be L 46) := Row.below R6.out CX7.out R6.out.lt
      have D7 : Hid (Row X7 bB (vB dg) 51) := Row.below D6.out CX7.out D6.out.lt
      clear R6 D6 CX7 HLK
      go_upto_region 18 with (first
        | (go_at_call 34; refine Calls.mono (HEN.out X7 S7.out) ?_; rintro e9 X8a ⟨rfl, q2⟩; have B8a : Hid (Below X7.heap.size X7 X8a) := q2; clear q2)
        | (refine wpList_allocE rfl rfl ?_; intro X8b q1 q2; have Z8 : Hid (Row X8b X8a.heap.size ze 46) := (by rw [HZE.out]; exact q1); have B8b : Hid (Below X8a.heap.size X8a X8b) := q2; clear q1 q2; simp only [Act.put, List.setIfInBounds_toArray, List.set_cons_zero, List.set_cons_succ])
        | (refine wpList_storeL rfl 46 (.tmp 16) (.tmp 89) rfl X8a.heap.size ze ze 46 rfl rfl Z8.out rfl HZI.out HZO.out ?_; intro X8 q1 q2; have B8 : Hid (Below X8a.heap.size X8a X8) := (by rw [q1]; exact below_setCells B8b.out (Nat.le_refl _) _); clear q1 q2; simp only [Act.put]))
      have C8 : Hid (Below X7.heap.size X7 X8) := B8a.out.trans (B8.out.mono B8a.out.size)
      have S8 : Hid (Sw w X8 es A p v) := S7.out.keep C8.out
      have R8 : Hid (Row X8 be L 46) := Row.below R7.out C8.out R7.out.lt
      have D8 : Hid (Row X8 bB (vB dg) 51) := Row.below D7.out C8.out D7.out.lt
      have G8 : Hid (Row X8 bC (vB dh) 51) := Row.below DX7.out C8.out DX7.out.lt
      generalize X8a.heap.size = bE
      clear S7 R7 D7 DX7 C8 B8a B8b B8 Z8 HEN
      obtain ⟨W0, hW0⟩ : ∃ W, W = X8 := ⟨_, rfl⟩
      rw [← hW0] at S8 R8 D8 G8 ⊢
      clear hW0
      have Y0 : Hid (Yo W0 W0 (.slice none 0 0) (es.take 0)) := Yo.nil (Below.refl _ _)
      go_wp2_with fail
      go_loopw [18, 19] (fun v18 v19 wr => ∃ (i : Nat) (A7 : Option Addr) (c7 : Nat), i ≤ M ∧ v19 = .int .i64 (i : Int) ∧ v18 = .slice A7 i c7 ∧ Hid (Yo W0 wr (.slice A7 i c7) (es.take i))) (fun _ v19 _ => M - (intOf v19).toNat)
      case atStart => exact ⟨0, none, 0, Nat.zero_le _, rfl, rfl, Y0⟩
      case round =>
        obtain ⟨i, A7, c7, hi, rfl, rfl, HY⟩ := hrel
        clear Y0
        have SR : Hid (Sw w wr es A p v) := S8.out.keep HY.out.be
        by_cases hlt : i < M
        · obtain ⟨x, hx⟩ : ∃ x, es[i]? = some x := ⟨_, List.getElem?_eq_getElem (by have := HEL.out; omega)⟩
          obtain ⟨b, o, A', c', hA0, hrg, hsl, hnil⟩ := S8.out.ea i x hx
          have hwx := (HOK.out.wf hx).1
          obtain ⟨Lx, hLx⟩ : ∃ L, L = x.cells (.slice A' x.d.length c') := ⟨_, rfl⟩
          rw [← hLx] at hrg
          obtain ⟨q, hq⟩ : ∃ q, q = o + i * 49 := ⟨_, rfl⟩
          have HQ : Hid (o + i * 49 = q) := hq.symm
          rw [← hq] at hrg
          have HRG : Hid (wr.rangeAt b q Lx) := range_be hrg HY.out.be
          have HSX : Hid (SlAt W0 (.slice A' x.d.length c') x.d) := hsl
          have HNX : Hid (A' = none → c' = 0) := hnil
          have HLX : Hid (Lx = x.cells (.slice A' x.d.length c')) := hLx
          have HXI : Hid ((Tryz.prog.info? 46).map (·.size) = some Lx.length) := by rw [hLx]; exact Ev.info hwx _
          have HXL : Hid (Lx.length = 49) := by rw [hLx]; exact Ev.len hwx _
          have HXO : Hid (∀ u ∈ Lx, u.oneCell' = true) := by rw [hLx]; exact Ev.one x _ _ _
          have HIN : Hid (i < M) := hlt
          have HTE : Hid (es.take i ++ [x] = es.take (i + 1)) := by show _ = _; rw [List.take_add_one, hx]; rfl
          have HTL : Hid ((es.take i).length = i) := by show _ = _; rw [List.length_take]; have := HEL.out; omega
          have HA0 : Hid (A = some ⟨b, o, none⟩) := hA0
          obtain ⟨cs, hcs1, hcs2⟩ := HY.out.own
          have HLW : Hid (Lw wr 46 49 (.slice A7 i c7) (es.take i).length cs) := hcs1
          have HCS : Hid _ := hcs2
          clear hx hrg hsl hnil hwx hLx hq hA0 hcs1 hcs2
          have hiM : i ≤ 100 := by omega
          go_upto_region 21 with (first
            | (refine wpList_ixO 52 46 (.tmp 98) (.tmp 99) rfl b o M c i 49 q HQ.out (by show Value.slice _ M c = _; rw [HA0.out]) rfl HIN.out Tryz.underlying52 info_ent rfl ?_; simp only [Act.put, List.setIfInBounds_toArray, List.set_cons_zero, List.set_cons_succ])
            | (refine wpList_load_w (by rfl) 46 (.tmp 100) rfl b (q) rfl (Lx) _ HRG.out Tryz.underlying46 rfl HXI.out ?_; simp only [Act.put, List.setIfInBounds_toArray, List.set_cons_zero, List.set_cons_succ])
            | (refine wpList_bEnt rfl (.tmp 101) rfl Lx HXL.out rfl ?_; intro Y4 q1 q2; have R4 : Hid (Row Y4 wr.heap.size Lx 46) := q1; have D4 : Hid (Below wr.heap.size wr Y4) := q2; clear q1 q2; simp only [Act.put, List.setIfInBounds_toArray, List.set_cons_zero, List.set_cons_succ])
            | (refine wpList_appL 52 46 49 136 Tryz.underlying52 info_entO (by decide) (by decide) rfl (.tmp 97) (.tmp 102) rfl (.slice A7 i c7) i cs Lx rfl (by have := Lw.be HLW.out D4.out; rw [HTL.out] at this; exact this) wr.heap.size HXL.out rfl R4.out.all HXO.out (by omega) ?_; intro v9 Y5 q1 q2 q3; have EG : Hid (Yo W0 Y5 v9 (es.take (i + 1))) := (by rw [← HTE.out]; exact Yo.grow (HY.out.keep D4.out) (Lw.be HLW.out D4.out) HCS.out HTL.out.symm HSX.out HNX.out HLX.out q1 q2 q3); obtain ⟨A9, c9, e9, _, _⟩ := Lw.form q1; subst e9; clear q1 q2 q3; simp only [Act.put, List.setIfInBounds_toArray, List.set_cons_zero, List.set_cons_succ]))
          clear HLW HCS HY SR HRG HSX R4 D4
          go_wp2_with fail
          go_roundw
          case rel => exact ⟨i + 1, A9, c9, hlt, rfl, rfl, EG⟩
          case measure => simp [intOf]; omega
        · obtain rfl : i = M := by omega
          have h5 : ¬ ((i : Int) < (i : Int)) := by omega
          have HTK : Hid (es.take i = es) := by rw [← HEL.out]; exact List.take_length
          have HY2 : Hid (Yo W0 wr (.slice A7 i c7) es) := by have := HY.out; rw [HTK.out] at this; exact this
          have RR : Hid (Row wr be L 46) := Row.below R8.out HY.out.be R8.out.lt
          have HSE : Hid (SlAt W0 (.slice Ae n cap) e.d) := HSL.out.be S8.out.be
          obtain ⟨cs, hcs1, hcs2⟩ := HY2.out.own
          have HLW : Hid (Lw wr 46 49 (.slice A7 i c7) es.length cs) := hcs1
          have HCS : Hid _ := hcs2
          clear hcs1 hcs2 R8 HY HTK
          go_upto_region 24 with (first
            | (refine wpList_load_w (by rfl) 46 (.tmp 3) rfl be (0) rfl (L) _ RR.out.all Tryz.underlying46 rfl HI.out ?_; simp only [Act.put, List.setIfInBounds_toArray, List.set_cons_zero, List.set_cons_succ])
            | (refine wpList_bEnt rfl (.tmp 105) rfl L HLL.out rfl ?_; intro Y4 q1 q2; have R4 : Hid (Row Y4 wr.heap.size L 46) := q1; have D4 : Hid (Below wr.heap.size wr Y4) := q2; clear q1 q2; simp only [Act.put, List.setIfInBounds_toArray, List.set_cons_zero, List.set_cons_succ])
            | (refine wpList_appL 52 46 49 136 Tryz.underlying52 info_entO (by decide) (by decide) rfl (.tmp 104) (.tmp 106) rfl (.slice A7 i c7) i cs L rfl (by have := Lw.be HLW.out D4.out; rw [HEL.out] at this; exact this) wr.heap.size HLL.out rfl R4.out.all HLO.out (by omega) ?_; intro v9 Y5 q1 q2 q3; have EG : Hid (Yo W0 Y5 v9 (es ++ [e])) := Yo.grow (HY2.out.keep D4.out) (Lw.be HLW.out D4.out) HCS.out HEL.out.symm (by rw [HNE.out]; exact HSE.out) HNI.out (by rw [HNE.out]; exact HLE.out) q1 q2 q3; obtain ⟨A9, c9, e9, _, _⟩ := Lw.form q1; subst e9; clear q1 q2 q3; simp only [Act.put, List.setIfInBounds_toArray, List.set_cons_zero, List.set_cons_succ]))
          have C5 : Hid (Below W0.heap.size W0 Y5) := EG.out.be
          have SY : Hid (Sw w Y5 es A p v) := S8.out.keep C5.out
          have DY : Hid (Row Y5 bB (vB dg) 51) := Row.below D8.out C5.out D8.out.lt
          have GY : Hid (Row Y5 bC (vB dh) 51) := Row.below G8.out C5.out G8.out.lt
          clear S8 HY2 RR D8 G8 HSE HLW HCS R4 D4 C5 SR
          go_upto_region 25 with (first
            | (refine wpList_load_w (by rfl) 51 (.tmp 7) rfl bB (0) rfl (vB dg) _ DY.out.all Tryz.underlying51 rfl HDI.out ?_; simp only [Act.put, List.setIfInBounds_toArray, List.set_cons_zero, List.set_cons_succ])
            | (refine wpList_load_w (by rfl) 51 (.tmp 14) rfl bC (0) rfl (vB dh) _ GY.out.all Tryz.underlying51 rfl HHD.out ?_; simp only [Act.put, List.setIfInBounds_toArray, List.set_cons_zero, List.set_cons_succ])
            | (refine wpList_eql_b (by rfl) 51 (.tmp 124) (.tmp 125) _ rfl 5 32 dg dh rfl rfl Tryz.underlying51 Tryz.underlying5 info_u8 HDG.out HHG.out guardDE true HEQ.out ?_; simp only [Act.put, List.setIfInBounds_toArray, List.set_cons_zero, List.set_cons_succ])
            | (go_at_call 25; refine Calls.mono (HLN.out Y5 SY.out) ?_; rintro e4 X ⟨rfl, hq⟩; obtain rfl := hq.symm))
          go_wp2_with (first
            | (refine wpList_buildD0 (by rfl) rfl zk HZK.out ?_; simp only [Act.put, List.setIfInBounds_toArray, List.set_cons_zero, List.set_cons_succ])
            | (refine wpList_load_w (by rfl) 51 (.tmp 7) rfl bB (0) rfl (vB dg) _ DY.out.all Tryz.underlying51 rfl HDI.out ?_; simp only [Act.put, List.setIfInBounds_toArray, List.set_cons_zero, List.set_cons_succ])
            | (go_at_call 17; refine Calls.mono (HCK.out Y5 A9 c9 EG.out.at SY.out.be) ?_; rintro e10 X10 ⟨rfl, q⟩; have B10 : Hid (Below w.heap.size w X10) := SY.out.be.trans (q.mono SY.out.be.size); clear q))
          go_ret
          exact ⟨rfl, B10.out⟩
    · obtain ⟨m, hm⟩ : ∃ m, M = m + 1 := ⟨M - 1, by omega⟩
      obtain ⟨x, hx⟩ : ∃ x, es[m]? = some x := ⟨_, List.getElem?_eq_getElem (by have := HEL.out; omega)⟩
      have hlt9 : ltm es M = x.tm := by rw [hm]; simp [ltm, hx]
      obtain ⟨b, o, A', c', hA0, hrg, _, _⟩ := S5.out.ea m x hx
      have H0A : Hid (A = some ⟨b, o, none⟩) := hA0
      have cx : X5.cell? ⟨b, o + m * 49 + 21, none⟩ = some (.int .i64 x.tm) := hrg 21 _ (Ev.time (HOK.out.wf hx).1 _)
      obtain ⟨tx, htx⟩ : ∃ t, t = x.tm := ⟨_, rfl⟩
      rw [← htx] at cx hlt9
      have HL9 : Hid (ltm es M = tx) := hlt9
      have hMm : (M : Int) - 1 = (m : Int) := by omega
      have hMg : (0 : Int) < (M : Int) := by omega
      have hmM : m < M := by omega
      rw [hA0]
      have hM4 : 0 < M := by omega
      clear hrg hx htx hlt9 hm hA0
      by_cases ht : tm < tx
      · have HT9 : Hid (tm < tx) := ht
        go_quiet (fail)
        rw [← H0A.out]
        clear cx hMm hMg hmM ht hM0 hM4
        have hk6 : Below X5.heap.size X5 (World.drewN X5 nq) := below_drewN (Below.refl _ _) _
        obtain ⟨Xq, hXq⟩ : ∃ X, X = World.drewN X5 nq := ⟨_, rfl⟩
        rw [← hXq] at hk6 ⊢
        have Sq : Hid (Sw w Xq es A p v) := S5.out.keep hk6
        have Rq : Hid (Row Xq be L 46) := Row.below R5.out hk6 R5.out.lt
        have Dq : Hid (Row Xq bB (vB dg) 51) := Row.below D5.out hk6 D5.out.lt
        clear hk6 hXq S5 R5 D5 ct
        have HRE : rfE e (ltm es M) 150 := .inl ⟨HMY.out, rfl⟩
        have hE0 : rfE e (ltm es M) 150 := HRE
        have HAD : Hid (∀ X, Sw w X es A p v → Calls Tryz.prog 33 #[.pointer (some ⟨p, 0, none⟩), .agg L.toArray] X fun r w' => r = .returned (.tuple #[.int .i64 0, .int .i64 150]) ∧ Below X.heap.size X w') := fun X h => by obtain ⟨w0, hb⟩ := h.bx; exact add_no w0 p v es (by have := HEL.out; omega) e HWF.out Ae n cap HNE.out HNI.out L HLE.out 150 (by rw [HEL.out]; exact hE0) X hb (HGW.out X h.be).cub (HSL.out.be h.be)
        have HCK : Hid (∀ X A9 c9, EsAt X A9 (es ++ [e]) → Below w.heap.size w X → Calls Tryz.prog 17 #[.agg (vB zk).toArray, .agg (vB dg).toArray, .slice A9 (M + 1) c9] X fun r w' => r = .returned (.int .i64 150) ∧ Below X.heap.size X w') := fun X A9 c9 h k => check_no es HOK.out A9 (M + 1) c9 M HEL.out.symm rfl (by omega) zk dg (by rw [HZK.out]; rfl) HDG.out X (HGW.out X k).cub e HWF.out h 150 (by rw [HEL.out]; exact hE0)
        clear hE0 HRE
        go_upto_region 16 with (first
          | (refine wpList_load_w (by rfl) 46 (.tmp 3) rfl be (0) rfl (L) _ Rq.out.all Tryz.underlying46 rfl HI.out ?_; simp only [Act.put, List.setIfInBounds_toArray, List.set_cons_zero, List.set_cons_succ])
          | (go_at_call 33; refine Calls.mono (HAD.out Xq Sq.out) ?_; rintro e6 X6 ⟨rfl, q⟩; have C6 : Hid (Below Xq.heap.size Xq X6) := q; clear q))
        have S6 : Hid (Sw w X6 es A p v) := Sq.out.keep C6.out
        have R6 : Hid (Row X6 be L 46) := Row.below Rq.out C6.out Rq.out.lt
        have D6 : Hid (Row X6 bB (vB dg) 51) := Row.below Dq.out C6.out Dq.out.lt
        clear Sq Rq Dq C6 HAD
        obtain ⟨dh, hdh⟩ : ∃ d, d = dg := ⟨_, rfl⟩
        rw [← hdh] at HLK HDL
        have HHD : Hid ((Tryz.prog.info? 51).map (·.size) = some (vB dh).length) := by rw [hdh]; exact HDI.out
        have HHG : Hid (dh.length = 32) := by rw [hdh]; exact HDG.out
        have HEQ : Hid (decide (dg = dh) = true) := decide_eq_true hdh.symm
        clear hdh
        go_upto_region 17 with (first
          | (go_at_call 27; refine Calls.mono (HLK.out X6 S6.out) ?_; rintro e9 X7a ⟨rfl, q2⟩; have BX7a : Hid (Below X6.heap.size X6 X7a) := q2; clear q2)
          | (refine wpList_allocD rfl rfl ?_; intro X7b q1 q2; have ZX7b : Hid (Row X7b X7a.heap.size (vB zK) 51) := q1; have BX7b : Hid (Below X7a.heap.size X7a X7b) := q2; clear q1 q2; simp only [Act.put, List.setIfInBounds_toArray, List.set_cons_zero, List.set_cons_succ])
          | (refine wpList_storeL rfl 51 (.tmp 14) (.tmp 82) rfl X7a.heap.size (vB dh) (vB zK) 51 rfl rfl ZX7b.out HDL.out HHD.out (all_oneCell_toArray (vB_one _)) ?_; intro X7 q1 q2; have DX7 : Hid (Row X7 X7a.heap.size (vB dh) 51) := q2; have BX7 : Hid (Below X7a.heap.size X7a X7) := (by rw [q1]; exact below_setCells BX7b.out (Nat.le_refl _) _); clear q1 q2; simp only [Act.put]))
        have CX7 : Hid (Below X6.heap.size X6 X7) := BX7a.out.trans (BX7.out.mono BX7a.out.size)
        have S7 : Hid (Sw w X7 es A p v) := S6.out.keep CX7.out
        obtain ⟨bC, hbC⟩ : ∃ b, b = X7a.heap.size := ⟨_, rfl⟩
        rw [← hbC] at DX7 ⊢
        clear hbC BX7a BX7b BX7 ZX7b S6
        have R7 : Hid (Row X7 be L 46) := Row.below R6.out CX7.out R6.out.lt
        have D7 : Hid (Row X7 bB (vB dg) 51) := Row.below D6.out CX7.out D6.out.lt
        clear R6 D6 CX7 HLK
        go_upto_region 18 with (first
          | (go_at_call 34; refine Calls.mono (HEN.out X7 S7.out) ?_; rintro e9 X8a ⟨rfl, q2⟩; have B8a : Hid (Below X7.heap.size X7 X8a) := q2; clear q2)
          | (refine wpList_allocE rfl rfl ?_; intro X8b q1 q2; have Z8 : Hid (Row X8b X8a.heap.size ze 46) := (by rw [HZE.out]; exact q1); have B8b : Hid (Below X8a.heap.size X8a X8b) := q2; clear q1 q2; simp only [Act.put, List.setIfInBounds_toArray, List.set_cons_zero, List.set_cons_succ])
          | (refine wpList_storeL rfl 46 (.tmp 16) (.tmp 89) rfl X8a.heap.size ze ze 46 rfl rfl Z8.out rfl HZI.out HZO.out ?_; intro X8 q1 q2; have B8 : Hid (Below X8a.heap.size X8a X8) := (by rw [q1]; exact below_setCells B8b.out (Nat.le_refl _) _); clear q1 q2; simp only [Act.put]))
        have C8 : Hid (Below X7.heap.size X7 X8) := B8a.out.trans (B8.out.mono B8a.out.size)
        have S8 : Hid (Sw w X8 es A p v) := S7.out.keep C8.out
        have R8 : Hid (Row X8 be L 46) := Row.below R7.out C8.out R7.out.lt
        have D8 : Hid (Row X8 bB (vB dg) 51) := Row.below D7.out C8.out D7.out.lt
        have G8 : Hid (Row X8 bC (vB dh) 51) := Row.below DX7.out C8.out DX7.out.lt
        generalize X8a.heap.size = bE
        clear S7 R7 D7 DX7 C8 B8a B8b B8 Z8 HEN
        obtain ⟨W0, hW0⟩ : ∃ W, W = X8 := ⟨_, rfl⟩
        rw [← hW0] at S8 R8 D8 G8 ⊢
        clear hW0
        have Y0 : Hid (Yo W0 W0 (.slice none 0 0) (es.take 0)) := Yo.nil (Below.refl _ _)
        go_wp2_with fail
        go_loopw [18, 19] (fun v18 v19 wr => ∃ (i : Nat) (A7 : Option Addr) (c7 : Nat), i ≤ M ∧ v19 = .int .i64 (i : Int) ∧ v18 = .slice A7 i c7 ∧ Hid (Yo W0 wr (.slice A7 i c7) (es.take i))) (fun _ v19 _ => M - (intOf v19).toNat)
        case atStart => exact ⟨0, none, 0, Nat.zero_le _, rfl, rfl, Y0⟩
        case round =>
          obtain ⟨i, A7, c7, hi, rfl, rfl, HY⟩ := hrel
          clear Y0
          have SR : Hid (Sw w wr es A p v) := S8.out.keep HY.out.be
          by_cases hlt : i < M
          · obtain ⟨x, hx⟩ : ∃ x, es[i]? = some x := ⟨_, List.getElem?_eq_getElem (by have := HEL.out; omega)⟩
            obtain ⟨b, o, A', c', hA0, hrg, hsl, hnil⟩ := S8.out.ea i x hx
            have hwx := (HOK.out.wf hx).1
            obtain ⟨Lx, hLx⟩ : ∃ L, L = x.cells (.slice A' x.d.length c') := ⟨_, rfl⟩
            rw [← hLx] at hrg
            obtain ⟨q, hq⟩ : ∃ q, q = o + i * 49 := ⟨_, rfl⟩
            have HQ : Hid (o + i * 49 = q) := hq.symm
            rw [← hq] at hrg
            have HRG : Hid (wr.rangeAt b q Lx) := range_be hrg HY.out.be
            have HSX : Hid (SlAt W0 (.slice A' x.d.length c') x.d) := hsl
            have HNX : Hid (A' = none → c' = 0) := hnil
            have HLX : Hid (Lx = x.cells (.slice A' x.d.length c')) := hLx
            have HXI : Hid ((Tryz.prog.info? 46).map (·.size) = some Lx.length) := by rw [hLx]; exact Ev.info hwx _
            have HXL : Hid (Lx.length = 49) := by rw [hLx]; exact Ev.len hwx _
            have HXO : Hid (∀ u ∈ Lx, u.oneCell' = true) := by rw [hLx]; exact Ev.one x _ _ _
            have HIN : Hid (i < M) := hlt
            have HTE : Hid (es.take i ++ [x] = es.take (i + 1)) := by show _ = _; rw [List.take_add_one, hx]; rfl
            have HTL : Hid ((es.take i).length = i) := by show _ = _; rw [List.length_take]; have := HEL.out; omega
            have HA0 : Hid (A = some ⟨b, o, none⟩) := hA0
            obtain ⟨cs, hcs1, hcs2⟩ := HY.out.own
            have HLW : Hid (Lw wr 46 49 (.slice A7 i c7) (es.take i).length cs) := hcs1
            have HCS : Hid _ := hcs2
            clear hx hrg hsl hnil hwx hLx hq hA0 hcs1 hcs2
            have hiM : i ≤ 100 := by omega
            go_upto_region 21 with (first
              | (refine wpList_ixO 52 46 (.tmp 98) (.tmp 99) rfl b o M c i 49 q HQ.out (by show Value.slice _ M c = _; rw [HA0.out]) rfl HIN.out Tryz.underlying52 info_ent rfl ?_; simp only [Act.put, List.setIfInBounds_toArray, List.set_cons_zero, List.set_cons_succ])
              | (refine wpList_load_w (by rfl) 46 (.tmp 100) rfl b (q) rfl (Lx) _ HRG.out Tryz.underlying46 rfl HXI.out ?_; simp only [Act.put, List.setIfInBounds_toArray, List.set_cons_zero, List.set_cons_succ])
              | (refine wpList_bEnt rfl (.tmp 101) rfl Lx HXL.out rfl ?_; intro Y4 q1 q2; have R4 : Hid (Row Y4 wr.heap.size Lx 46) := q1; have D4 : Hid (Below wr.heap.size wr Y4) := q2; clear q1 q2; simp only [Act.put, List.setIfInBounds_toArray, List.set_cons_zero, List.set_cons_succ])
              | (refine wpList_appL 52 46 49 136 Tryz.underlying52 info_entO (by decide) (by decide) rfl (.tmp 97) (.tmp 102) rfl (.slice A7 i c7) i cs Lx rfl (by have := Lw.be HLW.out D4.out; rw [HTL.out] at this; exact this) wr.heap.size HXL.out rfl R4.out.all HXO.out (by omega) ?_; intro v9 Y5 q1 q2 q3; have EG : Hid (Yo W0 Y5 v9 (es.take (i + 1))) := (by rw [← HTE.out]; exact Yo.grow (HY.out.keep D4.out) (Lw.be HLW.out D4.out) HCS.out HTL.out.symm HSX.out HNX.out HLX.out q1 q2 q3); obtain ⟨A9, c9, e9, _, _⟩ := Lw.form q1; subst e9; clear q1 q2 q3; simp only [Act.put, List.setIfInBounds_toArray, List.set_cons_zero, List.set_cons_succ]))
            clear HLW HCS HY SR HRG HSX R4 D4
            go_wp2_with fail
            go_roundw
            case rel => exact ⟨i + 1, A9, c9, hlt, rfl, rfl, EG⟩
            case measure => simp [intOf]; omega
          · obtain rfl : i = M := by omega
            have h5 : ¬ ((i : Int) < (i : Int)) := by omega
            have HTK : Hid (es.take i = es) := by rw [← HEL.out]; exact List.take_length
            have HY2 : Hid (Yo W0 wr (.slice A7 i c7) es) := by have := HY.out; rw [HTK.out] at this; exact this
            have RR : Hid (Row wr be L 46) := Row.below R8.out HY.out.be R8.out.lt
            have HSE : Hid (SlAt W0 (.slice Ae n cap) e.d) := HSL.out.be S8.out.be
            obtain ⟨cs, hcs1, hcs2⟩ := HY2.out.own
            have HLW : Hid (Lw wr 46 49 (.slice A7 i c7) es.length cs) := hcs1
            have HCS : Hid _ := hcs2
            clear hcs1 hcs2 R8 HY HTK
            go_upto_region 24 with (first
              | (refine wpList_load_w (by rfl) 46 (.tmp 3) rfl be (0) rfl (L) _ RR.out.all Tryz.underlying46 rfl HI.out ?_; simp only [Act.put, List.setIfInBounds_toArray, List.set_cons_zero, List.set_cons_succ])
              | (refine wpList_bEnt rfl (.tmp 105) rfl L HLL.out rfl ?_; intro Y4 q1 q2; have R4 : Hid (Row Y4 wr.heap.size L 46) := q1; have D4 : Hid (Below wr.heap.size wr Y4) := q2; clear q1 q2; simp only [Act.put, List.setIfInBounds_toArray, List.set_cons_zero, List.set_cons_succ])
              | (refine wpList_appL 52 46 49 136 Tryz.underlying52 info_entO (by decide) (by decide) rfl (.tmp 104) (.tmp 106) rfl (.slice A7 i c7) i cs L rfl (by have := Lw.be HLW.out D4.out; rw [HEL.out] at this; exact this) wr.heap.size HLL.out rfl R4.out.all HLO.out (by omega) ?_; intro v9 Y5 q1 q2 q3; have EG : Hid (Yo W0 Y5 v9 (es ++ [e])) := Yo.grow (HY2.out.keep D4.out) (Lw.be HLW.out D4.out) HCS.out HEL.out.symm (by rw [HNE.out]; exact HSE.out) HNI.out (by rw [HNE.out]; exact HLE.out) q1 q2 q3; obtain ⟨A9, c9, e9, _, _⟩ := Lw.form q1; subst e9; clear q1 q2 q3; simp only [Act.put, List.setIfInBounds_toArray, List.set_cons_zero, List.set_cons_succ]))
            have C5 : Hid (Below W0.heap.size W0 Y5) := EG.out.be
            have SY : Hid (Sw w Y5 es A p v) := S8.out.keep C5.out
            have DY : Hid (Row Y5 bB (vB dg) 51) := Row.below D8.out C5.out D8.out.lt
            have GY : Hid (Row Y5 bC (vB dh) 51) := Row.below G8.out C5.out G8.out.lt
            clear S8 HY2 RR D8 G8 HSE HLW HCS R4 D4 C5 SR
            go_upto_region 25 with (first
              | (refine wpList_load_w (by rfl) 51 (.tmp 7) rfl bB (0) rfl (vB dg) _ DY.out.all Tryz.underlying51 rfl HDI.out ?_; simp only [Act.put, List.setIfInBounds_toArray, List.set_cons_zero, List.set_cons_succ])
              | (refine wpList_load_w (by rfl) 51 (.tmp 14) rfl bC (0) rfl (vB dh) _ GY.out.all Tryz.underlying51 rfl HHD.out ?_; simp only [Act.put, List.setIfInBounds_toArray, List.set_cons_zero, List.set_cons_succ])
              | (refine wpList_eql_b (by rfl) 51 (.tmp 124) (.tmp 125) _ rfl 5 32 dg dh rfl rfl Tryz.underlying51 Tryz.underlying5 info_u8 HDG.out HHG.out guardDE true HEQ.out ?_; simp only [Act.put, List.setIfInBounds_toArray, List.set_cons_zero, List.set_cons_succ])
              | (go_at_call 25; refine Calls.mono (HLN.out Y5 SY.out) ?_; rintro e4 X ⟨rfl, hq⟩; obtain rfl := hq.symm))
            go_wp2_with (first
              | (refine wpList_buildD0 (by rfl) rfl zk HZK.out ?_; simp only [Act.put, List.setIfInBounds_toArray, List.set_cons_zero, List.set_cons_succ])
              | (refine wpList_load_w (by rfl) 51 (.tmp 7) rfl bB (0) rfl (vB dg) _ DY.out.all Tryz.underlying51 rfl HDI.out ?_; simp only [Act.put, List.setIfInBounds_toArray, List.set_cons_zero, List.set_cons_succ])
              | (go_at_call 17; refine Calls.mono (HCK.out Y5 A9 c9 EG.out.at SY.out.be) ?_; rintro e10 X10 ⟨rfl, q⟩; have B10 : Hid (Below w.heap.size w X10) := SY.out.be.trans (q.mono SY.out.be.size); clear q))
            go_ret
            exact ⟨rfl, B10.out⟩
      · go_quiet (fail)
        rw [← H0A.out]
        clear cx hMm hMg hmM ht hM0 hM4
        have hk6 : Below X5.heap.size X5 (World.drewN X5 nq) := below_drewN (Below.refl _ _) _
        obtain ⟨Xq, hXq⟩ : ∃ X, X = World.drewN X5 nq := ⟨_, rfl⟩
        rw [← hXq] at hk6 ⊢
        have Sq : Hid (Sw w Xq es A p v) := S5.out.keep hk6
        have Rq : Hid (Row Xq be L 46) := Row.below R5.out hk6 R5.out.lt
        have Dq : Hid (Row Xq bB (vB dg) 51) := Row.below D5.out hk6 D5.out.lt
        clear hk6 hXq S5 R5 D5 ct
        have HRE : rfE e (ltm es M) 150 := .inl ⟨HMY.out, rfl⟩
        have hE0 : rfE e (ltm es M) 150 := HRE
        have HAD : Hid (∀ X, Sw w X es A p v → Calls Tryz.prog 33 #[.pointer (some ⟨p, 0, none⟩), .agg L.toArray] X fun r w' => r = .returned (.tuple #[.int .i64 0, .int .i64 150]) ∧ Below X.heap.size X w') := fun X h => by obtain ⟨w0, hb⟩ := h.bx; exact add_no w0 p v es (by have := HEL.out; omega) e HWF.out Ae n cap HNE.out HNI.out L HLE.out 150 (by rw [HEL.out]; exact hE0) X hb (HGW.out X h.be).cub (HSL.out.be h.be)
        have HCK : Hid (∀ X A9 c9, EsAt X A9 (es ++ [e]) → Below w.heap.size w X → Calls Tryz.prog 17 #[.agg (vB zk).toArray, .agg (vB dg).toArray, .slice A9 (M + 1) c9] X fun r w' => r = .returned (.int .i64 150) ∧ Below X.heap.size X w') := fun X A9 c9 h k => check_no es HOK.out A9 (M + 1) c9 M HEL.out.symm rfl (by omega) zk dg (by rw [HZK.out]; rfl) HDG.out X (HGW.out X k).cub e HWF.out h 150 (by rw [HEL.out]; exact hE0)
        clear hE0 HRE
        go_upto_region 16 with (first
          | (refine wpList_load_w (by rfl) 46 (.tmp 3) rfl be (0) rfl (L) _ Rq.out.all Tryz.underlying46 rfl HI.out ?_; simp only [Act.put, List.setIfInBounds_toArray, List.set_cons_zero, List.set_cons_succ])
          | (go_at_call 33; refine Calls.mono (HAD.out Xq Sq.out) ?_; rintro e6 X6 ⟨rfl, q⟩; have C6 : Hid (Below Xq.heap.size Xq X6) := q; clear q))
        have S6 : Hid (Sw w X6 es A p v) := Sq.out.keep C6.out
        have R6 : Hid (Row X6 be L 46) := Row.below Rq.out C6.out Rq.out.lt
        have D6 : Hid (Row X6 bB (vB dg) 51) := Row.below Dq.out C6.out Dq.out.lt
        clear Sq Rq Dq C6 HAD
        obtain ⟨dh, hdh⟩ : ∃ d, d = dg := ⟨_, rfl⟩
        rw [← hdh] at HLK HDL
        have HHD : Hid ((Tryz.prog.info? 51).map (·.size) = some (vB dh).length) := by rw [hdh]; exact HDI.out
        have HHG : Hid (dh.length = 32) := by rw [hdh]; exact HDG.out
        have HEQ : Hid (decide (dg = dh) = true) := decide_eq_true hdh.symm
        clear hdh
        go_upto_region 17 with (first
          | (go_at_call 27; refine Calls.mono (HLK.out X6 S6.out) ?_; rintro e9 X7a ⟨rfl, q2⟩; have BX7a : Hid (Below X6.heap.size X6 X7a) := q2; clear q2)
          | (refine wpList_allocD rfl rfl ?_; intro X7b q1 q2; have ZX7b : Hid (Row X7b X7a.heap.size (vB zK) 51) := q1; have BX7b : Hid (Below X7a.heap.size X7a X7b) := q2; clear q1 q2; simp only [Act.put, List.setIfInBounds_toArray, List.set_cons_zero, List.set_cons_succ])
          | (refine wpList_storeL rfl 51 (.tmp 14) (.tmp 82) rfl X7a.heap.size (vB dh) (vB zK) 51 rfl rfl ZX7b.out HDL.out HHD.out (all_oneCell_toArray (vB_one _)) ?_; intro X7 q1 q2; have DX7 : Hid (Row X7 X7a.heap.size (vB dh) 51) := q2; have BX7 : Hid (Below X7a.heap.size X7a X7) := (by rw [q1]; exact below_setCells BX7b.out (Nat.le_refl _) _); clear q1 q2; simp only [Act.put]))
        have CX7 : Hid (Below X6.heap.size X6 X7) := BX7a.out.trans (BX7.out.mono BX7a.out.size)
        have S7 : Hid (Sw w X7 es A p v) := S6.out.keep CX7.out
        obtain ⟨bC, hbC⟩ : ∃ b, b = X7a.heap.size := ⟨_, rfl⟩
        rw [← hbC] at DX7 ⊢
        clear hbC BX7a BX7b BX7 ZX7b S6
        have R7 : Hid (Row X7 be L 46) := Row.below R6.out CX7.out R6.out.lt
        have D7 : Hid (Row X7 bB (vB dg) 51) := Row.below D6.out CX7.out D6.out.lt
        clear R6 D6 CX7 HLK
        go_upto_region 18 with (first
          | (go_at_call 34; refine Calls.mono (HEN.out X7 S7.out) ?_; rintro e9 X8a ⟨rfl, q2⟩; have B8a : Hid (Below X7.heap.size X7 X8a) := q2; clear q2)
          | (refine wpList_allocE rfl rfl ?_; intro X8b q1 q2; have Z8 : Hid (Row X8b X8a.heap.size ze 46) := (by rw [HZE.out]; exact q1); have B8b : Hid (Below X8a.heap.size X8a X8b) := q2; clear q1 q2; simp only [Act.put, List.setIfInBounds_toArray, List.set_cons_zero, List.set_cons_succ])
          | (refine wpList_storeL rfl 46 (.tmp 16) (.tmp 89) rfl X8a.heap.size ze ze 46 rfl rfl Z8.out rfl HZI.out HZO.out ?_; intro X8 q1 q2; have B8 : Hid (Below X8a.heap.size X8a X8) := (by rw [q1]; exact below_setCells B8b.out (Nat.le_refl _) _); clear q1 q2; simp only [Act.put]))
        have C8 : Hid (Below X7.heap.size X7 X8) := B8a.out.trans (B8.out.mono B8a.out.size)
        have S8 : Hid (Sw w X8 es A p v) := S7.out.keep C8.out
        have R8 : Hid (Row X8 be L 46) := Row.below R7.out C8.out R7.out.lt
        have D8 : Hid (Row X8 bB (vB dg) 51) := Row.below D7.out C8.out D7.out.lt
        have G8 : Hid (Row X8 bC (vB dh) 51) := Row.below DX7.out C8.out DX7.out.lt
        generalize X8a.heap.size = bE
        clear S7 R7 D7 DX7 C8 B8a B8b B8 Z8 HEN
        obtain ⟨W0, hW0⟩ : ∃ W, W = X8 := ⟨_, rfl⟩
        rw [← hW0] at S8 R8 D8 G8 ⊢
        clear hW0
        have Y0 : Hid (Yo W0 W0 (.slice none 0 0) (es.take 0)) := Yo.nil (Below.refl _ _)
        go_wp2_with fail
        go_loopw [18, 19] (fun v18 v19 wr => ∃ (i : Nat) (A7 : Option Addr) (c7 : Nat), i ≤ M ∧ v19 = .int .i64 (i : Int) ∧ v18 = .slice A7 i c7 ∧ Hid (Yo W0 wr (.slice A7 i c7) (es.take i))) (fun _ v19 _ => M - (intOf v19).toNat)
        case atStart => exact ⟨0, none, 0, Nat.zero_le _, rfl, rfl, Y0⟩
        case round =>
          obtain ⟨i, A7, c7, hi, rfl, rfl, HY⟩ := hrel
          clear Y0
          have SR : Hid (Sw w wr es A p v) := S8.out.keep HY.out.be
          by_cases hlt : i < M
          · obtain ⟨x, hx⟩ : ∃ x, es[i]? = some x := ⟨_, List.getElem?_eq_getElem (by have := HEL.out; omega)⟩
            obtain ⟨b, o, A', c', hA0, hrg, hsl, hnil⟩ := S8.out.ea i x hx
            have hwx := (HOK.out.wf hx).1
            obtain ⟨Lx, hLx⟩ : ∃ L, L = x.cells (.slice A' x.d.length c') := ⟨_, rfl⟩
            rw [← hLx] at hrg
            obtain ⟨q, hq⟩ : ∃ q, q = o + i * 49 := ⟨_, rfl⟩
            have HQ : Hid (o + i * 49 = q) := hq.symm
            rw [← hq] at hrg
            have HRG : Hid (wr.rangeAt b q Lx) := range_be hrg HY.out.be
            have HSX : Hid (SlAt W0 (.slice A' x.d.length c') x.d) := hsl
            have HNX : Hid (A' = none → c' = 0) := hnil
            have HLX : Hid (Lx = x.cells (.slice A' x.d.length c')) := hLx
            have HXI : Hid ((Tryz.prog.info? 46).map (·.size) = some Lx.length) := by rw [hLx]; exact Ev.info hwx _
            have HXL : Hid (Lx.length = 49) := by rw [hLx]; exact Ev.len hwx _
            have HXO : Hid (∀ u ∈ Lx, u.oneCell' = true) := by rw [hLx]; exact Ev.one x _ _ _
            have HIN : Hid (i < M) := hlt
            have HTE : Hid (es.take i ++ [x] = es.take (i + 1)) := by show _ = _; rw [List.take_add_one, hx]; rfl
            have HTL : Hid ((es.take i).length = i) := by show _ = _; rw [List.length_take]; have := HEL.out; omega
            have HA0 : Hid (A = some ⟨b, o, none⟩) := hA0
            obtain ⟨cs, hcs1, hcs2⟩ := HY.out.own
            have HLW : Hid (Lw wr 46 49 (.slice A7 i c7) (es.take i).length cs) := hcs1
            have HCS : Hid _ := hcs2
            clear hx hrg hsl hnil hwx hLx hq hA0 hcs1 hcs2
            have hiM : i ≤ 100 := by omega
            go_upto_region 21 with (first
              | (refine wpList_ixO 52 46 (.tmp 98) (.tmp 99) rfl b o M c i 49 q HQ.out (by show Value.slice _ M c = _; rw [HA0.out]) rfl HIN.out Tryz.underlying52 info_ent rfl ?_; simp only [Act.put, List.setIfInBounds_toArray, List.set_cons_zero, List.set_cons_succ])
              | (refine wpList_load_w (by rfl) 46 (.tmp 100) rfl b (q) rfl (Lx) _ HRG.out Tryz.underlying46 rfl HXI.out ?_; simp only [Act.put, List.setIfInBounds_toArray, List.set_cons_zero, List.set_cons_succ])
              | (refine wpList_bEnt rfl (.tmp 101) rfl Lx HXL.out rfl ?_; intro Y4 q1 q2; have R4 : Hid (Row Y4 wr.heap.size Lx 46) := q1; have D4 : Hid (Below wr.heap.size wr Y4) := q2; clear q1 q2; simp only [Act.put, List.setIfInBounds_toArray, List.set_cons_zero, List.set_cons_succ])
              | (refine wpList_appL 52 46 49 136 Tryz.underlying52 info_entO (by decide) (by decide) rfl (.tmp 97) (.tmp 102) rfl (.slice A7 i c7) i cs Lx rfl (by have := Lw.be HLW.out D4.out; rw [HTL.out] at this; exact this) wr.heap.size HXL.out rfl R4.out.all HXO.out (by omega) ?_; intro v9 Y5 q1 q2 q3; have EG : Hid (Yo W0 Y5 v9 (es.take (i + 1))) := (by rw [← HTE.out]; exact Yo.grow (HY.out.keep D4.out) (Lw.be HLW.out D4.out) HCS.out HTL.out.symm HSX.out HNX.out HLX.out q1 q2 q3); obtain ⟨A9, c9, e9, _, _⟩ := Lw.form q1; subst e9; clear q1 q2 q3; simp only [Act.put, List.setIfInBounds_toArray, List.set_cons_zero, List.set_cons_succ]))
            clear HLW HCS HY SR HRG HSX R4 D4
            go_wp2_with fail
            go_roundw
            case rel => exact ⟨i + 1, A9, c9, hlt, rfl, rfl, EG⟩
            case measure => simp [intOf]; omega
          · obtain rfl : i = M := by omega
            have h5 : ¬ ((i : Int) < (i : Int)) := by omega
            have HTK : Hid (es.take i = es) := by rw [← HEL.out]; exact List.take_length
            have HY2 : Hid (Yo W0 wr (.slice A7 i c7) es) := by have := HY.out; rw [HTK.out] at this; exact this
            have RR : Hid (Row wr be L 46) := Row.below R8.out HY.out.be R8.out.lt
            have HSE : Hid (SlAt W0 (.slice Ae n cap) e.d) := HSL.out.be S8.out.be
            obtain ⟨cs, hcs1, hcs2⟩ := HY2.out.own
            have HLW : Hid (Lw wr 46 49 (.slice A7 i c7) es.length cs) := hcs1
            have HCS : Hid _ := hcs2
            clear hcs1 hcs2 R8 HY HTK
            go_upto_region 24 with (first
              | (refine wpList_load_w (by rfl) 46 (.tmp 3) rfl be (0) rfl (L) _ RR.out.all Tryz.underlying46 rfl HI.out ?_; simp only [Act.put, List.setIfInBounds_toArray, List.set_cons_zero, List.set_cons_succ])
              | (refine wpList_bEnt rfl (.tmp 105) rfl L HLL.out rfl ?_; intro Y4 q1 q2; have R4 : Hid (Row Y4 wr.heap.size L 46) := q1; have D4 : Hid (Below wr.heap.size wr Y4) := q2; clear q1 q2; simp only [Act.put, List.setIfInBounds_toArray, List.set_cons_zero, List.set_cons_succ])
              | (refine wpList_appL 52 46 49 136 Tryz.underlying52 info_entO (by decide) (by decide) rfl (.tmp 104) (.tmp 106) rfl (.slice A7 i c7) i cs L rfl (by have := Lw.be HLW.out D4.out; rw [HEL.out] at this; exact this) wr.heap.size HLL.out rfl R4.out.all HLO.out (by omega) ?_; intro v9 Y5 q1 q2 q3; have EG : Hid (Yo W0 Y5 v9 (es ++ [e])) := Yo.grow (HY2.out.keep D4.out) (Lw.be HLW.out D4.out) HCS.out HEL.out.symm (by rw [HNE.out]; exact HSE.out) HNI.out (by rw [HNE.out]; exact HLE.out) q1 q2 q3; obtain ⟨A9, c9, e9, _, _⟩ := Lw.form q1; subst e9; clear q1 q2 q3; simp only [Act.put, List.setIfInBounds_toArray, List.set_cons_zero, List.set_cons_succ]))
            have C5 : Hid (Below W0.heap.size W0 Y5) := EG.out.be
            have SY : Hid (Sw w Y5 es A p v) := S8.out.keep C5.out
            have DY : Hid (Row Y5 bB (vB dg) 51) := Row.below D8.out C5.out D8.out.lt
            have GY : Hid (Row Y5 bC (vB dh) 51) := Row.below G8.out C5.out G8.out.lt
            clear S8 HY2 RR D8 G8 HSE HLW HCS R4 D4 C5 SR
            go_upto_region 25 with (first
              | (refine wpList_load_w (by rfl) 51 (.tmp 7) rfl bB (0) rfl (vB dg) _ DY.out.all Tryz.underlying51 rfl HDI.out ?_; simp only [Act.put, List.setIfInBounds_toArray, List.set_cons_zero, List.set_cons_succ])
              | (refine wpList_load_w (by rfl) 51 (.tmp 14) rfl bC (0) rfl (vB dh) _ GY.out.all Tryz.underlying51 rfl HHD.out ?_; simp only [Act.put, List.setIfInBounds_toArray, List.set_cons_zero, List.set_cons_succ])
              | (refine wpList_eql_b (by rfl) 51 (.tmp 124) (.tmp 125) _ rfl 5 32 dg dh rfl rfl Tryz.underlying51 Tryz.underlying5 info_u8 HDG.out HHG.out guardDE true HEQ.out ?_; simp only [Act.put, List.setIfInBounds_toArray, List.set_cons_zero, List.set_cons_succ])
              | (go_at_call 25; refine Calls.mono (HLN.out Y5 SY.out) ?_; rintro e4 X ⟨rfl, hq⟩; obtain rfl := hq.symm))
            go_wp2_with (first
              | (refine wpList_buildD0 (by rfl) rfl zk HZK.out ?_; simp only [Act.put, List.setIfInBounds_toArray, List.set_cons_zero, List.set_cons_succ])
              | (refine wpList_load_w (by rfl) 51 (.tmp 7) rfl bB (0) rfl (vB dg) _ DY.out.all Tryz.underlying51 rfl HDI.out ?_; simp only [Act.put, List.setIfInBounds_toArray, List.set_cons_zero, List.set_cons_succ])
              | (go_at_call 17; refine Calls.mono (HCK.out Y5 A9 c9 EG.out.at SY.out.be) ?_; rintro e10 X10 ⟨rfl, q⟩; have B10 : Hid (Below w.heap.size w X10) := SY.out.be.trans (q.mono SY.out.be.size); clear q))
            go_ret
            exact ⟨rfl, B10.out⟩

end Go.Proofs.YtmfmdlaeflahlaaGreatDoor
