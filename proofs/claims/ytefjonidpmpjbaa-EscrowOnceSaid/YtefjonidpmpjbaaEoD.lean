/-
  EscrowOnce: the walk.
-/
import Derived.Test.YtefjonidpmpjbaaEoC
namespace Go.Proofs.Ytefjonidpmpjbaa
open Go Go.RowKit Go.Maps
open Wd

def SP.nI (x : Int) : SP := ⟨fun W v => ∃ M, v = .slice (some ⟨M, 0, none⟩) 1 1 ∧ Row W M [intV x] tIn, fun _ _ _ hB ⟨M, e, r⟩ => ⟨M, e, Row.below r hB r.lt⟩⟩
section
variable {Q : Exit → Act → World → Prop} {o : Oper} {a : Act} {w : World} {K : Act → World → Prop}
theorem wp_sf3 {x : Operand} (b f : Nat) (ho : o.op = .fieldAddr 35 x 3) (hx : a.eval x = .pointer (some ⟨b, f, none⟩)) (h : K (a.put o.dst (.pointer (some ⟨b, f + 3, none⟩))) w) : Oper.wp Try.prog o a w K Q := by
  obtain ⟨dst, op, ty, pos, after, guard⟩ := o
  simp only at ho
  subst ho
  unfold Oper.wp execOp
  simp only [hx]
  go_simp
  exact h
theorem wp_notE {x : Operand} {t : TypeId} (ho : o.op = .unOp .not t x) (b : Bool) (hx : a.eval x = .bool b) (h : K (a.put o.dst (.bool (!b))) w) : Oper.wp Try.prog o a w K Q := by
  unfold Oper.wp execOp
  simp only [ho, hx]
  simp [go_sem]
  exact h
theorem wp_eqE {x y : Operand} {yt : TypeId} (ho : o.op = .binOp .eql 3 x y yt) (m n : Int) (hx : a.eval x = .int .i64 m) (hy : a.eval y = .int .i64 n) (h : K (a.put o.dst (.bool (m == n))) w) : Oper.wp Try.prog o a w K Q := by
  unfold Oper.wp execOp
  simp only [ho, hx, hy]
  simp [go_sem]
  exact h
theorem wp_pickE {c x y : Operand} (v : Value) (ho : o.op = .pick c x y) (hc : a.eval c = .bool false) (hy : a.eval y = v) (h : K (a.put o.dst v) w) : Oper.wp Try.prog o a w K Q := by
  unfold Oper.wp execOp
  simp only [ho, hc, hy]
  simp [go_sem]
  exact h
theorem wp_buildI (x : Operand) (ho : o.op = .buildSlice tLI 1 #[(0, x)]) (y : Int) (hx : a.eval x = .int .i64 y) (h : ∀ X, Row X w.heap.size [intV y] tIn → Below w.heap.size w X → K (a.put o.dst (.slice (some ⟨w.heap.size, 0, none⟩) 1 1)) X) : Oper.wp Try.prog o a w K Q := by
  obtain ⟨ie, z, h1, h2, h3, h4⟩ := info_of4 all_In
  refine wp_buildSlice tLI tIn 1 _ ho #[intV y] ie z und_LI h1 h2 (by rw [h3]; omega) (by rw [h3]; omega) ?_ (h _ (Row.new' rfl rfl) ((Below.refl _ _).alloc (Nat.le_refl _) _))
  rw [show (Array.map (fun (p : Nat × Operand) => match p with | (i, x) => (i, a.eval x)) #[(0, x)]).toList = [(0, a.eval x)] by simp, hx, h3]
  exact fill_cell _ rfl _ (by simp)
theorem wp_set1E (ty : TypeId) (x y : Operand) (ho : o.op = .store ty x y)
    (b i : Nat) (v : Value) (cs : List Value) (t : TypeId) (hx : a.eval x = .pointer (some ⟨b, i, none⟩)) (hy : a.eval y = v) (hcs : v.cells = #[v]) (r : Row w b cs t) (hl : i < cs.length) (hi : (Try.prog.info? ty).map (·.size) = some 1) (h1 : v.oneCell' = true)
    (h : ∀ X, Row X b (cs.set i v) t → Gro (· = b) w X → K (a.put o.dst undef) X) : Oper.wp Try.prog o a w K Q := by
  have ht := r.there i 1 (by omega)
  have hr : (storeVar ty ⟨b, i, none⟩ v).run Try.prog w = .ok () (w.setCell ⟨b, i, none⟩ v) := by
    have := run_storeCells_cells (P := Try.prog) b i [v] 0 w (fun j hj => by simpa using (ht j (by simpa using hj)).1) (fun j hj => by simpa using (ht j (by simpa using hj)).2) (fun u hu => by simp at hu; rw [hu]; exact h1)
    cases hq : Try.prog.info? ty with
    | none => simp [hq] at hi
    | some ie =>
      have hs : ie.size = 1 := by simpa [hq] using hi
      simp only [Nat.add_zero, World.setCells] at this
      simp [storeVar, sizeOf, typeInfo, hq, hcs, hs, this]
  unfold Oper.wp execOp
  simp only [ho, hx, hy, Instr.storeAt, Instr.sureAddr, Sem.run_bind, Sem.run_pure, Result.andThen_ok, hr]
  exact h _ (r.set i v) ((Gro.refl _ _).set b i v rfl)
end
set_option maxRecDepth 100000 in
set_option maxHeartbeats 16000000 in
theorem once5_walk (l : List Stv) (A0 : Option Addr) (N c0 : Nat) (hN : N = l.length) (hNb : N < 4398046511104) (w : World) (h0 : ∀ i r, l[i]? = some r → r.Ok ∧ ∃ b o, A0 = some ⟨b, o, none⟩ ∧ w.rangeAt b (o + i * 8) r.cells) :
    Calls Try.prog 5 #[.slice A0 N c0] w fun e w' => e = .returned (.bool true) ∧ Below w.heap.size w w' := by
  have HS : Hid (∀ i r, l[i]? = some r → r.Ok ∧ ∃ b o, A0 = some ⟨b, o, none⟩ ∧ w.rangeAt b (o + i * 8) r.cells) := h0
  have HNl : Hid (N = l.length) := hN
  have HNB : Hid (N < 4398046511104) := hNb
  clear hN h0 hNb
  go_enter Try.func5, Try.ntmps5
  go_wp2_with (first
    | (go_at_call 8; refine Calls.mono (known_any w) ?_; rintro e X1 ⟨rfl, q⟩; have B1 : Hid (Below w.heap.size w X1) := q; clear q)
    | (go_at_call 9; refine Calls.mono (new_any _) ?_; rintro e X2 ⟨p, rfl, q1, q2, q3⟩; have VS : Hid (Vs w X2 0 [⟨p, .map none, .map none, ⟨fun _ => none, fun _ => 0, 0⟩⟩]) := (Vs.none B1.out).more q1 q2 (fun g e => by { cases e }) (fun g e => by { cases e }) q3; clear q1 q2 q3 B1)
    | (refine wpList_buildOne tPVs tPV und_PVs (info_of4 all_PV) rfl (.tmp 25) rfl (ptrV p) rfl rfl ?_; intro X3 q1 q2 q3; have R5 : Hid (Row X3 X2.heap.size [ptrV p] tPV) := q1; have VS3 : Hid (Vs w X3 0 [⟨p, .map none, .map none, ⟨fun _ => none, fun _ => 0, 0⟩⟩]) := VS.out.keep q2; have N5 : Hid (w.heap.size ≤ X2.heap.size) := VS.out.be.size; clear q1 q2 q3 VS; simp only [Act.put, List.setIfInBounds_toArray, List.set_cons_zero, List.set_cons_succ])
    | (refine wpList_buildOne tLLI tLI und_LLI (info_of4 all_LI) rfl (.const (.slice none 0 0)) rfl (.slice none 0 0) rfl rfl ?_; intro X4 q1 q2 q3; have OI0 : Hid (Oi w X4 0 0 [⟨p, .map none, .map none, ⟨fun _ => none, fun _ => 0, 0⟩⟩] [[]] (.slice (some ⟨X2.heap.size, 0, none⟩) 1 1) (.slice (some ⟨X3.heap.size, 0, none⟩) 1 1) [.slice none 0 0]) := Oi.start (VS3.out.keep q2) (Row.below R5.out q2 R5.out.lt) q1 N5.out VS3.out.be.size; clear q1 q2 q3 VS3 R5 N5; simp only [Act.put, List.setIfInBounds_toArray, List.set_cons_zero, List.set_cons_succ]))
  go_loopw [5, 6, 7] (fun v5 v6 v7 wr => ∃ (i c : Nat) (L : List Ve) (P : List (List Int)) (us : List Value), i ≤ N ∧ c ≤ 2 * i ∧ v7 = .int .i64 (i : Int) ∧ Hid (Oi w wr i c L P v5 v6 us)) (fun _ _ v7 _ => N - (intOf v7).toNat)
  case atStart => exact ⟨0, 0, _, _, _, Nat.zero_le _, Nat.le_refl _, rfl, OI0⟩
  case round =>
    obtain ⟨i, c, L, P, us, hi, hci, hv7, WW⟩ := hrel
    clear OI0
    subst hv7
    by_cases hiN : i < N
    · obtain ⟨r, hr⟩ : ∃ r, l[i]? = some r := ⟨_, List.getElem?_eq_getElem (by rw [← HNl.out]; exact hiN)⟩
      obtain ⟨hok, b, o, hA0, hrg0⟩ := HS.out i r hr
      subst hA0
      obtain ⟨m, hm⟩ : ∃ m, m = L.length := ⟨_, rfl⟩
      have HML1 : Hid (m = L.length) := hm
      have hm1 : 1 ≤ m := by rw [hm]; exact WW.out.l1
      have hm6' : m ≤ 6 := by rw [hm]; exact WW.out.l6
      have hpr := pk_range r.wh (m : Int) (by omega)
      obtain ⟨n, hn⟩ : ∃ n : Nat, pk r.wh (m : Int) = (n : Int) := ⟨(pk r.wh (m : Int)).toNat, by omega⟩
      have hnm : n < m := by omega
      obtain ⟨g5, c5, g6, c6, u, x, pl, Au, cu, hv5, hv6, hu, hx, hp, hxe, -, -, hVt, -⟩ := WW.out.at (n := n) (by omega)
      rw [← hm] at hv5 hv6
      subst hv5 hv6 hxe
      obtain ⟨q, hq⟩ : ∃ q, q = pl.length := ⟨_, rfl⟩
      rw [← hq] at hx
      obtain ⟨pv, hpv⟩ : ∃ p, p = u.p := ⟨_, rfl⟩
      obtain ⟨wh, hwh⟩ : ∃ x, x = r.wh := ⟨_, rfl⟩
      obtain ⟨kd, hkd⟩ : ∃ x, x = r.kd := ⟨_, rfl⟩
      obtain ⟨ix, hix⟩ : ∃ x, x = r.ix := ⟨_, rfl⟩
      obtain ⟨R, hR⟩ : ∃ R, R = r.cells := ⟨_, rfl⟩
      obtain ⟨k, hk⟩ : ∃ k, k = pk kd 11 := ⟨_, rfl⟩
      obtain ⟨s2, hs2⟩ : ∃ x, x = (act u.s k r).1 := ⟨_, rfl⟩
      obtain ⟨E, hE⟩ : ∃ x, x = (act u.s k r).2 := ⟨_, rfl⟩
      obtain ⟨T, hT0⟩ : ∃ x, x = decide (k < 7) := ⟨_, rfl⟩
      have hkr := pk_range kd 11 (by decide)
      rw [← hk] at hkr
      have HX : Hid (us[n]? = some (.slice Au q cu)) := hx
      have HP : Hid (P[n]? = some pl) := hp
      have HQL : Hid (pl.length = q) := hq.symm
      have HPLM : Hid ((pl.map intV).length = q) := by show _ = _; rw [List.length_map]; exact hq.symm
      have HNM : Hid (n < m) := hnm
      have HIN : Hid (i < N) := hiN
      have HCI : Hid (c + 2 ≤ 2 * (i + 1)) := by show _ ≤ _; omega
      have hqi : q ≤ i := by rw [hq]; exact WW.out.ln n pl hp
      have HQI : Hid (q ≤ i) := hqi
      have hNB2 := HNB.out
      have HQ0 : Hid ((0 + q) * 8 ≤ 140737488355328) := by show _ ≤ _; omega
      have HQ1 : Hid (0 + q ≤ 140737488355328) := by show _ ≤ _; omega
      have HQ8 : Hid ((q + 1) * 8 ≤ 140737488355328) := by show _ ≤ _; omega
      have HQ9 : Hid (q + 1 ≤ 140737488355328) := by show _ ≤ _; omega
      have hI : ∀ {z : Int}, I64 z → -9223372036854775808 ≤ z ∧ z ≤ 9223372036854775807 := fun h => bounds_i64 h
      have HIX : Hid (I64 ix) := by rw [hix]; exact hok.ix
      have HRI : Hid ((Try.prog.info? 35).map (·.size) = some R.length) := by show _ = _; rw [hR, Stv.len]; exact info_S
      have HRG0 : Hid (∀ X, Below w.heap.size w X → X.rangeAt b (o + i * 8) R) := fun X h => by rw [hR]; exact range_be hrg0 h
      have HRG : Hid (∀ W, Below wr.heap.size wr W → W.rangeAt b (o + i * 8) R) := fun W h => HRG0.out W (WW.out.be h).oe.vs.be
      have HCW0 : Hid (∀ X, Below w.heap.size w X → X.cell? ⟨b, o + i * 8, none⟩ = some (.int .i64 wh)) := fun X h => by have := HRG0.out X h 0 (.int .i64 wh) (by rw [hR, hwh]; rfl); rwa [Nat.add_zero] at this
      have HCK0 : Hid (∀ X, Below w.heap.size w X → X.cell? ⟨b, o + i * 8 + 1, none⟩ = some (.int .i64 kd)) := fun X h => HRG0.out X h 1 (.int .i64 kd) (by rw [hR, hkd]; rfl)
      have HCX0 : Hid (∀ X, Below w.heap.size w X → X.cell? ⟨b, o + i * 8 + 3, none⟩ = some (.int .i64 ix)) := fun X h => HRG0.out X h 3 (.int .i64 ix) (by rw [hR, hix]; rfl)
      have HPK1 : Hid (∀ X, Calls Try.prog 11 #[.int .i64 wh, .int .i64 (m : Int)] X fun e w' => e = .returned (.int .i64 (n : Int)) ∧ w' = X) := fun X => by rw [← hn, hwh]; exact pick_any r.wh (m : Int) (by omega) (hI hok.wh).1 (hI hok.wh).2 (by omega) X
      have HPK2 : Hid (∀ X, Calls Try.prog 11 #[.int .i64 kd, .int .i64 11] X fun e w' => e = .returned (.int .i64 k) ∧ w' = X) := fun X => by rw [hk, hkd]; exact pick_any r.kd 11 (by decide) (hI hok.kd).1 (hI hok.kd).2 (by decide) X
      have HCH : Hid (∀ W, Below wr.heap.size wr W → Calls Try.prog 12 #[.pointer (some ⟨pv, 0, none⟩), .agg R.toArray] W fun e w' => e = .returned (.tuple #[.bool T, .int .i64 E]) ∧ VtB W pv c u.m1 u.m2 s2 w') := fun W h => by
        have := changing_any ((WW.out.be h).oe.vs.v n u hu) (by show c + 1 < 2 ^ 63 - 1; omega) r hok
        rw [hT0, hE, hs2, hk, hkd, hR, hpv]
        exact this
      have HTU : Hid (∀ W W2, Below wr.heap.size wr W → VtB W pv c u.m1 u.m2 s2 W2 → ∃ n1 n2, Oi w W2 (i + 1) (c + 2) (L.set n ⟨pv, n1, n2, s2⟩) P (.slice (some ⟨g5, 0, none⟩) m c5) (.slice (some ⟨g6, 0, none⟩) m c6) us) := fun W W2 h hC => by
        rw [hpv] at hC ⊢
        rw [hs2] at hC ⊢
        obtain ⟨n1, n2, hO⟩ := (WW.out.be h).oe.turn hu hC
        exact ⟨n1, n2, (WW.out.be h).turn hu k r hO⟩
      have HC5 : Hid (∀ W, Below wr.heap.size wr W → W.cell? ⟨g5, 0 + n * 1, none⟩ = some (.pointer (some ⟨pv, 0, none⟩))) := fun W h => by
        rw [Nat.zero_add, Nat.mul_one]
        exact (WW.out.be h).oe.cell5 (by rw [List.getElem?_map, hu, hpv]; rfl)
      have HNE : Hid (k = 4 → ix ∈ pl → ¬ E = 0) := fun h4 hmem h0 => by
        rw [hE, h4] at h0
        have h1 := (act_pays u.s r h0).1
        have h2 := (WW.out.rp n u pl hu hp ix hmem).2
        rw [hix, h1] at h2
        cases h2
      have HPY : Hid (k = 4 → E = 0 → paid s2.U ix = true) := fun h4 h0 => by
        rw [hE, h4] at h0
        rw [hs2, h4, hix]
        exact (act_pays u.s r h0).2
      have HUL : Hid (L[n]? = some u ∧ n < L.length) := ⟨hu, by omega⟩
      have cw := HCW0.out wr WW.out.oe.vs.be
      have HLUS : Hid (us.length ≤ 6) := by show _ ≤ _; rw [WW.out.lu]; exact WW.out.l6
      clear hu hx hp hq hpv hwh hkd hix hR hk hs2 hE hT0 hm hn hnm hVt hrg0 hok hr hqi hpr
      go_upto_region 11 with (first
        | (refine wpList_ixs 22 35 (.tmp 34) (.tmp 35) rfl b o N c0 i 8 rfl rfl HIN.out und_Ss info_S rfl ?_; simp only [Act.put, List.setIfInBounds_toArray, List.set_cons_zero, List.set_cons_succ])
        | (go_at_call 11; refine Calls.mono (HPK1.out _) ?_; rintro e wr ⟨rfl, rfl⟩))
      clear cw
      have hb1 := Below.refl wr.heap.size wr
      clear WW
      refine wp_named fun a0 ha0 => ?_
      have hsz : a0.tmps.size = 163 := by rw [ha0]; rfl
      have zs0 : a0.eval (.tmp 0) = .slice (some ⟨b, o, none⟩) N c0 := by rw [ha0]; rfl
      have zs5 : a0.eval (.tmp 5) = .slice (some ⟨g5, 0, none⟩) m c5 := by rw [ha0]; rfl
      have zs7 : a0.eval (.tmp 7) = .int .i64 (i : Int) := by rw [ha0]; rfl
      have zs8 : a0.eval (.tmp 8) = .int .i64 (n : Int) := by rw [ha0]; rfl
      obtain ⟨D, hD⟩ : ∃ D : List (Tmp × SP), D = [(43, SP.is (.slice (some ⟨g5, 0, none⟩) m c5)), (44, SP.is (.int .i64 (n : Int))), (45, SP.is (.pointer (some ⟨g5, 0 + n * 1, none⟩))), (46, SP.is (.pointer (some ⟨pv, 0, none⟩))), (47, SP.is (.slice (some ⟨b, o, none⟩) N c0)), (48, SP.is (.int .i64 (i : Int))), (49, SP.is (.pointer (some ⟨b, o + i * 8, none⟩))), (50, SP.is (.agg R.toArray)), (51, SP.is (.tuple #[.bool T, .int .i64 E])), (42, SP.is (.tuple #[.bool T, .int .i64 E])), (52, SP.is (.bool T)), (53, SP.is (.int .i64 E)), (9, SP.is (.bool T)), (10, SP.is (.int .i64 E))] := ⟨_, rfl⟩
      refine wp_region_then (by kernel_rfl) 8 (by decide) (by kernel_rfl) (fun listed ac W => Fp D a0 listed ac W ∧ Below wr.heap.size wr W) (fun listed ac W => Fp D a0 listed ac W ∧ (∃ n1 n2, Oi w W (i + 1) (c + 2) (L.set n ⟨pv, n1, n2, s2⟩) P (.slice (some ⟨g5, 0, none⟩) m c5) (.slice (some ⟨g6, 0, none⟩) m c6) us)) ?_ ?_ ?_ ?_ ?_
      · exact ⟨Fp.start D a0 _ _, Below.drew hb1⟩
      · clear ha0 hb1 
        intro listed ac W k hl hI hdn hk hne hnl
        replace hl : listed.size = 14 := hl
        obtain ⟨hF, hb1⟩ := hI
        have hk1 : k < 14 := List.mem_range.1 (List.mem_filter.1 hk).1
        rcases (show k = 0 ∨ k = 1 ∨ k = 2 ∨ k = 3 ∨ k = 4 ∨ k = 5 ∨ k = 6 ∨ k = 7 ∨ k = 8 ∨ k = 9 ∨ k = 10 ∨ k = 11 ∨ k = 12 ∨ k = 13 by omega) with rfl | rfl | rfl | rfl | rfl | rfl | rfl | rfl | rfl | rfl | rfl | rfl | rfl | rfl
        · have hk3 := hk
          exact wpOp_plain rfl rfl (wp_move_v (ac.eval (.tmp 5)) rfl rfl ⟨(hF.put 0 43 (SP.is (.slice (some ⟨g5, 0, none⟩) m c5)) (ac.eval (.tmp 5)) (by rw [hD]; rfl) (((hF.keep 5 (by rw [hD]; rfl)).trans zs5)) (by rw [hD]; rfl) (by rw [hsz]; decide) (by rw [hl]; decide)), hb1⟩)
        · have hk3 := hk
          exact wpOp_plain rfl rfl (wp_move_v (ac.eval (.tmp 8)) rfl rfl ⟨(hF.put 1 44 (SP.is (.int .i64 (n : Int))) (ac.eval (.tmp 8)) (by rw [hD]; rfl) (((hF.keep 8 (by rw [hD]; rfl)).trans zs8)) (by rw [hD]; rfl) (by rw [hsz]; decide) (by rw [hl]; decide)), hb1⟩)
        · have hk3 := hk
          have ea := (hF.done 0 (43, SP.is (.slice (some ⟨g5, 0, none⟩) m c5)) (by rw [hD]; rfl) (ready_dep hk 0 (by kernel_rfl)))
          have eb := (hF.done 1 (44, SP.is (.int .i64 (n : Int))) (by rw [hD]; rfl) (ready_dep hk 1 (by kernel_rfl)))
          exact wpOp_plain rfl rfl (wp_ixs tPVs tPV rfl g5 0 m c5 n 1 ea eb HNM.out und_PVs sz_PV ⟨(hF.put 2 45 (SP.is (.pointer (some ⟨g5, 0 + n * 1, none⟩))) (.pointer (some ⟨g5, 0 + n * 1, none⟩)) (by rw [hD]; rfl) rfl (by rw [hD]; rfl) (by rw [hsz]; decide) (by rw [hl]; decide)), hb1⟩)
        · have hk3 := hk
          have ea := (hF.done 2 (45, SP.is (.pointer (some ⟨g5, 0 + n * 1, none⟩))) (by rw [hD]; rfl) (ready_dep hk 2 (by kernel_rfl)))
          exact wpOp_plain rfl rfl (wp_load_1 g5 (0 + n * 1) (.pointer (some ⟨pv, 0, none⟩)) rfl ea (ld_PV W g5 (0 + n * 1) (.pointer (some ⟨pv, 0, none⟩)) (HC5.out W hb1)) ⟨(hF.put 3 46 (SP.is (.pointer (some ⟨pv, 0, none⟩))) (.pointer (some ⟨pv, 0, none⟩)) (by rw [hD]; rfl) rfl (by rw [hD]; rfl) (by rw [hsz]; decide) (by rw [hl]; decide)), hb1⟩)
        · have hk3 := hk
          exact wpOp_plain rfl rfl (wp_move_v (ac.eval (.tmp 0)) rfl rfl ⟨(hF.put 4 47 (SP.is (.slice (some ⟨b, o, none⟩) N c0)) (ac.eval (.tmp 0)) (by rw [hD]; rfl) (((hF.keep 0 (by rw [hD]; rfl)).trans zs0)) (by rw [hD]; rfl) (by rw [hsz]; decide) (by rw [hl]; decide)), hb1⟩)
        · have hk3 := hk
          exact wpOp_plain rfl rfl (wp_move_v (ac.eval (.tmp 7)) rfl rfl ⟨(hF.put 5 48 (SP.is (.int .i64 (i : Int))) (ac.eval (.tmp 7)) (by rw [hD]; rfl) (((hF.keep 7 (by rw [hD]; rfl)).trans zs7)) (by rw [hD]; rfl) (by rw [hsz]; decide) (by rw [hl]; decide)), hb1⟩)
        · have hk3 := hk
          have ea := (hF.done 4 (47, SP.is (.slice (some ⟨b, o, none⟩) N c0)) (by rw [hD]; rfl) (ready_dep hk 4 (by kernel_rfl)))
          have eb := (hF.done 5 (48, SP.is (.int .i64 (i : Int))) (by rw [hD]; rfl) (ready_dep hk 5 (by kernel_rfl)))
          exact wpOp_plain rfl rfl (wp_ixs 22 35 rfl b o N c0 i 8 ea eb HIN.out und_Ss info_S ⟨(hF.put 6 49 (SP.is (.pointer (some ⟨b, o + i * 8, none⟩))) (.pointer (some ⟨b, o + i * 8, none⟩)) (by rw [hD]; rfl) rfl (by rw [hD]; rfl) (by rw [hsz]; decide) (by rw [hl]; decide)), hb1⟩)
        · have hk3 := hk
          have ea := (hF.done 6 (49, SP.is (.pointer (some ⟨b, o + i * 8, none⟩))) (by rw [hD]; rfl) (ready_dep hk 6 (by kernel_rfl)))
          exact wpOp_plain rfl rfl (wp_load_mid 35 (.tmp 49) rfl b (o + i * 8) ea R _ (HRG.out W hb1) Try.underlying35 rfl HRI.out ⟨(hF.put 7 50 (SP.is (.agg R.toArray)) (.agg R.toArray) (by rw [hD]; rfl) rfl (by rw [hD]; rfl) (by rw [hsz]; decide) (by rw [hl]; decide)), hb1⟩)
        · exact absurd rfl hne
        · exact absurd (ready_dep hk 8 (by kernel_rfl)) hnl
        · exact absurd (hdn 9 (ready_dep hk 9 (by kernel_rfl)) 8 (by kernel_rfl)) hnl
        · exact absurd (hdn 9 (ready_dep hk 9 (by kernel_rfl)) 8 (by kernel_rfl)) hnl
        · exact absurd (hdn 9 (hdn 10 (ready_dep hk 10 (by kernel_rfl)) 9 (by kernel_rfl)) 8 (by kernel_rfl)) hnl
        · exact absurd (hdn 9 (hdn 11 (ready_dep hk 11 (by kernel_rfl)) 9 (by kernel_rfl)) 8 (by kernel_rfl)) hnl
      · clear ha0 hb1 
        intro listed ac W hl hI hdn hk
        replace hl : listed.size = 14 := hl
        obtain ⟨hF, hb1⟩ := hI
        have e46 := (hF.done 3 (46, SP.is (.pointer (some ⟨pv, 0, none⟩))) (by rw [hD]; rfl) (ready_dep hk 3 (by kernel_rfl)))
        have e50 := (hF.done 7 (50, SP.is (.agg R.toArray)) (by rw [hD]; rfl) (ready_dep hk 7 (by kernel_rfl)))
        refine wpOp_plain rfl rfl (wp_fcall_v 12 #[.pointer (some ⟨pv, 0, none⟩), .agg R.toArray] rfl rfl (by show [ac.eval (.tmp 46), ac.eval (.tmp 50)] = _; rw [show ac.eval (.tmp 46) = _ from e46, show ac.eval (.tmp 50) = _ from e50]) (by go_simp) ((HCH.out W hb1).mono ?_))
        rintro e W2 ⟨rfl, hT2⟩
        have hT : Fp D a0 listed ac W2 := hF.turn (by rw [hD]; simp only [List.forall_mem_cons, List.not_mem_nil, false_implies, implies_true, and_true]; exact ⟨fun _ h => h, fun _ h => h, fun _ h => h, fun _ h => h, fun _ h => h, fun _ h => h, fun _ h => h, fun _ h => h, fun _ h => h, fun _ h => h, fun _ h => h, fun _ h => h, fun _ h => h, fun _ h => h⟩)
        exact ⟨_, rfl, (hT.put 8 51 (SP.is (.tuple #[.bool T, .int .i64 E])) _ (by rw [hD]; rfl) rfl (by rw [hD]; rfl) (by rw [hsz]; decide) (by rw [hl]; decide)), (HTU.out W W2 hb1 hT2)⟩
      · clear ha0 hb1 
        intro listed ac W k hl hJ hdn hk hne hyl
        replace hl : listed.size = 14 := hl
        obtain ⟨hF, hT⟩ := hJ
        have hk1 : k < 14 := List.mem_range.1 (List.mem_filter.1 hk).1
        rcases (show k = 0 ∨ k = 1 ∨ k = 2 ∨ k = 3 ∨ k = 4 ∨ k = 5 ∨ k = 6 ∨ k = 7 ∨ k = 8 ∨ k = 9 ∨ k = 10 ∨ k = 11 ∨ k = 12 ∨ k = 13 by omega) with rfl | rfl | rfl | rfl | rfl | rfl | rfl | rfl | rfl | rfl | rfl | rfl | rfl | rfl
        · exact absurd (hdn 2 (hdn 3 (hdn 8 hyl 3 (by kernel_rfl)) 2 (by kernel_rfl)) 0 (by kernel_rfl)) (not_yet hk)
        · exact absurd (hdn 2 (hdn 3 (hdn 8 hyl 3 (by kernel_rfl)) 2 (by kernel_rfl)) 1 (by kernel_rfl)) (not_yet hk)
        · exact absurd (hdn 3 (hdn 8 hyl 3 (by kernel_rfl)) 2 (by kernel_rfl)) (not_yet hk)
        · exact absurd (hdn 8 hyl 3 (by kernel_rfl)) (not_yet hk)
        · exact absurd (hdn 6 (hdn 7 (hdn 8 hyl 7 (by kernel_rfl)) 6 (by kernel_rfl)) 4 (by kernel_rfl)) (not_yet hk)
        · exact absurd (hdn 6 (hdn 7 (hdn 8 hyl 7 (by kernel_rfl)) 6 (by kernel_rfl)) 5 (by kernel_rfl)) (not_yet hk)
        · exact absurd (hdn 7 (hdn 8 hyl 7 (by kernel_rfl)) 6 (by kernel_rfl)) (not_yet hk)
        · exact absurd (hdn 8 hyl 7 (by kernel_rfl)) (not_yet hk)
        · exact absurd rfl hne
        · exact wpOp_plain rfl rfl (wp_move_v (ac.eval (.tmp 51)) rfl rfl ⟨(hF.put 9 42 (SP.is (.tuple #[.bool T, .int .i64 E])) _ (by rw [hD]; rfl) (hF.done 8 (51, SP.is (.tuple #[.bool T, .int .i64 E])) (by rw [hD]; rfl) (ready_dep hk 8 (by kernel_rfl))) (by rw [hD]; rfl) (by rw [hsz]; decide) (by rw [hl]; decide)), hT⟩)
        · exact wpOp_plain rfl rfl (wp_extract (.tmp 42) 0 rfl _ (hF.done 9 (42, SP.is (.tuple #[.bool T, .int .i64 E])) (by rw [hD]; rfl) (ready_dep hk 9 (by kernel_rfl))) _ rfl ⟨(hF.put 10 52 (SP.is (.bool T)) _ (by rw [hD]; rfl) rfl (by rw [hD]; rfl) (by rw [hsz]; decide) (by rw [hl]; decide)), hT⟩)
        · exact wpOp_plain rfl rfl (wp_extract (.tmp 42) 1 rfl _ (hF.done 9 (42, SP.is (.tuple #[.bool T, .int .i64 E])) (by rw [hD]; rfl) (ready_dep hk 9 (by kernel_rfl))) _ rfl ⟨(hF.put 11 53 (SP.is (.int .i64 E)) _ (by rw [hD]; rfl) rfl (by rw [hD]; rfl) (by rw [hsz]; decide) (by rw [hl]; decide)), hT⟩)
        · exact wpOp_plain rfl rfl (wp_assign_v (ac.eval (.tmp 52)) rfl rfl ⟨(hF.put 12 9 (SP.is (.bool T)) _ (by rw [hD]; rfl) (hF.done 10 (52, SP.is (.bool T)) (by rw [hD]; rfl) (ready_dep hk 10 (by kernel_rfl))) (by rw [hD]; rfl) (by rw [hsz]; decide) (by rw [hl]; decide)), hT⟩)
        · exact wpOp_plain rfl rfl (wp_assign_v (ac.eval (.tmp 53)) rfl rfl ⟨(hF.put 13 10 (SP.is (.int .i64 E)) _ (by rw [hD]; rfl) (hF.done 11 (53, SP.is (.int .i64 E)) (by rw [hD]; rfl) (ready_dep hk 11 (by kernel_rfl))) (by rw [hD]; rfl) (by rw [hsz]; decide) (by rw [hl]; decide)), hT⟩)
      · clear hb1 
        intro listed ac W hl hJ hr
        replace hl : listed.size = 14 := hl
        obtain ⟨hF, hT⟩ := hJ
        have hall := all_listed (by kernel_rfl) hl hr
        have h43 : ac.eval (.tmp 43) = .slice (some ⟨g5, 0, none⟩) m c5 := hF.done 0 (43, SP.is (.slice (some ⟨g5, 0, none⟩) m c5)) (by rw [hD]; rfl) (hall 0 (by decide))
        have h44 : ac.eval (.tmp 44) = .int .i64 (n : Int) := hF.done 1 (44, SP.is (.int .i64 (n : Int))) (by rw [hD]; rfl) (hall 1 (by decide))
        have h45 : ac.eval (.tmp 45) = .pointer (some ⟨g5, 0 + n * 1, none⟩) := hF.done 2 (45, SP.is (.pointer (some ⟨g5, 0 + n * 1, none⟩))) (by rw [hD]; rfl) (hall 2 (by decide))
        have h46 : ac.eval (.tmp 46) = .pointer (some ⟨pv, 0, none⟩) := hF.done 3 (46, SP.is (.pointer (some ⟨pv, 0, none⟩))) (by rw [hD]; rfl) (hall 3 (by decide))
        have h47 : ac.eval (.tmp 47) = .slice (some ⟨b, o, none⟩) N c0 := hF.done 4 (47, SP.is (.slice (some ⟨b, o, none⟩) N c0)) (by rw [hD]; rfl) (hall 4 (by decide))
        have h48 : ac.eval (.tmp 48) = .int .i64 (i : Int) := hF.done 5 (48, SP.is (.int .i64 (i : Int))) (by rw [hD]; rfl) (hall 5 (by decide))
        have h49 : ac.eval (.tmp 49) = .pointer (some ⟨b, o + i * 8, none⟩) := hF.done 6 (49, SP.is (.pointer (some ⟨b, o + i * 8, none⟩))) (by rw [hD]; rfl) (hall 6 (by decide))
        have h50 : ac.eval (.tmp 50) = .agg R.toArray := hF.done 7 (50, SP.is (.agg R.toArray)) (by rw [hD]; rfl) (hall 7 (by decide))
        have h51 : ac.eval (.tmp 51) = .tuple #[.bool T, .int .i64 E] := hF.done 8 (51, SP.is (.tuple #[.bool T, .int .i64 E])) (by rw [hD]; rfl) (hall 8 (by decide))
        have h42 : ac.eval (.tmp 42) = .tuple #[.bool T, .int .i64 E] := hF.done 9 (42, SP.is (.tuple #[.bool T, .int .i64 E])) (by rw [hD]; rfl) (hall 9 (by decide))
        have h52 : ac.eval (.tmp 52) = .bool T := hF.done 10 (52, SP.is (.bool T)) (by rw [hD]; rfl) (hall 10 (by decide))
        have h53 : ac.eval (.tmp 53) = .int .i64 E := hF.done 11 (53, SP.is (.int .i64 E)) (by rw [hD]; rfl) (hall 11 (by decide))
        have h9 : ac.eval (.tmp 9) = .bool T := hF.done 12 (9, SP.is (.bool T)) (by rw [hD]; rfl) (hall 12 (by decide))
        have h10 : ac.eval (.tmp 10) = .int .i64 E := hF.done 13 (10, SP.is (.int .i64 E)) (by rw [hD]; rfl) (hall 13 (by decide))
        have ea := hF.lay [(43, .slice (some ⟨g5, 0, none⟩) m c5), (44, .int .i64 (n : Int)), (45, .pointer (some ⟨g5, 0 + n * 1, none⟩)), (46, .pointer (some ⟨pv, 0, none⟩)), (47, .slice (some ⟨b, o, none⟩) N c0), (48, .int .i64 (i : Int)), (49, .pointer (some ⟨b, o + i * 8, none⟩)), (50, .agg R.toArray), (51, .tuple #[.bool T, .int .i64 E]), (42, .tuple #[.bool T, .int .i64 E]), (52, .bool T), (53, .int .i64 E), (9, .bool T), (10, .int .i64 E)] (by rw [hD, hsz]; rfl) (by simp only [List.forall_mem_cons, List.not_mem_nil, false_implies, implies_true, and_true]; exact ⟨h43, h44, h45, h46, h47, h48, h49, h50, h51, h42, h52, h53, h9, h10⟩)
        rw [ha0] at ea
        simp only [List.foldl_cons, List.foldl_nil, List.setIfInBounds_toArray, List.set_cons_zero, List.set_cons_succ] at ea
        clear hF hall hr hl hD zs0 zs5 zs7 zs8 ha0 hsz h43 h44 h45 h46 h47 h48 h49 h50 h51 h42 h52 h53 h9 h10
        subst ea
        obtain ⟨n1, n2, hO2⟩ := hT
        obtain ⟨Z, hZ⟩ : ∃ V, V = W := ⟨_, rfl⟩
        rw [← hZ] at hO2 ⊢
        clear hZ
        obtain ⟨L2, hL2⟩ : ∃ X, X = L.set n ⟨pv, n1, n2, s2⟩ := ⟨_, rfl⟩
        rw [← hL2] at hO2
        have HOI : Hid (Oi w Z (i + 1) (c + 2) L2 P (.slice (some ⟨g5, 0, none⟩) m c5) (.slice (some ⟨g6, 0, none⟩) m c6) us) := hO2
        have HU2 : Hid (L2[n]? = some ⟨pv, n1, n2, s2⟩) := by show _ = _; rw [hL2, List.getElem?_set_self HUL.out.2]
        have HML : Hid (m = L2.length) := by show _ = _; rw [hL2, List.length_set]; exact HML1.out
        have HPS : Hid ((L2.map Ve.p)[n]? = some pv) := by show _ = _; rw [List.getElem?_map, HU2.out]; rfl
        have HLM6 : Hid ((L2.map Ve.p).length ≤ 1000000) := by show _ ≤ _; rw [List.length_map, ← HML.out]; omega
        have HUL6 : Hid (us.length ≤ 1000000) := by have := HLUS.out; show _ ≤ _; omega
        have HCP : Hid (Calls Try.prog 14 #[.pointer (some ⟨pv, 0, none⟩)] Z fun e w' => ∃ q n3 n4, e = .returned (.pointer (some ⟨q, 0, none⟩)) ∧ Z.heap.size ≤ q ∧ Vt w' q (c + 2) n3 n4 s2 ∧ (∀ g, Own1 n3 g → Z.heap.size ≤ g) ∧ (∀ g, Own1 n4 g → Z.heap.size ≤ g) ∧ Below Z.heap.size Z w') := copy_any (hO2.oe.vs.v n _ HU2.out)
        have ck := HCK0.out Z hO2.oe.vs.be
        clear hO2 hL2
        go_upto_region 13 with (first
          | (refine wpList_ixs 22 35 (.tmp 54) (.tmp 55) rfl b o N c0 i 8 rfl rfl HIN.out und_Ss info_S rfl ?_; simp only [Act.put, List.setIfInBounds_toArray, List.set_cons_zero, List.set_cons_succ])
          | (go_at_call 11; refine Calls.mono (HPK2.out _) ?_; rintro e Z ⟨rfl, rfl⟩))
        clear ck
        by_cases hk7 : k = 7
        · have hk4 : ¬ k = 4 := by omega
          by_cases hm6 : m < 6
          · have c5n : Z.cell? ⟨g5, n, none⟩ = some (.pointer (some ⟨pv, 0, none⟩)) := HOI.out.oe.cell5 HPS.out
            go_upto_region 19 with (first
              | (refine wpList_ixs tPVs tPV (.tmp 67) (.tmp 68) rfl g5 0 m c5 n 1 rfl rfl HNM.out und_PVs sz_PV rfl ?_; simp only [Act.put, List.setIfInBounds_toArray, List.set_cons_zero, List.set_cons_succ])
              | (go_at_call 14; refine Calls.mono HCP.out ?_; rintro e Y1 ⟨q0, n3, n4, rfl, q1, q2, q3, q4, q5⟩; have O1 : Hid (Oe w Y1 (c + 2) (L2 ++ [⟨q0, n3, n4, s2⟩]) (L2.map Ve.p) (P) (.slice (some ⟨g5, 0, none⟩) m c5) (.slice (some ⟨g6, 0, none⟩) m c6) (us)) := HOI.out.oe.more q1 q2 q3 q4 q5; clear q1 q2 q3 q4 q5 c5n)
              | (refine wpList_buildOne tPVs tPV und_PVs (info_of4 all_PV) rfl (.tmp 75) rfl (ptrV q0) rfl rfl ?_; intro Y2 q1 q2 q3; have RB : Hid (Row Y2 Y1.heap.size [ptrV q0] tPV) := q1; have O2 : Hid (Oe w Y2 (c + 2) (L2 ++ [⟨q0, n3, n4, s2⟩]) (L2.map Ve.p) (P) (.slice (some ⟨g5, 0, none⟩) m c5) (.slice (some ⟨g6, 0, none⟩) m c6) (us)) := O1.out.below q2; clear q1 q2 q3 O1; simp only [Act.put, List.setIfInBounds_toArray, List.set_cons_zero, List.set_cons_succ])
              | (refine wpList_appL tPVs tPV 1 8 und_PVs (info_of all_PV) (by decide) (by decide) rfl (.tmp 74) (.tmp 76) rfl (.slice (some ⟨g5, 0, none⟩) m c5) (L2.map Ve.p).length ((L2.map Ve.p).map ptrV) [ptrV q0] rfl O2.out.l5 Y1.heap.size rfl rfl RB.out.all (fun v hv => by { obtain rfl := List.mem_singleton.1 hv; rfl }) HLM6.out ?_; intro v5x Y3 q1 q2 q3; have O3 : Hid (Oe w Y3 (c + 2) (L2 ++ [⟨q0, n3, n4, s2⟩]) (L2.map Ve.p ++ [q0]) (P) (v5x) (.slice (some ⟨g6, 0, none⟩) m c6) (us)) := O2.out.app5 q1 q2 q3; clear q1 q2 q3 O2 RB; simp only [Act.put, List.setIfInBounds_toArray, List.set_cons_zero, List.set_cons_succ])
              | (refine wpList_build0I rfl rfl ?_; intro Y4 q1 q2; have RE4 : Hid (Row Y4 Y3.heap.size [] tIn) := q1; have O4 : Hid (Oe w Y4 (c + 2) (L2 ++ [⟨q0, n3, n4, s2⟩]) (L2.map Ve.p ++ [q0]) (P) (v5x) (.slice (some ⟨g6, 0, none⟩) m c6) (us)) := O3.out.below q2; have N4 : Hid (w.heap.size ≤ Y3.heap.size ∧ Y3.heap.size ≤ Y4.heap.size) := ⟨O3.out.vs.be.size, q2.size⟩; have c6o : Y4.cell? ⟨g6, n, none⟩ = some (.slice Au q cu) := O4.out.cell6 HX.out; have OL3 : Hid (∀ (k : Nat) (x : Value), us[k]? = some x → ∀ g, x.ownBlock = some g → g < Y3.heap.size) := fun k x hk g hg => (by { obtain ⟨pk_, hpk⟩ := O3.out.pl hk; exact Lw.lt (O3.out.li k x pk_ hk hpk) g hg }); have LI4 : Hid (Lw Y4 tIn 1 (.slice Au q cu) q (pl.map intV)) := (by { have hh := O4.out.li n _ pl HX.out HP.out; rwa [HQL.out] at hh }); clear q1 q2 O3; simp only [Act.put, List.setIfInBounds_toArray, List.set_cons_zero, List.set_cons_succ])
              | (refine wpList_ixs tLLI tLI (.tmp 80) (.tmp 81) rfl g6 0 m c6 n 1 rfl rfl HNM.out und_LLI sz_LI rfl ?_; simp only [Act.put, List.setIfInBounds_toArray, List.set_cons_zero, List.set_cons_succ])
              | (refine wpList_appN tLI tIn 8 und_LI (info_of all_In) rfl (.tmp 79) (.tmp 83) rfl (.slice (some ⟨Y3.heap.size, 0, none⟩) 0 0) 0 [] (pl.map intV) rfl (lw_empty RE4.out) Au q cu HPLM.out rfl (lw_addr LI4.out).1 (lw_addr LI4.out).2 (ints_one pl) HQ0.out HQ1.out ?_; intro ux Y5 q1 q2 q3; have O5 : Hid (Oe w Y5 (c + 2) (L2 ++ [⟨q0, n3, n4, s2⟩]) (L2.map Ve.p ++ [q0]) (P) (v5x) (.slice (some ⟨g6, 0, none⟩) m c6) (us)) := O4.out.other q2 RE4.out (fun k x hk e => Nat.lt_irrefl _ (OL3.out k x hk _ e)) N4.out.1; have U5 : Hid (Nu w Y5 us ux pl) := Nu.of q1 HQL.out q3 N4.out.2 N4.out.1 OL3.out; obtain ⟨Ax, cx, ex, _⟩ := Lw.form q1; have HUC : Hid (ux.cells = #[ux]) := (by { show _ = _; rw [ex]; rfl }); have HUO : Hid (ux.oneCell' = true) := (by { show _ = _; rw [ex]; rfl }); clear q1 q2 q3 ex RE4 O4 OL3 LI4 c6o; simp only [Act.put, List.setIfInBounds_toArray, List.set_cons_zero, List.set_cons_succ])
              | (refine wpList_buildOne tLLI tLI und_LLI (info_of4 all_LI) rfl (.tmp 84) rfl ux HUC.out rfl ?_; intro Y6 q1 q2 q3; have RB6 : Hid (Row Y6 Y5.heap.size [ux] tLI) := q1; have O6 : Hid (Oe w Y6 (c + 2) (L2 ++ [⟨q0, n3, n4, s2⟩]) (L2.map Ve.p ++ [q0]) (P) (v5x) (.slice (some ⟨g6, 0, none⟩) m c6) (us)) := O5.out.below q2; have U6 : Hid (Nu w Y6 us ux pl) := U5.out.below q2; clear q1 q2 q3 O5 U5; simp only [Act.put, List.setIfInBounds_toArray, List.set_cons_zero, List.set_cons_succ])
              | (refine wpList_appL tLLI tLI 1 24 und_LLI (info_of all_LI) (by decide) (by decide) rfl (.tmp 78) (.tmp 85) rfl (.slice (some ⟨g6, 0, none⟩) m c6) us.length us [ux] rfl O6.out.l6 Y5.heap.size rfl rfl RB6.out.all (fun v hv => by { obtain rfl := List.mem_singleton.1 hv; exact HUO.out }) HUL6.out ?_; intro v6x Y7 q1 q2 q3; have O7 : Hid (Oe w Y7 (c + 2) (L2 ++ [⟨q0, n3, n4, s2⟩]) (L2.map Ve.p ++ [q0]) (P ++ [pl]) (v5x) (v6x) (us ++ [ux])) := O6.out.app6 U6.out q1 q2 q3; clear q1 q2 q3 O6 U6 RB6; simp only [Act.put, List.setIfInBounds_toArray, List.set_cons_zero, List.set_cons_succ]))
            have O8 : Hid (Oi w Y7 (i + 1) (c + 2) (L2 ++ [⟨q0, n3, n4, s2⟩]) (P ++ [pl]) v5x v6x (us ++ [ux])) := HOI.out.more HU2.out HP.out (by rw [← HML.out]; exact hm6) O7.out
            go_wp2_with fail
            exact ⟨⟨i + 1, c + 2, _, _, _, HIN.out, HCI.out, by go_num, O8⟩, by simp [intOf]; have := HIN.out; omega⟩
          · go_wp2_with fail
            exact ⟨⟨i + 1, c + 2, _, _, _, HIN.out, HCI.out, by go_num, HOI⟩, by simp [intOf]; have := HIN.out; omega⟩
        · by_cases hk4 : k = 4
          · have HNE2 : Hid (ix ∈ pl → ¬ E = 0) := HNE.out hk4
            have HPY2 : Hid (E = 0 → paid s2.U ix = true) := HPY.out hk4
            clear HNE HPY
            go_wp2_with fail
            go_loopw [13, 14] (fun v13 v14 wq => ∃ j : Nat, j ≤ q ∧ v14 = .int .i64 (j : Int) ∧ v13 = .bool (decide (ix ∈ pl.take j)) ∧ Below Z.heap.size Z wq) (fun _ v14 _ => q - (intOf v14).toNat)
            case atStart => exact ⟨0, Nat.zero_le _, rfl, by simp, Below.refl _ _⟩
            case round =>
              rename World => wq
              obtain ⟨j, hj, rfl, rfl, hbq⟩ := hrel
              have HOq : Hid (Oi w wq (i + 1) (c + 2) L2 P (.slice (some ⟨g5, 0, none⟩) m c5) (.slice (some ⟨g6, 0, none⟩) m c6) us) := HOI.out.be hbq
              have c6q : wq.cell? ⟨g6, n, none⟩ = some (.slice Au q cu) := HOq.out.oe.cell6 HX.out
              have HBQ : Hid (Below Z.heap.size Z wq) := hbq
              by_cases hjq : j < q
              · obtain ⟨y, hy⟩ : ∃ y, pl[j]? = some y := ⟨_, List.getElem?_eq_getElem (by rw [HQL.out]; exact hjq)⟩
                have hli := HOq.out.oe.li n _ pl HX.out HP.out
                rw [HQL.out] at hli
                obtain ⟨gu, hAu, cy⟩ := Oi.int hli hy
                subst hAu
                have HCy : Hid (wq.cell? ⟨gu, j, none⟩ = some (.int .i64 y)) := cy
                have hjb : j < 4398046511104 := by have := HQI.out; have := HIN.out; have := HNB.out; omega
                have HMT := mem_take_succ (x := ix) hy
                have cx : wq.cell? ⟨b, o + i * 8 + 3, none⟩ = some (.int .i64 ix) := HCX0.out wq (HOq.out.oe.vs.be)
                have HJM : Hid (decide (ix ∈ pl.take (j + 1)) = (decide (ix ∈ pl.take j) || (y == ix))) := HMT
                generalize decide (ix ∈ pl.take j) = B at HJM ⊢
                clear HMT hli hy hj hbq
                go_upto_region 24 with (first
                  | (refine wpList_ixs tLLI tLI (.tmp 90) (.tmp 91) rfl g6 0 m c6 n 1 rfl rfl HNM.out und_LLI sz_LI rfl ?_; simp only [Act.put, List.setIfInBounds_toArray, List.set_cons_zero, List.set_cons_succ]))
                cases B with
                | true =>
                  go_quiet (fail)
                  have HB2 : Hid (Below Z.heap.size Z (World.drewN wq nq)) := below_drewN HBQ.out nq
                  generalize World.drewN wq nq = wz at *
                  go_wp2_with fail
                  exact ⟨⟨j + 1, hjq, by go_num, by rw [HJM.out]; rfl, HB2.out⟩, by simp [intOf]; omega⟩
                | false =>
                  have HJQ : Hid (j < q) := hjq
                  have hb1 := Below.refl wq.heap.size wq
                  have HC6q : Hid (∀ W, Below wq.heap.size wq W → W.cell? ⟨g6, 0 + n * 1, none⟩ = some (.slice (some ⟨gu, 0, none⟩) q cu)) := fun W k => by rw [Nat.zero_add, Nat.mul_one]; exact (HOq.out.be k).oe.cell6 HX.out
                  have HCYq : Hid (∀ W, Below wq.heap.size wq W → W.cell? ⟨gu, 0 + j * 1, none⟩ = some (.int .i64 y)) := fun W k => by rw [Nat.zero_add, Nat.mul_one]; exact cell_be HCy.out k
                  have HCXq : Hid (∀ W, Below wq.heap.size wq W → W.cell? ⟨b, o + i * 8 + 3, none⟩ = some (.int .i64 ix)) := fun W k => HCX0.out W (HOq.out.be k).oe.vs.be
                  clear c6q cy cx hjq
                  refine wp_named fun a0 ha0 => ?_
                  have hsz : a0.tmps.size = 163 := by rw [ha0]; rfl
                  have zs0 : a0.eval (.tmp 0) = .slice (some ⟨b, o, none⟩) N c0 := by rw [ha0]; rfl
                  have zs6 : a0.eval (.tmp 6) = .slice (some ⟨g6, 0, none⟩) m c6 := by rw [ha0]; rfl
                  have zs7 : a0.eval (.tmp 7) = .int .i64 (i : Int) := by rw [ha0]; rfl
                  have zs8 : a0.eval (.tmp 8) = .int .i64 (n : Int) := by rw [ha0]; rfl
                  have zs13 : a0.eval (.tmp 13) = .bool false := by rw [ha0]; rfl
                  have zs14 : a0.eval (.tmp 14) = .int .i64 (j : Int) := by rw [ha0]; rfl
                  obtain ⟨D, hD⟩ : ∃ D : List (Tmp × SP), D = [(98, SP.is (.bool false)), (99, SP.is (.bool false)), (100, SP.is (.slice (some ⟨g6, 0, none⟩) m c6)), (101, SP.is (.int .i64 (n : Int))), (102, SP.is (.pointer (some ⟨g6, 0 + n * 1, none⟩))), (103, SP.is (.slice (some ⟨gu, 0, none⟩) q cu)), (104, SP.is (.int .i64 (j : Int))), (105, SP.is (.pointer (some ⟨gu, 0 + j * 1, none⟩))), (106, SP.is (.int .i64 y)), (107, SP.is (.slice (some ⟨b, o, none⟩) N c0)), (108, SP.is (.int .i64 (i : Int))), (109, SP.is (.pointer (some ⟨b, o + i * 8, none⟩))), (110, SP.is (.pointer (some ⟨b, o + i * 8 + 3, none⟩))), (111, SP.is (.int .i64 ix)), (112, SP.is (.bool (y == ix))), (113, SP.is (.bool (y == ix))), (13, SP.is (.bool (y == ix)))] := ⟨_, rfl⟩
                  refine wp_region_down (by kernel_rfl) (fun listed ac W => listed.size = 17 ∧ Fp D a0 listed ac W ∧ Below wq.heap.size wq W) ?_ ?_ ?_
                  · exact ⟨by simp, Fp.start D a0 _ _, Below.drew hb1⟩
                  · clear ha0 hb1  
                    intro listed ac W k hI hdn hk
                    obtain ⟨hl, hF, hb1⟩ := hI
                    have hk1 : k < 17 := List.mem_range.1 (List.mem_filter.1 hk).1
                    have hl2 : ∀ j, (listed.setIfInBounds j true).size = 17 := fun j => by rw [Array.size_setIfInBounds]; exact hl
                    rcases (show k = 0 ∨ k = 1 ∨ k = 2 ∨ k = 3 ∨ k = 4 ∨ k = 5 ∨ k = 6 ∨ k = 7 ∨ k = 8 ∨ k = 9 ∨ k = 10 ∨ k = 11 ∨ k = 12 ∨ k = 13 ∨ k = 14 ∨ k = 15 ∨ k = 16 by omega) with rfl | rfl | rfl | rfl | rfl | rfl | rfl | rfl | rfl | rfl | rfl | rfl | rfl | rfl | rfl | rfl | rfl
                    · have hk3 := hk
                      exact wpOp_plain rfl rfl (wp_move_v (.bool false) rfl ((hF.fresh 16 (13, SP.is (.bool (y == ix))) (by rw [hD]; rfl) (fun h => not_yet hk (hdn 1 (hdn 15 (hdn 16 h 15 (by kernel_rfl)) 1 (by kernel_rfl)) 0 (by kernel_rfl)))).trans zs13) ⟨hl2 0, (hF.put 0 98 (SP.is (.bool false)) (.bool false) (by rw [hD]; rfl) rfl (by rw [hD]; rfl) (by rw [hsz]; decide) (by rw [hl]; decide)), hb1⟩)
                    · have hk3 := hk
                      exact wpOp_plain rfl rfl (wp_move_v (ac.eval (.tmp 98)) rfl rfl ⟨hl2 1, (hF.put 1 99 (SP.is (.bool false)) (ac.eval (.tmp 98)) (by rw [hD]; rfl) ((hF.done 0 (98, SP.is (.bool false)) (by rw [hD]; rfl) (ready_dep hk 0 (by kernel_rfl)))) (by rw [hD]; rfl) (by rw [hsz]; decide) (by rw [hl]; decide)), hb1⟩)
                    · have hk3 := hk
                      exact wpOp_wanted rfl (wanted_g (g := 1) (b := false) rfl rfl (hF.done 1 (99, SP.is (.bool false)) (by rw [hD]; rfl) (ready_dep hk 1 (by kernel_rfl))) (by rw [hF.size, hsz]; decide)) (wp_move_v (ac.eval (.tmp 6)) rfl rfl ⟨hl2 2, (hF.put 2 100 (SP.is (.slice (some ⟨g6, 0, none⟩) m c6)) (ac.eval (.tmp 6)) (by rw [hD]; rfl) (((hF.keep 6 (by rw [hD]; rfl)).trans zs6)) (by rw [hD]; rfl) (by rw [hsz]; decide) (by rw [hl]; decide)), hb1⟩)
                    · have hk3 := hk
                      exact wpOp_wanted rfl (wanted_g (g := 1) (b := false) rfl rfl (hF.done 1 (99, SP.is (.bool false)) (by rw [hD]; rfl) (ready_dep hk 1 (by kernel_rfl))) (by rw [hF.size, hsz]; decide)) (wp_move_v (ac.eval (.tmp 8)) rfl rfl ⟨hl2 3, (hF.put 3 101 (SP.is (.int .i64 (n : Int))) (ac.eval (.tmp 8)) (by rw [hD]; rfl) (((hF.keep 8 (by rw [hD]; rfl)).trans zs8)) (by rw [hD]; rfl) (by rw [hsz]; decide) (by rw [hl]; decide)), hb1⟩)
                    · have hk3 := hk
                      have ea := (hF.done 2 (100, SP.is (.slice (some ⟨g6, 0, none⟩) m c6)) (by rw [hD]; rfl) (ready_dep hk 2 (by kernel_rfl)))
                      have eb := (hF.done 3 (101, SP.is (.int .i64 (n : Int))) (by rw [hD]; rfl) (ready_dep hk 3 (by kernel_rfl)))
                      exact wpOp_wanted rfl (wanted_g (g := 1) (b := false) rfl rfl (hF.done 1 (99, SP.is (.bool false)) (by rw [hD]; rfl) (ready_dep hk 1 (by kernel_rfl))) (by rw [hF.size, hsz]; decide)) (wp_ixs tLLI tLI rfl g6 0 m c6 n 1 ea eb HNM.out und_LLI sz_LI ⟨hl2 4, (hF.put 4 102 (SP.is (.pointer (some ⟨g6, 0 + n * 1, none⟩))) (.pointer (some ⟨g6, 0 + n * 1, none⟩)) (by rw [hD]; rfl) rfl (by rw [hD]; rfl) (by rw [hsz]; decide) (by rw [hl]; decide)), hb1⟩)
                    · have hk3 := hk
                      have ea := (hF.done 4 (102, SP.is (.pointer (some ⟨g6, 0 + n * 1, none⟩))) (by rw [hD]; rfl) (ready_dep hk 4 (by kernel_rfl)))
                      exact wpOp_wanted rfl (wanted_g (g := 1) (b := false) rfl rfl (hF.done 1 (99, SP.is (.bool false)) (by rw [hD]; rfl) (ready_dep hk 1 (by kernel_rfl))) (by rw [hF.size, hsz]; decide)) (wp_load_1 g6 (0 + n * 1) (.slice (some ⟨gu, 0, none⟩) q cu) rfl ea (ld_LI W g6 (0 + n * 1) (.slice (some ⟨gu, 0, none⟩) q cu) (HC6q.out W hb1)) ⟨hl2 5, (hF.put 5 103 (SP.is (.slice (some ⟨gu, 0, none⟩) q cu)) (.slice (some ⟨gu, 0, none⟩) q cu) (by rw [hD]; rfl) rfl (by rw [hD]; rfl) (by rw [hsz]; decide) (by rw [hl]; decide)), hb1⟩)
                    · have hk3 := hk
                      exact wpOp_wanted rfl (wanted_g (g := 1) (b := false) rfl rfl (hF.done 1 (99, SP.is (.bool false)) (by rw [hD]; rfl) (ready_dep hk 1 (by kernel_rfl))) (by rw [hF.size, hsz]; decide)) (wp_move_v (ac.eval (.tmp 14)) rfl rfl ⟨hl2 6, (hF.put 6 104 (SP.is (.int .i64 (j : Int))) (ac.eval (.tmp 14)) (by rw [hD]; rfl) (((hF.keep 14 (by rw [hD]; rfl)).trans zs14)) (by rw [hD]; rfl) (by rw [hsz]; decide) (by rw [hl]; decide)), hb1⟩)
                    · have hk3 := hk
                      have ea := (hF.done 5 (103, SP.is (.slice (some ⟨gu, 0, none⟩) q cu)) (by rw [hD]; rfl) (ready_dep hk 5 (by kernel_rfl)))
                      have eb := (hF.done 6 (104, SP.is (.int .i64 (j : Int))) (by rw [hD]; rfl) (ready_dep hk 6 (by kernel_rfl)))
                      exact wpOp_wanted rfl (wanted_g (g := 1) (b := false) rfl rfl (hF.done 1 (99, SP.is (.bool false)) (by rw [hD]; rfl) (ready_dep hk 1 (by kernel_rfl))) (by rw [hF.size, hsz]; decide)) (wp_ixs tLI tIn rfl gu 0 q cu j 1 ea eb HJQ.out und_LI sz_In ⟨hl2 7, (hF.put 7 105 (SP.is (.pointer (some ⟨gu, 0 + j * 1, none⟩))) (.pointer (some ⟨gu, 0 + j * 1, none⟩)) (by rw [hD]; rfl) rfl (by rw [hD]; rfl) (by rw [hsz]; decide) (by rw [hl]; decide)), hb1⟩)
                    · have hk3 := hk
                      have ea := (hF.done 7 (105, SP.is (.pointer (some ⟨gu, 0 + j * 1, none⟩))) (by rw [hD]; rfl) (ready_dep hk 7 (by kernel_rfl)))
                      exact wpOp_wanted rfl (wanted_g (g := 1) (b := false) rfl rfl (hF.done 1 (99, SP.is (.bool false)) (by rw [hD]; rfl) (ready_dep hk 1 (by kernel_rfl))) (by rw [hF.size, hsz]; decide)) (wp_load_1 gu (0 + j * 1) (.int .i64 y) rfl ea (run_load_in W gu (0 + j * 1) (.int .i64 y) (HCYq.out W hb1)) ⟨hl2 8, (hF.put 8 106 (SP.is (.int .i64 y)) (.int .i64 y) (by rw [hD]; rfl) rfl (by rw [hD]; rfl) (by rw [hsz]; decide) (by rw [hl]; decide)), hb1⟩)
                    · have hk3 := hk
                      exact wpOp_wanted rfl (wanted_g (g := 1) (b := false) rfl rfl (hF.done 1 (99, SP.is (.bool false)) (by rw [hD]; rfl) (ready_dep hk 1 (by kernel_rfl))) (by rw [hF.size, hsz]; decide)) (wp_move_v (ac.eval (.tmp 0)) rfl rfl ⟨hl2 9, (hF.put 9 107 (SP.is (.slice (some ⟨b, o, none⟩) N c0)) (ac.eval (.tmp 0)) (by rw [hD]; rfl) (((hF.keep 0 (by rw [hD]; rfl)).trans zs0)) (by rw [hD]; rfl) (by rw [hsz]; decide) (by rw [hl]; decide)), hb1⟩)
                    · have hk3 := hk
                      exact wpOp_wanted rfl (wanted_g (g := 1) (b := false) rfl rfl (hF.done 1 (99, SP.is (.bool false)) (by rw [hD]; rfl) (ready_dep hk 1 (by kernel_rfl))) (by rw [hF.size, hsz]; decide)) (wp_move_v (ac.eval (.tmp 7)) rfl rfl ⟨hl2 10, (hF.put 10 108 (SP.is (.int .i64 (i : Int))) (ac.eval (.tmp 7)) (by rw [hD]; rfl) (((hF.keep 7 (by rw [hD]; rfl)).trans zs7)) (by rw [hD]; rfl) (by rw [hsz]; decide) (by rw [hl]; decide)), hb1⟩)
                    · have hk3 := hk
                      have ea := (hF.done 9 (107, SP.is (.slice (some ⟨b, o, none⟩) N c0)) (by rw [hD]; rfl) (ready_dep hk 9 (by kernel_rfl)))
                      have eb := (hF.done 10 (108, SP.is (.int .i64 (i : Int))) (by rw [hD]; rfl) (ready_dep hk 10 (by kernel_rfl)))
                      exact wpOp_wanted rfl (wanted_g (g := 1) (b := false) rfl rfl (hF.done 1 (99, SP.is (.bool false)) (by rw [hD]; rfl) (ready_dep hk 1 (by kernel_rfl))) (by rw [hF.size, hsz]; decide)) (wp_ixs 22 35 rfl b o N c0 i 8 ea eb HIN.out und_Ss info_S ⟨hl2 11, (hF.put 11 109 (SP.is (.pointer (some ⟨b, o + i * 8, none⟩))) (.pointer (some ⟨b, o + i * 8, none⟩)) (by rw [hD]; rfl) rfl (by rw [hD]; rfl) (by rw [hsz]; decide) (by rw [hl]; decide)), hb1⟩)
                    · have hk3 := hk
                      have ea := (hF.done 11 (109, SP.is (.pointer (some ⟨b, o + i * 8, none⟩))) (by rw [hD]; rfl) (ready_dep hk 11 (by kernel_rfl)))
                      exact wpOp_wanted rfl (wanted_g (g := 1) (b := false) rfl rfl (hF.done 1 (99, SP.is (.bool false)) (by rw [hD]; rfl) (ready_dep hk 1 (by kernel_rfl))) (by rw [hF.size, hsz]; decide)) (wp_sf3 b (o + i * 8) rfl ea ⟨hl2 12, (hF.put 12 110 (SP.is (.pointer (some ⟨b, o + i * 8 + 3, none⟩))) (.pointer (some ⟨b, o + i * 8 + 3, none⟩)) (by rw [hD]; rfl) rfl (by rw [hD]; rfl) (by rw [hsz]; decide) (by rw [hl]; decide)), hb1⟩)
                    · have hk3 := hk
                      have ea := (hF.done 12 (110, SP.is (.pointer (some ⟨b, o + i * 8 + 3, none⟩))) (by rw [hD]; rfl) (ready_dep hk 12 (by kernel_rfl)))
                      exact wpOp_wanted rfl (wanted_g (g := 1) (b := false) rfl rfl (hF.done 1 (99, SP.is (.bool false)) (by rw [hD]; rfl) (ready_dep hk 1 (by kernel_rfl))) (by rw [hF.size, hsz]; decide)) (wp_load_1 b (o + i * 8 + 3) (.int .i64 ix) rfl ea (run_load_in W b (o + i * 8 + 3) (.int .i64 ix) (HCXq.out W hb1)) ⟨hl2 13, (hF.put 13 111 (SP.is (.int .i64 ix)) (.int .i64 ix) (by rw [hD]; rfl) rfl (by rw [hD]; rfl) (by rw [hsz]; decide) (by rw [hl]; decide)), hb1⟩)
                    · have hk3 := hk
                      have ea := (hF.done 8 (106, SP.is (.int .i64 y)) (by rw [hD]; rfl) (ready_dep hk 8 (by kernel_rfl)))
                      have eb := (hF.done 13 (111, SP.is (.int .i64 ix)) (by rw [hD]; rfl) (ready_dep hk 13 (by kernel_rfl)))
                      exact wpOp_wanted rfl (wanted_g (g := 1) (b := false) rfl rfl (hF.done 1 (99, SP.is (.bool false)) (by rw [hD]; rfl) (ready_dep hk 1 (by kernel_rfl))) (by rw [hF.size, hsz]; decide)) (wp_eqE rfl y ix ea eb ⟨hl2 14, (hF.put 14 112 (SP.is (.bool (y == ix))) (.bool (y == ix)) (by rw [hD]; rfl) rfl (by rw [hD]; rfl) (by rw [hsz]; decide) (by rw [hl]; decide)), hb1⟩)
                    · have hk3 := hk
                      have ea := (hF.done 1 (99, SP.is (.bool false)) (by rw [hD]; rfl) (ready_dep hk 1 (by kernel_rfl)))
                      have eb := (hF.done 14 (112, SP.is (.bool (y == ix))) (by rw [hD]; rfl) (ready_dep hk 14 (by kernel_rfl)))
                      exact wpOp_plain rfl rfl (wp_pickE (.bool (y == ix)) rfl ea eb ⟨hl2 15, (hF.put 15 113 (SP.is (.bool (y == ix))) (.bool (y == ix)) (by rw [hD]; rfl) rfl (by rw [hD]; rfl) (by rw [hsz]; decide) (by rw [hl]; decide)), hb1⟩)
                    · have hk3 := hk
                      exact wpOp_plain rfl rfl (wp_assign_v (ac.eval (.tmp 113)) rfl rfl ⟨hl2 16, (hF.put 16 13 (SP.is (.bool (y == ix))) (ac.eval (.tmp 113)) (by rw [hD]; rfl) ((hF.done 15 (113, SP.is (.bool (y == ix))) (by rw [hD]; rfl) (ready_dep hk 15 (by kernel_rfl)))) (by rw [hD]; rfl) (by rw [hsz]; decide) (by rw [hl]; decide)), hb1⟩)
                  · clear hb1  
                    intro listed ac W hI hr
                    obtain ⟨hl, hF, hb1⟩ := hI
                    have hall := all_listed (by kernel_rfl) hl hr
                    have h98 : ac.eval (.tmp 98) = .bool false := hF.done 0 (98, SP.is (.bool false)) (by rw [hD]; rfl) (hall 0 (by decide))
                    have h99 : ac.eval (.tmp 99) = .bool false := hF.done 1 (99, SP.is (.bool false)) (by rw [hD]; rfl) (hall 1 (by decide))
                    have h100 : ac.eval (.tmp 100) = .slice (some ⟨g6, 0, none⟩) m c6 := hF.done 2 (100, SP.is (.slice (some ⟨g6, 0, none⟩) m c6)) (by rw [hD]; rfl) (hall 2 (by decide))
                    have h101 : ac.eval (.tmp 101) = .int .i64 (n : Int) := hF.done 3 (101, SP.is (.int .i64 (n : Int))) (by rw [hD]; rfl) (hall 3 (by decide))
                    have h102 : ac.eval (.tmp 102) = .pointer (some ⟨g6, 0 + n * 1, none⟩) := hF.done 4 (102, SP.is (.pointer (some ⟨g6, 0 + n * 1, none⟩))) (by rw [hD]; rfl) (hall 4 (by decide))
                    have h103 : ac.eval (.tmp 103) = .slice (some ⟨gu, 0, none⟩) q cu := hF.done 5 (103, SP.is (.slice (some ⟨gu, 0, none⟩) q cu)) (by rw [hD]; rfl) (hall 5 (by decide))
                    have h104 : ac.eval (.tmp 104) = .int .i64 (j : Int) := hF.done 6 (104, SP.is (.int .i64 (j : Int))) (by rw [hD]; rfl) (hall 6 (by decide))
                    have h105 : ac.eval (.tmp 105) = .pointer (some ⟨gu, 0 + j * 1, none⟩) := hF.done 7 (105, SP.is (.pointer (some ⟨gu, 0 + j * 1, none⟩))) (by rw [hD]; rfl) (hall 7 (by decide))
                    have h106 : ac.eval (.tmp 106) = .int .i64 y := hF.done 8 (106, SP.is (.int .i64 y)) (by rw [hD]; rfl) (hall 8 (by decide))
                    have h107 : ac.eval (.tmp 107) = .slice (some ⟨b, o, none⟩) N c0 := hF.done 9 (107, SP.is (.slice (some ⟨b, o, none⟩) N c0)) (by rw [hD]; rfl) (hall 9 (by decide))
                    have h108 : ac.eval (.tmp 108) = .int .i64 (i : Int) := hF.done 10 (108, SP.is (.int .i64 (i : Int))) (by rw [hD]; rfl) (hall 10 (by decide))
                    have h109 : ac.eval (.tmp 109) = .pointer (some ⟨b, o + i * 8, none⟩) := hF.done 11 (109, SP.is (.pointer (some ⟨b, o + i * 8, none⟩))) (by rw [hD]; rfl) (hall 11 (by decide))
                    have h110 : ac.eval (.tmp 110) = .pointer (some ⟨b, o + i * 8 + 3, none⟩) := hF.done 12 (110, SP.is (.pointer (some ⟨b, o + i * 8 + 3, none⟩))) (by rw [hD]; rfl) (hall 12 (by decide))
                    have h111 : ac.eval (.tmp 111) = .int .i64 ix := hF.done 13 (111, SP.is (.int .i64 ix)) (by rw [hD]; rfl) (hall 13 (by decide))
                    have h112 : ac.eval (.tmp 112) = .bool (y == ix) := hF.done 14 (112, SP.is (.bool (y == ix))) (by rw [hD]; rfl) (hall 14 (by decide))
                    have h113 : ac.eval (.tmp 113) = .bool (y == ix) := hF.done 15 (113, SP.is (.bool (y == ix))) (by rw [hD]; rfl) (hall 15 (by decide))
                    have h13 : ac.eval (.tmp 13) = .bool (y == ix) := hF.done 16 (13, SP.is (.bool (y == ix))) (by rw [hD]; rfl) (hall 16 (by decide))
                    have ea := hF.lay [(98, .bool false), (99, .bool false), (100, .slice (some ⟨g6, 0, none⟩) m c6), (101, .int .i64 (n : Int)), (102, .pointer (some ⟨g6, 0 + n * 1, none⟩)), (103, .slice (some ⟨gu, 0, none⟩) q cu), (104, .int .i64 (j : Int)), (105, .pointer (some ⟨gu, 0 + j * 1, none⟩)), (106, .int .i64 y), (107, .slice (some ⟨b, o, none⟩) N c0), (108, .int .i64 (i : Int)), (109, .pointer (some ⟨b, o + i * 8, none⟩)), (110, .pointer (some ⟨b, o + i * 8 + 3, none⟩)), (111, .int .i64 ix), (112, .bool (y == ix)), (113, .bool (y == ix)), (13, .bool (y == ix))] (by rw [hD, hsz]; rfl) (by simp only [List.forall_mem_cons, List.not_mem_nil, false_implies, implies_true, and_true]; exact ⟨h98, h99, h100, h101, h102, h103, h104, h105, h106, h107, h108, h109, h110, h111, h112, h113, h13⟩)
                    rw [ha0] at ea
                    simp only [List.foldl_cons, List.foldl_nil, List.setIfInBounds_toArray, List.set_cons_zero, List.set_cons_succ] at ea
                    clear hF hall hr hl hD  zs0 zs6 zs7 zs8 zs13 zs14 ha0 hsz h98 h99 h100 h101 h102 h103 h104 h105 h106 h107 h108 h109 h110 h111 h112 h113 h13
                    subst ea
                    have HB2 : Hid (Below Z.heap.size Z W) := HBQ.out.trans (hb1.mono HBQ.out.size)
                    clear hb1
                    go_wp2_with fail
                    exact ⟨⟨j + 1, HJQ.out, by go_num, by rw [HJM.out]; rfl, HB2.out⟩, by simp [intOf]; have := HJQ.out; omega⟩
              · obtain rfl : j = q := by omega
                rw [List.take_of_length_le (by rw [HQL.out]; exact Nat.le_refl _)]
                clear hjq hj hbq
                by_cases hmem : ix ∈ pl
                · have hE0 : ¬ E = 0 := HNE2.out hmem
                  have hEb : (E == 0) = false := by simpa using hE0
                  rw [decide_eq_true hmem]
                  clear hmem
                  go_wp2_with (first
                    | (refine wpList_ixs tLLI tLI (.tmp 90) (.tmp 91) rfl g6 0 m c6 n 1 rfl rfl HNM.out und_LLI sz_LI rfl ?_; simp only [Act.put, List.setIfInBounds_toArray, List.set_cons_zero, List.set_cons_succ]))
                  exact ⟨⟨i + 1, c + 2, _, _, _, HIN.out, HCI.out, by go_num, HOq⟩, by simp [intOf]; have := HIN.out; omega⟩
                · rw [decide_eq_false hmem]
                  clear hmem
                  by_cases hE0 : E = 0
                  · have HE0 : Hid (E = 0) := hE0
                    subst hE0
                    have HPD : Hid (paid s2.U ix = true) := HPY2.out rfl
                    go_upto_region 28 with (first
                      | (refine wpList_ixs tLLI tLI (.tmp 90) (.tmp 91) rfl g6 0 m c6 n 1 rfl rfl HNM.out und_LLI sz_LI rfl ?_; simp only [Act.put, List.setIfInBounds_toArray, List.set_cons_zero, List.set_cons_succ]))
                    obtain ⟨Z, hZ⟩ : ∃ V, V = wq := ⟨_, rfl⟩
                    rw [← hZ] at HOq ⊢
                    clear hZ HBQ c6q
                    have hb1 := Below.refl Z.heap.size Z
                    have HC6 : Hid (∀ W, Below Z.heap.size Z W → W.cell? ⟨g6, 0 + n * 1, none⟩ = some (.slice Au j cu)) := fun W k => by rw [Nat.zero_add, Nat.mul_one]; exact (HOq.out.be k).oe.cell6 HX.out
                    have HCX : Hid (∀ W, Below Z.heap.size Z W → W.cell? ⟨b, o + i * 8 + 3, none⟩ = some (.int .i64 ix)) := fun W k => HCX0.out W (HOq.out.be k).oe.vs.be
                    have HLW : Hid (∀ W, Below Z.heap.size Z W → Lw W tIn 1 (.slice Au j cu) j (pl.map intV)) := fun W k => by have hh := (HOq.out.be k).oe.li n _ pl HX.out HP.out; rwa [HQL.out] at hh
                    have HGR : Hid (∀ W W2 v', Below Z.heap.size Z W → Lw W2 tIn 1 v' (j + 1) (pl.map intV ++ [intV ix]) → W.grownBy W2 (Value.slice Au j cu).ownBlock → (v'.ownBlock = (Value.slice Au j cu).ownBlock ∨ v'.ownBlock = some W.heap.size) → Og w W2 (c + 2) L2 (L2.map Ve.p) P (.slice (some ⟨g5, 0, none⟩) m c5) (.slice (some ⟨g6, 0, none⟩) m c6) us n v' (pl ++ [ix])) := fun W W2 v' k p1 p2 p3 => (HOq.out.be k).oe.grow (new := [ix]) HX.out HP.out (by rw [HQL.out]; exact p1) p2 p3
                    refine wp_named fun a0 ha0 => ?_
                    have hsz : a0.tmps.size = 163 := by rw [ha0]; rfl
                    have zs0 : a0.eval (.tmp 0) = .slice (some ⟨b, o, none⟩) N c0 := by rw [ha0]; rfl
                    have zs6 : a0.eval (.tmp 6) = .slice (some ⟨g6, 0, none⟩) m c6 := by rw [ha0]; rfl
                    have zs7 : a0.eval (.tmp 7) = .int .i64 (i : Int) := by rw [ha0]; rfl
                    have zs8 : a0.eval (.tmp 8) = .int .i64 (n : Int) := by rw [ha0]; rfl
                    obtain ⟨D, hD⟩ : ∃ D : List (Tmp × SP), D = [(121, SP.is (.slice (some ⟨g6, 0, none⟩) m c6)), (122, SP.is (.int .i64 (n : Int))), (123, SP.is (.slice (some ⟨g6, 0, none⟩) m c6)), (124, SP.is (.int .i64 (n : Int))), (125, SP.is (.pointer (some ⟨g6, 0 + n * 1, none⟩))), (126, SP.is (.slice Au j cu)), (127, SP.is (.slice (some ⟨b, o, none⟩) N c0)), (128, SP.is (.int .i64 (i : Int))), (129, SP.is (.pointer (some ⟨b, o + i * 8, none⟩))), (130, SP.is (.pointer (some ⟨b, o + i * 8 + 3, none⟩))), (131, SP.is (.int .i64 ix)), (132, SP.any), (133, SP.any), (134, SP.is (.pointer (some ⟨g6, 0 + n * 1, none⟩))), (1000, SP.any)] := ⟨_, rfl⟩
                    refine wp_region_then (by kernel_rfl) 12 (by decide) (by kernel_rfl) (fun listed ac W => Fp D a0 listed ac W ∧ Below Z.heap.size Z W ∧ (listed.getD 11 false = true → (SP.nI ix).P W (ac.eval (.tmp 132)))) (fun listed ac W => ∃ A7 c7, Fp D a0 listed ac W ∧ ac.eval (.tmp 133) = .slice A7 (j + 1) c7 ∧ (if listed.getD 14 false = true then Oe w W (c + 2) L2 (L2.map Ve.p) (P.set n (pl ++ [ix])) (.slice (some ⟨g5, 0, none⟩) m c5) (.slice (some ⟨g6, 0, none⟩) m c6) (us.set n (.slice A7 (j + 1) c7)) else Og w W (c + 2) L2 (L2.map Ve.p) P (.slice (some ⟨g5, 0, none⟩) m c5) (.slice (some ⟨g6, 0, none⟩) m c6) us n (.slice A7 (j + 1) c7) (pl ++ [ix]))) ?_ ?_ ?_ ?_ ?_
                    · exact ⟨Fp.start D a0 _ _, Below.drew hb1, (fun h => (start_no h).elim)⟩
                    · clear ha0 hb1 
                      intro listed ac W k hl hI hdn hk hne hnl
                      replace hl : listed.size = 15 := hl
                      obtain ⟨hF, hb1, ti11⟩ := hI
                      have hk1 : k < 15 := List.mem_range.1 (List.mem_filter.1 hk).1
                      rcases (show k = 0 ∨ k = 1 ∨ k = 2 ∨ k = 3 ∨ k = 4 ∨ k = 5 ∨ k = 6 ∨ k = 7 ∨ k = 8 ∨ k = 9 ∨ k = 10 ∨ k = 11 ∨ k = 12 ∨ k = 13 ∨ k = 14 by omega) with rfl | rfl | rfl | rfl | rfl | rfl | rfl | rfl | rfl | rfl | rfl | rfl | rfl | rfl | rfl
                      · have hk3 := hk
                        exact wpOp_plain rfl rfl (wp_move_v (ac.eval (.tmp 6)) rfl rfl ⟨(hF.put 0 121 (SP.is (.slice (some ⟨g6, 0, none⟩) m c6)) (ac.eval (.tmp 6)) (by rw [hD]; rfl) (((hF.keep 6 (by rw [hD]; rfl)).trans zs6)) (by rw [hD]; rfl) (by rw [hsz]; decide) (by rw [hl]; decide)), hb1, (fun h1 => by change (SP.nI ix).P _ ((ac.put (some 121) _).eval (.tmp 132)); rw [eval_put_other ac _ (by decide)]; exact ti11 (by rwa [getD_set _ _ _ (by decide)] at h1))⟩)
                      · have hk3 := hk
                        exact wpOp_plain rfl rfl (wp_move_v (ac.eval (.tmp 8)) rfl rfl ⟨(hF.put 1 122 (SP.is (.int .i64 (n : Int))) (ac.eval (.tmp 8)) (by rw [hD]; rfl) (((hF.keep 8 (by rw [hD]; rfl)).trans zs8)) (by rw [hD]; rfl) (by rw [hsz]; decide) (by rw [hl]; decide)), hb1, (fun h1 => by change (SP.nI ix).P _ ((ac.put (some 122) _).eval (.tmp 132)); rw [eval_put_other ac _ (by decide)]; exact ti11 (by rwa [getD_set _ _ _ (by decide)] at h1))⟩)
                      · have hk3 := hk
                        exact wpOp_plain rfl rfl (wp_move_v (ac.eval (.tmp 6)) rfl rfl ⟨(hF.put 2 123 (SP.is (.slice (some ⟨g6, 0, none⟩) m c6)) (ac.eval (.tmp 6)) (by rw [hD]; rfl) (((hF.keep 6 (by rw [hD]; rfl)).trans zs6)) (by rw [hD]; rfl) (by rw [hsz]; decide) (by rw [hl]; decide)), hb1, (fun h1 => by change (SP.nI ix).P _ ((ac.put (some 123) _).eval (.tmp 132)); rw [eval_put_other ac _ (by decide)]; exact ti11 (by rwa [getD_set _ _ _ (by decide)] at h1))⟩)
                      · have hk3 := hk
                        exact wpOp_plain rfl rfl (wp_move_v (ac.eval (.tmp 8)) rfl rfl ⟨(hF.put 3 124 (SP.is (.int .i64 (n : Int))) (ac.eval (.tmp 8)) (by rw [hD]; rfl) (((hF.keep 8 (by rw [hD]; rfl)).trans zs8)) (by rw [hD]; rfl) (by rw [hsz]; decide) (by rw [hl]; decide)), hb1, (fun h1 => by change (SP.nI ix).P _ ((ac.put (some 124) _).eval (.tmp 132)); rw [eval_put_other ac _ (by decide)]; exact ti11 (by rwa [getD_set _ _ _ (by decide)] at h1))⟩)
                      · have hk3 := hk
                        have ea := (hF.done 2 (123, SP.is (.slice (some ⟨g6, 0, none⟩) m c6)) (by rw [hD]; rfl) (ready_dep hk 2 (by kernel_rfl)))
                        have eb := (hF.done 3 (124, SP.is (.int .i64 (n : Int))) (by rw [hD]; rfl) (ready_dep hk 3 (by kernel_rfl)))
                        exact wpOp_plain rfl rfl (wp_ixs tLLI tLI rfl g6 0 m c6 n 1 ea eb HNM.out und_LLI sz_LI ⟨(hF.put 4 125 (SP.is (.pointer (some ⟨g6, 0 + n * 1, none⟩))) (.pointer (some ⟨g6, 0 + n * 1, none⟩)) (by rw [hD]; rfl) rfl (by rw [hD]; rfl) (by rw [hsz]; decide) (by rw [hl]; decide)), hb1, (fun h1 => by change (SP.nI ix).P _ ((ac.put (some 125) _).eval (.tmp 132)); rw [eval_put_other ac _ (by decide)]; exact ti11 (by rwa [getD_set _ _ _ (by decide)] at h1))⟩)
                      · have hk3 := hk
                        have ea := (hF.done 4 (125, SP.is (.pointer (some ⟨g6, 0 + n * 1, none⟩))) (by rw [hD]; rfl) (ready_dep hk 4 (by kernel_rfl)))
                        exact wpOp_plain rfl rfl (wp_load_1 g6 (0 + n * 1) (.slice Au j cu) rfl ea (ld_LI W g6 (0 + n * 1) (.slice Au j cu) (HC6.out W hb1)) ⟨(hF.put 5 126 (SP.is (.slice Au j cu)) (.slice Au j cu) (by rw [hD]; rfl) rfl (by rw [hD]; rfl) (by rw [hsz]; decide) (by rw [hl]; decide)), hb1, (fun h1 => by change (SP.nI ix).P _ ((ac.put (some 126) _).eval (.tmp 132)); rw [eval_put_other ac _ (by decide)]; exact ti11 (by rwa [getD_set _ _ _ (by decide)] at h1))⟩)
                      · have hk3 := hk
                        exact wpOp_plain rfl rfl (wp_move_v (ac.eval (.tmp 0)) rfl rfl ⟨(hF.put 6 127 (SP.is (.slice (some ⟨b, o, none⟩) N c0)) (ac.eval (.tmp 0)) (by rw [hD]; rfl) (((hF.keep 0 (by rw [hD]; rfl)).trans zs0)) (by rw [hD]; rfl) (by rw [hsz]; decide) (by rw [hl]; decide)), hb1, (fun h1 => by change (SP.nI ix).P _ ((ac.put (some 127) _).eval (.tmp 132)); rw [eval_put_other ac _ (by decide)]; exact ti11 (by rwa [getD_set _ _ _ (by decide)] at h1))⟩)
                      · have hk3 := hk
                        exact wpOp_plain rfl rfl (wp_move_v (ac.eval (.tmp 7)) rfl rfl ⟨(hF.put 7 128 (SP.is (.int .i64 (i : Int))) (ac.eval (.tmp 7)) (by rw [hD]; rfl) (((hF.keep 7 (by rw [hD]; rfl)).trans zs7)) (by rw [hD]; rfl) (by rw [hsz]; decide) (by rw [hl]; decide)), hb1, (fun h1 => by change (SP.nI ix).P _ ((ac.put (some 128) _).eval (.tmp 132)); rw [eval_put_other ac _ (by decide)]; exact ti11 (by rwa [getD_set _ _ _ (by decide)] at h1))⟩)
                      · have hk3 := hk
                        have ea := (hF.done 6 (127, SP.is (.slice (some ⟨b, o, none⟩) N c0)) (by rw [hD]; rfl) (ready_dep hk 6 (by kernel_rfl)))
                        have eb := (hF.done 7 (128, SP.is (.int .i64 (i : Int))) (by rw [hD]; rfl) (ready_dep hk 7 (by kernel_rfl)))
                        exact wpOp_plain rfl rfl (wp_ixs 22 35 rfl b o N c0 i 8 ea eb HIN.out und_Ss info_S ⟨(hF.put 8 129 (SP.is (.pointer (some ⟨b, o + i * 8, none⟩))) (.pointer (some ⟨b, o + i * 8, none⟩)) (by rw [hD]; rfl) rfl (by rw [hD]; rfl) (by rw [hsz]; decide) (by rw [hl]; decide)), hb1, (fun h1 => by change (SP.nI ix).P _ ((ac.put (some 129) _).eval (.tmp 132)); rw [eval_put_other ac _ (by decide)]; exact ti11 (by rwa [getD_set _ _ _ (by decide)] at h1))⟩)
                      · have hk3 := hk
                        have ea := (hF.done 8 (129, SP.is (.pointer (some ⟨b, o + i * 8, none⟩))) (by rw [hD]; rfl) (ready_dep hk 8 (by kernel_rfl)))
                        exact wpOp_plain rfl rfl (wp_sf3 b (o + i * 8) rfl ea ⟨(hF.put 9 130 (SP.is (.pointer (some ⟨b, o + i * 8 + 3, none⟩))) (.pointer (some ⟨b, o + i * 8 + 3, none⟩)) (by rw [hD]; rfl) rfl (by rw [hD]; rfl) (by rw [hsz]; decide) (by rw [hl]; decide)), hb1, (fun h1 => by change (SP.nI ix).P _ ((ac.put (some 130) _).eval (.tmp 132)); rw [eval_put_other ac _ (by decide)]; exact ti11 (by rwa [getD_set _ _ _ (by decide)] at h1))⟩)
                      · have hk3 := hk
                        have ea := (hF.done 9 (130, SP.is (.pointer (some ⟨b, o + i * 8 + 3, none⟩))) (by rw [hD]; rfl) (ready_dep hk 9 (by kernel_rfl)))
                        exact wpOp_plain rfl rfl (wp_load_1 b (o + i * 8 + 3) (.int .i64 ix) rfl ea (run_load_in W b (o + i * 8 + 3) (.int .i64 ix) (HCX.out W hb1)) ⟨(hF.put 10 131 (SP.is (.int .i64 ix)) (.int .i64 ix) (by rw [hD]; rfl) rfl (by rw [hD]; rfl) (by rw [hsz]; decide) (by rw [hl]; decide)), hb1, (fun h1 => by change (SP.nI ix).P _ ((ac.put (some 131) _).eval (.tmp 132)); rw [eval_put_other ac _ (by decide)]; exact ti11 (by rwa [getD_set _ _ _ (by decide)] at h1))⟩)
                      · have hk3 := hk
                        have ea := (hF.done 10 (131, SP.is (.int .i64 ix)) (by rw [hD]; rfl) (ready_dep hk 10 (by kernel_rfl)))
                        refine wpOp_plain rfl rfl (wp_buildI (.tmp 131) rfl ix ea ?_)
                        intro W2 q1 hB
                        exact ⟨((hF.world hB).put 11 132 (SP.any) (.slice (some ⟨W.heap.size, 0, none⟩) 1 1) (by rw [hD]; rfl) trivial (by rw [hD]; rfl) (by rw [hsz]; decide) (by rw [hl]; decide)), hb1.trans (hB.mono hb1.size), (fun _ => by change (SP.nI ix).P _ ((ac.put (some 132) _).eval (.tmp 132)); rw [eval_put_same ac _ (by rw [hF.size, hsz]; decide)]; exact ⟨_, rfl, q1⟩)⟩
                      · exact absurd rfl hne
                      · have hk3 := hk
                        have ea := (hF.done 0 (121, SP.is (.slice (some ⟨g6, 0, none⟩) m c6)) (by rw [hD]; rfl) (ready_dep hk 0 (by kernel_rfl)))
                        have eb := (hF.done 1 (122, SP.is (.int .i64 (n : Int))) (by rw [hD]; rfl) (ready_dep hk 1 (by kernel_rfl)))
                        exact wpOp_plain rfl rfl (wp_ixs tLLI tLI rfl g6 0 m c6 n 1 ea eb HNM.out und_LLI sz_LI ⟨(hF.put 13 134 (SP.is (.pointer (some ⟨g6, 0 + n * 1, none⟩))) (.pointer (some ⟨g6, 0 + n * 1, none⟩)) (by rw [hD]; rfl) rfl (by rw [hD]; rfl) (by rw [hsz]; decide) (by rw [hl]; decide)), hb1, (fun h1 => by change (SP.nI ix).P _ ((ac.put (some 134) _).eval (.tmp 132)); rw [eval_put_other ac _ (by decide)]; exact ti11 (by rwa [getD_set _ _ _ (by decide)] at h1))⟩)
                      · exact absurd (ready_dep hk 12 (by kernel_rfl)) hnl
                    · clear ha0 hb1 
                      intro listed ac W hl hI hdn hk
                      replace hl : listed.size = 15 := hl
                      obtain ⟨hF, hb1, ti11⟩ := hI
                      have e126 := (hF.done 5 (126, SP.is (.slice Au j cu)) (by rw [hD]; rfl) (ready_dep hk 5 (by kernel_rfl)))
                      obtain ⟨M, e132, q1⟩ := (ti11 (ready_dep hk 11 (by kernel_rfl)))
                      have hno14 : ¬ listed.getD 14 false = true := fun h => not_yet hk (hdn 14 h 12 (by kernel_rfl))
                      refine wpOp_plain rfl rfl (wp_appN tLI tIn 8 und_LI (info_of all_In) (.tmp 126) (.tmp 132) rfl (.slice Au j cu) j (pl.map intV) [intV ix] e126 (HLW.out W hb1) (some ⟨M, 0, none⟩) 1 1 rfl e132 (fun e => by cases e) (fun ad e j u hj => by cases e; rw [Addr.add_mid]; exact q1.all j u hj) (ints_one [ix]) HQ8.out HQ9.out ?_)
                      intro v7 W2 p1 p2 p3
                      obtain ⟨A7, c7, e7, _, _⟩ := Lw.form p1
                      subst e7
                      have hT : Fp D a0 listed ac W2 := hF.turn (by rw [hD]; simp only [List.forall_mem_cons, List.not_mem_nil, false_implies, implies_true, and_true]; exact ⟨fun _ h => h, fun _ h => h, fun _ h => h, fun _ h => h, fun _ h => h, fun _ h => h, fun _ h => h, fun _ h => h, fun _ h => h, fun _ h => h, fun _ h => h, fun _ h => h, fun _ h => h, fun _ h => h, fun _ h => h⟩)
                      exact ⟨A7, c7, (hT.put 12 133 SP.any _ (by rw [hD]; rfl) trivial (by rw [hD]; rfl) (by rw [hsz]; decide) (by rw [hl]; decide)), (eval_put_same ac _ (by rw [hF.size, hsz]; decide)), (by rw [getD_set _ _ _ (by decide), if_neg hno14]; exact HGR.out W W2 _ hb1 p1 p2 p3)⟩
                    · clear ha0 hb1 
                      intro listed ac W k hl hJ hdn hk hne hyl
                      replace hl : listed.size = 15 := hl
                      obtain ⟨A7, c7, hF, hJ1, hJ2⟩ := hJ
                      have hk1 : k < 15 := List.mem_range.1 (List.mem_filter.1 hk).1
                      rcases (show k = 0 ∨ k = 1 ∨ k = 2 ∨ k = 3 ∨ k = 4 ∨ k = 5 ∨ k = 6 ∨ k = 7 ∨ k = 8 ∨ k = 9 ∨ k = 10 ∨ k = 11 ∨ k = 12 ∨ k = 13 ∨ k = 14 by omega) with rfl | rfl | rfl | rfl | rfl | rfl | rfl | rfl | rfl | rfl | rfl | rfl | rfl | rfl | rfl
                      · have hk3 := hk
                        exact wpOp_plain rfl rfl (wp_move_v (ac.eval (.tmp 6)) rfl rfl ⟨A7, c7, (hF.put 0 121 (SP.is (.slice (some ⟨g6, 0, none⟩) m c6)) (ac.eval (.tmp 6)) (by rw [hD]; rfl) (((hF.keep 6 (by rw [hD]; rfl)).trans zs6)) (by rw [hD]; rfl) (by rw [hsz]; decide) (by rw [hl]; decide)), (eval_put_other ac _ (by decide)).trans (hJ1), (by rw [getD_set _ _ _ (by decide)]; exact hJ2)⟩)
                      · have hk3 := hk
                        exact wpOp_plain rfl rfl (wp_move_v (ac.eval (.tmp 8)) rfl rfl ⟨A7, c7, (hF.put 1 122 (SP.is (.int .i64 (n : Int))) (ac.eval (.tmp 8)) (by rw [hD]; rfl) (((hF.keep 8 (by rw [hD]; rfl)).trans zs8)) (by rw [hD]; rfl) (by rw [hsz]; decide) (by rw [hl]; decide)), (eval_put_other ac _ (by decide)).trans (hJ1), (by rw [getD_set _ _ _ (by decide)]; exact hJ2)⟩)
                      · exact absurd (hdn 4 (hdn 5 (hdn 12 hyl 5 (by kernel_rfl)) 4 (by kernel_rfl)) 2 (by kernel_rfl)) (not_yet hk)
                      · exact absurd (hdn 4 (hdn 5 (hdn 12 hyl 5 (by kernel_rfl)) 4 (by kernel_rfl)) 3 (by kernel_rfl)) (not_yet hk)
                      · exact absurd (hdn 5 (hdn 12 hyl 5 (by kernel_rfl)) 4 (by kernel_rfl)) (not_yet hk)
                      · exact absurd (hdn 12 hyl 5 (by kernel_rfl)) (not_yet hk)
                      · exact absurd (hdn 8 (hdn 9 (hdn 10 (hdn 11 (hdn 12 hyl 11 (by kernel_rfl)) 10 (by kernel_rfl)) 9 (by kernel_rfl)) 8 (by kernel_rfl)) 6 (by kernel_rfl)) (not_yet hk)
                      · exact absurd (hdn 8 (hdn 9 (hdn 10 (hdn 11 (hdn 12 hyl 11 (by kernel_rfl)) 10 (by kernel_rfl)) 9 (by kernel_rfl)) 8 (by kernel_rfl)) 7 (by kernel_rfl)) (not_yet hk)
                      · exact absurd (hdn 9 (hdn 10 (hdn 11 (hdn 12 hyl 11 (by kernel_rfl)) 10 (by kernel_rfl)) 9 (by kernel_rfl)) 8 (by kernel_rfl)) (not_yet hk)
                      · exact absurd (hdn 10 (hdn 11 (hdn 12 hyl 11 (by kernel_rfl)) 10 (by kernel_rfl)) 9 (by kernel_rfl)) (not_yet hk)
                      · exact absurd (hdn 11 (hdn 12 hyl 11 (by kernel_rfl)) 10 (by kernel_rfl)) (not_yet hk)
                      · exact absurd (hdn 12 hyl 11 (by kernel_rfl)) (not_yet hk)
                      · exact absurd rfl hne
                      · have hk3 := hk
                        have ea := (hF.done 0 (121, SP.is (.slice (some ⟨g6, 0, none⟩) m c6)) (by rw [hD]; rfl) (ready_dep hk 0 (by kernel_rfl)))
                        have eb := (hF.done 1 (122, SP.is (.int .i64 (n : Int))) (by rw [hD]; rfl) (ready_dep hk 1 (by kernel_rfl)))
                        exact wpOp_plain rfl rfl (wp_ixs tLLI tLI rfl g6 0 m c6 n 1 ea eb HNM.out und_LLI sz_LI ⟨A7, c7, (hF.put 13 134 (SP.is (.pointer (some ⟨g6, 0 + n * 1, none⟩))) (.pointer (some ⟨g6, 0 + n * 1, none⟩)) (by rw [hD]; rfl) rfl (by rw [hD]; rfl) (by rw [hsz]; decide) (by rw [hl]; decide)), (eval_put_other ac _ (by decide)).trans (hJ1), (by rw [getD_set _ _ _ (by decide)]; exact hJ2)⟩)
                      · have hk3 := hk
                        have e134 := (hF.done 13 (134, SP.is (.pointer (some ⟨g6, 0 + n * 1, none⟩))) (by rw [hD]; rfl) (ready_dep hk 13 (by kernel_rfl)))
                        rw [if_neg (not_yet hk)] at hJ2
                        obtain ⟨gx, capx, cur, ex, rx, hx, hset⟩ := hJ2.lay
                        obtain ⟨rfl, _, _⟩ : g6 = gx ∧ m = us.length ∧ c6 = capx := by simpa using ex
                        have e134b : ac.eval (.tmp 134) = .pointer (some ⟨g6, n, none⟩) := by rw [show ac.eval (.tmp 134) = _ from e134, Nat.zero_add, Nat.mul_one]
                        refine wpOp_plain rfl rfl (wp_set1E tLI (.tmp 134) (.tmp 133) rfl g6 n (.slice A7 (j + 1) c7) cur tLI e134b hJ1 rfl rx hx sz_LI rfl ?_)
                        intro W2 p1 p2
                        have hT : Fp D a0 listed ac W2 := hF.turn (by rw [hD]; simp only [List.forall_mem_cons, List.not_mem_nil, false_implies, implies_true, and_true]; exact ⟨fun _ h => h, fun _ h => h, fun _ h => h, fun _ h => h, fun _ h => h, fun _ h => h, fun _ h => h, fun _ h => h, fun _ h => h, fun _ h => h, fun _ h => h, fun _ h => h, fun _ h => h, fun _ h => h, fun _ h => h⟩)
                        exact ⟨A7, c7, (hT.skip 14 1000 (by rw [hD]; rfl) (by rw [hl]; decide)), hJ1, (by rw [if_pos (getD_same (by rw [hl]; decide))]; exact hset _ p1 p2)⟩
                    · clear hb1 
                      intro listed ac W hl hJ hr
                      replace hl : listed.size = 15 := hl
                      obtain ⟨A7, c7, hF, hJ1, hJ2⟩ := hJ
                      have hall := all_listed (by kernel_rfl) hl hr
                      rw [if_pos (hall 14 (by decide))] at hJ2
                      have h121 : ac.eval (.tmp 121) = .slice (some ⟨g6, 0, none⟩) m c6 := hF.done 0 (121, SP.is (.slice (some ⟨g6, 0, none⟩) m c6)) (by rw [hD]; rfl) (hall 0 (by decide))
                      have h122 : ac.eval (.tmp 122) = .int .i64 (n : Int) := hF.done 1 (122, SP.is (.int .i64 (n : Int))) (by rw [hD]; rfl) (hall 1 (by decide))
                      have h123 : ac.eval (.tmp 123) = .slice (some ⟨g6, 0, none⟩) m c6 := hF.done 2 (123, SP.is (.slice (some ⟨g6, 0, none⟩) m c6)) (by rw [hD]; rfl) (hall 2 (by decide))
                      have h124 : ac.eval (.tmp 124) = .int .i64 (n : Int) := hF.done 3 (124, SP.is (.int .i64 (n : Int))) (by rw [hD]; rfl) (hall 3 (by decide))
                      have h125 : ac.eval (.tmp 125) = .pointer (some ⟨g6, 0 + n * 1, none⟩) := hF.done 4 (125, SP.is (.pointer (some ⟨g6, 0 + n * 1, none⟩))) (by rw [hD]; rfl) (hall 4 (by decide))
                      have h126 : ac.eval (.tmp 126) = .slice Au j cu := hF.done 5 (126, SP.is (.slice Au j cu)) (by rw [hD]; rfl) (hall 5 (by decide))
                      have h127 : ac.eval (.tmp 127) = .slice (some ⟨b, o, none⟩) N c0 := hF.done 6 (127, SP.is (.slice (some ⟨b, o, none⟩) N c0)) (by rw [hD]; rfl) (hall 6 (by decide))
                      have h128 : ac.eval (.tmp 128) = .int .i64 (i : Int) := hF.done 7 (128, SP.is (.int .i64 (i : Int))) (by rw [hD]; rfl) (hall 7 (by decide))
                      have h129 : ac.eval (.tmp 129) = .pointer (some ⟨b, o + i * 8, none⟩) := hF.done 8 (129, SP.is (.pointer (some ⟨b, o + i * 8, none⟩))) (by rw [hD]; rfl) (hall 8 (by decide))
                      have h130 : ac.eval (.tmp 130) = .pointer (some ⟨b, o + i * 8 + 3, none⟩) := hF.done 9 (130, SP.is (.pointer (some ⟨b, o + i * 8 + 3, none⟩))) (by rw [hD]; rfl) (hall 9 (by decide))
                      have h131 : ac.eval (.tmp 131) = .int .i64 ix := hF.done 10 (131, SP.is (.int .i64 ix)) (by rw [hD]; rfl) (hall 10 (by decide))
                      obtain ⟨x132, h132⟩ : ∃ x, ac.eval (.tmp 132) = x := ⟨_, rfl⟩
                      have h134 : ac.eval (.tmp 134) = .pointer (some ⟨g6, 0 + n * 1, none⟩) := hF.done 13 (134, SP.is (.pointer (some ⟨g6, 0 + n * 1, none⟩))) (by rw [hD]; rfl) (hall 13 (by decide))
                      have ea := hF.lay [(121, .slice (some ⟨g6, 0, none⟩) m c6), (122, .int .i64 (n : Int)), (123, .slice (some ⟨g6, 0, none⟩) m c6), (124, .int .i64 (n : Int)), (125, .pointer (some ⟨g6, 0 + n * 1, none⟩)), (126, .slice Au j cu), (127, .slice (some ⟨b, o, none⟩) N c0), (128, .int .i64 (i : Int)), (129, .pointer (some ⟨b, o + i * 8, none⟩)), (130, .pointer (some ⟨b, o + i * 8 + 3, none⟩)), (131, .int .i64 ix), (132, x132), (133, .slice A7 (j + 1) c7), (134, .pointer (some ⟨g6, 0 + n * 1, none⟩))] (by rw [hD, hsz]; rfl) (by simp only [List.forall_mem_cons, List.not_mem_nil, false_implies, implies_true, and_true]; exact ⟨h121, h122, h123, h124, h125, h126, h127, h128, h129, h130, h131, h132, hJ1, h134⟩)
                      rw [ha0] at ea
                      simp only [List.foldl_cons, List.foldl_nil, List.setIfInBounds_toArray, List.set_cons_zero, List.set_cons_succ] at ea
                      clear hF hall hr hl hD zs0 zs6 zs7 zs8 ha0 hsz h121 h122 h123 h124 h125 h126 h127 h128 h129 h130 h131 h132 hJ1 h134
                      subst ea
                      have OP : Hid (Oi w W (i + 1) (c + 2) L2 (P.set n (pl ++ [ix])) (.slice (some ⟨g5, 0, none⟩) m c5) (.slice (some ⟨g6, 0, none⟩) m c6) (us.set n (.slice A7 (j + 1) c7))) := HOq.out.push HU2.out HP.out (by rw [HQL.out]; exact HQI.out) HIX.out HPD.out hJ2
                      clear hJ2
                      go_wp2_with fail
                      exact ⟨⟨i + 1, c + 2, _, _, _, HIN.out, HCI.out, by go_num, OP⟩, by simp [intOf]; have := HIN.out; omega⟩
                  · have hEb : (E == 0) = false := by simpa using hE0
                    go_wp2_with (first
                      | (refine wpList_ixs tLLI tLI (.tmp 90) (.tmp 91) rfl g6 0 m c6 n 1 rfl rfl HNM.out und_LLI sz_LI rfl ?_; simp only [Act.put, List.setIfInBounds_toArray, List.set_cons_zero, List.set_cons_succ]))
                    exact ⟨⟨i + 1, c + 2, _, _, _, HIN.out, HCI.out, by go_num, HOq⟩, by simp [intOf]; have := HIN.out; omega⟩
          · go_wp2_with fail
            exact ⟨⟨i + 1, c + 2, _, _, _, HIN.out, HCI.out, by go_num, HOI⟩, by simp [intOf]; have := HIN.out; omega⟩
    · obtain rfl : i = N := by omega
      have HW := WW
      clear hiN hi hci
      obtain ⟨m, hm⟩ : ∃ m, m = L.length := ⟨_, rfl⟩
      have HML : Hid (m = L.length) := hm
      obtain ⟨g5, c5, g6, c6, -, -, -, -, -, rfl, rfl, -⟩ := HW.out.at (n := 0) (by have := HW.out.l1; omega)
      rw [← hm] at HW ⊢
      have hm6 : m ≤ 6 := by rw [hm]; exact HW.out.l6
      clear hm WW
      go_wp2_with fail
      go_loopw [15] (fun v15 wq => ∃ n : Nat, n ≤ m ∧ v15 = .int .i64 (n : Int) ∧ Below wr.heap.size wr wq) (fun v15 _ => m - (intOf v15).toNat)
      case atStart => exact ⟨0, Nat.zero_le _, rfl, Below.refl _ _⟩
      case round =>
        rename World => wq
        obtain ⟨n, hn, rfl, hbq⟩ := hrel
        by_cases hnm : n < m
        · obtain ⟨-, -, -, -, u, x, pl, Au, cu, -, -, hu, hx, hp, rfl, -, -, -, -⟩ := HW.out.at (n := n) (by rw [← HML.out]; exact hnm)
          obtain ⟨q, hq⟩ : ∃ q, q = pl.length := ⟨_, rfl⟩
          rw [← hq] at hx
          obtain ⟨pv, hpv⟩ : ∃ p, p = u.p := ⟨_, rfl⟩
          have HX : Hid (us[n]? = some (.slice Au q cu)) := hx
          have HU : Hid (L[n]? = some u) := hu
          have HP : Hid (P[n]? = some pl) := hp
          have HPS : Hid ((L.map Ve.p)[n]? = some pv) := by show _ = _; rw [List.getElem?_map, hu, hpv]; rfl
          have HQL : Hid (pl.length = q) := hq.symm
          have HNM : Hid (n < m) := hnm
          have HPV : Hid (pv = u.p) := hpv
          have HQB : Hid (q ≤ i) := by show _ ≤ _; rw [hq]; exact HW.out.ln n pl hp
          have hqb : q < 4398046511104 := by have := HQB.out; have := HNB.out; omega
          have c6q : wq.cell? ⟨g6, n, none⟩ = some (.slice Au q cu) := (HW.out.be hbq).oe.cell6 hx
          have HBQ : Hid (Below wr.heap.size wr wq) := hbq
          clear hu hx hp hq hpv hn hbq c6q
          go_wp2_with fail
          go_loopw [16] (fun v16 wq2 => ∃ j : Nat, j ≤ q ∧ v16 = .int .i64 (j : Int) ∧ Below wr.heap.size wr wq2) (fun v16 _ => q - (intOf v16).toNat)
          case atStart => exact ⟨0, Nat.zero_le _, rfl, HBQ.out⟩
          case round =>
            rename World => wq2
            obtain ⟨j, hj, rfl, hb2⟩ := hrel
            have c6r : wq2.cell? ⟨g6, n, none⟩ = some (.slice Au q cu) := (HW.out.be hb2).oe.cell6 HX.out
            have HB2 : Hid (Below wr.heap.size wr wq2) := hb2
            by_cases hjq : j < q
            · obtain ⟨y, hy⟩ : ∃ y, pl[j]? = some y := ⟨_, List.getElem?_eq_getElem (by rw [HQL.out]; exact hjq)⟩
              have hli := (HW.out.be hb2).oe.li n _ pl HX.out HP.out
              rw [HQL.out] at hli
              obtain ⟨gu, hAu, _⟩ := Oi.int hli hy
              subst hAu
              have HY : Hid (pl[j]? = some y) := hy
              have HJQ : Hid (j < q) := hjq
              clear hli hy hb2 hj
              go_upto_region 35 with (first
                | (refine wpList_ixs tLLI tLI (.tmp 142) (.tmp 143) rfl g6 0 m c6 n 1 rfl rfl HNM.out und_LLI sz_LI rfl ?_; simp only [Act.put, List.setIfInBounds_toArray, List.set_cons_zero, List.set_cons_succ]))
              clear c6r
              have hb1 := Below.refl wq2.heap.size wq2
              have HBW : Hid (∀ W, Below wq2.heap.size wq2 W → Oi w W i c L P (.slice (some ⟨g5, 0, none⟩) m c5) (.slice (some ⟨g6, 0, none⟩) m c6) us) := fun W k => (HW.out.be HB2.out).be k
              have HC5 : Hid (∀ W, Below wq2.heap.size wq2 W → W.cell? ⟨g5, 0 + n * 1, none⟩ = some (.pointer (some ⟨pv, 0, none⟩))) := fun W k => by rw [Nat.zero_add, Nat.mul_one]; exact (HBW.out W k).oe.cell5 HPS.out
              have HC6 : Hid (∀ W, Below wq2.heap.size wq2 W → W.cell? ⟨g6, 0 + n * 1, none⟩ = some (.slice (some ⟨gu, 0, none⟩) q cu)) := fun W k => by rw [Nat.zero_add, Nat.mul_one]; exact (HBW.out W k).oe.cell6 HX.out
              have HCY : Hid (∀ W, Below wq2.heap.size wq2 W → W.cell? ⟨gu, 0 + j * 1, none⟩ = some (.int .i64 y)) := fun W k => by
                rw [Nat.zero_add, Nat.mul_one]
                have hli := (HBW.out W k).oe.li n _ pl HX.out HP.out
                rw [HQL.out] at hli
                obtain ⟨g', hg, hc⟩ := Oi.int hli HY.out
                cases hg
                exact hc
              have HPD : Hid (∀ W, Below wq2.heap.size wq2 W → Calls Try.prog 21 #[.pointer (some ⟨pv, 0, none⟩), .int .i64 y] W fun e w' => e = .returned (.bool true) ∧ Below W.heap.size W w') := fun W k => by
                have hR := (HBW.out W k).rp n u pl HU.out HP.out y (List.mem_of_getElem? HY.out)
                have := paid_any ((HBW.out W k).oe.vs.v n u HU.out) y hR.1
                rw [hR.2] at this
                rw [HPV.out]
                exact this
              refine wp_named fun a0 ha0 => ?_
              have hsz : a0.tmps.size = 163 := by rw [ha0]; rfl
              have zs5 : a0.eval (.tmp 5) = .slice (some ⟨g5, 0, none⟩) m c5 := by rw [ha0]; rfl
              have zs6 : a0.eval (.tmp 6) = .slice (some ⟨g6, 0, none⟩) m c6 := by rw [ha0]; rfl
              have zs15 : a0.eval (.tmp 15) = .int .i64 (n : Int) := by rw [ha0]; rfl
              have zs16 : a0.eval (.tmp 16) = .int .i64 (j : Int) := by rw [ha0]; rfl
              obtain ⟨D, hD⟩ : ∃ D : List (Tmp × SP), D = [(150, SP.is (.slice (some ⟨g5, 0, none⟩) m c5)), (151, SP.is (.int .i64 (n : Int))), (152, SP.is (.pointer (some ⟨g5, 0 + n * 1, none⟩))), (153, SP.is (.pointer (some ⟨pv, 0, none⟩))), (154, SP.is (.slice (some ⟨g6, 0, none⟩) m c6)), (155, SP.is (.int .i64 (n : Int))), (156, SP.is (.pointer (some ⟨g6, 0 + n * 1, none⟩))), (157, SP.is (.slice (some ⟨gu, 0, none⟩) q cu)), (158, SP.is (.int .i64 (j : Int))), (159, SP.is (.pointer (some ⟨gu, 0 + j * 1, none⟩))), (160, SP.is (.int .i64 y)), (161, SP.is (.bool true)), (162, SP.is (.bool false))] := ⟨_, rfl⟩
              refine wp_region_down (by kernel_rfl) (fun listed ac W => listed.size = 13 ∧ Fp D a0 listed ac W ∧ Below wq2.heap.size wq2 W) ?_ ?_ ?_
              · exact ⟨by simp, Fp.start D a0 _ _, Below.drew hb1⟩
              · clear ha0 hb1  
                intro listed ac W k hI hdn hk
                obtain ⟨hl, hF, hb1⟩ := hI
                have hk1 : k < 13 := List.mem_range.1 (List.mem_filter.1 hk).1
                have hl2 : ∀ j, (listed.setIfInBounds j true).size = 13 := fun j => by rw [Array.size_setIfInBounds]; exact hl
                rcases (show k = 0 ∨ k = 1 ∨ k = 2 ∨ k = 3 ∨ k = 4 ∨ k = 5 ∨ k = 6 ∨ k = 7 ∨ k = 8 ∨ k = 9 ∨ k = 10 ∨ k = 11 ∨ k = 12 by omega) with rfl | rfl | rfl | rfl | rfl | rfl | rfl | rfl | rfl | rfl | rfl | rfl | rfl
                · have hk3 := hk
                  exact wpOp_plain rfl rfl (wp_move_v (ac.eval (.tmp 5)) rfl rfl ⟨hl2 0, (hF.put 0 150 (SP.is (.slice (some ⟨g5, 0, none⟩) m c5)) (ac.eval (.tmp 5)) (by rw [hD]; rfl) (((hF.keep 5 (by rw [hD]; rfl)).trans zs5)) (by rw [hD]; rfl) (by rw [hsz]; decide) (by rw [hl]; decide)), hb1⟩)
                · have hk3 := hk
                  exact wpOp_plain rfl rfl (wp_move_v (ac.eval (.tmp 15)) rfl rfl ⟨hl2 1, (hF.put 1 151 (SP.is (.int .i64 (n : Int))) (ac.eval (.tmp 15)) (by rw [hD]; rfl) (((hF.keep 15 (by rw [hD]; rfl)).trans zs15)) (by rw [hD]; rfl) (by rw [hsz]; decide) (by rw [hl]; decide)), hb1⟩)
                · have hk3 := hk
                  have ea := (hF.done 0 (150, SP.is (.slice (some ⟨g5, 0, none⟩) m c5)) (by rw [hD]; rfl) (ready_dep hk 0 (by kernel_rfl)))
                  have eb := (hF.done 1 (151, SP.is (.int .i64 (n : Int))) (by rw [hD]; rfl) (ready_dep hk 1 (by kernel_rfl)))
                  exact wpOp_plain rfl rfl (wp_ixs tPVs tPV rfl g5 0 m c5 n 1 ea eb HNM.out und_PVs sz_PV ⟨hl2 2, (hF.put 2 152 (SP.is (.pointer (some ⟨g5, 0 + n * 1, none⟩))) (.pointer (some ⟨g5, 0 + n * 1, none⟩)) (by rw [hD]; rfl) rfl (by rw [hD]; rfl) (by rw [hsz]; decide) (by rw [hl]; decide)), hb1⟩)
                · have hk3 := hk
                  have ea := (hF.done 2 (152, SP.is (.pointer (some ⟨g5, 0 + n * 1, none⟩))) (by rw [hD]; rfl) (ready_dep hk 2 (by kernel_rfl)))
                  exact wpOp_plain rfl rfl (wp_load_1 g5 (0 + n * 1) (.pointer (some ⟨pv, 0, none⟩)) rfl ea (ld_PV W g5 (0 + n * 1) (.pointer (some ⟨pv, 0, none⟩)) (HC5.out W hb1)) ⟨hl2 3, (hF.put 3 153 (SP.is (.pointer (some ⟨pv, 0, none⟩))) (.pointer (some ⟨pv, 0, none⟩)) (by rw [hD]; rfl) rfl (by rw [hD]; rfl) (by rw [hsz]; decide) (by rw [hl]; decide)), hb1⟩)
                · have hk3 := hk
                  exact wpOp_plain rfl rfl (wp_move_v (ac.eval (.tmp 6)) rfl rfl ⟨hl2 4, (hF.put 4 154 (SP.is (.slice (some ⟨g6, 0, none⟩) m c6)) (ac.eval (.tmp 6)) (by rw [hD]; rfl) (((hF.keep 6 (by rw [hD]; rfl)).trans zs6)) (by rw [hD]; rfl) (by rw [hsz]; decide) (by rw [hl]; decide)), hb1⟩)
                · have hk3 := hk
                  exact wpOp_plain rfl rfl (wp_move_v (ac.eval (.tmp 15)) rfl rfl ⟨hl2 5, (hF.put 5 155 (SP.is (.int .i64 (n : Int))) (ac.eval (.tmp 15)) (by rw [hD]; rfl) (((hF.keep 15 (by rw [hD]; rfl)).trans zs15)) (by rw [hD]; rfl) (by rw [hsz]; decide) (by rw [hl]; decide)), hb1⟩)
                · have hk3 := hk
                  have ea := (hF.done 4 (154, SP.is (.slice (some ⟨g6, 0, none⟩) m c6)) (by rw [hD]; rfl) (ready_dep hk 4 (by kernel_rfl)))
                  have eb := (hF.done 5 (155, SP.is (.int .i64 (n : Int))) (by rw [hD]; rfl) (ready_dep hk 5 (by kernel_rfl)))
                  exact wpOp_plain rfl rfl (wp_ixs tLLI tLI rfl g6 0 m c6 n 1 ea eb HNM.out und_LLI sz_LI ⟨hl2 6, (hF.put 6 156 (SP.is (.pointer (some ⟨g6, 0 + n * 1, none⟩))) (.pointer (some ⟨g6, 0 + n * 1, none⟩)) (by rw [hD]; rfl) rfl (by rw [hD]; rfl) (by rw [hsz]; decide) (by rw [hl]; decide)), hb1⟩)
                · have hk3 := hk
                  have ea := (hF.done 6 (156, SP.is (.pointer (some ⟨g6, 0 + n * 1, none⟩))) (by rw [hD]; rfl) (ready_dep hk 6 (by kernel_rfl)))
                  exact wpOp_plain rfl rfl (wp_load_1 g6 (0 + n * 1) (.slice (some ⟨gu, 0, none⟩) q cu) rfl ea (ld_LI W g6 (0 + n * 1) (.slice (some ⟨gu, 0, none⟩) q cu) (HC6.out W hb1)) ⟨hl2 7, (hF.put 7 157 (SP.is (.slice (some ⟨gu, 0, none⟩) q cu)) (.slice (some ⟨gu, 0, none⟩) q cu) (by rw [hD]; rfl) rfl (by rw [hD]; rfl) (by rw [hsz]; decide) (by rw [hl]; decide)), hb1⟩)
                · have hk3 := hk
                  exact wpOp_plain rfl rfl (wp_move_v (ac.eval (.tmp 16)) rfl rfl ⟨hl2 8, (hF.put 8 158 (SP.is (.int .i64 (j : Int))) (ac.eval (.tmp 16)) (by rw [hD]; rfl) (((hF.keep 16 (by rw [hD]; rfl)).trans zs16)) (by rw [hD]; rfl) (by rw [hsz]; decide) (by rw [hl]; decide)), hb1⟩)
                · have hk3 := hk
                  have ea := (hF.done 7 (157, SP.is (.slice (some ⟨gu, 0, none⟩) q cu)) (by rw [hD]; rfl) (ready_dep hk 7 (by kernel_rfl)))
                  have eb := (hF.done 8 (158, SP.is (.int .i64 (j : Int))) (by rw [hD]; rfl) (ready_dep hk 8 (by kernel_rfl)))
                  exact wpOp_plain rfl rfl (wp_ixs tLI tIn rfl gu 0 q cu j 1 ea eb HJQ.out und_LI sz_In ⟨hl2 9, (hF.put 9 159 (SP.is (.pointer (some ⟨gu, 0 + j * 1, none⟩))) (.pointer (some ⟨gu, 0 + j * 1, none⟩)) (by rw [hD]; rfl) rfl (by rw [hD]; rfl) (by rw [hsz]; decide) (by rw [hl]; decide)), hb1⟩)
                · have hk3 := hk
                  have ea := (hF.done 9 (159, SP.is (.pointer (some ⟨gu, 0 + j * 1, none⟩))) (by rw [hD]; rfl) (ready_dep hk 9 (by kernel_rfl)))
                  exact wpOp_plain rfl rfl (wp_load_1 gu (0 + j * 1) (.int .i64 y) rfl ea (run_load_in W gu (0 + j * 1) (.int .i64 y) (HCY.out W hb1)) ⟨hl2 10, (hF.put 10 160 (SP.is (.int .i64 y)) (.int .i64 y) (by rw [hD]; rfl) rfl (by rw [hD]; rfl) (by rw [hsz]; decide) (by rw [hl]; decide)), hb1⟩)
                · have hk3 := hk
                  have ea := (hF.done 3 (153, SP.is (.pointer (some ⟨pv, 0, none⟩))) (by rw [hD]; rfl) (ready_dep hk 3 (by kernel_rfl)))
                  have eb := (hF.done 10 (160, SP.is (.int .i64 y)) (by rw [hD]; rfl) (ready_dep hk 10 (by kernel_rfl)))
                  refine wpOp_plain rfl rfl (wp_fcall_v 21 #[.pointer (some ⟨pv, 0, none⟩), .int .i64 y] rfl rfl (by show [ac.eval (.tmp 153), ac.eval (.tmp 160)] = _; rw [show ac.eval (.tmp 153) = _ from ea, show ac.eval (.tmp 160) = _ from eb]) (by go_simp) ((HPD.out W hb1).mono ?_))
                  rintro e W2 ⟨rfl, hB⟩
                  exact ⟨_, rfl, hl2 11, ((hF.world hB).put 11 161 (SP.is (.bool true)) (.bool true) (by rw [hD]; rfl) rfl (by rw [hD]; rfl) (by rw [hsz]; decide) (by rw [hl]; decide)), hb1.trans (hB.mono hb1.size)⟩
                · have hk3 := hk
                  have ea := (hF.done 11 (161, SP.is (.bool true)) (by rw [hD]; rfl) (ready_dep hk 11 (by kernel_rfl)))
                  exact wpOp_plain rfl rfl (wp_notE rfl true ea ⟨hl2 12, (hF.put 12 162 (SP.is (.bool false)) (.bool false) (by rw [hD]; rfl) rfl (by rw [hD]; rfl) (by rw [hsz]; decide) (by rw [hl]; decide)), hb1⟩)
              · clear hb1  
                intro listed ac W hI hr
                obtain ⟨hl, hF, hb1⟩ := hI
                have hall := all_listed (by kernel_rfl) hl hr
                have h150 : ac.eval (.tmp 150) = .slice (some ⟨g5, 0, none⟩) m c5 := hF.done 0 (150, SP.is (.slice (some ⟨g5, 0, none⟩) m c5)) (by rw [hD]; rfl) (hall 0 (by decide))
                have h151 : ac.eval (.tmp 151) = .int .i64 (n : Int) := hF.done 1 (151, SP.is (.int .i64 (n : Int))) (by rw [hD]; rfl) (hall 1 (by decide))
                have h152 : ac.eval (.tmp 152) = .pointer (some ⟨g5, 0 + n * 1, none⟩) := hF.done 2 (152, SP.is (.pointer (some ⟨g5, 0 + n * 1, none⟩))) (by rw [hD]; rfl) (hall 2 (by decide))
                have h153 : ac.eval (.tmp 153) = .pointer (some ⟨pv, 0, none⟩) := hF.done 3 (153, SP.is (.pointer (some ⟨pv, 0, none⟩))) (by rw [hD]; rfl) (hall 3 (by decide))
                have h154 : ac.eval (.tmp 154) = .slice (some ⟨g6, 0, none⟩) m c6 := hF.done 4 (154, SP.is (.slice (some ⟨g6, 0, none⟩) m c6)) (by rw [hD]; rfl) (hall 4 (by decide))
                have h155 : ac.eval (.tmp 155) = .int .i64 (n : Int) := hF.done 5 (155, SP.is (.int .i64 (n : Int))) (by rw [hD]; rfl) (hall 5 (by decide))
                have h156 : ac.eval (.tmp 156) = .pointer (some ⟨g6, 0 + n * 1, none⟩) := hF.done 6 (156, SP.is (.pointer (some ⟨g6, 0 + n * 1, none⟩))) (by rw [hD]; rfl) (hall 6 (by decide))
                have h157 : ac.eval (.tmp 157) = .slice (some ⟨gu, 0, none⟩) q cu := hF.done 7 (157, SP.is (.slice (some ⟨gu, 0, none⟩) q cu)) (by rw [hD]; rfl) (hall 7 (by decide))
                have h158 : ac.eval (.tmp 158) = .int .i64 (j : Int) := hF.done 8 (158, SP.is (.int .i64 (j : Int))) (by rw [hD]; rfl) (hall 8 (by decide))
                have h159 : ac.eval (.tmp 159) = .pointer (some ⟨gu, 0 + j * 1, none⟩) := hF.done 9 (159, SP.is (.pointer (some ⟨gu, 0 + j * 1, none⟩))) (by rw [hD]; rfl) (hall 9 (by decide))
                have h160 : ac.eval (.tmp 160) = .int .i64 y := hF.done 10 (160, SP.is (.int .i64 y)) (by rw [hD]; rfl) (hall 10 (by decide))
                have h161 : ac.eval (.tmp 161) = .bool true := hF.done 11 (161, SP.is (.bool true)) (by rw [hD]; rfl) (hall 11 (by decide))
                have h162 : ac.eval (.tmp 162) = .bool false := hF.done 12 (162, SP.is (.bool false)) (by rw [hD]; rfl) (hall 12 (by decide))
                have ea := hF.lay [(150, .slice (some ⟨g5, 0, none⟩) m c5), (151, .int .i64 (n : Int)), (152, .pointer (some ⟨g5, 0 + n * 1, none⟩)), (153, .pointer (some ⟨pv, 0, none⟩)), (154, .slice (some ⟨g6, 0, none⟩) m c6), (155, .int .i64 (n : Int)), (156, .pointer (some ⟨g6, 0 + n * 1, none⟩)), (157, .slice (some ⟨gu, 0, none⟩) q cu), (158, .int .i64 (j : Int)), (159, .pointer (some ⟨gu, 0 + j * 1, none⟩)), (160, .int .i64 y), (161, .bool true), (162, .bool false)] (by rw [hD, hsz]; rfl) (by simp only [List.forall_mem_cons, List.not_mem_nil, false_implies, implies_true, and_true]; exact ⟨h150, h151, h152, h153, h154, h155, h156, h157, h158, h159, h160, h161, h162⟩)
                rw [ha0] at ea
                simp only [List.foldl_cons, List.foldl_nil, List.setIfInBounds_toArray, List.set_cons_zero, List.set_cons_succ] at ea
                clear hF hall hr hl hD  zs5 zs6 zs15 zs16 ha0 hsz h150 h151 h152 h153 h154 h155 h156 h157 h158 h159 h160 h161 h162
                subst ea
                have HB3 : Hid (Below wr.heap.size wr W) := HB2.out.trans (hb1.mono HB2.out.size)
                clear hb1
                go_wp2_with fail
                exact ⟨⟨j + 1, HJQ.out, by go_num, HB3.out⟩, by simp [intOf]; have := HJQ.out; omega⟩
            · obtain rfl : j = q := by omega
              clear hjq hj hb2
              go_wp2_with (first
                | (refine wpList_ixs tLLI tLI (.tmp 142) (.tmp 143) rfl g6 0 m c6 n 1 rfl rfl HNM.out und_LLI sz_LI rfl ?_; simp only [Act.put, List.setIfInBounds_toArray, List.set_cons_zero, List.set_cons_succ]))
              exact ⟨⟨n + 1, HNM.out, by go_num, HB2.out⟩, by simp [intOf]; have := HNM.out; omega⟩
        · obtain rfl : n = m := by omega
          have HF : Hid (Below w.heap.size w wq) := HW.out.oe.vs.be.trans (hbq.mono HW.out.oe.vs.be.size)
          clear hnm hn hbq
          go_wp2_with fail
          go_ret
          exact ⟨rfl, HF.out⟩

end Go.Proofs.Ytefjonidpmpjbaa
