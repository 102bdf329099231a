/-
  EscrowHeld: its walk.
-/
import Derived.Test.YtlfhncfngnnpeaaEsQ
import Derived.Test.YtlfhncfngnnpeaaWRefs
import Derived.Test.YtlfhncfngnnpeaaWRefSub
namespace Go.Proofs.Ytlfhncfngnnpeaa
open Go Go.RowKit Go.Maps
open Wd

/-- Steps that came in. -/
def Sa (w : World) (A : Option Addr) (l : List Stv) : Prop := ∀ i r, l[i]? = some r → r.Ok ∧ ∃ b o, A = some ⟨b, o, none⟩ ∧ w.rangeAt b (o + i * 8) r.cells
structure Hw (w wr : World) (p c H bL : Nat) (s : St) : Prop where
  v : Vl w wr p c s
  h : Row wr H (hcells (hm s)) 33
  l : Row wr bL (vQ (dgs s.L 4)) 33
  n : w.heap.size ≤ H ∧ w.heap.size ≤ bL
  d : H ≠ bL ∧ H ≠ p ∧ bL ≠ p
theorem range_be5 {w w' : World} {b o : Nat} {cs : List Value} (h : w.rangeAt b o cs) (hB : Below w.heap.size w w') : w'.rangeAt b o cs := range_be h hB

theorem Vl.gro1 {w0 w w' : World} {p c H : Nat} {s : St} {cs : List Value} {t : TypeId} (h : Vl w0 w p c s) (r : Row w H cs t) (hp : H ≠ p) (hn : w0.heap.size ≤ H) (g : Gro (· = H) w w') : Vl w0 w' p c s := by
  obtain ⟨m1, m2, hV, hl⟩ := h
  obtain ⟨g2, p1, p2⟩ := hV.pd
  refine ⟨m1, m2, hV.gro g fun k hk e => ?_, hl.p, hl.a, hl.b, hl.be.trans (g.to_below hl.be.size fun k e => by rw [e]; exact hn)⟩
  rcases hk with q | q | q
  · exact hp (e.symm.trans q)
  · exact hV.tk.notrow r (e ▸ q)
  · exact p1.notrow r (e ▸ q)
theorem Vl.ok {w0 w : World} {p c : Nat} {s : St} (h : Vl w0 w p c s) : s.Ok := by
  obtain ⟨m1, m2, hV, hl⟩ := h
  exact hV.ok
theorem hm_lt {s : St} (h : s.Ok) (t : Nat) : hm s t < 2 ^ 256 := fnd_lt h (s1 := (fnd s.T (t : Int)).1) (E := (fnd s.T (t : Int)).2.2) rfl

section
variable {Q : Exit → Act → World → Prop} {o : Oper} {a : Act} {w : World} {K : Act → World → Prop}
theorem wp_neqE {x y : Operand} {t yt : TypeId} (ho : o.op = .binOp .neq t x y yt) (ht : t = 36) {m n : Int} (hx : a.eval x = .int .i64 m) (hy : a.eval y = .int .i64 n) {B : Bool} (hB : (m != n) = B) (h : K (a.put o.dst (.bool B)) w) : Oper.wp Try.prog o a w K Q := by
  subst ht hB
  unfold Oper.wp execOp
  simp only [ho, hx, hy]
  go_simp
  exact h
theorem wp_pick_n {c x y : Operand} (v : Value) (ho : o.op = .pick c x y) (hc : a.eval c = .bool false) (hy : a.eval y = v) (h : K (a.put o.dst v) w) : Oper.wp Try.prog o a w K Q := by
  unfold Oper.wp execOp
  simp only [ho, hc, hy]
  go_simp
  exact h
end
theorem locked_b {w0 w : World} {p c : Nat} {s : St} (h : Vl w0 w p c s) : Calls Try.prog 19 #[.pointer (some ⟨p, 0, none⟩)] w fun e w' => e = .returned (.agg (vQ (dgs s.L 4)).toArray) ∧ Below w.heap.size w w' := by
  obtain ⟨m1, m2, hV, hl⟩ := h
  exact locked_any hV
theorem held_b {w0 w : World} {p c : Nat} {s : St} (h : Vl w0 w p c s) (t : Nat) : Calls Try.prog 20 #[.pointer (some ⟨p, 0, none⟩), .int .i64 (t : Int)] w fun e w' => e = .returned (.agg (vQ (dgs (hm s t) 4)).toArray) ∧ Below w.heap.size w w' := by
  obtain ⟨m1, m2, hV, hl⟩ := h
  exact held_any hV (t : Int) _ _ _ rfl

set_option maxRecDepth 100000 in
set_option maxHeartbeats 40000000 in
theorem held_walk (l : List Stv) (A0 : Option Addr) (N c0 : Nat) (hN : N = l.length) (hNb : N < 35184372088832) (w : World) (h0 : Sa w A0 l) :
    Calls Try.prog 4 #[.slice A0 N c0] w fun e w' => e = .returned (.bool true) ∧ Below w.heap.size w w' := by
  have HS : Hid (Sa w A0 l) := h0
  have HNl : Hid (N = l.length) := hN
  have HNB : Hid (N < 35184372088832) := hNb
  clear hN h0 hNb
  go_enter Try.func4, Try.ntmps4
  go_upto_region 2 with (go_at_call 8; refine Calls.mono (known_any w) ?_; rintro e X1 ⟨rfl, q⟩; have B1 : Hid (Below w.heap.size w X1) := q; clear q)
  go_upto_region 3 with (go_at_call 9; refine Calls.mono (new_l w X1 B1.out) ?_; rintro e X2 ⟨p, rfl, _, v, _⟩; have V2 : Hid (Vl w X2 p 0 k0) := v; clear v)
  clear B1
  go_upto_region 6 with (refine wpList_mk64 rfl rfl ?_; intro X3 q1 q2; have RH3 : Hid (Row X3 X2.heap.size (hcells fun _ => 0) 33) := q1; have V3 : Hid (Vl w X3 p 0 k0) := V2.out.be q2; have HH2 : Hid (w.heap.size ≤ X2.heap.size) := V2.out.below.size; clear q1 q2)
  obtain ⟨H, hH⟩ : ∃ b, b = X2.heap.size := ⟨_, rfl⟩
  rw [← hH] at RH3 HH2 ⊢
  clear hH V2
  go_upto_region 7 with (refine wpList_allocW rfl rfl ?_; intro X4 q1 q2; have RL4 : Hid (Row X4 X3.heap.size (vQ (List.replicate 4 0)) 33) := q1; have V4 : Hid (Vl w X4 p 0 k0) := V3.out.be q2; have RH4 : Hid (Row X4 H (hcells fun _ => 0) 33) := Row.below RH3.out q2 RH3.out.lt; have HL2 : Hid (w.heap.size ≤ X3.heap.size ∧ H < X3.heap.size) := ⟨V3.out.below.size, RH3.out.lt⟩; clear q1 q2)
  obtain ⟨bL, hbL⟩ : ∃ b, b = X3.heap.size := ⟨_, rfl⟩
  rw [← hbL] at RL4 HL2 ⊢
  clear hbL V3 RH3
  have W0 : Hid (Hw w X4 p 0 H bL k0) := ⟨V4.out, RH4.out, RL4.out, ⟨HH2.out, HL2.out.1⟩, ⟨by have := HL2.out.2; omega, row_apart V4.out RH4.out (by decide), row_apart V4.out RL4.out (by decide)⟩⟩
  clear V4 RH4 RL4 HL2 HH2
  go_wp2_with fail
  go_loopw [7] (fun v7 wr => ∃ (i c : Nat) (s : St), i ≤ N ∧ c ≤ 2 * i ∧ v7 = .int .i64 (i : Int) ∧ Hid (Hw w wr p c H bL s)) (fun v7 _ => N - (intOf v7).toNat)
  case atStart => exact ⟨0, 0, k0, Nat.zero_le _, Nat.le_refl _, rfl, W0⟩
  case round =>
    obtain ⟨i, c, s, hi, hci, rfl, WW⟩ := hrel
    clear W0
    by_cases hiN : i < N
    · obtain ⟨r, hr⟩ : ∃ r, l[i]? = some r := ⟨_, List.getElem?_eq_getElem (by rw [← HNl.out]; exact hiN)⟩
      obtain ⟨hok, b, o, hA0, hrg0⟩ := HS.out i r hr
      subst hA0
      obtain ⟨n1, hn1⟩ : ∃ n1, n1 = i + 1 := ⟨_, rfl⟩
      have e1 : (i : Int) + 1 = (n1 : Int) := by omega
      have HN1 : Hid (n1 = i + 1 ∧ n1 ≤ N ∧ c + 2 ≤ 2 * n1) := by show _ ∧ _ ∧ _; omega
      have HCM : Hid (c + 1 < maxLen) := by show c + 1 < 2 ^ 63 - 1; have := HNB.out; omega
      have HIN : Hid (i < N) := hiN
      obtain ⟨R, hR⟩ : ∃ R, R = r.cells := ⟨_, rfl⟩
      have HRO : Hid (r.Ok) := hok
      have HG : Hid (∀ X, Below w.heap.size w X → X.rangeAt b (o + i * 8) R) := fun X h => by rw [hR]; exact range_be hrg0 h
      have HRL : Hid ((Try.prog.info? 35).map (·.size) = some R.length) := by show _ = _; rw [hR, Stv.len]; exact info_S
      obtain ⟨k, hk⟩ : ∃ k, pk r.kd 11 = k := ⟨_, rfl⟩
      obtain ⟨s', hs'⟩ : ∃ x, (act s k r).1 = x := ⟨_, rfl⟩
      obtain ⟨E, hE⟩ : ∃ x, (act s k r).2 = x := ⟨_, rfl⟩
      have HAC : Hid (act s k r = (s', E)) := by rw [← hs', ← hE]; exact rfl
      have hHd := hd_act s k r
      rw [hs', hE] at hHd
      have HHD : Hid (Hd s s' k r E) := hHd
      have HCH : Hid (∀ X, Vl w X p c s → Calls Try.prog 12 #[.pointer (some ⟨p, 0, none⟩), .agg R.toArray] X fun e w' => e = .returned (.tuple #[.bool (decide (k < 7)), .int .i64 E]) ∧ Vl w w' p (c + 2) s' ∧ Kq p X w') := fun X h => by rw [hR]; exact changing_l h HCM.out r hok hk HAC.out
      have hkd := (i64_iff r.kd).1 hok.kd
      have HPK : Hid (∀ X, Calls Try.prog 11 #[.int .i64 r.kd, .int .i64 11] X fun e w' => e = .returned (.int .i64 k) ∧ w' = X) := fun X => by rw [← hk]; exact pick_any r.kd 11 (by decide) hkd.1 (by omega) (by decide) X
      have HC1 : Hid (∀ X, Below w.heap.size w X → X.cell? ⟨b, o + i * 8 + 1, none⟩ = some (.int .i64 r.kd)) := fun X h => HG.out X h 1 _ (by rw [hR]; rfl)
      have HC2 : Hid (∀ X, Below w.heap.size w X → X.cell? ⟨b, o + i * 8 + 2, none⟩ = some (.int .i64 r.tk)) := fun X h => HG.out X h 2 _ (by rw [hR]; rfl)
      obtain ⟨cm, hcm⟩ : ∃ c, c = vQ (dgs r.m 4) := ⟨_, rfl⟩
      have HWM : Hid (Wc cm r.m) := hcm
      have HC4 : Hid (∀ X, Below w.heap.size w X → X.rangeAt b (o + i * 8 + 4) cm) := fun X h j v hv => by rw [Nat.add_assoc]; exact HG.out X h (4 + j) v (by rw [hR, Nat.add_comm]; rw [hcm] at hv; exact hv)
      clear hr hok hrg0 hn1 hR hk hs' hE hHd hkd hcm hci
      have BW : Hid (Below w.heap.size w wr) := WW.out.v.below
      go_upto_if 37 with (first
        | (refine wpList_ixs 22 35 (.tmp 29) (.tmp 30) rfl b o N c0 i 8 rfl rfl HIN.out und_Ss info_S rfl ?_)
        | (refine wpList_load_w rfl 35 (.tmp 31) rfl b (o + i * 8) rfl R _ (HG.out wr BW.out) Try.underlying35 rfl HRL.out ?_)
        | (go_at_call 12; refine Calls.mono (HCH.out wr WW.out.v) ?_; rintro e X2 ⟨rfl, v, kq⟩; have VX : Hid (Vl w X2 p (c + 2) s') := v; have RHX : Hid (Row X2 H (hcells (hm s)) 33) := kq.row WW.out.h WW.out.d.2.1; have RLX : Hid (Row X2 bL (vQ (dgs s.L 4)) 33) := kq.row WW.out.l WW.out.d.2.2; clear v kq))
      have HNN : Hid ((w.heap.size ≤ H ∧ w.heap.size ≤ bL) ∧ (H ≠ bL ∧ H ≠ p ∧ bL ≠ p)) := ⟨WW.out.n, WW.out.d⟩
      have HSO : Hid s.Ok := WW.out.v.ok
      clear WW BW HCH
      refine wp_cutW [false, false, false, false, false, false, false, false, false, false, false, false, false, false, false, false, false, false, false, false, false, false, false, false, false, false, false, false, false, false, false, false, false, false, false, false, false, true, true, true, true, true, true, true, true, true, true, true, true, true, true, true, true, true, true, true, true, true, true, true, true, true, true, true, true, true, true, true, true, true, true, true, true, true, true, true, true, true, true, true, true, true, true, true, true, true, true, true, true, true, true, true, true, true, true, true, true, true, true, true, true, true, true, true, true, true, true, true, true, true, true, true, true, true, true, true, true, true, true, true, true, true, true, true] (fun wz => Hw w wz p (c + 2) H bL s') ?_ ?_
      · intro f9 wc hw9
        have WC : Hid (Hw w wc p (c + 2) H bL s') := hw9
        clear hw9 VX RHX RLX
        simp only [overL, cond_true, cond_false, Nat.reduceAdd]
        obtain ⟨cl, hcl⟩ : ∃ c, c = vQ (dgs s'.L 4) := ⟨_, rfl⟩
        have HWL : Hid (Wc cl s'.L) := hcl
        have HLK : Hid (∀ X, Vl w X p (c + 2) s' → Calls Try.prog 19 #[.pointer (some ⟨p, 0, none⟩)] X fun e w' => e = .returned (.agg cl.toArray) ∧ Below X.heap.size X w') := fun X h => by rw [hcl]; exact locked_b h
        have HRL9 : Hid (∀ X, Below wc.heap.size wc X → X.rangeAt bL 0 cl) := fun X h => by rw [hcl]; exact (Row.below WC.out.l h WC.out.l.lt).all
        clear hcl HHD HAC HPK HC1 HC2 HC4 HWM HRO HG HRL HNN HSO
        go_upto_region 22 with fail
        have hb1 := Below.refl wc.heap.size wc
        refine wp_named fun a0 ha0 => ?_
        have hsz : a0.tmps.size = 144 := by rw [ha0]; rfl
        have zs4 : a0.eval (.tmp 4) = .pointer (some ⟨p, 0, none⟩) := by rw [ha0]; rfl
        have zs6 : a0.eval (.tmp 6) = .pointer (some ⟨bL, 0, none⟩) := by rw [ha0]; rfl
        have zs10 : a0.eval (.tmp 10) = .int .i64 0 := by rw [ha0]; rfl
        obtain ⟨D, hD⟩ : ∃ D : List (Tmp × SP), D = [(124, SP.is (.int .i64 0)), (125, SP.is (.bool false)), (126, SP.is (.bool false)), (127, SP.is (.pointer (some ⟨p, 0, none⟩))), (128, SP.is (.agg cl.toArray)), (129, SP.is (.agg cl.toArray)), (130, SP.is (.bool false)), (131, SP.is (.bool false))] := ⟨_, rfl⟩
        refine wp_region_down (by kernel_rfl) (fun listed ac W => listed.size = 8 ∧ Fp D a0 listed ac W ∧ Below wc.heap.size wc W) ?_ ?_ ?_
        · exact ⟨by simp, Fp.start D a0 _ _, Below.drew hb1⟩
        · clear ha0 hb1  
          intro listed ac W k hI hdn hk
          obtain ⟨hl, hF, hb1⟩ := hI
          have hk1 : k < 8 := List.mem_range.1 (List.mem_filter.1 hk).1
          have hl2 : ∀ j, (listed.setIfInBounds j true).size = 8 := fun j => by rw [Array.size_setIfInBounds]; exact hl
          rcases (show k = 0 ∨ k = 1 ∨ k = 2 ∨ k = 3 ∨ k = 4 ∨ k = 5 ∨ k = 6 ∨ k = 7 by omega) with rfl | rfl | rfl | rfl | rfl | rfl | rfl | rfl
          · have hk3 := hk
            exact wpOp_plain rfl rfl (wp_move_v (ac.eval (.tmp 10)) rfl rfl ⟨hl2 0, (hF.put 0 124 (SP.is (.int .i64 0)) (ac.eval (.tmp 10)) (by rw [hD]; rfl) (((hF.keep 10 (by rw [hD]; rfl)).trans zs10)) (by rw [hD]; rfl) (by rw [hsz]; decide) (by rw [hl]; decide)), hb1⟩)
          · have hk3 := hk
            have ea := (hF.done 0 (124, SP.is (.int .i64 0)) (by rw [hD]; rfl) (ready_dep hk 0 (by kernel_rfl)))
            exact wpOp_plain rfl rfl (wp_neqE rfl rfl ea rfl (by decide) ⟨hl2 1, (hF.put 1 125 (SP.is (.bool false)) (.bool false) (by rw [hD]; rfl) rfl (by rw [hD]; rfl) (by rw [hsz]; decide) (by rw [hl]; decide)), hb1⟩)
          · have hk3 := hk
            exact wpOp_plain rfl rfl (wp_move_v (ac.eval (.tmp 125)) rfl rfl ⟨hl2 2, (hF.put 2 126 (SP.is (.bool false)) (ac.eval (.tmp 125)) (by rw [hD]; rfl) ((hF.done 1 (125, SP.is (.bool false)) (by rw [hD]; rfl) (ready_dep hk 1 (by kernel_rfl)))) (by rw [hD]; rfl) (by rw [hsz]; decide) (by rw [hl]; decide)), hb1⟩)
          · have hk3 := hk
            exact wpOp_wanted rfl (wanted_g (g := 2) (b := false) rfl rfl (hF.done 2 (126, SP.is (.bool false)) (by rw [hD]; rfl) (ready_dep hk 2 (by kernel_rfl))) (by rw [hF.size, hsz]; decide)) (wp_move_v (ac.eval (.tmp 4)) rfl rfl ⟨hl2 3, (hF.put 3 127 (SP.is (.pointer (some ⟨p, 0, none⟩))) (ac.eval (.tmp 4)) (by rw [hD]; rfl) (((hF.keep 4 (by rw [hD]; rfl)).trans zs4)) (by rw [hD]; rfl) (by rw [hsz]; decide) (by rw [hl]; decide)), hb1⟩)
          · have hk3 := hk
            have ea := (hF.done 3 (127, SP.is (.pointer (some ⟨p, 0, none⟩))) (by rw [hD]; rfl) (ready_dep hk 3 (by kernel_rfl)))
            refine wpOp_wanted rfl (wanted_g (g := 2) (b := false) rfl rfl (hF.done 2 (126, SP.is (.bool false)) (by rw [hD]; rfl) (ready_dep hk 2 (by kernel_rfl))) (by rw [hF.size, hsz]; decide)) (wp_fcall_v 19 #[.pointer (some ⟨p, 0, none⟩)] rfl rfl (by show [ac.eval (.tmp 127)] = _; rw [show ac.eval (.tmp 127) = _ from ea]) (by go_simp) ((HLK.out W (WC.out.v.be hb1)).mono ?_))
            rintro e W2 ⟨rfl, hB⟩
            exact ⟨_, rfl, hl2 4, ((hF.world hB).put 4 128 (SP.is (.agg cl.toArray)) (.agg cl.toArray) (by rw [hD]; rfl) rfl (by rw [hD]; rfl) (by rw [hsz]; decide) (by rw [hl]; decide)), hb1.trans (hB.mono hb1.size)⟩
          · have hk3 := hk
            have ea := ((hF.keep 6 (by rw [hD]; rfl)).trans zs6)
            exact wpOp_wanted rfl (wanted_g (g := 2) (b := false) rfl rfl (hF.done 2 (126, SP.is (.bool false)) (by rw [hD]; rfl) (ready_dep hk 2 (by kernel_rfl))) (by rw [hF.size, hsz]; decide)) (wp_load_mid 33 (.tmp 6) rfl bL 0 ea cl _ (HRL9.out W hb1) Try.underlying33 rfl HWL.out.info ⟨hl2 5, (hF.put 5 129 (SP.is (.agg cl.toArray)) (.agg cl.toArray) (by rw [hD]; rfl) rfl (by rw [hD]; rfl) (by rw [hsz]; decide) (by rw [hl]; decide)), hb1⟩)
          · have hk3 := hk
            have ea := (hF.done 4 (128, SP.is (.agg cl.toArray)) (by rw [hD]; rfl) (ready_dep hk 4 (by kernel_rfl)))
            have eb := (hF.done 5 (129, SP.is (.agg cl.toArray)) (by rw [hD]; rfl) (ready_dep hk 5 (by kernel_rfl)))
            exact wpOp_wanted rfl (wanted_g (g := 2) (b := false) rfl rfl (hF.done 2 (126, SP.is (.bool false)) (by rw [hD]; rfl) (ready_dep hk 2 (by kernel_rfl))) (by rw [hF.size, hsz]; decide)) (wp_neq_c (.tmp 128) (.tmp 129) _ rfl HWL.out ea eb ⟨hl2 6, (hF.put 6 130 (SP.is (.bool false)) (.bool false) (by rw [hD]; rfl) rfl (by rw [hD]; rfl) (by rw [hsz]; decide) (by rw [hl]; decide)), hb1⟩)
          · have hk3 := hk
            have ea := (hF.done 2 (126, SP.is (.bool false)) (by rw [hD]; rfl) (ready_dep hk 2 (by kernel_rfl)))
            have eb := (hF.done 6 (130, SP.is (.bool false)) (by rw [hD]; rfl) (ready_dep hk 6 (by kernel_rfl)))
            exact wpOp_plain rfl rfl (wp_pick_n (.bool false) rfl ea eb ⟨hl2 7, (hF.put 7 131 (SP.is (.bool false)) (.bool false) (by rw [hD]; rfl) rfl (by rw [hD]; rfl) (by rw [hsz]; decide) (by rw [hl]; decide)), hb1⟩)
        · clear hb1  
          intro listed ac W hI hr
          obtain ⟨hl, hF, hb1⟩ := hI
          have hall := all_listed (by kernel_rfl) hl hr
          have h124 : ac.eval (.tmp 124) = .int .i64 0 := hF.done 0 (124, SP.is (.int .i64 0)) (by rw [hD]; rfl) (hall 0 (by decide))
          have h125 : ac.eval (.tmp 125) = .bool false := hF.done 1 (125, SP.is (.bool false)) (by rw [hD]; rfl) (hall 1 (by decide))
          have h126 : ac.eval (.tmp 126) = .bool false := hF.done 2 (126, SP.is (.bool false)) (by rw [hD]; rfl) (hall 2 (by decide))
          have h127 : ac.eval (.tmp 127) = .pointer (some ⟨p, 0, none⟩) := hF.done 3 (127, SP.is (.pointer (some ⟨p, 0, none⟩))) (by rw [hD]; rfl) (hall 3 (by decide))
          have h128 : ac.eval (.tmp 128) = .agg cl.toArray := hF.done 4 (128, SP.is (.agg cl.toArray)) (by rw [hD]; rfl) (hall 4 (by decide))
          have h129 : ac.eval (.tmp 129) = .agg cl.toArray := hF.done 5 (129, SP.is (.agg cl.toArray)) (by rw [hD]; rfl) (hall 5 (by decide))
          have h130 : ac.eval (.tmp 130) = .bool false := hF.done 6 (130, SP.is (.bool false)) (by rw [hD]; rfl) (hall 6 (by decide))
          have h131 : ac.eval (.tmp 131) = .bool false := hF.done 7 (131, SP.is (.bool false)) (by rw [hD]; rfl) (hall 7 (by decide))
          have ea := hF.lay [(124, .int .i64 0), (125, .bool false), (126, .bool false), (127, .pointer (some ⟨p, 0, none⟩)), (128, .agg cl.toArray), (129, .agg cl.toArray), (130, .bool false), (131, .bool false)] (by rw [hD, hsz]; rfl) (by simp only [List.forall_mem_cons, List.not_mem_nil, false_implies, implies_true, and_true]; exact ⟨h124, h125, h126, h127, h128, h129, h130, h131⟩)
          rw [ha0] at ea
          simp only [List.foldl_cons, List.foldl_nil, List.setIfInBounds_toArray, List.set_cons_zero, List.set_cons_succ] at ea
          clear hF hall hr hl hD  zs4 zs6 zs10 ha0 hsz h124 h125 h126 h127 h128 h129 h130 h131
          subst ea
          have W9 : Hid (Hw w W p (c + 2) H bL s') := ⟨WC.out.v.be hb1, Row.below WC.out.h hb1 WC.out.h.lt, Row.below WC.out.l hb1 WC.out.l.lt, WC.out.n, WC.out.d⟩
          clear hb1 HLK HRL9 HWL WC
          go_wp2_with fail
          go_loopw [11] (fun v11 wr => ∃ t : Nat, t ≤ 64 ∧ v11 = .int .i64 (t : Int) ∧ Hid (Hw w wr p (c + 2) H bL s')) (fun v11 _ => 64 - (intOf v11).toNat)
          case atStart => exact ⟨0, Nat.zero_le _, rfl, W9⟩
          case round =>
            obtain ⟨t, ht, rfl, WR⟩ := hrel
            clear W9
            by_cases ht6 : t < 64
            · have HT6 : Hid (t < 64) := ht6
              obtain ⟨t1, ht1⟩ : ∃ t1, t1 = t + 1 := ⟨_, rfl⟩
              have e2 : (t : Int) + 1 = (t1 : Int) := by omega
              have HT1 : Hid (t1 = t + 1 ∧ t1 ≤ 64) := by show _ ∧ _; omega
              obtain ⟨ch, hch⟩ : ∃ c, c = vQ (dgs (hm s' t) 4) := ⟨_, rfl⟩
              have HWH : Hid (Wc ch (hm s' t)) := hch
              have HHE : Hid (∀ X, Vl w X p (c + 2) s' → Calls Try.prog 20 #[.pointer (some ⟨p, 0, none⟩), .int .i64 (t : Int)] X fun e w' => e = .returned (.agg ch.toArray) ∧ Below X.heap.size X w') := fun X h => by rw [hch]; exact held_b h t
              have HRH9 : Hid (∀ X, Below wr.heap.size wr X → X.rangeAt H (0 + t * 4) ch) := fun X h => by rw [hch, Nat.zero_add]; exact hcells_at (Row.below WR.out.h h WR.out.h.lt) ht6
              clear hch ht1
              go_upto_region 27 with fail
              have hb1 := Below.refl wr.heap.size wr
              refine wp_named fun a0 ha0 => ?_
              have hsz : a0.tmps.size = 144 := by rw [ha0]; rfl
              have zs4 : a0.eval (.tmp 4) = .pointer (some ⟨p, 0, none⟩) := by rw [ha0]; rfl
              have zs5 : a0.eval (.tmp 5) = .slice (some ⟨H, 0, none⟩) 64 64 := by rw [ha0]; rfl
              have zs11 : a0.eval (.tmp 11) = .int .i64 (t : Int) := by rw [ha0]; rfl
              obtain ⟨D, hD⟩ : ∃ D : List (Tmp × SP), D = [(136, SP.is (.pointer (some ⟨p, 0, none⟩))), (137, SP.is (.int .i64 (t : Int))), (138, SP.is (.agg ch.toArray)), (139, SP.is (.slice (some ⟨H, 0, none⟩) 64 64)), (140, SP.is (.int .i64 (t : Int))), (141, SP.is (.pointer (some ⟨H, 0 + t * 4, none⟩))), (142, SP.is (.agg ch.toArray)), (143, SP.is (.bool false))] := ⟨_, rfl⟩
              refine wp_region_down (by kernel_rfl) (fun listed ac W => listed.size = 8 ∧ Fp D a0 listed ac W ∧ Below wr.heap.size wr W) ?_ ?_ ?_
              · exact ⟨by simp, Fp.start D a0 _ _, Below.drew hb1⟩
              · clear ha0 hb1  
                intro listed ac W k hI hdn hk
                obtain ⟨hl, hF, hb1⟩ := hI
                have hk1 : k < 8 := List.mem_range.1 (List.mem_filter.1 hk).1
                have hl2 : ∀ j, (listed.setIfInBounds j true).size = 8 := fun j => by rw [Array.size_setIfInBounds]; exact hl
                rcases (show k = 0 ∨ k = 1 ∨ k = 2 ∨ k = 3 ∨ k = 4 ∨ k = 5 ∨ k = 6 ∨ k = 7 by omega) with rfl | rfl | rfl | rfl | rfl | rfl | rfl | rfl
                · have hk3 := hk
                  exact wpOp_plain rfl rfl (wp_move_v (ac.eval (.tmp 4)) rfl rfl ⟨hl2 0, (hF.put 0 136 (SP.is (.pointer (some ⟨p, 0, none⟩))) (ac.eval (.tmp 4)) (by rw [hD]; rfl) (((hF.keep 4 (by rw [hD]; rfl)).trans zs4)) (by rw [hD]; rfl) (by rw [hsz]; decide) (by rw [hl]; decide)), hb1⟩)
                · have hk3 := hk
                  exact wpOp_plain rfl rfl (wp_move_v (ac.eval (.tmp 11)) rfl rfl ⟨hl2 1, (hF.put 1 137 (SP.is (.int .i64 (t : Int))) (ac.eval (.tmp 11)) (by rw [hD]; rfl) (((hF.keep 11 (by rw [hD]; rfl)).trans zs11)) (by rw [hD]; rfl) (by rw [hsz]; decide) (by rw [hl]; decide)), hb1⟩)
                · have hk3 := hk
                  have ea := (hF.done 0 (136, SP.is (.pointer (some ⟨p, 0, none⟩))) (by rw [hD]; rfl) (ready_dep hk 0 (by kernel_rfl)))
                  have eb := (hF.done 1 (137, SP.is (.int .i64 (t : Int))) (by rw [hD]; rfl) (ready_dep hk 1 (by kernel_rfl)))
                  refine wpOp_plain rfl rfl (wp_fcall_v 20 #[.pointer (some ⟨p, 0, none⟩), .int .i64 (t : Int)] rfl rfl (by show [ac.eval (.tmp 136), ac.eval (.tmp 137)] = _; rw [show ac.eval (.tmp 136) = _ from ea, show ac.eval (.tmp 137) = _ from eb]) (by go_simp) ((HHE.out W (WR.out.v.be hb1)).mono ?_))
                  rintro e W2 ⟨rfl, hB⟩
                  exact ⟨_, rfl, hl2 2, ((hF.world hB).put 2 138 (SP.is (.agg ch.toArray)) (.agg ch.toArray) (by rw [hD]; rfl) rfl (by rw [hD]; rfl) (by rw [hsz]; decide) (by rw [hl]; decide)), hb1.trans (hB.mono hb1.size)⟩
                · have hk3 := hk
                  exact wpOp_plain rfl rfl (wp_move_v (ac.eval (.tmp 5)) rfl rfl ⟨hl2 3, (hF.put 3 139 (SP.is (.slice (some ⟨H, 0, none⟩) 64 64)) (ac.eval (.tmp 5)) (by rw [hD]; rfl) (((hF.keep 5 (by rw [hD]; rfl)).trans zs5)) (by rw [hD]; rfl) (by rw [hsz]; decide) (by rw [hl]; decide)), hb1⟩)
                · have hk3 := hk
                  exact wpOp_plain rfl rfl (wp_move_v (ac.eval (.tmp 11)) rfl rfl ⟨hl2 4, (hF.put 4 140 (SP.is (.int .i64 (t : Int))) (ac.eval (.tmp 11)) (by rw [hD]; rfl) (((hF.keep 11 (by rw [hD]; rfl)).trans zs11)) (by rw [hD]; rfl) (by rw [hsz]; decide) (by rw [hl]; decide)), hb1⟩)
                · have hk3 := hk
                  have ea := (hF.done 3 (139, SP.is (.slice (some ⟨H, 0, none⟩) 64 64)) (by rw [hD]; rfl) (ready_dep hk 3 (by kernel_rfl)))
                  have eb := (hF.done 4 (140, SP.is (.int .i64 (t : Int))) (by rw [hD]; rfl) (ready_dep hk 4 (by kernel_rfl)))
                  exact wpOp_plain rfl rfl (wp_ixs 42 33 rfl H 0 64 64 t 4 ea eb HT6.out und_Ws info_w4 ⟨hl2 5, (hF.put 5 141 (SP.is (.pointer (some ⟨H, 0 + t * 4, none⟩))) (.pointer (some ⟨H, 0 + t * 4, none⟩)) (by rw [hD]; rfl) rfl (by rw [hD]; rfl) (by rw [hsz]; decide) (by rw [hl]; decide)), hb1⟩)
                · have hk3 := hk
                  have ea := (hF.done 5 (141, SP.is (.pointer (some ⟨H, 0 + t * 4, none⟩))) (by rw [hD]; rfl) (ready_dep hk 5 (by kernel_rfl)))
                  exact wpOp_plain rfl rfl (wp_load_mid 33 (.tmp 141) rfl H (0 + t * 4) ea ch _ (HRH9.out W hb1) Try.underlying33 rfl HWH.out.info ⟨hl2 6, (hF.put 6 142 (SP.is (.agg ch.toArray)) (.agg ch.toArray) (by rw [hD]; rfl) rfl (by rw [hD]; rfl) (by rw [hsz]; decide) (by rw [hl]; decide)), hb1⟩)
                · have hk3 := hk
                  have ea := (hF.done 2 (138, SP.is (.agg ch.toArray)) (by rw [hD]; rfl) (ready_dep hk 2 (by kernel_rfl)))
                  have eb := (hF.done 6 (142, SP.is (.agg ch.toArray)) (by rw [hD]; rfl) (ready_dep hk 6 (by kernel_rfl)))
                  exact wpOp_plain rfl rfl (wp_neq_c (.tmp 138) (.tmp 142) _ rfl HWH.out ea eb ⟨hl2 7, (hF.put 7 143 (SP.is (.bool false)) (.bool false) (by rw [hD]; rfl) rfl (by rw [hD]; rfl) (by rw [hsz]; decide) (by rw [hl]; decide)), hb1⟩)
              · clear hb1  
                intro listed ac W hI hr
                obtain ⟨hl, hF, hb1⟩ := hI
                have hall := all_listed (by kernel_rfl) hl hr
                have h136 : ac.eval (.tmp 136) = .pointer (some ⟨p, 0, none⟩) := hF.done 0 (136, SP.is (.pointer (some ⟨p, 0, none⟩))) (by rw [hD]; rfl) (hall 0 (by decide))
                have h137 : ac.eval (.tmp 137) = .int .i64 (t : Int) := hF.done 1 (137, SP.is (.int .i64 (t : Int))) (by rw [hD]; rfl) (hall 1 (by decide))
                have h138 : ac.eval (.tmp 138) = .agg ch.toArray := hF.done 2 (138, SP.is (.agg ch.toArray)) (by rw [hD]; rfl) (hall 2 (by decide))
                have h139 : ac.eval (.tmp 139) = .slice (some ⟨H, 0, none⟩) 64 64 := hF.done 3 (139, SP.is (.slice (some ⟨H, 0, none⟩) 64 64)) (by rw [hD]; rfl) (hall 3 (by decide))
                have h140 : ac.eval (.tmp 140) = .int .i64 (t : Int) := hF.done 4 (140, SP.is (.int .i64 (t : Int))) (by rw [hD]; rfl) (hall 4 (by decide))
                have h141 : ac.eval (.tmp 141) = .pointer (some ⟨H, 0 + t * 4, none⟩) := hF.done 5 (141, SP.is (.pointer (some ⟨H, 0 + t * 4, none⟩))) (by rw [hD]; rfl) (hall 5 (by decide))
                have h142 : ac.eval (.tmp 142) = .agg ch.toArray := hF.done 6 (142, SP.is (.agg ch.toArray)) (by rw [hD]; rfl) (hall 6 (by decide))
                have h143 : ac.eval (.tmp 143) = .bool false := hF.done 7 (143, SP.is (.bool false)) (by rw [hD]; rfl) (hall 7 (by decide))
                have ea := hF.lay [(136, .pointer (some ⟨p, 0, none⟩)), (137, .int .i64 (t : Int)), (138, .agg ch.toArray), (139, .slice (some ⟨H, 0, none⟩) 64 64), (140, .int .i64 (t : Int)), (141, .pointer (some ⟨H, 0 + t * 4, none⟩)), (142, .agg ch.toArray), (143, .bool false)] (by rw [hD, hsz]; rfl) (by simp only [List.forall_mem_cons, List.not_mem_nil, false_implies, implies_true, and_true]; exact ⟨h136, h137, h138, h139, h140, h141, h142, h143⟩)
                rw [ha0] at ea
                simp only [List.foldl_cons, List.foldl_nil, List.setIfInBounds_toArray, List.set_cons_zero, List.set_cons_succ] at ea
                clear hF hall hr hl hD  zs4 zs5 zs11 ha0 hsz h136 h137 h138 h139 h140 h141 h142 h143
                subst ea
                have W8 : Hid (Hw w W p (c + 2) H bL s') := ⟨WR.out.v.be hb1, Row.below WR.out.h hb1 WR.out.h.lt, Row.below WR.out.l hb1 WR.out.l.lt, WR.out.n, WR.out.d⟩
                clear hb1 HHE HRH9 HWH WR
                go_wp2_with fail
                go_roundw
                case rel => exact ⟨t1, HT1.out.2, rfl, W8⟩
                case measure => have := HT1.out; simp [intOf]; omega
            · clear ht
              have hq1 : n1 ≤ N := HN1.out.2.1
              have hq2 : N < 35184372088832 := HNB.out
              go_wp2_with fail
              go_roundw
              case rel => exact ⟨n1, c + 2, s', HN1.out.2.1, HN1.out.2.2, rfl, WR⟩
              case measure => have := HN1.out; simp [intOf]; omega
      · intro K9 hK9
        have HKW : Hid (∀ (l' : List Value) (w' : World), _) := hK9
        clear hK9
        rcases HHD.out with ⟨hne, hs⟩ | ⟨rfl, rfl, ht0, ht6, hae, hsm, hlm⟩ | ⟨rfl, rfl, ht0, ht6, hae, hsm, hlm⟩ | ⟨rfl, rfl, hae, hsm, hlm⟩ | ⟨rfl, rfl, hae, hsm, hlm⟩ | ⟨rfl, hk3, hk4, hk5, hk6, hsm, hlm⟩
        · have hE0 : ¬ E = 0 := hne
          clear hne
          subst hs
          go_wp2_with fail
          exact HKW.out _ _ (by kernel_rfl) (by kernel_rfl) ⟨VX.out, RHX.out, RLX.out, HNN.out.1, HNN.out.2⟩
        · have cK := HC1.out X2 VX.out.below
          obtain ⟨tn, htn⟩ : ∃ tn : Nat, r.tk = (tn : Int) := ⟨r.tk.toNat, by omega⟩
          have htt : r.tk.toNat = tn := by omega
          rw [htt] at hae hsm
          have HTN : Hid (tn < 64) := by show _ < _; omega
          have HPT : Hid (∀ X, Calls Try.prog 11 #[.int .i64 r.tk, .int .i64 64] X fun e w' => e = .returned (.int .i64 (tn : Int)) ∧ Below X.heap.size X w') := fun X => by
            have hb := (i64_iff r.tk).1 HRO.out.tk
            have hp : pk r.tk 64 = (tn : Int) := by unfold pk; rw [if_neg (by omega)]; omega
            rw [← hp]
            exact (pick_any r.tk 64 (by decide) hb.1 (by omega) (by decide) X).mono fun e w' h => ⟨h.1, by rw [h.2]; exact Below.refl _ _⟩
          obtain ⟨ch, hch⟩ : ∃ c, c = vQ (dgs (hm s tn) 4) := ⟨_, rfl⟩
          have HWH : Hid (Wc ch (hm s tn)) := hch
          obtain ⟨cr, hcr⟩ : ∃ c, c = vQ (dgs (addR (hm s tn) r.m) 4) := ⟨_, rfl⟩
          have HWR : Hid (Wc cr (addR (hm s tn) r.m)) := hcr
          have HAR : Hid (∀ X, Calls Try.prog 17 #[.agg ch.toArray, .agg cm.toArray] X fun e w' => e = .returned (.tuple #[.agg cr.toArray, .int .i64 0]) ∧ Below X.heap.size X w') := fun X => by
            have h := refAdd_c (hm s tn) r.m (hm_lt HSO.out tn) HRO.out.m X
            rw [hae, ← hch, ← HWM.out, ← hcr] at h
            exact h
          have HCHR : Hid (∀ X, Row X H (hcells (hm s)) 33 → X.rangeAt H (0 + tn * 4) ch) := fun X h => by rw [hch, Nat.zero_add]; exact hcells_at h HTN.out
          have HNW : Hid ((hcells (hm s)).take (0 + tn * 4) ++ cr ++ (hcells (hm s)).drop (0 + tn * 4 + cr.length) = hcells (upn (hm s) tn (addR (hm s tn) r.m))) := by
            show _ = _
            rw [hcr, Nat.zero_add]
            exact hcells_set (hm s) HTN.out _
          have HSM : Hid (∀ t, t < 64 → hm s' t = upn (hm s) tn (addR (hm s tn) r.m) t) := hsm
          have HLM : Hid (s'.L = s.L) := hlm
          clear hsm hlm hae htt ht0 ht6 hch hcr htn
          go_upto_region 15 with (first
            | (refine wpList_ixs 22 35 (.tmp 38) (.tmp 39) rfl b o N c0 i 8 rfl rfl HIN.out und_Ss info_S rfl ?_)
            | (go_at_call 11; refine Calls.mono (HPK.out X2) ?_; rintro e X ⟨rfl, hqq⟩; obtain rfl := hqq.symm))
          clear cK
          have hb1 := VX.out.below
          have rH := RHX.out
          have gV := Gro.refl (· = H) X2
          have hHlow : w.heap.size ≤ H := HNN.out.1.1
          refine wp_named fun a0 ha0 => ?_
          have hsz : a0.tmps.size = 144 := by rw [ha0]; rfl
          have zs0 : a0.eval (.tmp 0) = .slice (some ⟨b, o, none⟩) N c0 := by rw [ha0]; rfl
          have zs5 : a0.eval (.tmp 5) = .slice (some ⟨H, 0, none⟩) 64 64 := by rw [ha0]; rfl
          have zs7 : a0.eval (.tmp 7) = .int .i64 (i : Int) := by rw [ha0]; rfl
          obtain ⟨D, hD⟩ : ∃ D : List (Tmp × SP), D = [(47, SP.is (.slice (some ⟨H, 0, none⟩) 64 64)), (48, SP.is (.slice (some ⟨b, o, none⟩) N c0)), (49, SP.is (.int .i64 (i : Int))), (50, SP.is (.pointer (some ⟨b, o + i * 8, none⟩))), (51, SP.is (.pointer (some ⟨b, o + i * 8 + 2, none⟩))), (52, SP.is (.int .i64 r.tk)), (53, SP.is (.int .i64 (tn : Int))), (54, SP.is (.slice (some ⟨H, 0, none⟩) 64 64)), (55, SP.is (.slice (some ⟨b, o, none⟩) N c0)), (56, SP.is (.int .i64 (i : Int))), (57, SP.is (.pointer (some ⟨b, o + i * 8, none⟩))), (58, SP.is (.pointer (some ⟨b, o + i * 8 + 2, none⟩))), (59, SP.is (.int .i64 r.tk)), (60, SP.is (.int .i64 (tn : Int))), (61, SP.is (.pointer (some ⟨H, 0 + tn * 4, none⟩))), (62, SP.is (.agg ch.toArray)), (63, SP.is (.slice (some ⟨b, o, none⟩) N c0)), (64, SP.is (.int .i64 (i : Int))), (65, SP.is (.pointer (some ⟨b, o + i * 8, none⟩))), (66, SP.is (.pointer (some ⟨b, o + i * 8 + 4, none⟩))), (67, SP.is (.agg cm.toArray)), (68, SP.is (.tuple #[.agg cr.toArray, .int .i64 0])), (46, SP.is (.tuple #[.agg cr.toArray, .int .i64 0])), (69, SP.is (.agg cr.toArray)), (70, SP.is (.int .i64 0)), (71, SP.is (.pointer (some ⟨H, 0 + tn * 4, none⟩))), (1000, SP.any), (10, SP.is (.int .i64 0))] := ⟨_, rfl⟩
          refine wp_region_down (by kernel_rfl) (fun listed ac W => listed.size = 28 ∧ Fp D a0 listed ac W ∧ Below w.heap.size w W ∧ Row W H (if listed.getD 26 false = true then hcells (upn (hm s) tn (addR (hm s tn) r.m)) else hcells (hm s)) 33 ∧ Gro (· = H) X2 W) ?_ ?_ ?_
          · exact ⟨by simp, Fp.start D a0 _ _, Below.drew hb1, (by rw [if_neg (fun h => start_no h)]; exact Row.drew rH), gV.below (Below.drew (Below.refl _ _))⟩
          · clear ha0 hb1 rH gV 
            intro listed ac W k hI hdn hk
            obtain ⟨hl, hF, hb1, rH, gV⟩ := hI
            have hk1 : k < 28 := List.mem_range.1 (List.mem_filter.1 hk).1
            have hl2 : ∀ j, (listed.setIfInBounds j true).size = 28 := fun j => by rw [Array.size_setIfInBounds]; exact hl
            rcases (show k = 0 ∨ k = 1 ∨ k = 2 ∨ k = 3 ∨ k = 4 ∨ k = 5 ∨ k = 6 ∨ k = 7 ∨ k = 8 ∨ k = 9 ∨ k = 10 ∨ k = 11 ∨ k = 12 ∨ k = 13 ∨ k = 14 ∨ k = 15 ∨ k = 16 ∨ k = 17 ∨ k = 18 ∨ k = 19 ∨ k = 20 ∨ k = 21 ∨ k = 22 ∨ k = 23 ∨ k = 24 ∨ k = 25 ∨ k = 26 ∨ k = 27 by omega) with rfl | rfl | rfl | rfl | rfl | rfl | rfl | rfl | rfl | rfl | rfl | rfl | rfl | rfl | rfl | rfl | rfl | rfl | rfl | rfl | rfl | rfl | rfl | rfl | rfl | rfl | rfl | rfl
            · have hk3 := hk
              exact wpOp_plain rfl rfl (wp_move_v (ac.eval (.tmp 5)) rfl rfl ⟨hl2 0, (hF.put 0 47 (SP.is (.slice (some ⟨H, 0, none⟩) 64 64)) (ac.eval (.tmp 5)) (by rw [hD]; rfl) (((hF.keep 5 (by rw [hD]; rfl)).trans zs5)) (by rw [hD]; rfl) (by rw [hsz]; decide) (by rw [hl]; decide)), hb1, (by rw [getD_set _ _ _ (by decide)]; exact rH), gV⟩)
            · have hk3 := hk
              exact wpOp_plain rfl rfl (wp_move_v (ac.eval (.tmp 0)) rfl rfl ⟨hl2 1, (hF.put 1 48 (SP.is (.slice (some ⟨b, o, none⟩) N c0)) (ac.eval (.tmp 0)) (by rw [hD]; rfl) (((hF.keep 0 (by rw [hD]; rfl)).trans zs0)) (by rw [hD]; rfl) (by rw [hsz]; decide) (by rw [hl]; decide)), hb1, (by rw [getD_set _ _ _ (by decide)]; exact rH), gV⟩)
            · have hk3 := hk
              exact wpOp_plain rfl rfl (wp_move_v (ac.eval (.tmp 7)) rfl rfl ⟨hl2 2, (hF.put 2 49 (SP.is (.int .i64 (i : Int))) (ac.eval (.tmp 7)) (by rw [hD]; rfl) (((hF.keep 7 (by rw [hD]; rfl)).trans zs7)) (by rw [hD]; rfl) (by rw [hsz]; decide) (by rw [hl]; decide)), hb1, (by rw [getD_set _ _ _ (by decide)]; exact rH), gV⟩)
            · have hk3 := hk
              have ea := (hF.done 1 (48, SP.is (.slice (some ⟨b, o, none⟩) N c0)) (by rw [hD]; rfl) (ready_dep hk 1 (by kernel_rfl)))
              have eb := (hF.done 2 (49, SP.is (.int .i64 (i : Int))) (by rw [hD]; rfl) (ready_dep hk 2 (by kernel_rfl)))
              exact wpOp_plain rfl rfl (wp_ixs 22 35 rfl b o N c0 i 8 ea eb HIN.out und_Ss info_S ⟨hl2 3, (hF.put 3 50 (SP.is (.pointer (some ⟨b, o + i * 8, none⟩))) (.pointer (some ⟨b, o + i * 8, none⟩)) (by rw [hD]; rfl) rfl (by rw [hD]; rfl) (by rw [hsz]; decide) (by rw [hl]; decide)), hb1, (by rw [getD_set _ _ _ (by decide)]; exact rH), gV⟩)
            · have hk3 := hk
              have ea := (hF.done 3 (50, SP.is (.pointer (some ⟨b, o + i * 8, none⟩))) (by rw [hD]; rfl) (ready_dep hk 3 (by kernel_rfl)))
              exact wpOp_plain rfl rfl (wp_sf2 b (o + i * 8) rfl ea ⟨hl2 4, (hF.put 4 51 (SP.is (.pointer (some ⟨b, o + i * 8 + 2, none⟩))) (.pointer (some ⟨b, o + i * 8 + 2, none⟩)) (by rw [hD]; rfl) rfl (by rw [hD]; rfl) (by rw [hsz]; decide) (by rw [hl]; decide)), hb1, (by rw [getD_set _ _ _ (by decide)]; exact rH), gV⟩)
            · have hk3 := hk
              have ea := (hF.done 4 (51, SP.is (.pointer (some ⟨b, o + i * 8 + 2, none⟩))) (by rw [hD]; rfl) (ready_dep hk 4 (by kernel_rfl)))
              exact wpOp_plain rfl rfl (wp_load_1 b (o + i * 8 + 2) (.int .i64 r.tk) rfl ea (run_load_in W b _ _ (HC2.out W hb1)) ⟨hl2 5, (hF.put 5 52 (SP.is (.int .i64 r.tk)) (.int .i64 r.tk) (by rw [hD]; rfl) rfl (by rw [hD]; rfl) (by rw [hsz]; decide) (by rw [hl]; decide)), hb1, (by rw [getD_set _ _ _ (by decide)]; exact rH), gV⟩)
            · have hk3 := hk
              have ea := (hF.done 5 (52, SP.is (.int .i64 r.tk)) (by rw [hD]; rfl) (ready_dep hk 5 (by kernel_rfl)))
              refine wpOp_plain rfl rfl (wp_fcall_v 11 #[.int .i64 r.tk, .int .i64 64] rfl rfl (by show [ac.eval (.tmp 52), ac.eval (.const (.int .i64 64))] = _; rw [show ac.eval (.tmp 52) = _ from ea]; rfl) (by go_simp) ((HPT.out W).mono ?_))
              rintro e W2 ⟨rfl, hB⟩
              exact ⟨_, rfl, hl2 6, ((hF.world hB).put 6 53 (SP.is (.int .i64 (tn : Int))) (.int .i64 (tn : Int)) (by rw [hD]; rfl) rfl (by rw [hD]; rfl) (by rw [hsz]; decide) (by rw [hl]; decide)), hb1.trans (hB.mono hb1.size), (by rw [getD_set _ _ _ (by decide)]; exact Row.below rH hB (Row.lt rH)), gV.below hB⟩
            · have hk3 := hk
              exact wpOp_plain rfl rfl (wp_move_v (ac.eval (.tmp 5)) rfl rfl ⟨hl2 7, (hF.put 7 54 (SP.is (.slice (some ⟨H, 0, none⟩) 64 64)) (ac.eval (.tmp 5)) (by rw [hD]; rfl) (((hF.keep 5 (by rw [hD]; rfl)).trans zs5)) (by rw [hD]; rfl) (by rw [hsz]; decide) (by rw [hl]; decide)), hb1, (by rw [getD_set _ _ _ (by decide)]; exact rH), gV⟩)
            · have hk3 := hk
              exact wpOp_plain rfl rfl (wp_move_v (ac.eval (.tmp 0)) rfl rfl ⟨hl2 8, (hF.put 8 55 (SP.is (.slice (some ⟨b, o, none⟩) N c0)) (ac.eval (.tmp 0)) (by rw [hD]; rfl) (((hF.keep 0 (by rw [hD]; rfl)).trans zs0)) (by rw [hD]; rfl) (by rw [hsz]; decide) (by rw [hl]; decide)), hb1, (by rw [getD_set _ _ _ (by decide)]; exact rH), gV⟩)
            · have hk3 := hk
              exact wpOp_plain rfl rfl (wp_move_v (ac.eval (.tmp 7)) rfl rfl ⟨hl2 9, (hF.put 9 56 (SP.is (.int .i64 (i : Int))) (ac.eval (.tmp 7)) (by rw [hD]; rfl) (((hF.keep 7 (by rw [hD]; rfl)).trans zs7)) (by rw [hD]; rfl) (by rw [hsz]; decide) (by rw [hl]; decide)), hb1, (by rw [getD_set _ _ _ (by decide)]; exact rH), gV⟩)
            · have hk3 := hk
              have ea := (hF.done 8 (55, SP.is (.slice (some ⟨b, o, none⟩) N c0)) (by rw [hD]; rfl) (ready_dep hk 8 (by kernel_rfl)))
              have eb := (hF.done 9 (56, SP.is (.int .i64 (i : Int))) (by rw [hD]; rfl) (ready_dep hk 9 (by kernel_rfl)))
              exact wpOp_plain rfl rfl (wp_ixs 22 35 rfl b o N c0 i 8 ea eb HIN.out und_Ss info_S ⟨hl2 10, (hF.put 10 57 (SP.is (.pointer (some ⟨b, o + i * 8, none⟩))) (.pointer (some ⟨b, o + i * 8, none⟩)) (by rw [hD]; rfl) rfl (by rw [hD]; rfl) (by rw [hsz]; decide) (by rw [hl]; decide)), hb1, (by rw [getD_set _ _ _ (by decide)]; exact rH), gV⟩)
            · have hk3 := hk
              have ea := (hF.done 10 (57, SP.is (.pointer (some ⟨b, o + i * 8, none⟩))) (by rw [hD]; rfl) (ready_dep hk 10 (by kernel_rfl)))
              exact wpOp_plain rfl rfl (wp_sf2 b (o + i * 8) rfl ea ⟨hl2 11, (hF.put 11 58 (SP.is (.pointer (some ⟨b, o + i * 8 + 2, none⟩))) (.pointer (some ⟨b, o + i * 8 + 2, none⟩)) (by rw [hD]; rfl) rfl (by rw [hD]; rfl) (by rw [hsz]; decide) (by rw [hl]; decide)), hb1, (by rw [getD_set _ _ _ (by decide)]; exact rH), gV⟩)
            · have hk3 := hk
              have ea := (hF.done 11 (58, SP.is (.pointer (some ⟨b, o + i * 8 + 2, none⟩))) (by rw [hD]; rfl) (ready_dep hk 11 (by kernel_rfl)))
              exact wpOp_plain rfl rfl (wp_load_1 b (o + i * 8 + 2) (.int .i64 r.tk) rfl ea (run_load_in W b _ _ (HC2.out W hb1)) ⟨hl2 12, (hF.put 12 59 (SP.is (.int .i64 r.tk)) (.int .i64 r.tk) (by rw [hD]; rfl) rfl (by rw [hD]; rfl) (by rw [hsz]; decide) (by rw [hl]; decide)), hb1, (by rw [getD_set _ _ _ (by decide)]; exact rH), gV⟩)
            · have hk3 := hk
              have ea := (hF.done 12 (59, SP.is (.int .i64 r.tk)) (by rw [hD]; rfl) (ready_dep hk 12 (by kernel_rfl)))
              refine wpOp_plain rfl rfl (wp_fcall_v 11 #[.int .i64 r.tk, .int .i64 64] rfl rfl (by show [ac.eval (.tmp 59), ac.eval (.const (.int .i64 64))] = _; rw [show ac.eval (.tmp 59) = _ from ea]; rfl) (by go_simp) ((HPT.out W).mono ?_))
              rintro e W2 ⟨rfl, hB⟩
              exact ⟨_, rfl, hl2 13, ((hF.world hB).put 13 60 (SP.is (.int .i64 (tn : Int))) (.int .i64 (tn : Int)) (by rw [hD]; rfl) rfl (by rw [hD]; rfl) (by rw [hsz]; decide) (by rw [hl]; decide)), hb1.trans (hB.mono hb1.size), (by rw [getD_set _ _ _ (by decide)]; exact Row.below rH hB (Row.lt rH)), gV.below hB⟩
            · have hk3 := hk
              have ea := (hF.done 7 (54, SP.is (.slice (some ⟨H, 0, none⟩) 64 64)) (by rw [hD]; rfl) (ready_dep hk 7 (by kernel_rfl)))
              have eb := (hF.done 13 (60, SP.is (.int .i64 (tn : Int))) (by rw [hD]; rfl) (ready_dep hk 13 (by kernel_rfl)))
              exact wpOp_plain rfl rfl (wp_ixs 42 33 rfl H 0 64 64 tn 4 ea eb HTN.out und_Ws info_w4 ⟨hl2 14, (hF.put 14 61 (SP.is (.pointer (some ⟨H, 0 + tn * 4, none⟩))) (.pointer (some ⟨H, 0 + tn * 4, none⟩)) (by rw [hD]; rfl) rfl (by rw [hD]; rfl) (by rw [hsz]; decide) (by rw [hl]; decide)), hb1, (by rw [getD_set _ _ _ (by decide)]; exact rH), gV⟩)
            · have hk3 := hk
              have hnq : ¬ listed.getD 26 false = true := fun h => not_yet hk (hdn 26 h 15 (by kernel_rfl))
              have rH9 := rH
              rw [if_neg hnq] at rH9
              have ea := (hF.done 14 (61, SP.is (.pointer (some ⟨H, 0 + tn * 4, none⟩))) (by rw [hD]; rfl) (ready_dep hk 14 (by kernel_rfl)))
              exact wpOp_plain rfl rfl (wp_load_mid 33 (.tmp 61) rfl H (0 + tn * 4) ea ch _ (HCHR.out W rH9) Try.underlying33 rfl HWH.out.info ⟨hl2 15, (hF.put 15 62 (SP.is (.agg ch.toArray)) (.agg ch.toArray) (by rw [hD]; rfl) rfl (by rw [hD]; rfl) (by rw [hsz]; decide) (by rw [hl]; decide)), hb1, (by rw [getD_set _ _ _ (by decide)]; exact rH), gV⟩)
            · have hk3 := hk
              exact wpOp_plain rfl rfl (wp_move_v (ac.eval (.tmp 0)) rfl rfl ⟨hl2 16, (hF.put 16 63 (SP.is (.slice (some ⟨b, o, none⟩) N c0)) (ac.eval (.tmp 0)) (by rw [hD]; rfl) (((hF.keep 0 (by rw [hD]; rfl)).trans zs0)) (by rw [hD]; rfl) (by rw [hsz]; decide) (by rw [hl]; decide)), hb1, (by rw [getD_set _ _ _ (by decide)]; exact rH), gV⟩)
            · have hk3 := hk
              exact wpOp_plain rfl rfl (wp_move_v (ac.eval (.tmp 7)) rfl rfl ⟨hl2 17, (hF.put 17 64 (SP.is (.int .i64 (i : Int))) (ac.eval (.tmp 7)) (by rw [hD]; rfl) (((hF.keep 7 (by rw [hD]; rfl)).trans zs7)) (by rw [hD]; rfl) (by rw [hsz]; decide) (by rw [hl]; decide)), hb1, (by rw [getD_set _ _ _ (by decide)]; exact rH), gV⟩)
            · have hk3 := hk
              have ea := (hF.done 16 (63, SP.is (.slice (some ⟨b, o, none⟩) N c0)) (by rw [hD]; rfl) (ready_dep hk 16 (by kernel_rfl)))
              have eb := (hF.done 17 (64, SP.is (.int .i64 (i : Int))) (by rw [hD]; rfl) (ready_dep hk 17 (by kernel_rfl)))
              exact wpOp_plain rfl rfl (wp_ixs 22 35 rfl b o N c0 i 8 ea eb HIN.out und_Ss info_S ⟨hl2 18, (hF.put 18 65 (SP.is (.pointer (some ⟨b, o + i * 8, none⟩))) (.pointer (some ⟨b, o + i * 8, none⟩)) (by rw [hD]; rfl) rfl (by rw [hD]; rfl) (by rw [hsz]; decide) (by rw [hl]; decide)), hb1, (by rw [getD_set _ _ _ (by decide)]; exact rH), gV⟩)
            · have hk3 := hk
              have ea := (hF.done 18 (65, SP.is (.pointer (some ⟨b, o + i * 8, none⟩))) (by rw [hD]; rfl) (ready_dep hk 18 (by kernel_rfl)))
              exact wpOp_plain rfl rfl (wp_sf4 b (o + i * 8) rfl ea ⟨hl2 19, (hF.put 19 66 (SP.is (.pointer (some ⟨b, o + i * 8 + 4, none⟩))) (.pointer (some ⟨b, o + i * 8 + 4, none⟩)) (by rw [hD]; rfl) rfl (by rw [hD]; rfl) (by rw [hsz]; decide) (by rw [hl]; decide)), hb1, (by rw [getD_set _ _ _ (by decide)]; exact rH), gV⟩)
            · have hk3 := hk
              have ea := (hF.done 19 (66, SP.is (.pointer (some ⟨b, o + i * 8 + 4, none⟩))) (by rw [hD]; rfl) (ready_dep hk 19 (by kernel_rfl)))
              exact wpOp_plain rfl rfl (wp_load_mid 33 (.tmp 66) rfl b (o + i * 8 + 4) ea cm _ (HC4.out W hb1) Try.underlying33 rfl HWM.out.info ⟨hl2 20, (hF.put 20 67 (SP.is (.agg cm.toArray)) (.agg cm.toArray) (by rw [hD]; rfl) rfl (by rw [hD]; rfl) (by rw [hsz]; decide) (by rw [hl]; decide)), hb1, (by rw [getD_set _ _ _ (by decide)]; exact rH), gV⟩)
            · have hk3 := hk
              have ea := (hF.done 15 (62, SP.is (.agg ch.toArray)) (by rw [hD]; rfl) (ready_dep hk 15 (by kernel_rfl)))
              have eb := (hF.done 20 (67, SP.is (.agg cm.toArray)) (by rw [hD]; rfl) (ready_dep hk 20 (by kernel_rfl)))
              refine wpOp_plain rfl rfl (wp_fcall_v 17 #[.agg ch.toArray, .agg cm.toArray] rfl rfl (by show [ac.eval (.tmp 62), ac.eval (.tmp 67)] = _; rw [show ac.eval (.tmp 62) = _ from ea, show ac.eval (.tmp 67) = _ from eb]) (by go_simp) ((HAR.out W).mono ?_))
              rintro e W2 ⟨rfl, hB⟩
              exact ⟨_, rfl, hl2 21, ((hF.world hB).put 21 68 (SP.is (.tuple #[.agg cr.toArray, .int .i64 0])) (.tuple #[.agg cr.toArray, .int .i64 0]) (by rw [hD]; rfl) rfl (by rw [hD]; rfl) (by rw [hsz]; decide) (by rw [hl]; decide)), hb1.trans (hB.mono hb1.size), (by rw [getD_set _ _ _ (by decide)]; exact Row.below rH hB (Row.lt rH)), gV.below hB⟩
            · have hk3 := hk
              exact wpOp_plain rfl rfl (wp_move_v (ac.eval (.tmp 68)) rfl rfl ⟨hl2 22, (hF.put 22 46 (SP.is (.tuple #[.agg cr.toArray, .int .i64 0])) (ac.eval (.tmp 68)) (by rw [hD]; rfl) ((hF.done 21 (68, SP.is (.tuple #[.agg cr.toArray, .int .i64 0])) (by rw [hD]; rfl) (ready_dep hk 21 (by kernel_rfl)))) (by rw [hD]; rfl) (by rw [hsz]; decide) (by rw [hl]; decide)), hb1, (by rw [getD_set _ _ _ (by decide)]; exact rH), gV⟩)
            · have hk3 := hk
              exact wpOp_plain rfl rfl (wp_extract (.tmp 46) 0 rfl _ (hF.done 22 (46, SP.is (.tuple #[.agg cr.toArray, .int .i64 0])) (by rw [hD]; rfl) (ready_dep hk 22 (by kernel_rfl))) (.agg cr.toArray) rfl ⟨hl2 23, (hF.put 23 69 (SP.is (.agg cr.toArray)) (.agg cr.toArray) (by rw [hD]; rfl) rfl (by rw [hD]; rfl) (by rw [hsz]; decide) (by rw [hl]; decide)), hb1, (by rw [getD_set _ _ _ (by decide)]; exact rH), gV⟩)
            · have hk3 := hk
              exact wpOp_plain rfl rfl (wp_extract (.tmp 46) 1 rfl _ (hF.done 22 (46, SP.is (.tuple #[.agg cr.toArray, .int .i64 0])) (by rw [hD]; rfl) (ready_dep hk 22 (by kernel_rfl))) (.int .i64 0) rfl ⟨hl2 24, (hF.put 24 70 (SP.is (.int .i64 0)) (.int .i64 0) (by rw [hD]; rfl) rfl (by rw [hD]; rfl) (by rw [hsz]; decide) (by rw [hl]; decide)), hb1, (by rw [getD_set _ _ _ (by decide)]; exact rH), gV⟩)
            · have hk3 := hk
              have ea := (hF.done 0 (47, SP.is (.slice (some ⟨H, 0, none⟩) 64 64)) (by rw [hD]; rfl) (ready_dep hk 0 (by kernel_rfl)))
              have eb := (hF.done 6 (53, SP.is (.int .i64 (tn : Int))) (by rw [hD]; rfl) (ready_dep hk 6 (by kernel_rfl)))
              exact wpOp_plain rfl rfl (wp_ixs 42 33 rfl H 0 64 64 tn 4 ea eb HTN.out und_Ws info_w4 ⟨hl2 25, (hF.put 25 71 (SP.is (.pointer (some ⟨H, 0 + tn * 4, none⟩))) (.pointer (some ⟨H, 0 + tn * 4, none⟩)) (by rw [hD]; rfl) rfl (by rw [hD]; rfl) (by rw [hsz]; decide) (by rw [hl]; decide)), hb1, (by rw [getD_set _ _ _ (by decide)]; exact rH), gV⟩)
            · have hk3 := hk
              have hno : ¬ listed.getD 26 false = true := not_yet hk
              rw [if_neg hno] at rH
              have T := rH.there (0 + tn * 4) cr.toArray.size (by rw [List.size_toArray, HWR.out.len, hcells_len]; have := HTN.out; omega)
              have fin := (show Row (W.setCells H (0 + tn * 4) cr) H (hcells (upn (hm s) tn (addR (hm s tn) r.m))) 33 from by rw [← HNW.out]; exact Row.setCells (0 + tn * 4) cr rH (by rw [HWR.out.len, hcells_len]; have := HTN.out; omega))
              have hT : Fp D a0 listed ac (W.setCells H (0 + tn * 4) cr) := hF.turn (by rw [hD]; simp only [List.forall_mem_cons, List.not_mem_nil, false_implies, implies_true, and_true]; exact ⟨fun _ h => h, fun _ h => h, fun _ h => h, fun _ h => h, fun _ h => h, fun _ h => h, fun _ h => h, fun _ h => h, fun _ h => h, fun _ h => h, fun _ h => h, fun _ h => h, fun _ h => h, fun _ h => h, fun _ h => h, fun _ h => h, fun _ h => h, fun _ h => h, fun _ h => h, fun _ h => h, fun _ h => h, fun _ h => h, fun _ h => h, fun _ h => h, fun _ h => h, fun _ h => h, fun _ h => h, fun _ h => h⟩)
              exact wpOp_plain rfl rfl (wp_store_mid 33 (.tmp 71) (.tmp 69) rfl H (0 + tn * 4) cr.toArray (hF.done 25 (71, SP.is (.pointer (some ⟨H, 0 + tn * 4, none⟩))) (by rw [hD]; rfl) (ready_dep hk 25 (by kernel_rfl))) (hF.done 23 (69, SP.is (.agg cr.toArray)) (by rw [hD]; rfl) (ready_dep hk 23 (by kernel_rfl))) T HWR.out.info' HWR.out.one ⟨hl2 26, (hT.skip 26 1000 (by rw [hD]; rfl) (by rw [hl]; decide)), below_setCells hb1 (by omega) _, (by rw [if_pos (getD_same (by rw [hl]; decide))]; exact fin), gV.trans (gro_sets W H (0 + tn * 4) cr)⟩)
            · have hk3 := hk
              exact wpOp_plain rfl rfl (wp_assign_v (ac.eval (.tmp 70)) rfl rfl ⟨hl2 27, (hF.put 27 10 (SP.is (.int .i64 0)) (ac.eval (.tmp 70)) (by rw [hD]; rfl) ((hF.done 24 (70, SP.is (.int .i64 0)) (by rw [hD]; rfl) (ready_dep hk 24 (by kernel_rfl)))) (by rw [hD]; rfl) (by rw [hsz]; decide) (by rw [hl]; decide)), hb1, (by rw [getD_set _ _ _ (by decide)]; exact rH), gV⟩)
          · clear hb1 rH gV 
            intro listed ac W hI hr
            obtain ⟨hl, hF, hb1, rH, gV⟩ := hI
            have hall := all_listed (by kernel_rfl) hl hr
            rw [if_pos (hall 26 (by decide))] at rH
            have h47 : ac.eval (.tmp 47) = .slice (some ⟨H, 0, none⟩) 64 64 := hF.done 0 (47, SP.is (.slice (some ⟨H, 0, none⟩) 64 64)) (by rw [hD]; rfl) (hall 0 (by decide))
            have h48 : ac.eval (.tmp 48) = .slice (some ⟨b, o, none⟩) N c0 := hF.done 1 (48, SP.is (.slice (some ⟨b, o, none⟩) N c0)) (by rw [hD]; rfl) (hall 1 (by decide))
            have h49 : ac.eval (.tmp 49) = .int .i64 (i : Int) := hF.done 2 (49, SP.is (.int .i64 (i : Int))) (by rw [hD]; rfl) (hall 2 (by decide))
            have h50 : ac.eval (.tmp 50) = .pointer (some ⟨b, o + i * 8, none⟩) := hF.done 3 (50, SP.is (.pointer (some ⟨b, o + i * 8, none⟩))) (by rw [hD]; rfl) (hall 3 (by decide))
            have h51 : ac.eval (.tmp 51) = .pointer (some ⟨b, o + i * 8 + 2, none⟩) := hF.done 4 (51, SP.is (.pointer (some ⟨b, o + i * 8 + 2, none⟩))) (by rw [hD]; rfl) (hall 4 (by decide))
            have h52 : ac.eval (.tmp 52) = .int .i64 r.tk := hF.done 5 (52, SP.is (.int .i64 r.tk)) (by rw [hD]; rfl) (hall 5 (by decide))
            have h53 : ac.eval (.tmp 53) = .int .i64 (tn : Int) := hF.done 6 (53, SP.is (.int .i64 (tn : Int))) (by rw [hD]; rfl) (hall 6 (by decide))
            have h54 : ac.eval (.tmp 54) = .slice (some ⟨H, 0, none⟩) 64 64 := hF.done 7 (54, SP.is (.slice (some ⟨H, 0, none⟩) 64 64)) (by rw [hD]; rfl) (hall 7 (by decide))
            have h55 : ac.eval (.tmp 55) = .slice (some ⟨b, o, none⟩) N c0 := hF.done 8 (55, SP.is (.slice (some ⟨b, o, none⟩) N c0)) (by rw [hD]; rfl) (hall 8 (by decide))
            have h56 : ac.eval (.tmp 56) = .int .i64 (i : Int) := hF.done 9 (56, SP.is (.int .i64 (i : Int))) (by rw [hD]; rfl) (hall 9 (by decide))
            have h57 : ac.eval (.tmp 57) = .pointer (some ⟨b, o + i * 8, none⟩) := hF.done 10 (57, SP.is (.pointer (some ⟨b, o + i * 8, none⟩))) (by rw [hD]; rfl) (hall 10 (by decide))
            have h58 : ac.eval (.tmp 58) = .pointer (some ⟨b, o + i * 8 + 2, none⟩) := hF.done 11 (58, SP.is (.pointer (some ⟨b, o + i * 8 + 2, none⟩))) (by rw [hD]; rfl) (hall 11 (by decide))
            have h59 : ac.eval (.tmp 59) = .int .i64 r.tk := hF.done 12 (59, SP.is (.int .i64 r.tk)) (by rw [hD]; rfl) (hall 12 (by decide))
            have h60 : ac.eval (.tmp 60) = .int .i64 (tn : Int) := hF.done 13 (60, SP.is (.int .i64 (tn : Int))) (by rw [hD]; rfl) (hall 13 (by decide))
            have h61 : ac.eval (.tmp 61) = .pointer (some ⟨H, 0 + tn * 4, none⟩) := hF.done 14 (61, SP.is (.pointer (some ⟨H, 0 + tn * 4, none⟩))) (by rw [hD]; rfl) (hall 14 (by decide))
            have h62 : ac.eval (.tmp 62) = .agg ch.toArray := hF.done 15 (62, SP.is (.agg ch.toArray)) (by rw [hD]; rfl) (hall 15 (by decide))
            have h63 : ac.eval (.tmp 63) = .slice (some ⟨b, o, none⟩) N c0 := hF.done 16 (63, SP.is (.slice (some ⟨b, o, none⟩) N c0)) (by rw [hD]; rfl) (hall 16 (by decide))
            have h64 : ac.eval (.tmp 64) = .int .i64 (i : Int) := hF.done 17 (64, SP.is (.int .i64 (i : Int))) (by rw [hD]; rfl) (hall 17 (by decide))
            have h65 : ac.eval (.tmp 65) = .pointer (some ⟨b, o + i * 8, none⟩) := hF.done 18 (65, SP.is (.pointer (some ⟨b, o + i * 8, none⟩))) (by rw [hD]; rfl) (hall 18 (by decide))
            have h66 : ac.eval (.tmp 66) = .pointer (some ⟨b, o + i * 8 + 4, none⟩) := hF.done 19 (66, SP.is (.pointer (some ⟨b, o + i * 8 + 4, none⟩))) (by rw [hD]; rfl) (hall 19 (by decide))
            have h67 : ac.eval (.tmp 67) = .agg cm.toArray := hF.done 20 (67, SP.is (.agg cm.toArray)) (by rw [hD]; rfl) (hall 20 (by decide))
            have h68 : ac.eval (.tmp 68) = .tuple #[.agg cr.toArray, .int .i64 0] := hF.done 21 (68, SP.is (.tuple #[.agg cr.toArray, .int .i64 0])) (by rw [hD]; rfl) (hall 21 (by decide))
            have h46 : ac.eval (.tmp 46) = .tuple #[.agg cr.toArray, .int .i64 0] := hF.done 22 (46, SP.is (.tuple #[.agg cr.toArray, .int .i64 0])) (by rw [hD]; rfl) (hall 22 (by decide))
            have h69 : ac.eval (.tmp 69) = .agg cr.toArray := hF.done 23 (69, SP.is (.agg cr.toArray)) (by rw [hD]; rfl) (hall 23 (by decide))
            have h70 : ac.eval (.tmp 70) = .int .i64 0 := hF.done 24 (70, SP.is (.int .i64 0)) (by rw [hD]; rfl) (hall 24 (by decide))
            have h71 : ac.eval (.tmp 71) = .pointer (some ⟨H, 0 + tn * 4, none⟩) := hF.done 25 (71, SP.is (.pointer (some ⟨H, 0 + tn * 4, none⟩))) (by rw [hD]; rfl) (hall 25 (by decide))
            have h10 : ac.eval (.tmp 10) = .int .i64 0 := hF.done 27 (10, SP.is (.int .i64 0)) (by rw [hD]; rfl) (hall 27 (by decide))
            have ea := hF.lay [(47, .slice (some ⟨H, 0, none⟩) 64 64), (48, .slice (some ⟨b, o, none⟩) N c0), (49, .int .i64 (i : Int)), (50, .pointer (some ⟨b, o + i * 8, none⟩)), (51, .pointer (some ⟨b, o + i * 8 + 2, none⟩)), (52, .int .i64 r.tk), (53, .int .i64 (tn : Int)), (54, .slice (some ⟨H, 0, none⟩) 64 64), (55, .slice (some ⟨b, o, none⟩) N c0), (56, .int .i64 (i : Int)), (57, .pointer (some ⟨b, o + i * 8, none⟩)), (58, .pointer (some ⟨b, o + i * 8 + 2, none⟩)), (59, .int .i64 r.tk), (60, .int .i64 (tn : Int)), (61, .pointer (some ⟨H, 0 + tn * 4, none⟩)), (62, .agg ch.toArray), (63, .slice (some ⟨b, o, none⟩) N c0), (64, .int .i64 (i : Int)), (65, .pointer (some ⟨b, o + i * 8, none⟩)), (66, .pointer (some ⟨b, o + i * 8 + 4, none⟩)), (67, .agg cm.toArray), (68, .tuple #[.agg cr.toArray, .int .i64 0]), (46, .tuple #[.agg cr.toArray, .int .i64 0]), (69, .agg cr.toArray), (70, .int .i64 0), (71, .pointer (some ⟨H, 0 + tn * 4, none⟩)), (10, .int .i64 0)] (by rw [hD, hsz]; rfl) (by simp only [List.forall_mem_cons, List.not_mem_nil, false_implies, implies_true, and_true]; exact ⟨h47, h48, h49, h50, h51, h52, h53, h54, h55, h56, h57, h58, h59, h60, h61, h62, h63, h64, h65, h66, h67, h68, h46, h69, h70, h71, h10⟩)
            rw [ha0] at ea
            simp only [List.foldl_cons, List.foldl_nil, List.setIfInBounds_toArray, List.set_cons_zero, List.set_cons_succ] at ea
            clear hF hall hr hl hD  zs0 zs5 zs7 ha0 hsz h47 h48 h49 h50 h51 h52 h53 h54 h55 h56 h57 h58 h59 h60 h61 h62 h63 h64 h65 h66 h67 h68 h46 h69 h70 h71 h10
            subst ea
            have gV9 : Hid (Gro (· = H) X2 W) := gV
            have RH9 : Hid (Row W H (hcells (upn (hm s) tn (addR (hm s tn) r.m))) 33) := rH
            clear gV rH hb1
            go_wp2_with fail
            exact HKW.out _ _ (by kernel_rfl) (by kernel_rfl) ⟨VX.out.gro1 RHX.out HNN.out.2.2.1 HNN.out.1.1 gV9.out, by rw [upn_same _ _ HSM.out]; exact RH9.out, by rw [HLM.out]; exact gV9.out.row RLX.out (fun e => HNN.out.2.1 e.symm), HNN.out.1, HNN.out.2⟩
        · have cK := HC1.out X2 VX.out.below
          obtain ⟨tn, htn⟩ : ∃ tn : Nat, r.tk = (tn : Int) := ⟨r.tk.toNat, by omega⟩
          have htt : r.tk.toNat = tn := by omega
          rw [htt] at hae hsm
          have HTN : Hid (tn < 64) := by show _ < _; omega
          have HPT : Hid (∀ X, Calls Try.prog 11 #[.int .i64 r.tk, .int .i64 64] X fun e w' => e = .returned (.int .i64 (tn : Int)) ∧ Below X.heap.size X w') := fun X => by
            have hb := (i64_iff r.tk).1 HRO.out.tk
            have hp : pk r.tk 64 = (tn : Int) := by unfold pk; rw [if_neg (by omega)]; omega
            rw [← hp]
            exact (pick_any r.tk 64 (by decide) hb.1 (by omega) (by decide) X).mono fun e w' h => ⟨h.1, by rw [h.2]; exact Below.refl _ _⟩
          obtain ⟨ch, hch⟩ : ∃ c, c = vQ (dgs (hm s tn) 4) := ⟨_, rfl⟩
          have HWH : Hid (Wc ch (hm s tn)) := hch
          obtain ⟨cr, hcr⟩ : ∃ c, c = vQ (dgs (subR (hm s tn) r.m) 4) := ⟨_, rfl⟩
          have HWR : Hid (Wc cr (subR (hm s tn) r.m)) := hcr
          have HAR : Hid (∀ X, Calls Try.prog 18 #[.agg ch.toArray, .agg cm.toArray] X fun e w' => e = .returned (.tuple #[.agg cr.toArray, .int .i64 0]) ∧ Below X.heap.size X w') := fun X => by
            have h := refSub_c (hm s tn) r.m (hm_lt HSO.out tn) HRO.out.m X
            rw [hae, ← hch, ← HWM.out, ← hcr] at h
            exact h
          have HCHR : Hid (∀ X, Row X H (hcells (hm s)) 33 → X.rangeAt H (0 + tn * 4) ch) := fun X h => by rw [hch, Nat.zero_add]; exact hcells_at h HTN.out
          have HNW : Hid ((hcells (hm s)).take (0 + tn * 4) ++ cr ++ (hcells (hm s)).drop (0 + tn * 4 + cr.length) = hcells (upn (hm s) tn (subR (hm s tn) r.m))) := by
            show _ = _
            rw [hcr, Nat.zero_add]
            exact hcells_set (hm s) HTN.out _
          have HSM : Hid (∀ t, t < 64 → hm s' t = upn (hm s) tn (subR (hm s tn) r.m) t) := hsm
          have HLM : Hid (s'.L = s.L) := hlm
          clear hsm hlm hae htt ht0 ht6 hch hcr htn
          go_upto_region 17 with (first
            | (refine wpList_ixs 22 35 (.tmp 38) (.tmp 39) rfl b o N c0 i 8 rfl rfl HIN.out und_Ss info_S rfl ?_)
            | (go_at_call 11; refine Calls.mono (HPK.out X2) ?_; rintro e X ⟨rfl, hqq⟩; obtain rfl := hqq.symm))
          clear cK
          have hb1 := VX.out.below
          have rH := RHX.out
          have gV := Gro.refl (· = H) X2
          have hHlow : w.heap.size ≤ H := HNN.out.1.1
          refine wp_named fun a0 ha0 => ?_
          have hsz : a0.tmps.size = 144 := by rw [ha0]; rfl
          have zs0 : a0.eval (.tmp 0) = .slice (some ⟨b, o, none⟩) N c0 := by rw [ha0]; rfl
          have zs5 : a0.eval (.tmp 5) = .slice (some ⟨H, 0, none⟩) 64 64 := by rw [ha0]; rfl
          have zs7 : a0.eval (.tmp 7) = .int .i64 (i : Int) := by rw [ha0]; rfl
          obtain ⟨D, hD⟩ : ∃ D : List (Tmp × SP), D = [(75, SP.is (.slice (some ⟨H, 0, none⟩) 64 64)), (76, SP.is (.slice (some ⟨b, o, none⟩) N c0)), (77, SP.is (.int .i64 (i : Int))), (78, SP.is (.pointer (some ⟨b, o + i * 8, none⟩))), (79, SP.is (.pointer (some ⟨b, o + i * 8 + 2, none⟩))), (80, SP.is (.int .i64 r.tk)), (81, SP.is (.int .i64 (tn : Int))), (82, SP.is (.slice (some ⟨H, 0, none⟩) 64 64)), (83, SP.is (.slice (some ⟨b, o, none⟩) N c0)), (84, SP.is (.int .i64 (i : Int))), (85, SP.is (.pointer (some ⟨b, o + i * 8, none⟩))), (86, SP.is (.pointer (some ⟨b, o + i * 8 + 2, none⟩))), (87, SP.is (.int .i64 r.tk)), (88, SP.is (.int .i64 (tn : Int))), (89, SP.is (.pointer (some ⟨H, 0 + tn * 4, none⟩))), (90, SP.is (.agg ch.toArray)), (91, SP.is (.slice (some ⟨b, o, none⟩) N c0)), (92, SP.is (.int .i64 (i : Int))), (93, SP.is (.pointer (some ⟨b, o + i * 8, none⟩))), (94, SP.is (.pointer (some ⟨b, o + i * 8 + 4, none⟩))), (95, SP.is (.agg cm.toArray)), (96, SP.is (.tuple #[.agg cr.toArray, .int .i64 0])), (74, SP.is (.tuple #[.agg cr.toArray, .int .i64 0])), (97, SP.is (.agg cr.toArray)), (98, SP.is (.int .i64 0)), (99, SP.is (.pointer (some ⟨H, 0 + tn * 4, none⟩))), (1000, SP.any), (10, SP.is (.int .i64 0))] := ⟨_, rfl⟩
          refine wp_region_down (by kernel_rfl) (fun listed ac W => listed.size = 28 ∧ Fp D a0 listed ac W ∧ Below w.heap.size w W ∧ Row W H (if listed.getD 26 false = true then hcells (upn (hm s) tn (subR (hm s tn) r.m)) else hcells (hm s)) 33 ∧ Gro (· = H) X2 W) ?_ ?_ ?_
          · exact ⟨by simp, Fp.start D a0 _ _, Below.drew hb1, (by rw [if_neg (fun h => start_no h)]; exact Row.drew rH), gV.below (Below.drew (Below.refl _ _))⟩
          · clear ha0 hb1 rH gV 
            intro listed ac W k hI hdn hk
            obtain ⟨hl, hF, hb1, rH, gV⟩ := hI
            have hk1 : k < 28 := List.mem_range.1 (List.mem_filter.1 hk).1
            have hl2 : ∀ j, (listed.setIfInBounds j true).size = 28 := fun j => by rw [Array.size_setIfInBounds]; exact hl
            rcases (show k = 0 ∨ k = 1 ∨ k = 2 ∨ k = 3 ∨ k = 4 ∨ k = 5 ∨ k = 6 ∨ k = 7 ∨ k = 8 ∨ k = 9 ∨ k = 10 ∨ k = 11 ∨ k = 12 ∨ k = 13 ∨ k = 14 ∨ k = 15 ∨ k = 16 ∨ k = 17 ∨ k = 18 ∨ k = 19 ∨ k = 20 ∨ k = 21 ∨ k = 22 ∨ k = 23 ∨ k = 24 ∨ k = 25 ∨ k = 26 ∨ k = 27 by omega) with rfl | rfl | rfl | rfl | rfl | rfl | rfl | rfl | rfl | rfl | rfl | rfl | rfl | rfl | rfl | rfl | rfl | rfl | rfl | rfl | rfl | rfl | rfl | rfl | rfl | rfl | rfl | rfl
            · have hk3 := hk
              exact wpOp_plain rfl rfl (wp_move_v (ac.eval (.tmp 5)) rfl rfl ⟨hl2 0, (hF.put 0 75 (SP.is (.slice (some ⟨H, 0, none⟩) 64 64)) (ac.eval (.tmp 5)) (by rw [hD]; rfl) (((hF.keep 5 (by rw [hD]; rfl)).trans zs5)) (by rw [hD]; rfl) (by rw [hsz]; decide) (by rw [hl]; decide)), hb1, (by rw [getD_set _ _ _ (by decide)]; exact rH), gV⟩)
            · have hk3 := hk
              exact wpOp_plain rfl rfl (wp_move_v (ac.eval (.tmp 0)) rfl rfl ⟨hl2 1, (hF.put 1 76 (SP.is (.slice (some ⟨b, o, none⟩) N c0)) (ac.eval (.tmp 0)) (by rw [hD]; rfl) (((hF.keep 0 (by rw [hD]; rfl)).trans zs0)) (by rw [hD]; rfl) (by rw [hsz]; decide) (by rw [hl]; decide)), hb1, (by rw [getD_set _ _ _ (by decide)]; exact rH), gV⟩)
            · have hk3 := hk
              exact wpOp_plain rfl rfl (wp_move_v (ac.eval (.tmp 7)) rfl rfl ⟨hl2 2, (hF.put 2 77 (SP.is (.int .i64 (i : Int))) (ac.eval (.tmp 7)) (by rw [hD]; rfl) (((hF.keep 7 (by rw [hD]; rfl)).trans zs7)) (by rw [hD]; rfl) (by rw [hsz]; decide) (by rw [hl]; decide)), hb1, (by rw [getD_set _ _ _ (by decide)]; exact rH), gV⟩)
            · have hk3 := hk
              have ea := (hF.done 1 (76, SP.is (.slice (some ⟨b, o, none⟩) N c0)) (by rw [hD]; rfl) (ready_dep hk 1 (by kernel_rfl)))
              have eb := (hF.done 2 (77, SP.is (.int .i64 (i : Int))) (by rw [hD]; rfl) (ready_dep hk 2 (by kernel_rfl)))
              exact wpOp_plain rfl rfl (wp_ixs 22 35 rfl b o N c0 i 8 ea eb HIN.out und_Ss info_S ⟨hl2 3, (hF.put 3 78 (SP.is (.pointer (some ⟨b, o + i * 8, none⟩))) (.pointer (some ⟨b, o + i * 8, none⟩)) (by rw [hD]; rfl) rfl (by rw [hD]; rfl) (by rw [hsz]; decide) (by rw [hl]; decide)), hb1, (by rw [getD_set _ _ _ (by decide)]; exact rH), gV⟩)
            · have hk3 := hk
              have ea := (hF.done 3 (78, SP.is (.pointer (some ⟨b, o + i * 8, none⟩))) (by rw [hD]; rfl) (ready_dep hk 3 (by kernel_rfl)))
              exact wpOp_plain rfl rfl (wp_sf2 b (o + i * 8) rfl ea ⟨hl2 4, (hF.put 4 79 (SP.is (.pointer (some ⟨b, o + i * 8 + 2, none⟩))) (.pointer (some ⟨b, o + i * 8 + 2, none⟩)) (by rw [hD]; rfl) rfl (by rw [hD]; rfl) (by rw [hsz]; decide) (by rw [hl]; decide)), hb1, (by rw [getD_set _ _ _ (by decide)]; exact rH), gV⟩)
            · have hk3 := hk
              have ea := (hF.done 4 (79, SP.is (.pointer (some ⟨b, o + i * 8 + 2, none⟩))) (by rw [hD]; rfl) (ready_dep hk 4 (by kernel_rfl)))
              exact wpOp_plain rfl rfl (wp_load_1 b (o + i * 8 + 2) (.int .i64 r.tk) rfl ea (run_load_in W b _ _ (HC2.out W hb1)) ⟨hl2 5, (hF.put 5 80 (SP.is (.int .i64 r.tk)) (.int .i64 r.tk) (by rw [hD]; rfl) rfl (by rw [hD]; rfl) (by rw [hsz]; decide) (by rw [hl]; decide)), hb1, (by rw [getD_set _ _ _ (by decide)]; exact rH), gV⟩)
            · have hk3 := hk
              have ea := (hF.done 5 (80, SP.is (.int .i64 r.tk)) (by rw [hD]; rfl) (ready_dep hk 5 (by kernel_rfl)))
              refine wpOp_plain rfl rfl (wp_fcall_v 11 #[.int .i64 r.tk, .int .i64 64] rfl rfl (by show [ac.eval (.tmp 80), ac.eval (.const (.int .i64 64))] = _; rw [show ac.eval (.tmp 80) = _ from ea]; rfl) (by go_simp) ((HPT.out W).mono ?_))
              rintro e W2 ⟨rfl, hB⟩
              exact ⟨_, rfl, hl2 6, ((hF.world hB).put 6 81 (SP.is (.int .i64 (tn : Int))) (.int .i64 (tn : Int)) (by rw [hD]; rfl) rfl (by rw [hD]; rfl) (by rw [hsz]; decide) (by rw [hl]; decide)), hb1.trans (hB.mono hb1.size), (by rw [getD_set _ _ _ (by decide)]; exact Row.below rH hB (Row.lt rH)), gV.below hB⟩
            · have hk3 := hk
              exact wpOp_plain rfl rfl (wp_move_v (ac.eval (.tmp 5)) rfl rfl ⟨hl2 7, (hF.put 7 82 (SP.is (.slice (some ⟨H, 0, none⟩) 64 64)) (ac.eval (.tmp 5)) (by rw [hD]; rfl) (((hF.keep 5 (by rw [hD]; rfl)).trans zs5)) (by rw [hD]; rfl) (by rw [hsz]; decide) (by rw [hl]; decide)), hb1, (by rw [getD_set _ _ _ (by decide)]; exact rH), gV⟩)
            · have hk3 := hk
              exact wpOp_plain rfl rfl (wp_move_v (ac.eval (.tmp 0)) rfl rfl ⟨hl2 8, (hF.put 8 83 (SP.is (.slice (some ⟨b, o, none⟩) N c0)) (ac.eval (.tmp 0)) (by rw [hD]; rfl) (((hF.keep 0 (by rw [hD]; rfl)).trans zs0)) (by rw [hD]; rfl) (by rw [hsz]; decide) (by rw [hl]; decide)), hb1, (by rw [getD_set _ _ _ (by decide)]; exact rH), gV⟩)
            · have hk3 := hk
              exact wpOp_plain rfl rfl (wp_move_v (ac.eval (.tmp 7)) rfl rfl ⟨hl2 9, (hF.put 9 84 (SP.is (.int .i64 (i : Int))) (ac.eval (.tmp 7)) (by rw [hD]; rfl) (((hF.keep 7 (by rw [hD]; rfl)).trans zs7)) (by rw [hD]; rfl) (by rw [hsz]; decide) (by rw [hl]; decide)), hb1, (by rw [getD_set _ _ _ (by decide)]; exact rH), gV⟩)
            · have hk3 := hk
              have ea := (hF.done 8 (83, SP.is (.slice (some ⟨b, o, none⟩) N c0)) (by rw [hD]; rfl) (ready_dep hk 8 (by kernel_rfl)))
              have eb := (hF.done 9 (84, SP.is (.int .i64 (i : Int))) (by rw [hD]; rfl) (ready_dep hk 9 (by kernel_rfl)))
              exact wpOp_plain rfl rfl (wp_ixs 22 35 rfl b o N c0 i 8 ea eb HIN.out und_Ss info_S ⟨hl2 10, (hF.put 10 85 (SP.is (.pointer (some ⟨b, o + i * 8, none⟩))) (.pointer (some ⟨b, o + i * 8, none⟩)) (by rw [hD]; rfl) rfl (by rw [hD]; rfl) (by rw [hsz]; decide) (by rw [hl]; decide)), hb1, (by rw [getD_set _ _ _ (by decide)]; exact rH), gV⟩)
            · have hk3 := hk
              have ea := (hF.done 10 (85, SP.is (.pointer (some ⟨b, o + i * 8, none⟩))) (by rw [hD]; rfl) (ready_dep hk 10 (by kernel_rfl)))
              exact wpOp_plain rfl rfl (wp_sf2 b (o + i * 8) rfl ea ⟨hl2 11, (hF.put 11 86 (SP.is (.pointer (some ⟨b, o + i * 8 + 2, none⟩))) (.pointer (some ⟨b, o + i * 8 + 2, none⟩)) (by rw [hD]; rfl) rfl (by rw [hD]; rfl) (by rw [hsz]; decide) (by rw [hl]; decide)), hb1, (by rw [getD_set _ _ _ (by decide)]; exact rH), gV⟩)
            · have hk3 := hk
              have ea := (hF.done 11 (86, SP.is (.pointer (some ⟨b, o + i * 8 + 2, none⟩))) (by rw [hD]; rfl) (ready_dep hk 11 (by kernel_rfl)))
              exact wpOp_plain rfl rfl (wp_load_1 b (o + i * 8 + 2) (.int .i64 r.tk) rfl ea (run_load_in W b _ _ (HC2.out W hb1)) ⟨hl2 12, (hF.put 12 87 (SP.is (.int .i64 r.tk)) (.int .i64 r.tk) (by rw [hD]; rfl) rfl (by rw [hD]; rfl) (by rw [hsz]; decide) (by rw [hl]; decide)), hb1, (by rw [getD_set _ _ _ (by decide)]; exact rH), gV⟩)
            · have hk3 := hk
              have ea := (hF.done 12 (87, SP.is (.int .i64 r.tk)) (by rw [hD]; rfl) (ready_dep hk 12 (by kernel_rfl)))
              refine wpOp_plain rfl rfl (wp_fcall_v 11 #[.int .i64 r.tk, .int .i64 64] rfl rfl (by show [ac.eval (.tmp 87), ac.eval (.const (.int .i64 64))] = _; rw [show ac.eval (.tmp 87) = _ from ea]; rfl) (by go_simp) ((HPT.out W).mono ?_))
              rintro e W2 ⟨rfl, hB⟩
              exact ⟨_, rfl, hl2 13, ((hF.world hB).put 13 88 (SP.is (.int .i64 (tn : Int))) (.int .i64 (tn : Int)) (by rw [hD]; rfl) rfl (by rw [hD]; rfl) (by rw [hsz]; decide) (by rw [hl]; decide)), hb1.trans (hB.mono hb1.size), (by rw [getD_set _ _ _ (by decide)]; exact Row.below rH hB (Row.lt rH)), gV.below hB⟩
            · have hk3 := hk
              have ea := (hF.done 7 (82, SP.is (.slice (some ⟨H, 0, none⟩) 64 64)) (by rw [hD]; rfl) (ready_dep hk 7 (by kernel_rfl)))
              have eb := (hF.done 13 (88, SP.is (.int .i64 (tn : Int))) (by rw [hD]; rfl) (ready_dep hk 13 (by kernel_rfl)))
              exact wpOp_plain rfl rfl (wp_ixs 42 33 rfl H 0 64 64 tn 4 ea eb HTN.out und_Ws info_w4 ⟨hl2 14, (hF.put 14 89 (SP.is (.pointer (some ⟨H, 0 + tn * 4, none⟩))) (.pointer (some ⟨H, 0 + tn * 4, none⟩)) (by rw [hD]; rfl) rfl (by rw [hD]; rfl) (by rw [hsz]; decide) (by rw [hl]; decide)), hb1, (by rw [getD_set _ _ _ (by decide)]; exact rH), gV⟩)
            · have hk3 := hk
              have hnq : ¬ listed.getD 26 false = true := fun h => not_yet hk (hdn 26 h 15 (by kernel_rfl))
              have rH9 := rH
              rw [if_neg hnq] at rH9
              have ea := (hF.done 14 (89, SP.is (.pointer (some ⟨H, 0 + tn * 4, none⟩))) (by rw [hD]; rfl) (ready_dep hk 14 (by kernel_rfl)))
              exact wpOp_plain rfl rfl (wp_load_mid 33 (.tmp 89) rfl H (0 + tn * 4) ea ch _ (HCHR.out W rH9) Try.underlying33 rfl HWH.out.info ⟨hl2 15, (hF.put 15 90 (SP.is (.agg ch.toArray)) (.agg ch.toArray) (by rw [hD]; rfl) rfl (by rw [hD]; rfl) (by rw [hsz]; decide) (by rw [hl]; decide)), hb1, (by rw [getD_set _ _ _ (by decide)]; exact rH), gV⟩)
            · have hk3 := hk
              exact wpOp_plain rfl rfl (wp_move_v (ac.eval (.tmp 0)) rfl rfl ⟨hl2 16, (hF.put 16 91 (SP.is (.slice (some ⟨b, o, none⟩) N c0)) (ac.eval (.tmp 0)) (by rw [hD]; rfl) (((hF.keep 0 (by rw [hD]; rfl)).trans zs0)) (by rw [hD]; rfl) (by rw [hsz]; decide) (by rw [hl]; decide)), hb1, (by rw [getD_set _ _ _ (by decide)]; exact rH), gV⟩)
            · have hk3 := hk
              exact wpOp_plain rfl rfl (wp_move_v (ac.eval (.tmp 7)) rfl rfl ⟨hl2 17, (hF.put 17 92 (SP.is (.int .i64 (i : Int))) (ac.eval (.tmp 7)) (by rw [hD]; rfl) (((hF.keep 7 (by rw [hD]; rfl)).trans zs7)) (by rw [hD]; rfl) (by rw [hsz]; decide) (by rw [hl]; decide)), hb1, (by rw [getD_set _ _ _ (by decide)]; exact rH), gV⟩)
            · have hk3 := hk
              have ea := (hF.done 16 (91, SP.is (.slice (some ⟨b, o, none⟩) N c0)) (by rw [hD]; rfl) (ready_dep hk 16 (by kernel_rfl)))
              have eb := (hF.done 17 (92, SP.is (.int .i64 (i : Int))) (by rw [hD]; rfl) (ready_dep hk 17 (by kernel_rfl)))
              exact wpOp_plain rfl rfl (wp_ixs 22 35 rfl b o N c0 i 8 ea eb HIN.out und_Ss info_S ⟨hl2 18, (hF.put 18 93 (SP.is (.pointer (some ⟨b, o + i * 8, none⟩))) (.pointer (some ⟨b, o + i * 8, none⟩)) (by rw [hD]; rfl) rfl (by rw [hD]; rfl) (by rw [hsz]; decide) (by rw [hl]; decide)), hb1, (by rw [getD_set _ _ _ (by decide)]; exact rH), gV⟩)
            · have hk3 := hk
              have ea := (hF.done 18 (93, SP.is (.pointer (some ⟨b, o + i * 8, none⟩))) (by rw [hD]; rfl) (ready_dep hk 18 (by kernel_rfl)))
              exact wpOp_plain rfl rfl (wp_sf4 b (o + i * 8) rfl ea ⟨hl2 19, (hF.put 19 94 (SP.is (.pointer (some ⟨b, o + i * 8 + 4, none⟩))) (.pointer (some ⟨b, o + i * 8 + 4, none⟩)) (by rw [hD]; rfl) rfl (by rw [hD]; rfl) (by rw [hsz]; decide) (by rw [hl]; decide)), hb1, (by rw [getD_set _ _ _ (by decide)]; exact rH), gV⟩)
            · have hk3 := hk
              have ea := (hF.done 19 (94, SP.is (.pointer (some ⟨b, o + i * 8 + 4, none⟩))) (by rw [hD]; rfl) (ready_dep hk 19 (by kernel_rfl)))
              exact wpOp_plain rfl rfl (wp_load_mid 33 (.tmp 94) rfl b (o + i * 8 + 4) ea cm _ (HC4.out W hb1) Try.underlying33 rfl HWM.out.info ⟨hl2 20, (hF.put 20 95 (SP.is (.agg cm.toArray)) (.agg cm.toArray) (by rw [hD]; rfl) rfl (by rw [hD]; rfl) (by rw [hsz]; decide) (by rw [hl]; decide)), hb1, (by rw [getD_set _ _ _ (by decide)]; exact rH), gV⟩)
            · have hk3 := hk
              have ea := (hF.done 15 (90, SP.is (.agg ch.toArray)) (by rw [hD]; rfl) (ready_dep hk 15 (by kernel_rfl)))
              have eb := (hF.done 20 (95, SP.is (.agg cm.toArray)) (by rw [hD]; rfl) (ready_dep hk 20 (by kernel_rfl)))
              refine wpOp_plain rfl rfl (wp_fcall_v 18 #[.agg ch.toArray, .agg cm.toArray] rfl rfl (by show [ac.eval (.tmp 90), ac.eval (.tmp 95)] = _; rw [show ac.eval (.tmp 90) = _ from ea, show ac.eval (.tmp 95) = _ from eb]) (by go_simp) ((HAR.out W).mono ?_))
              rintro e W2 ⟨rfl, hB⟩
              exact ⟨_, rfl, hl2 21, ((hF.world hB).put 21 96 (SP.is (.tuple #[.agg cr.toArray, .int .i64 0])) (.tuple #[.agg cr.toArray, .int .i64 0]) (by rw [hD]; rfl) rfl (by rw [hD]; rfl) (by rw [hsz]; decide) (by rw [hl]; decide)), hb1.trans (hB.mono hb1.size), (by rw [getD_set _ _ _ (by decide)]; exact Row.below rH hB (Row.lt rH)), gV.below hB⟩
            · have hk3 := hk
              exact wpOp_plain rfl rfl (wp_move_v (ac.eval (.tmp 96)) rfl rfl ⟨hl2 22, (hF.put 22 74 (SP.is (.tuple #[.agg cr.toArray, .int .i64 0])) (ac.eval (.tmp 96)) (by rw [hD]; rfl) ((hF.done 21 (96, SP.is (.tuple #[.agg cr.toArray, .int .i64 0])) (by rw [hD]; rfl) (ready_dep hk 21 (by kernel_rfl)))) (by rw [hD]; rfl) (by rw [hsz]; decide) (by rw [hl]; decide)), hb1, (by rw [getD_set _ _ _ (by decide)]; exact rH), gV⟩)
            · have hk3 := hk
              exact wpOp_plain rfl rfl (wp_extract (.tmp 74) 0 rfl _ (hF.done 22 (74, SP.is (.tuple #[.agg cr.toArray, .int .i64 0])) (by rw [hD]; rfl) (ready_dep hk 22 (by kernel_rfl))) (.agg cr.toArray) rfl ⟨hl2 23, (hF.put 23 97 (SP.is (.agg cr.toArray)) (.agg cr.toArray) (by rw [hD]; rfl) rfl (by rw [hD]; rfl) (by rw [hsz]; decide) (by rw [hl]; decide)), hb1, (by rw [getD_set _ _ _ (by decide)]; exact rH), gV⟩)
            · have hk3 := hk
              exact wpOp_plain rfl rfl (wp_extract (.tmp 74) 1 rfl _ (hF.done 22 (74, SP.is (.tuple #[.agg cr.toArray, .int .i64 0])) (by rw [hD]; rfl) (ready_dep hk 22 (by kernel_rfl))) (.int .i64 0) rfl ⟨hl2 24, (hF.put 24 98 (SP.is (.int .i64 0)) (.int .i64 0) (by rw [hD]; rfl) rfl (by rw [hD]; rfl) (by rw [hsz]; decide) (by rw [hl]; decide)), hb1, (by rw [getD_set _ _ _ (by decide)]; exact rH), gV⟩)
            · have hk3 := hk
              have ea := (hF.done 0 (75, SP.is (.slice (some ⟨H, 0, none⟩) 64 64)) (by rw [hD]; rfl) (ready_dep hk 0 (by kernel_rfl)))
              have eb := (hF.done 6 (81, SP.is (.int .i64 (tn : Int))) (by rw [hD]; rfl) (ready_dep hk 6 (by kernel_rfl)))
              exact wpOp_plain rfl rfl (wp_ixs 42 33 rfl H 0 64 64 tn 4 ea eb HTN.out und_Ws info_w4 ⟨hl2 25, (hF.put 25 99 (SP.is (.pointer (some ⟨H, 0 + tn * 4, none⟩))) (.pointer (some ⟨H, 0 + tn * 4, none⟩)) (by rw [hD]; rfl) rfl (by rw [hD]; rfl) (by rw [hsz]; decide) (by rw [hl]; decide)), hb1, (by rw [getD_set _ _ _ (by decide)]; exact rH), gV⟩)
            · have hk3 := hk
              have hno : ¬ listed.getD 26 false = true := not_yet hk
              rw [if_neg hno] at rH
              have T := rH.there (0 + tn * 4) cr.toArray.size (by rw [List.size_toArray, HWR.out.len, hcells_len]; have := HTN.out; omega)
              have fin := (show Row (W.setCells H (0 + tn * 4) cr) H (hcells (upn (hm s) tn (subR (hm s tn) r.m))) 33 from by rw [← HNW.out]; exact Row.setCells (0 + tn * 4) cr rH (by rw [HWR.out.len, hcells_len]; have := HTN.out; omega))
              have hT : Fp D a0 listed ac (W.setCells H (0 + tn * 4) cr) := hF.turn (by rw [hD]; simp only [List.forall_mem_cons, List.not_mem_nil, false_implies, implies_true, and_true]; exact ⟨fun _ h => h, fun _ h => h, fun _ h => h, fun _ h => h, fun _ h => h, fun _ h => h, fun _ h => h, fun _ h => h, fun _ h => h, fun _ h => h, fun _ h => h, fun _ h => h, fun _ h => h, fun _ h => h, fun _ h => h, fun _ h => h, fun _ h => h, fun _ h => h, fun _ h => h, fun _ h => h, fun _ h => h, fun _ h => h, fun _ h => h, fun _ h => h, fun _ h => h, fun _ h => h, fun _ h => h, fun _ h => h⟩)
              exact wpOp_plain rfl rfl (wp_store_mid 33 (.tmp 99) (.tmp 97) rfl H (0 + tn * 4) cr.toArray (hF.done 25 (99, SP.is (.pointer (some ⟨H, 0 + tn * 4, none⟩))) (by rw [hD]; rfl) (ready_dep hk 25 (by kernel_rfl))) (hF.done 23 (97, SP.is (.agg cr.toArray)) (by rw [hD]; rfl) (ready_dep hk 23 (by kernel_rfl))) T HWR.out.info' HWR.out.one ⟨hl2 26, (hT.skip 26 1000 (by rw [hD]; rfl) (by rw [hl]; decide)), below_setCells hb1 (by omega) _, (by rw [if_pos (getD_same (by rw [hl]; decide))]; exact fin), gV.trans (gro_sets W H (0 + tn * 4) cr)⟩)
            · have hk3 := hk
              exact wpOp_plain rfl rfl (wp_assign_v (ac.eval (.tmp 98)) rfl rfl ⟨hl2 27, (hF.put 27 10 (SP.is (.int .i64 0)) (ac.eval (.tmp 98)) (by rw [hD]; rfl) ((hF.done 24 (98, SP.is (.int .i64 0)) (by rw [hD]; rfl) (ready_dep hk 24 (by kernel_rfl)))) (by rw [hD]; rfl) (by rw [hsz]; decide) (by rw [hl]; decide)), hb1, (by rw [getD_set _ _ _ (by decide)]; exact rH), gV⟩)
          · clear hb1 rH gV 
            intro listed ac W hI hr
            obtain ⟨hl, hF, hb1, rH, gV⟩ := hI
            have hall := all_listed (by kernel_rfl) hl hr
            rw [if_pos (hall 26 (by decide))] at rH
            have h75 : ac.eval (.tmp 75) = .slice (some ⟨H, 0, none⟩) 64 64 := hF.done 0 (75, SP.is (.slice (some ⟨H, 0, none⟩) 64 64)) (by rw [hD]; rfl) (hall 0 (by decide))
            have h76 : ac.eval (.tmp 76) = .slice (some ⟨b, o, none⟩) N c0 := hF.done 1 (76, SP.is (.slice (some ⟨b, o, none⟩) N c0)) (by rw [hD]; rfl) (hall 1 (by decide))
            have h77 : ac.eval (.tmp 77) = .int .i64 (i : Int) := hF.done 2 (77, SP.is (.int .i64 (i : Int))) (by rw [hD]; rfl) (hall 2 (by decide))
            have h78 : ac.eval (.tmp 78) = .pointer (some ⟨b, o + i * 8, none⟩) := hF.done 3 (78, SP.is (.pointer (some ⟨b, o + i * 8, none⟩))) (by rw [hD]; rfl) (hall 3 (by decide))
            have h79 : ac.eval (.tmp 79) = .pointer (some ⟨b, o + i * 8 + 2, none⟩) := hF.done 4 (79, SP.is (.pointer (some ⟨b, o + i * 8 + 2, none⟩))) (by rw [hD]; rfl) (hall 4 (by decide))
            have h80 : ac.eval (.tmp 80) = .int .i64 r.tk := hF.done 5 (80, SP.is (.int .i64 r.tk)) (by rw [hD]; rfl) (hall 5 (by decide))
            have h81 : ac.eval (.tmp 81) = .int .i64 (tn : Int) := hF.done 6 (81, SP.is (.int .i64 (tn : Int))) (by rw [hD]; rfl) (hall 6 (by decide))
            have h82 : ac.eval (.tmp 82) = .slice (some ⟨H, 0, none⟩) 64 64 := hF.done 7 (82, SP.is (.slice (some ⟨H, 0, none⟩) 64 64)) (by rw [hD]; rfl) (hall 7 (by decide))
            have h83 : ac.eval (.tmp 83) = .slice (some ⟨b, o, none⟩) N c0 := hF.done 8 (83, SP.is (.slice (some ⟨b, o, none⟩) N c0)) (by rw [hD]; rfl) (hall 8 (by decide))
            have h84 : ac.eval (.tmp 84) = .int .i64 (i : Int) := hF.done 9 (84, SP.is (.int .i64 (i : Int))) (by rw [hD]; rfl) (hall 9 (by decide))
            have h85 : ac.eval (.tmp 85) = .pointer (some ⟨b, o + i * 8, none⟩) := hF.done 10 (85, SP.is (.pointer (some ⟨b, o + i * 8, none⟩))) (by rw [hD]; rfl) (hall 10 (by decide))
            have h86 : ac.eval (.tmp 86) = .pointer (some ⟨b, o + i * 8 + 2, none⟩) := hF.done 11 (86, SP.is (.pointer (some ⟨b, o + i * 8 + 2, none⟩))) (by rw [hD]; rfl) (hall 11 (by decide))
            have h87 : ac.eval (.tmp 87) = .int .i64 r.tk := hF.done 12 (87, SP.is (.int .i64 r.tk)) (by rw [hD]; rfl) (hall 12 (by decide))
            have h88 : ac.eval (.tmp 88) = .int .i64 (tn : Int) := hF.done 13 (88, SP.is (.int .i64 (tn : Int))) (by rw [hD]; rfl) (hall 13 (by decide))
            have h89 : ac.eval (.tmp 89) = .pointer (some ⟨H, 0 + tn * 4, none⟩) := hF.done 14 (89, SP.is (.pointer (some ⟨H, 0 + tn * 4, none⟩))) (by rw [hD]; rfl) (hall 14 (by decide))
            have h90 : ac.eval (.tmp 90) = .agg ch.toArray := hF.done 15 (90, SP.is (.agg ch.toArray)) (by rw [hD]; rfl) (hall 15 (by decide))
            have h91 : ac.eval (.tmp 91) = .slice (some ⟨b, o, none⟩) N c0 := hF.done 16 (91, SP.is (.slice (some ⟨b, o, none⟩) N c0)) (by rw [hD]; rfl) (hall 16 (by decide))
            have h92 : ac.eval (.tmp 92) = .int .i64 (i : Int) := hF.done 17 (92, SP.is (.int .i64 (i : Int))) (by rw [hD]; rfl) (hall 17 (by decide))
            have h93 : ac.eval (.tmp 93) = .pointer (some ⟨b, o + i * 8, none⟩) := hF.done 18 (93, SP.is (.pointer (some ⟨b, o + i * 8, none⟩))) (by rw [hD]; rfl) (hall 18 (by decide))
            have h94 : ac.eval (.tmp 94) = .pointer (some ⟨b, o + i * 8 + 4, none⟩) := hF.done 19 (94, SP.is (.pointer (some ⟨b, o + i * 8 + 4, none⟩))) (by rw [hD]; rfl) (hall 19 (by decide))
            have h95 : ac.eval (.tmp 95) = .agg cm.toArray := hF.done 20 (95, SP.is (.agg cm.toArray)) (by rw [hD]; rfl) (hall 20 (by decide))
            have h96 : ac.eval (.tmp 96) = .tuple #[.agg cr.toArray, .int .i64 0] := hF.done 21 (96, SP.is (.tuple #[.agg cr.toArray, .int .i64 0])) (by rw [hD]; rfl) (hall 21 (by decide))
            have h74 : ac.eval (.tmp 74) = .tuple #[.agg cr.toArray, .int .i64 0] := hF.done 22 (74, SP.is (.tuple #[.agg cr.toArray, .int .i64 0])) (by rw [hD]; rfl) (hall 22 (by decide))
            have h97 : ac.eval (.tmp 97) = .agg cr.toArray := hF.done 23 (97, SP.is (.agg cr.toArray)) (by rw [hD]; rfl) (hall 23 (by decide))
            have h98 : ac.eval (.tmp 98) = .int .i64 0 := hF.done 24 (98, SP.is (.int .i64 0)) (by rw [hD]; rfl) (hall 24 (by decide))
            have h99 : ac.eval (.tmp 99) = .pointer (some ⟨H, 0 + tn * 4, none⟩) := hF.done 25 (99, SP.is (.pointer (some ⟨H, 0 + tn * 4, none⟩))) (by rw [hD]; rfl) (hall 25 (by decide))
            have h10 : ac.eval (.tmp 10) = .int .i64 0 := hF.done 27 (10, SP.is (.int .i64 0)) (by rw [hD]; rfl) (hall 27 (by decide))
            have ea := hF.lay [(75, .slice (some ⟨H, 0, none⟩) 64 64), (76, .slice (some ⟨b, o, none⟩) N c0), (77, .int .i64 (i : Int)), (78, .pointer (some ⟨b, o + i * 8, none⟩)), (79, .pointer (some ⟨b, o + i * 8 + 2, none⟩)), (80, .int .i64 r.tk), (81, .int .i64 (tn : Int)), (82, .slice (some ⟨H, 0, none⟩) 64 64), (83, .slice (some ⟨b, o, none⟩) N c0), (84, .int .i64 (i : Int)), (85, .pointer (some ⟨b, o + i * 8, none⟩)), (86, .pointer (some ⟨b, o + i * 8 + 2, none⟩)), (87, .int .i64 r.tk), (88, .int .i64 (tn : Int)), (89, .pointer (some ⟨H, 0 + tn * 4, none⟩)), (90, .agg ch.toArray), (91, .slice (some ⟨b, o, none⟩) N c0), (92, .int .i64 (i : Int)), (93, .pointer (some ⟨b, o + i * 8, none⟩)), (94, .pointer (some ⟨b, o + i * 8 + 4, none⟩)), (95, .agg cm.toArray), (96, .tuple #[.agg cr.toArray, .int .i64 0]), (74, .tuple #[.agg cr.toArray, .int .i64 0]), (97, .agg cr.toArray), (98, .int .i64 0), (99, .pointer (some ⟨H, 0 + tn * 4, none⟩)), (10, .int .i64 0)] (by rw [hD, hsz]; rfl) (by simp only [List.forall_mem_cons, List.not_mem_nil, false_implies, implies_true, and_true]; exact ⟨h75, h76, h77, h78, h79, h80, h81, h82, h83, h84, h85, h86, h87, h88, h89, h90, h91, h92, h93, h94, h95, h96, h74, h97, h98, h99, h10⟩)
            rw [ha0] at ea
            simp only [List.foldl_cons, List.foldl_nil, List.setIfInBounds_toArray, List.set_cons_zero, List.set_cons_succ] at ea
            clear hF hall hr hl hD  zs0 zs5 zs7 ha0 hsz h75 h76 h77 h78 h79 h80 h81 h82 h83 h84 h85 h86 h87 h88 h89 h90 h91 h92 h93 h94 h95 h96 h74 h97 h98 h99 h10
            subst ea
            have gV9 : Hid (Gro (· = H) X2 W) := gV
            have RH9 : Hid (Row W H (hcells (upn (hm s) tn (subR (hm s tn) r.m))) 33) := rH
            clear gV rH hb1
            go_wp2_with fail
            exact HKW.out _ _ (by kernel_rfl) (by kernel_rfl) ⟨VX.out.gro1 RHX.out HNN.out.2.2.1 HNN.out.1.1 gV9.out, by rw [upn_same _ _ HSM.out]; exact RH9.out, by rw [HLM.out]; exact gV9.out.row RLX.out (fun e => HNN.out.2.1 e.symm), HNN.out.1, HNN.out.2⟩
        · have cK := HC1.out X2 VX.out.below
          obtain ⟨cl, hcl⟩ : ∃ c, c = vQ (dgs s.L 4) := ⟨_, rfl⟩
          have HWL : Hid (Wc cl s.L) := hcl
          rw [← hcl] at RLX
          obtain ⟨cr, hcr⟩ : ∃ c, c = vQ (dgs (addR s.L r.m) 4) := ⟨_, rfl⟩
          have HWR : Hid (Wc cr (addR s.L r.m)) := hcr
          have HAR : Hid (∀ X, Calls Try.prog 17 #[.agg cl.toArray, .agg cm.toArray] X fun e w' => e = .returned (.tuple #[.agg cr.toArray, .int .i64 0]) ∧ Below X.heap.size X w') := fun X => by
            have h := refAdd_c s.L r.m HSO.out.l HRO.out.m X
            rw [hae, ← hcl, ← HWM.out, ← hcr] at h
            exact h
          have HSM : Hid (∀ t, t < 64 → hm s' t = hm s t) := hsm
          have HLM : Hid (s'.L = addR s.L r.m) := hlm
          clear hsm hlm hae hcl hcr
          go_upto_region 19 with (first
            | (refine wpList_ixs 22 35 (.tmp 38) (.tmp 39) rfl b o N c0 i 8 rfl rfl HIN.out und_Ss info_S rfl ?_)
            | (go_at_call 11; refine Calls.mono (HPK.out X2) ?_; rintro e X ⟨rfl, hqq⟩; obtain rfl := hqq.symm))
          clear cK
          have hb1 := VX.out.below
          have rL := RLX.out
          have gV := Gro.refl (· = bL) X2
          have hHlow : w.heap.size ≤ bL := HNN.out.1.2
          refine wp_named fun a0 ha0 => ?_
          have hsz : a0.tmps.size = 144 := by rw [ha0]; rfl
          have zs0 : a0.eval (.tmp 0) = .slice (some ⟨b, o, none⟩) N c0 := by rw [ha0]; rfl
          have zs6 : a0.eval (.tmp 6) = .pointer (some ⟨bL, 0, none⟩) := by rw [ha0]; rfl
          have zs7 : a0.eval (.tmp 7) = .int .i64 (i : Int) := by rw [ha0]; rfl
          obtain ⟨D, hD⟩ : ∃ D : List (Tmp × SP), D = [(103, SP.is (.agg cl.toArray)), (104, SP.is (.slice (some ⟨b, o, none⟩) N c0)), (105, SP.is (.int .i64 (i : Int))), (106, SP.is (.pointer (some ⟨b, o + i * 8, none⟩))), (107, SP.is (.pointer (some ⟨b, o + i * 8 + 4, none⟩))), (108, SP.is (.agg cm.toArray)), (109, SP.is (.tuple #[.agg cr.toArray, .int .i64 0])), (102, SP.is (.tuple #[.agg cr.toArray, .int .i64 0])), (110, SP.is (.agg cr.toArray)), (111, SP.is (.int .i64 0)), (1000, SP.any), (10, SP.is (.int .i64 0))] := ⟨_, rfl⟩
          refine wp_region_down (by kernel_rfl) (fun listed ac W => listed.size = 12 ∧ Fp D a0 listed ac W ∧ Below w.heap.size w W ∧ Row W bL (if listed.getD 10 false = true then cr else cl) 33 ∧ Gro (· = bL) X2 W) ?_ ?_ ?_
          · exact ⟨by simp, Fp.start D a0 _ _, Below.drew hb1, (by rw [if_neg (fun h => start_no h)]; exact Row.drew rL), gV.below (Below.drew (Below.refl _ _))⟩
          · clear ha0 hb1 rL gV 
            intro listed ac W k hI hdn hk
            obtain ⟨hl, hF, hb1, rL, gV⟩ := hI
            have hk1 : k < 12 := List.mem_range.1 (List.mem_filter.1 hk).1
            have hl2 : ∀ j, (listed.setIfInBounds j true).size = 12 := fun j => by rw [Array.size_setIfInBounds]; exact hl
            rcases (show k = 0 ∨ k = 1 ∨ k = 2 ∨ k = 3 ∨ k = 4 ∨ k = 5 ∨ k = 6 ∨ k = 7 ∨ k = 8 ∨ k = 9 ∨ k = 10 ∨ k = 11 by omega) with rfl | rfl | rfl | rfl | rfl | rfl | rfl | rfl | rfl | rfl | rfl | rfl
            · have hk3 := hk
              have hnq : ¬ listed.getD 10 false = true := fun h => not_yet hk (hdn 10 h 0 (by kernel_rfl))
              have rL9 := rL
              rw [if_neg hnq] at rL9
              have ea := ((hF.keep 6 (by rw [hD]; rfl)).trans zs6)
              exact wpOp_plain rfl rfl (wp_load_mid 33 (.tmp 6) rfl bL 0 ea cl _ (rL9.all) Try.underlying33 rfl HWL.out.info ⟨hl2 0, (hF.put 0 103 (SP.is (.agg cl.toArray)) (.agg cl.toArray) (by rw [hD]; rfl) rfl (by rw [hD]; rfl) (by rw [hsz]; decide) (by rw [hl]; decide)), hb1, (by rw [getD_set _ _ _ (by decide)]; exact rL), gV⟩)
            · have hk3 := hk
              exact wpOp_plain rfl rfl (wp_move_v (ac.eval (.tmp 0)) rfl rfl ⟨hl2 1, (hF.put 1 104 (SP.is (.slice (some ⟨b, o, none⟩) N c0)) (ac.eval (.tmp 0)) (by rw [hD]; rfl) (((hF.keep 0 (by rw [hD]; rfl)).trans zs0)) (by rw [hD]; rfl) (by rw [hsz]; decide) (by rw [hl]; decide)), hb1, (by rw [getD_set _ _ _ (by decide)]; exact rL), gV⟩)
            · have hk3 := hk
              exact wpOp_plain rfl rfl (wp_move_v (ac.eval (.tmp 7)) rfl rfl ⟨hl2 2, (hF.put 2 105 (SP.is (.int .i64 (i : Int))) (ac.eval (.tmp 7)) (by rw [hD]; rfl) (((hF.keep 7 (by rw [hD]; rfl)).trans zs7)) (by rw [hD]; rfl) (by rw [hsz]; decide) (by rw [hl]; decide)), hb1, (by rw [getD_set _ _ _ (by decide)]; exact rL), gV⟩)
            · have hk3 := hk
              have ea := (hF.done 1 (104, SP.is (.slice (some ⟨b, o, none⟩) N c0)) (by rw [hD]; rfl) (ready_dep hk 1 (by kernel_rfl)))
              have eb := (hF.done 2 (105, SP.is (.int .i64 (i : Int))) (by rw [hD]; rfl) (ready_dep hk 2 (by kernel_rfl)))
              exact wpOp_plain rfl rfl (wp_ixs 22 35 rfl b o N c0 i 8 ea eb HIN.out und_Ss info_S ⟨hl2 3, (hF.put 3 106 (SP.is (.pointer (some ⟨b, o + i * 8, none⟩))) (.pointer (some ⟨b, o + i * 8, none⟩)) (by rw [hD]; rfl) rfl (by rw [hD]; rfl) (by rw [hsz]; decide) (by rw [hl]; decide)), hb1, (by rw [getD_set _ _ _ (by decide)]; exact rL), gV⟩)
            · have hk3 := hk
              have ea := (hF.done 3 (106, SP.is (.pointer (some ⟨b, o + i * 8, none⟩))) (by rw [hD]; rfl) (ready_dep hk 3 (by kernel_rfl)))
              exact wpOp_plain rfl rfl (wp_sf4 b (o + i * 8) rfl ea ⟨hl2 4, (hF.put 4 107 (SP.is (.pointer (some ⟨b, o + i * 8 + 4, none⟩))) (.pointer (some ⟨b, o + i * 8 + 4, none⟩)) (by rw [hD]; rfl) rfl (by rw [hD]; rfl) (by rw [hsz]; decide) (by rw [hl]; decide)), hb1, (by rw [getD_set _ _ _ (by decide)]; exact rL), gV⟩)
            · have hk3 := hk
              have ea := (hF.done 4 (107, SP.is (.pointer (some ⟨b, o + i * 8 + 4, none⟩))) (by rw [hD]; rfl) (ready_dep hk 4 (by kernel_rfl)))
              exact wpOp_plain rfl rfl (wp_load_mid 33 (.tmp 107) rfl b (o + i * 8 + 4) ea cm _ (HC4.out W hb1) Try.underlying33 rfl HWM.out.info ⟨hl2 5, (hF.put 5 108 (SP.is (.agg cm.toArray)) (.agg cm.toArray) (by rw [hD]; rfl) rfl (by rw [hD]; rfl) (by rw [hsz]; decide) (by rw [hl]; decide)), hb1, (by rw [getD_set _ _ _ (by decide)]; exact rL), gV⟩)
            · have hk3 := hk
              have ea := (hF.done 0 (103, SP.is (.agg cl.toArray)) (by rw [hD]; rfl) (ready_dep hk 0 (by kernel_rfl)))
              have eb := (hF.done 5 (108, SP.is (.agg cm.toArray)) (by rw [hD]; rfl) (ready_dep hk 5 (by kernel_rfl)))
              refine wpOp_plain rfl rfl (wp_fcall_v 17 #[.agg cl.toArray, .agg cm.toArray] rfl rfl (by show [ac.eval (.tmp 103), ac.eval (.tmp 108)] = _; rw [show ac.eval (.tmp 103) = _ from ea, show ac.eval (.tmp 108) = _ from eb]) (by go_simp) ((HAR.out W).mono ?_))
              rintro e W2 ⟨rfl, hB⟩
              exact ⟨_, rfl, hl2 6, ((hF.world hB).put 6 109 (SP.is (.tuple #[.agg cr.toArray, .int .i64 0])) (.tuple #[.agg cr.toArray, .int .i64 0]) (by rw [hD]; rfl) rfl (by rw [hD]; rfl) (by rw [hsz]; decide) (by rw [hl]; decide)), hb1.trans (hB.mono hb1.size), (by rw [getD_set _ _ _ (by decide)]; exact Row.below rL hB (Row.lt rL)), gV.below hB⟩
            · have hk3 := hk
              exact wpOp_plain rfl rfl (wp_move_v (ac.eval (.tmp 109)) rfl rfl ⟨hl2 7, (hF.put 7 102 (SP.is (.tuple #[.agg cr.toArray, .int .i64 0])) (ac.eval (.tmp 109)) (by rw [hD]; rfl) ((hF.done 6 (109, SP.is (.tuple #[.agg cr.toArray, .int .i64 0])) (by rw [hD]; rfl) (ready_dep hk 6 (by kernel_rfl)))) (by rw [hD]; rfl) (by rw [hsz]; decide) (by rw [hl]; decide)), hb1, (by rw [getD_set _ _ _ (by decide)]; exact rL), gV⟩)
            · have hk3 := hk
              exact wpOp_plain rfl rfl (wp_extract (.tmp 102) 0 rfl _ (hF.done 7 (102, SP.is (.tuple #[.agg cr.toArray, .int .i64 0])) (by rw [hD]; rfl) (ready_dep hk 7 (by kernel_rfl))) (.agg cr.toArray) rfl ⟨hl2 8, (hF.put 8 110 (SP.is (.agg cr.toArray)) (.agg cr.toArray) (by rw [hD]; rfl) rfl (by rw [hD]; rfl) (by rw [hsz]; decide) (by rw [hl]; decide)), hb1, (by rw [getD_set _ _ _ (by decide)]; exact rL), gV⟩)
            · have hk3 := hk
              exact wpOp_plain rfl rfl (wp_extract (.tmp 102) 1 rfl _ (hF.done 7 (102, SP.is (.tuple #[.agg cr.toArray, .int .i64 0])) (by rw [hD]; rfl) (ready_dep hk 7 (by kernel_rfl))) (.int .i64 0) rfl ⟨hl2 9, (hF.put 9 111 (SP.is (.int .i64 0)) (.int .i64 0) (by rw [hD]; rfl) rfl (by rw [hD]; rfl) (by rw [hsz]; decide) (by rw [hl]; decide)), hb1, (by rw [getD_set _ _ _ (by decide)]; exact rL), gV⟩)
            · have hk3 := hk
              have hno : ¬ listed.getD 10 false = true := not_yet hk
              rw [if_neg hno] at rL
              have T := rL.there 0 cr.toArray.size (by rw [List.size_toArray, HWR.out.len, HWL.out.len]; decide)
              have fin := rL.over (vs := cr) (HWR.out.len.trans HWL.out.len.symm)
              have hT : Fp D a0 listed ac (W.setCells bL 0 cr) := hF.turn (by rw [hD]; simp only [List.forall_mem_cons, List.not_mem_nil, false_implies, implies_true, and_true]; exact ⟨fun _ h => h, fun _ h => h, fun _ h => h, fun _ h => h, fun _ h => h, fun _ h => h, fun _ h => h, fun _ h => h, fun _ h => h, fun _ h => h, fun _ h => h, fun _ h => h⟩)
              exact wpOp_plain rfl rfl (wp_store_mid 33 (.tmp 6) (.tmp 110) rfl bL 0 cr.toArray ((hF.keep 6 (by rw [hD]; rfl)).trans zs6) (hF.done 8 (110, SP.is (.agg cr.toArray)) (by rw [hD]; rfl) (ready_dep hk 8 (by kernel_rfl))) T HWR.out.info' HWR.out.one ⟨hl2 10, (hT.skip 10 1000 (by rw [hD]; rfl) (by rw [hl]; decide)), below_setCells hb1 (by omega) _, (by rw [if_pos (getD_same (by rw [hl]; decide))]; exact fin), gV.trans (gro_sets W bL 0 cr)⟩)
            · have hk3 := hk
              exact wpOp_plain rfl rfl (wp_assign_v (ac.eval (.tmp 111)) rfl rfl ⟨hl2 11, (hF.put 11 10 (SP.is (.int .i64 0)) (ac.eval (.tmp 111)) (by rw [hD]; rfl) ((hF.done 9 (111, SP.is (.int .i64 0)) (by rw [hD]; rfl) (ready_dep hk 9 (by kernel_rfl)))) (by rw [hD]; rfl) (by rw [hsz]; decide) (by rw [hl]; decide)), hb1, (by rw [getD_set _ _ _ (by decide)]; exact rL), gV⟩)
          · clear hb1 rL gV 
            intro listed ac W hI hr
            obtain ⟨hl, hF, hb1, rL, gV⟩ := hI
            have hall := all_listed (by kernel_rfl) hl hr
            rw [if_pos (hall 10 (by decide))] at rL
            have h103 : ac.eval (.tmp 103) = .agg cl.toArray := hF.done 0 (103, SP.is (.agg cl.toArray)) (by rw [hD]; rfl) (hall 0 (by decide))
            have h104 : ac.eval (.tmp 104) = .slice (some ⟨b, o, none⟩) N c0 := hF.done 1 (104, SP.is (.slice (some ⟨b, o, none⟩) N c0)) (by rw [hD]; rfl) (hall 1 (by decide))
            have h105 : ac.eval (.tmp 105) = .int .i64 (i : Int) := hF.done 2 (105, SP.is (.int .i64 (i : Int))) (by rw [hD]; rfl) (hall 2 (by decide))
            have h106 : ac.eval (.tmp 106) = .pointer (some ⟨b, o + i * 8, none⟩) := hF.done 3 (106, SP.is (.pointer (some ⟨b, o + i * 8, none⟩))) (by rw [hD]; rfl) (hall 3 (by decide))
            have h107 : ac.eval (.tmp 107) = .pointer (some ⟨b, o + i * 8 + 4, none⟩) := hF.done 4 (107, SP.is (.pointer (some ⟨b, o + i * 8 + 4, none⟩))) (by rw [hD]; rfl) (hall 4 (by decide))
            have h108 : ac.eval (.tmp 108) = .agg cm.toArray := hF.done 5 (108, SP.is (.agg cm.toArray)) (by rw [hD]; rfl) (hall 5 (by decide))
            have h109 : ac.eval (.tmp 109) = .tuple #[.agg cr.toArray, .int .i64 0] := hF.done 6 (109, SP.is (.tuple #[.agg cr.toArray, .int .i64 0])) (by rw [hD]; rfl) (hall 6 (by decide))
            have h102 : ac.eval (.tmp 102) = .tuple #[.agg cr.toArray, .int .i64 0] := hF.done 7 (102, SP.is (.tuple #[.agg cr.toArray, .int .i64 0])) (by rw [hD]; rfl) (hall 7 (by decide))
            have h110 : ac.eval (.tmp 110) = .agg cr.toArray := hF.done 8 (110, SP.is (.agg cr.toArray)) (by rw [hD]; rfl) (hall 8 (by decide))
            have h111 : ac.eval (.tmp 111) = .int .i64 0 := hF.done 9 (111, SP.is (.int .i64 0)) (by rw [hD]; rfl) (hall 9 (by decide))
            have h10 : ac.eval (.tmp 10) = .int .i64 0 := hF.done 11 (10, SP.is (.int .i64 0)) (by rw [hD]; rfl) (hall 11 (by decide))
            have ea := hF.lay [(103, .agg cl.toArray), (104, .slice (some ⟨b, o, none⟩) N c0), (105, .int .i64 (i : Int)), (106, .pointer (some ⟨b, o + i * 8, none⟩)), (107, .pointer (some ⟨b, o + i * 8 + 4, none⟩)), (108, .agg cm.toArray), (109, .tuple #[.agg cr.toArray, .int .i64 0]), (102, .tuple #[.agg cr.toArray, .int .i64 0]), (110, .agg cr.toArray), (111, .int .i64 0), (10, .int .i64 0)] (by rw [hD, hsz]; rfl) (by simp only [List.forall_mem_cons, List.not_mem_nil, false_implies, implies_true, and_true]; exact ⟨h103, h104, h105, h106, h107, h108, h109, h102, h110, h111, h10⟩)
            rw [ha0] at ea
            simp only [List.foldl_cons, List.foldl_nil, List.setIfInBounds_toArray, List.set_cons_zero, List.set_cons_succ] at ea
            clear hF hall hr hl hD  zs0 zs6 zs7 ha0 hsz h103 h104 h105 h106 h107 h108 h109 h102 h110 h111 h10
            subst ea
            have gV9 : Hid (Gro (· = bL) X2 W) := gV
            have RL9 : Hid (Row W bL cr 33) := rL
            clear gV rL hb1
            go_wp2_with fail
            exact HKW.out _ _ (by kernel_rfl) (by kernel_rfl) ⟨VX.out.gro1 RLX.out HNN.out.2.2.2 HNN.out.1.2 gV9.out, by rw [upn_same _ _ HSM.out]; exact gV9.out.row RHX.out HNN.out.2.1, by rw [HLM.out, ← HWR.out]; exact RL9.out, HNN.out.1, HNN.out.2⟩
        · have cK := HC1.out X2 VX.out.below
          obtain ⟨cl, hcl⟩ : ∃ c, c = vQ (dgs s.L 4) := ⟨_, rfl⟩
          have HWL : Hid (Wc cl s.L) := hcl
          rw [← hcl] at RLX
          obtain ⟨cr, hcr⟩ : ∃ c, c = vQ (dgs (subR s.L r.m) 4) := ⟨_, rfl⟩
          have HWR : Hid (Wc cr (subR s.L r.m)) := hcr
          have HAR : Hid (∀ X, Calls Try.prog 18 #[.agg cl.toArray, .agg cm.toArray] X fun e w' => e = .returned (.tuple #[.agg cr.toArray, .int .i64 0]) ∧ Below X.heap.size X w') := fun X => by
            have h := refSub_c s.L r.m HSO.out.l HRO.out.m X
            rw [hae, ← hcl, ← HWM.out, ← hcr] at h
            exact h
          have HSM : Hid (∀ t, t < 64 → hm s' t = hm s t) := hsm
          have HLM : Hid (s'.L = subR s.L r.m) := hlm
          clear hsm hlm hae hcl hcr
          go_upto_region 21 with (first
            | (refine wpList_ixs 22 35 (.tmp 38) (.tmp 39) rfl b o N c0 i 8 rfl rfl HIN.out und_Ss info_S rfl ?_)
            | (go_at_call 11; refine Calls.mono (HPK.out X2) ?_; rintro e X ⟨rfl, hqq⟩; obtain rfl := hqq.symm))
          clear cK
          have hb1 := VX.out.below
          have rL := RLX.out
          have gV := Gro.refl (· = bL) X2
          have hHlow : w.heap.size ≤ bL := HNN.out.1.2
          refine wp_named fun a0 ha0 => ?_
          have hsz : a0.tmps.size = 144 := by rw [ha0]; rfl
          have zs0 : a0.eval (.tmp 0) = .slice (some ⟨b, o, none⟩) N c0 := by rw [ha0]; rfl
          have zs6 : a0.eval (.tmp 6) = .pointer (some ⟨bL, 0, none⟩) := by rw [ha0]; rfl
          have zs7 : a0.eval (.tmp 7) = .int .i64 (i : Int) := by rw [ha0]; rfl
          obtain ⟨D, hD⟩ : ∃ D : List (Tmp × SP), D = [(115, SP.is (.agg cl.toArray)), (116, SP.is (.slice (some ⟨b, o, none⟩) N c0)), (117, SP.is (.int .i64 (i : Int))), (118, SP.is (.pointer (some ⟨b, o + i * 8, none⟩))), (119, SP.is (.pointer (some ⟨b, o + i * 8 + 4, none⟩))), (120, SP.is (.agg cm.toArray)), (121, SP.is (.tuple #[.agg cr.toArray, .int .i64 0])), (114, SP.is (.tuple #[.agg cr.toArray, .int .i64 0])), (122, SP.is (.agg cr.toArray)), (123, SP.is (.int .i64 0)), (1000, SP.any), (10, SP.is (.int .i64 0))] := ⟨_, rfl⟩
          refine wp_region_down (by kernel_rfl) (fun listed ac W => listed.size = 12 ∧ Fp D a0 listed ac W ∧ Below w.heap.size w W ∧ Row W bL (if listed.getD 10 false = true then cr else cl) 33 ∧ Gro (· = bL) X2 W) ?_ ?_ ?_
          · exact ⟨by simp, Fp.start D a0 _ _, Below.drew hb1, (by rw [if_neg (fun h => start_no h)]; exact Row.drew rL), gV.below (Below.drew (Below.refl _ _))⟩
          · clear ha0 hb1 rL gV 
            intro listed ac W k hI hdn hk
            obtain ⟨hl, hF, hb1, rL, gV⟩ := hI
            have hk1 : k < 12 := List.mem_range.1 (List.mem_filter.1 hk).1
            have hl2 : ∀ j, (listed.setIfInBounds j true).size = 12 := fun j => by rw [Array.size_setIfInBounds]; exact hl
            rcases (show k = 0 ∨ k = 1 ∨ k = 2 ∨ k = 3 ∨ k = 4 ∨ k = 5 ∨ k = 6 ∨ k = 7 ∨ k = 8 ∨ k = 9 ∨ k = 10 ∨ k = 11 by omega) with rfl | rfl | rfl | rfl | rfl | rfl | rfl | rfl | rfl | rfl | rfl | rfl
            · have hk3 := hk
              have hnq : ¬ listed.getD 10 false = true := fun h => not_yet hk (hdn 10 h 0 (by kernel_rfl))
              have rL9 := rL
              rw [if_neg hnq] at rL9
              have ea := ((hF.keep 6 (by rw [hD]; rfl)).trans zs6)
              exact wpOp_plain rfl rfl (wp_load_mid 33 (.tmp 6) rfl bL 0 ea cl _ (rL9.all) Try.underlying33 rfl HWL.out.info ⟨hl2 0, (hF.put 0 115 (SP.is (.agg cl.toArray)) (.agg cl.toArray) (by rw [hD]; rfl) rfl (by rw [hD]; rfl) (by rw [hsz]; decide) (by rw [hl]; decide)), hb1, (by rw [getD_set _ _ _ (by decide)]; exact rL), gV⟩)
            · have hk3 := hk
              exact wpOp_plain rfl rfl (wp_move_v (ac.eval (.tmp 0)) rfl rfl ⟨hl2 1, (hF.put 1 116 (SP.is (.slice (some ⟨b, o, none⟩) N c0)) (ac.eval (.tmp 0)) (by rw [hD]; rfl) (((hF.keep 0 (by rw [hD]; rfl)).trans zs0)) (by rw [hD]; rfl) (by rw [hsz]; decide) (by rw [hl]; decide)), hb1, (by rw [getD_set _ _ _ (by decide)]; exact rL), gV⟩)
            · have hk3 := hk
              exact wpOp_plain rfl rfl (wp_move_v (ac.eval (.tmp 7)) rfl rfl ⟨hl2 2, (hF.put 2 117 (SP.is (.int .i64 (i : Int))) (ac.eval (.tmp 7)) (by rw [hD]; rfl) (((hF.keep 7 (by rw [hD]; rfl)).trans zs7)) (by rw [hD]; rfl) (by rw [hsz]; decide) (by rw [hl]; decide)), hb1, (by rw [getD_set _ _ _ (by decide)]; exact rL), gV⟩)
            · have hk3 := hk
              have ea := (hF.done 1 (116, SP.is (.slice (some ⟨b, o, none⟩) N c0)) (by rw [hD]; rfl) (ready_dep hk 1 (by kernel_rfl)))
              have eb := (hF.done 2 (117, SP.is (.int .i64 (i : Int))) (by rw [hD]; rfl) (ready_dep hk 2 (by kernel_rfl)))
              exact wpOp_plain rfl rfl (wp_ixs 22 35 rfl b o N c0 i 8 ea eb HIN.out und_Ss info_S ⟨hl2 3, (hF.put 3 118 (SP.is (.pointer (some ⟨b, o + i * 8, none⟩))) (.pointer (some ⟨b, o + i * 8, none⟩)) (by rw [hD]; rfl) rfl (by rw [hD]; rfl) (by rw [hsz]; decide) (by rw [hl]; decide)), hb1, (by rw [getD_set _ _ _ (by decide)]; exact rL), gV⟩)
            · have hk3 := hk
              have ea := (hF.done 3 (118, SP.is (.pointer (some ⟨b, o + i * 8, none⟩))) (by rw [hD]; rfl) (ready_dep hk 3 (by kernel_rfl)))
              exact wpOp_plain rfl rfl (wp_sf4 b (o + i * 8) rfl ea ⟨hl2 4, (hF.put 4 119 (SP.is (.pointer (some ⟨b, o + i * 8 + 4, none⟩))) (.pointer (some ⟨b, o + i * 8 + 4, none⟩)) (by rw [hD]; rfl) rfl (by rw [hD]; rfl) (by rw [hsz]; decide) (by rw [hl]; decide)), hb1, (by rw [getD_set _ _ _ (by decide)]; exact rL), gV⟩)
            · have hk3 := hk
              have ea := (hF.done 4 (119, SP.is (.pointer (some ⟨b, o + i * 8 + 4, none⟩))) (by rw [hD]; rfl) (ready_dep hk 4 (by kernel_rfl)))
              exact wpOp_plain rfl rfl (wp_load_mid 33 (.tmp 119) rfl b (o + i * 8 + 4) ea cm _ (HC4.out W hb1) Try.underlying33 rfl HWM.out.info ⟨hl2 5, (hF.put 5 120 (SP.is (.agg cm.toArray)) (.agg cm.toArray) (by rw [hD]; rfl) rfl (by rw [hD]; rfl) (by rw [hsz]; decide) (by rw [hl]; decide)), hb1, (by rw [getD_set _ _ _ (by decide)]; exact rL), gV⟩)
            · have hk3 := hk
              have ea := (hF.done 0 (115, SP.is (.agg cl.toArray)) (by rw [hD]; rfl) (ready_dep hk 0 (by kernel_rfl)))
              have eb := (hF.done 5 (120, SP.is (.agg cm.toArray)) (by rw [hD]; rfl) (ready_dep hk 5 (by kernel_rfl)))
              refine wpOp_plain rfl rfl (wp_fcall_v 18 #[.agg cl.toArray, .agg cm.toArray] rfl rfl (by show [ac.eval (.tmp 115), ac.eval (.tmp 120)] = _; rw [show ac.eval (.tmp 115) = _ from ea, show ac.eval (.tmp 120) = _ from eb]) (by go_simp) ((HAR.out W).mono ?_))
              rintro e W2 ⟨rfl, hB⟩
              exact ⟨_, rfl, hl2 6, ((hF.world hB).put 6 121 (SP.is (.tuple #[.agg cr.toArray, .int .i64 0])) (.tuple #[.agg cr.toArray, .int .i64 0]) (by rw [hD]; rfl) rfl (by rw [hD]; rfl) (by rw [hsz]; decide) (by rw [hl]; decide)), hb1.trans (hB.mono hb1.size), (by rw [getD_set _ _ _ (by decide)]; exact Row.below rL hB (Row.lt rL)), gV.below hB⟩
            · have hk3 := hk
              exact wpOp_plain rfl rfl (wp_move_v (ac.eval (.tmp 121)) rfl rfl ⟨hl2 7, (hF.put 7 114 (SP.is (.tuple #[.agg cr.toArray, .int .i64 0])) (ac.eval (.tmp 121)) (by rw [hD]; rfl) ((hF.done 6 (121, SP.is (.tuple #[.agg cr.toArray, .int .i64 0])) (by rw [hD]; rfl) (ready_dep hk 6 (by kernel_rfl)))) (by rw [hD]; rfl) (by rw [hsz]; decide) (by rw [hl]; decide)), hb1, (by rw [getD_set _ _ _ (by decide)]; exact rL), gV⟩)
            · have hk3 := hk
              exact wpOp_plain rfl rfl (wp_extract (.tmp 114) 0 rfl _ (hF.done 7 (114, SP.is (.tuple #[.agg cr.toArray, .int .i64 0])) (by rw [hD]; rfl) (ready_dep hk 7 (by kernel_rfl))) (.agg cr.toArray) rfl ⟨hl2 8, (hF.put 8 122 (SP.is (.agg cr.toArray)) (.agg cr.toArray) (by rw [hD]; rfl) rfl (by rw [hD]; rfl) (by rw [hsz]; decide) (by rw [hl]; decide)), hb1, (by rw [getD_set _ _ _ (by decide)]; exact rL), gV⟩)
            · have hk3 := hk
              exact wpOp_plain rfl rfl (wp_extract (.tmp 114) 1 rfl _ (hF.done 7 (114, SP.is (.tuple #[.agg cr.toArray, .int .i64 0])) (by rw [hD]; rfl) (ready_dep hk 7 (by kernel_rfl))) (.int .i64 0) rfl ⟨hl2 9, (hF.put 9 123 (SP.is (.int .i64 0)) (.int .i64 0) (by rw [hD]; rfl) rfl (by rw [hD]; rfl) (by rw [hsz]; decide) (by rw [hl]; decide)), hb1, (by rw [getD_set _ _ _ (by decide)]; exact rL), gV⟩)
            · have hk3 := hk
              have hno : ¬ listed.getD 10 false = true := not_yet hk
              rw [if_neg hno] at rL
              have T := rL.there 0 cr.toArray.size (by rw [List.size_toArray, HWR.out.len, HWL.out.len]; decide)
              have fin := rL.over (vs := cr) (HWR.out.len.trans HWL.out.len.symm)
              have hT : Fp D a0 listed ac (W.setCells bL 0 cr) := hF.turn (by rw [hD]; simp only [List.forall_mem_cons, List.not_mem_nil, false_implies, implies_true, and_true]; exact ⟨fun _ h => h, fun _ h => h, fun _ h => h, fun _ h => h, fun _ h => h, fun _ h => h, fun _ h => h, fun _ h => h, fun _ h => h, fun _ h => h, fun _ h => h, fun _ h => h⟩)
              exact wpOp_plain rfl rfl (wp_store_mid 33 (.tmp 6) (.tmp 122) rfl bL 0 cr.toArray ((hF.keep 6 (by rw [hD]; rfl)).trans zs6) (hF.done 8 (122, SP.is (.agg cr.toArray)) (by rw [hD]; rfl) (ready_dep hk 8 (by kernel_rfl))) T HWR.out.info' HWR.out.one ⟨hl2 10, (hT.skip 10 1000 (by rw [hD]; rfl) (by rw [hl]; decide)), below_setCells hb1 (by omega) _, (by rw [if_pos (getD_same (by rw [hl]; decide))]; exact fin), gV.trans (gro_sets W bL 0 cr)⟩)
            · have hk3 := hk
              exact wpOp_plain rfl rfl (wp_assign_v (ac.eval (.tmp 123)) rfl rfl ⟨hl2 11, (hF.put 11 10 (SP.is (.int .i64 0)) (ac.eval (.tmp 123)) (by rw [hD]; rfl) ((hF.done 9 (123, SP.is (.int .i64 0)) (by rw [hD]; rfl) (ready_dep hk 9 (by kernel_rfl)))) (by rw [hD]; rfl) (by rw [hsz]; decide) (by rw [hl]; decide)), hb1, (by rw [getD_set _ _ _ (by decide)]; exact rL), gV⟩)
          · clear hb1 rL gV 
            intro listed ac W hI hr
            obtain ⟨hl, hF, hb1, rL, gV⟩ := hI
            have hall := all_listed (by kernel_rfl) hl hr
            rw [if_pos (hall 10 (by decide))] at rL
            have h115 : ac.eval (.tmp 115) = .agg cl.toArray := hF.done 0 (115, SP.is (.agg cl.toArray)) (by rw [hD]; rfl) (hall 0 (by decide))
            have h116 : ac.eval (.tmp 116) = .slice (some ⟨b, o, none⟩) N c0 := hF.done 1 (116, SP.is (.slice (some ⟨b, o, none⟩) N c0)) (by rw [hD]; rfl) (hall 1 (by decide))
            have h117 : ac.eval (.tmp 117) = .int .i64 (i : Int) := hF.done 2 (117, SP.is (.int .i64 (i : Int))) (by rw [hD]; rfl) (hall 2 (by decide))
            have h118 : ac.eval (.tmp 118) = .pointer (some ⟨b, o + i * 8, none⟩) := hF.done 3 (118, SP.is (.pointer (some ⟨b, o + i * 8, none⟩))) (by rw [hD]; rfl) (hall 3 (by decide))
            have h119 : ac.eval (.tmp 119) = .pointer (some ⟨b, o + i * 8 + 4, none⟩) := hF.done 4 (119, SP.is (.pointer (some ⟨b, o + i * 8 + 4, none⟩))) (by rw [hD]; rfl) (hall 4 (by decide))
            have h120 : ac.eval (.tmp 120) = .agg cm.toArray := hF.done 5 (120, SP.is (.agg cm.toArray)) (by rw [hD]; rfl) (hall 5 (by decide))
            have h121 : ac.eval (.tmp 121) = .tuple #[.agg cr.toArray, .int .i64 0] := hF.done 6 (121, SP.is (.tuple #[.agg cr.toArray, .int .i64 0])) (by rw [hD]; rfl) (hall 6 (by decide))
            have h114 : ac.eval (.tmp 114) = .tuple #[.agg cr.toArray, .int .i64 0] := hF.done 7 (114, SP.is (.tuple #[.agg cr.toArray, .int .i64 0])) (by rw [hD]; rfl) (hall 7 (by decide))
            have h122 : ac.eval (.tmp 122) = .agg cr.toArray := hF.done 8 (122, SP.is (.agg cr.toArray)) (by rw [hD]; rfl) (hall 8 (by decide))
            have h123 : ac.eval (.tmp 123) = .int .i64 0 := hF.done 9 (123, SP.is (.int .i64 0)) (by rw [hD]; rfl) (hall 9 (by decide))
            have h10 : ac.eval (.tmp 10) = .int .i64 0 := hF.done 11 (10, SP.is (.int .i64 0)) (by rw [hD]; rfl) (hall 11 (by decide))
            have ea := hF.lay [(115, .agg cl.toArray), (116, .slice (some ⟨b, o, none⟩) N c0), (117, .int .i64 (i : Int)), (118, .pointer (some ⟨b, o + i * 8, none⟩)), (119, .pointer (some ⟨b, o + i * 8 + 4, none⟩)), (120, .agg cm.toArray), (121, .tuple #[.agg cr.toArray, .int .i64 0]), (114, .tuple #[.agg cr.toArray, .int .i64 0]), (122, .agg cr.toArray), (123, .int .i64 0), (10, .int .i64 0)] (by rw [hD, hsz]; rfl) (by simp only [List.forall_mem_cons, List.not_mem_nil, false_implies, implies_true, and_true]; exact ⟨h115, h116, h117, h118, h119, h120, h121, h114, h122, h123, h10⟩)
            rw [ha0] at ea
            simp only [List.foldl_cons, List.foldl_nil, List.setIfInBounds_toArray, List.set_cons_zero, List.set_cons_succ] at ea
            clear hF hall hr hl hD  zs0 zs6 zs7 ha0 hsz h115 h116 h117 h118 h119 h120 h121 h114 h122 h123 h10
            subst ea
            have gV9 : Hid (Gro (· = bL) X2 W) := gV
            have RL9 : Hid (Row W bL cr 33) := rL
            clear gV rL hb1
            go_wp2_with fail
            exact HKW.out _ _ (by kernel_rfl) (by kernel_rfl) ⟨VX.out.gro1 RLX.out HNN.out.2.2.2 HNN.out.1.2 gV9.out, by rw [upn_same _ _ HSM.out]; exact gV9.out.row RHX.out HNN.out.2.1, by rw [HLM.out, ← HWR.out]; exact RL9.out, HNN.out.1, HNN.out.2⟩
        · have cK := HC1.out X2 VX.out.below
          go_wp2_with (first
            | (refine wpList_ixs 22 35 (.tmp 38) (.tmp 39) rfl b o N c0 i 8 rfl rfl HIN.out und_Ss info_S rfl ?_)
            | (go_at_call 11; refine Calls.mono (HPK.out X2) ?_; rintro e X ⟨rfl, hqq⟩; obtain rfl := hqq.symm))
          exact HKW.out _ _ (by kernel_rfl) (by kernel_rfl) ⟨VX.out, by rw [upn_same _ _ hsm]; exact RHX.out, by rw [hlm]; exact RLX.out, HNN.out.1, HNN.out.2⟩
    · clear hi
      go_wp2_with fail
      go_ret
      exact ⟨rfl, WW.out.v.below⟩


end Go.Proofs.Ytlfhncfngnnpeaa
