/-
  The document's vault: what is held, what is locked.
-/
import Derived.Test.YtkbdnebmekhcdaaEsU
import Derived.Test.YtkbdnebmekhcdaaTFp
import Derived.Test.YtkbdnebmekhcdaaWRefs
import Derived.Test.YtkbdnebmekhcdaaWRefSub
namespace Go.Proofs.Ytkbdnebmekhcdaa
open Go Go.RowKit Go.Maps
open Wd

/-- A number that is reckoned along the acts. -/
structure Ha (w wr : World) (ba b4 h : Nat) : Prop where
  r : Row wr ba (vQ (dgs h 4)) 33
  z : Row wr b4 (vQ (List.replicate 4 0)) 33
  be : Below w.heap.size w wr
  n : w.heap.size ≤ ba ∧ w.heap.size ≤ b4 ∧ b4 ≠ ba
  l : h < 2 ^ 256
section
variable {P : Program} {Q : Exit → Act → World → Prop} {o : Oper} {a : Act} {w : World} {K : Act → World → Prop}
theorem wp_load_1 {ty : TypeId} {x : Operand} (b f : Nat) (v : Value) (ho : o.op = .load ty x) (hx : a.eval x = .pointer (some ⟨b, f, none⟩)) (hr : (loadVar ty ⟨b, f, none⟩).run P w = .ok v w) (h : K (a.put o.dst v) w) : Oper.wp P o a w K Q := by
  unfold Oper.wp execOp
  simp only [ho, hx, Instr.loadAt, Instr.sureAddr, Sem.run_bind, Sem.run_pure, Result.andThen_ok, hr, Oper.upon_value]
  exact h
end
theorem run_load_as (w : World) (b f : Nat) (v : Value) (h : w.cell? ⟨b, f, none⟩ = some v) : (loadVar 73 ⟨b, f, none⟩).run Try.prog w = .ok v w := by
  simp [loadVar, isAgg, run_underlying Try.underlying73, h]
section
variable {Q : Exit → Act → World → Prop} {o : Oper} {a : Act} {w : World} {K : Act → World → Prop}
theorem wp_nilc {x : Operand} (b : Nat) (ho : o.op = .nilCheck x) (hx : a.eval x = .pointer (some ⟨b, 0, none⟩)) (h : K (a.put o.dst (.pointer (some ⟨b, 0, none⟩))) w) : Oper.wp Try.prog o a w K Q := by
  obtain ⟨dst, op, ty, pos, after, guard⟩ := o
  simp only at ho
  subst ho
  unfold Oper.wp execOp
  simp only [hx]
  go_simp
  exact h
theorem wp_rf0 {x : Operand} (b : Nat) (ho : o.op = .fieldAddr 75 x 0) (hx : a.eval x = .pointer (some ⟨b, 0, none⟩)) (h : K (a.put o.dst (.pointer (some ⟨b, 0, none⟩))) w) : Oper.wp Try.prog o a w K Q := by
  obtain ⟨dst, op, ty, pos, after, guard⟩ := o
  simp only at ho
  subst ho
  unfold Oper.wp execOp
  simp only [hx]
  go_simp
  exact h
theorem wp_af3 {x : Operand} (b f : Nat) (ho : o.op = .fieldAddr 91 x 3) (hx : a.eval x = .pointer (some ⟨b, f, none⟩)) (h : K (a.put o.dst (.pointer (some ⟨b, f + 3, none⟩))) w) : Oper.wp Try.prog o a w K Q := by
  obtain ⟨dst, op, ty, pos, after, guard⟩ := o
  simp only at ho
  subst ho
  unfold Oper.wp execOp
  simp only [hx]
  go_simp
  exact h
end
def stepH (t : Int) (h : Nat) (r : Acv) : Nat := if r.tk ≠ t then h else if r.k = 3 then addR h r.m else if r.k = 4 then subR h r.m else h
def rh (l : List Acv) (t : Int) : Nat := l.foldl (stepH t) 0
theorem rh_more (l : List Acv) (t : Int) (i : Nat) (r : Acv) (h : l[i]? = some r) : rh (l.take (i + 1)) t = stepH t (rh (l.take i) t) r := by
  rw [take_more l i r h]
  unfold rh
  rw [List.foldl_append]
  rfl
def stepK (h : Nat) (r : Acv) : Nat := if r.k = 5 then addR h r.m else if r.k = 6 then subR h r.m else h
def rk (l : List Acv) : Nat := l.foldl stepK 0
theorem rk_more (l : List Acv) (i : Nat) (r : Acv) (h : l[i]? = some r) : rk (l.take (i + 1)) = stepK (rk (l.take i)) r := by
  rw [take_more l i r h]
  unfold rk
  rw [List.foldl_append]
  rfl

set_option maxRecDepth 100000 in
set_option maxHeartbeats 8000000 in
theorem rheld_any {w : World} {q n cap : Nat} {A : Option Addr} {l : List Acv} (h : Rv w q A n cap l) (t : Int) : Calls Try.prog 40 #[.pointer (some ⟨q, 0, none⟩), .int .i64 t] w fun e w' => e = .returned (.agg (vQ (dgs (rh l t) 4)).toArray) ∧ Below w.heap.size w w' := by
  have HR : Hid (Rv w q A n cap l) := h
  have hnb := h.nb
  obtain ⟨cres, hcres⟩ : ∃ c, c = vQ (dgs (rh l t) 4) := ⟨_, rfl⟩
  have HCR : Hid (Wc cres (rh l t)) := hcres
  rw [← hcres]
  clear h hcres
  go_enter Try.func40, Try.ntmps40
  go_upto_region 1 with (refine wpList_allocW rfl rfl ?_; intro X1 q1 q2; have R4 : Hid (Row X1 w.heap.size (vQ (List.replicate 4 0)) 33) := q1; have B1 : Hid (Below w.heap.size w X1) := q2; clear q1 q2)
  go_upto_region 2 with (refine wpList_allocW rfl rfl ?_; intro X2 q1 q2; have HA0 : Hid (Ha w X2 X1.heap.size w.heap.size 0) := ⟨q1, Row.below R4.out q2 R4.out.lt, B1.out.trans (q2.mono B1.out.size), ⟨B1.out.size, Nat.le_refl _, (by have := R4.out.lt; omega)⟩, by decide⟩; clear q1 q2)
  obtain ⟨ba, hba⟩ : ∃ b, b = X1.heap.size := ⟨_, rfl⟩
  obtain ⟨b4, hb4⟩ : ∃ b, b = w.heap.size := ⟨_, rfl⟩
  have HA1 : Hid (Ha w X2 ba b4 0) := by rw [hba, hb4]; exact HA0.out
  rw [← hba, ← hb4]
  clear hba hb4 HA0 R4 B1
  have c0 : X2.cell? ⟨q, 0, none⟩ = some (.slice A n cap) := (Row.below HR.out.row HA1.out.be HR.out.row.lt).cell 0 _ rfl
  go_wp2_with fail
  clear c0
  go_loopw [6] (fun v wr => ∃ (i h : Nat), i ≤ n ∧ v = .int .i64 (i : Int) ∧ Hid (rh (l.take i) t = h) ∧ Hid (Ha w wr ba b4 h)) (fun v _ => n - (intOf v).toNat)
  case atStart => exact ⟨0, 0, Nat.zero_le _, rfl, rfl, HA1⟩
  case round =>
    obtain ⟨i, h, hi, rfl, HX, HA⟩ := hrel
    clear HA1
    have c0 : wr.cell? ⟨q, 0, none⟩ = some (.slice A n cap) := (Row.below HR.out.row HA.out.be HR.out.row.lt).cell 0 _ rfl
    by_cases hin : i < n
    · obtain ⟨r, hr⟩ : ∃ r, l[i]? = some r := ⟨_, List.getElem?_eq_getElem (by rw [← HR.out.ln]; exact hin)⟩
      obtain ⟨hrm, bb, oo, rfl, hrg⟩ := HR.out.a i r hr
      obtain ⟨n1, hn1⟩ : ∃ n1, n1 = i + 1 := ⟨_, rfl⟩
      have e1 : (i : Int) + 1 = (n1 : Int) := by omega
      have HIN : Hid (i < n) := hin
      have HRM : Hid (r.m < 2 ^ 256) := hrm
      have HM : Hid (rh (l.take n1) t = stepH t h r ∧ n1 = i + 1 ∧ n1 ≤ n) := ⟨by rw [hn1, rh_more l t i r hr, HX.out], hn1, by omega⟩
      have hrg2 : wr.rangeAt bb (oo + i * 7) r.cells := range_be hrg HA.out.be
      have ck : wr.cell? ⟨bb, oo + i * 7, none⟩ = some (.int .i64 r.k) := hrg2 0 _ rfl
      have ct : wr.cell? ⟨bb, oo + i * 7 + 2, none⟩ = some (.int .i64 r.tk) := hrg2 2 _ rfl
      obtain ⟨cm, hcm⟩ : ∃ c, c = vQ (dgs r.m 4) := ⟨_, rfl⟩
      have HWM : Hid (Wc cm r.m) := hcm
      obtain ⟨ch, hch⟩ : ∃ c, c = vQ (dgs h 4) := ⟨_, rfl⟩
      have HWH : Hid (Wc ch h) := hch
      have HC0 : Hid (∀ X, Below w.heap.size w X → X.cell? ⟨q, 0, none⟩ = some (.slice (some ⟨bb, oo, none⟩) n cap)) := fun X hB => (Row.below HR.out.row hB HR.out.row.lt).cell 0 _ rfl
      have HC3 : Hid (∀ X, Below w.heap.size w X → X.rangeAt bb (oo + i * 7 + 3) cm) := fun X hB j v hv => by rw [Nat.add_assoc]; exact (range_be hrg hB) (3 + j) v (by rw [Nat.add_comm]; rw [hcm] at hv; exact hv)
      clear hr hrg hrg2 hn1 HX hcm hch hrm
      obtain ⟨k, hk⟩ : ∃ z, z = r.k := ⟨_, rfl⟩
      obtain ⟨tk, htk⟩ : ∃ z, z = r.tk := ⟨_, rfl⟩
      have HKT : Hid (k = r.k ∧ tk = r.tk) := ⟨hk, htk⟩
      rw [← hk] at ck
      rw [← htk] at ct
      clear hk htk
      by_cases h1 : tk = t
      · subst h1
        have hkk : k = 3 ∨ k = 4 ∨ (¬ k = 3 ∧ ¬ k = 4) := by omega
        rcases hkk with rfl | rfl | ⟨g0, g1⟩
        · obtain ⟨cr, hcr⟩ : ∃ c, c = vQ (dgs (addR h r.m) 4) := ⟨_, rfl⟩
          have HWR : Hid (Wc cr (addR h r.m)) := hcr
          obtain ⟨er, her⟩ : ∃ e, e = addE h r.m := ⟨_, rfl⟩
          have HAR : Hid (∀ X, Calls Try.prog 17 #[.agg ch.toArray, .agg cm.toArray] X fun e w' => e = .returned (.tuple #[.agg cr.toArray, .int .i64 er]) ∧ Below X.heap.size X w') := fun X => by
            have h9 := refAdd_c h r.m HA.out.l HRM.out X
            rw [← HWH.out, ← HWM.out, ← hcr, ← her] at h9
            exact h9
          have HRL : Hid (addR h r.m < 2 ^ 256) := addR_lt' h r.m
          clear hcr her
          go_upto_region 8 with (first
            | (refine wpList_ixsU 73 91 (.tmp 19) (.tmp 20) rfl bb oo n cap i 7 rfl rfl HIN.out und_As info_Ac rfl ?_)
            | (refine wpList_ixsU 73 91 (.tmp 29) (.tmp 30) rfl bb oo n cap i 7 rfl rfl HIN.out und_As info_Ac rfl ?_))
          have hb1 := HA.out.be
          have rA : Row wr ba ch 33 := by rw [HWH.out]; exact HA.out.r
          have gV := Gro.refl (· = ba) wr
          have hlow : w.heap.size ≤ ba := HA.out.n.1
          refine wp_named fun a0 ha0 => ?_
          have hsz : a0.tmps.size = 65 := by rw [ha0]; rfl
          have zs0 : a0.eval (.tmp 0) = .pointer (some ⟨q, 0, none⟩) := by rw [ha0]; rfl
          have zs5 : a0.eval (.tmp 5) = .pointer (some ⟨ba, 0, none⟩) := by rw [ha0]; rfl
          have zs6 : a0.eval (.tmp 6) = .int .i64 (i : Int) := by rw [ha0]; rfl
          obtain ⟨D, hD⟩ : ∃ D : List (Tmp × SP), D = [(37, SP.is (.agg ch.toArray)), (38, SP.is (.pointer (some ⟨q, 0, none⟩))), (39, SP.is (.pointer (some ⟨q, 0, none⟩))), (40, SP.is (.pointer (some ⟨q, 0, none⟩))), (41, SP.is (.slice (some ⟨bb, oo, none⟩) n cap)), (42, SP.is (.int .i64 (i : Int))), (43, SP.is (.pointer (some ⟨bb, oo + i * 7, none⟩))), (44, SP.is (.pointer (some ⟨bb, oo + i * 7 + 3, none⟩))), (45, SP.is (.agg cm.toArray)), (46, SP.is (.tuple #[.agg cr.toArray, .int .i64 er])), (36, SP.is (.tuple #[.agg cr.toArray, .int .i64 er])), (47, SP.is (.agg cr.toArray)), (48, SP.is (.int .i64 er)), (1000, SP.any)] := ⟨_, rfl⟩
          refine wp_region_down (by kernel_rfl) (fun listed ac W => listed.size = 14 ∧ Fp D a0 listed ac W ∧ Below w.heap.size w W ∧ Row W ba (if listed.getD 13 false = true then cr else ch) 33 ∧ Gro (· = ba) wr W) ?_ ?_ ?_
          · exact ⟨by simp, Fp.start D a0 _ _, Below.drew hb1, (by rw [if_neg (fun h => start_no h)]; exact Row.drew rA), gV.below (Below.drew (Below.refl _ _))⟩
          · clear ha0 hb1 rA gV 
            intro listed ac W k hI hdn hk
            obtain ⟨hl, hF, hb1, rA, gV⟩ := hI
            have hk1 : k < 14 := List.mem_range.1 (List.mem_filter.1 hk).1
            have hl2 : ∀ j, (listed.setIfInBounds j true).size = 14 := fun j => by rw [Array.size_setIfInBounds]; exact hl
            rcases (show k = 0 ∨ k = 1 ∨ k = 2 ∨ k = 3 ∨ k = 4 ∨ k = 5 ∨ k = 6 ∨ k = 7 ∨ k = 8 ∨ k = 9 ∨ k = 10 ∨ k = 11 ∨ k = 12 ∨ k = 13 by omega) with rfl | rfl | rfl | rfl | rfl | rfl | rfl | rfl | rfl | rfl | rfl | rfl | rfl | rfl
            · have hk3 := hk
              have hnq : ¬ listed.getD 13 false = true := fun h => not_yet hk (hdn 13 h 0 (by kernel_rfl))
              have rA9 := rA
              rw [if_neg hnq] at rA9
              have ea := ((hF.keep 5 (by rw [hD]; rfl)).trans zs5)
              exact wpOp_plain rfl rfl (wp_load_mid 33 (.tmp 5) rfl ba 0 ea ch _ (rA9.all) Try.underlying33 rfl HWH.out.info ⟨hl2 0, (hF.put 0 37 (SP.is (.agg ch.toArray)) (.agg ch.toArray) (by rw [hD]; rfl) rfl (by rw [hD]; rfl) (by rw [hsz]; decide) (by rw [hl]; decide)), hb1, (by rw [getD_set _ _ _ (by decide)]; exact rA), gV⟩)
            · have hk3 := hk
              exact wpOp_plain rfl rfl (wp_move_v (ac.eval (.tmp 0)) rfl rfl ⟨hl2 1, (hF.put 1 38 (SP.is (.pointer (some ⟨q, 0, none⟩))) (ac.eval (.tmp 0)) (by rw [hD]; rfl) (((hF.keep 0 (by rw [hD]; rfl)).trans zs0)) (by rw [hD]; rfl) (by rw [hsz]; decide) (by rw [hl]; decide)), hb1, (by rw [getD_set _ _ _ (by decide)]; exact rA), gV⟩)
            · have hk3 := hk
              have ea := (hF.done 1 (38, SP.is (.pointer (some ⟨q, 0, none⟩))) (by rw [hD]; rfl) (ready_dep hk 1 (by kernel_rfl)))
              exact wpOp_plain rfl rfl (wp_nilc q rfl ea ⟨hl2 2, (hF.put 2 39 (SP.is (.pointer (some ⟨q, 0, none⟩))) (.pointer (some ⟨q, 0, none⟩)) (by rw [hD]; rfl) rfl (by rw [hD]; rfl) (by rw [hsz]; decide) (by rw [hl]; decide)), hb1, (by rw [getD_set _ _ _ (by decide)]; exact rA), gV⟩)
            · have hk3 := hk
              have ea := (hF.done 2 (39, SP.is (.pointer (some ⟨q, 0, none⟩))) (by rw [hD]; rfl) (ready_dep hk 2 (by kernel_rfl)))
              exact wpOp_plain rfl rfl (wp_rf0 q rfl ea ⟨hl2 3, (hF.put 3 40 (SP.is (.pointer (some ⟨q, 0, none⟩))) (.pointer (some ⟨q, 0, none⟩)) (by rw [hD]; rfl) rfl (by rw [hD]; rfl) (by rw [hsz]; decide) (by rw [hl]; decide)), hb1, (by rw [getD_set _ _ _ (by decide)]; exact rA), gV⟩)
            · have hk3 := hk
              have ea := (hF.done 3 (40, SP.is (.pointer (some ⟨q, 0, none⟩))) (by rw [hD]; rfl) (ready_dep hk 3 (by kernel_rfl)))
              exact wpOp_plain rfl rfl (wp_load_1 q 0 (.slice (some ⟨bb, oo, none⟩) n cap) rfl ea (run_load_as W q 0 _ (HC0.out W hb1)) ⟨hl2 4, (hF.put 4 41 (SP.is (.slice (some ⟨bb, oo, none⟩) n cap)) (.slice (some ⟨bb, oo, none⟩) n cap) (by rw [hD]; rfl) rfl (by rw [hD]; rfl) (by rw [hsz]; decide) (by rw [hl]; decide)), hb1, (by rw [getD_set _ _ _ (by decide)]; exact rA), gV⟩)
            · have hk3 := hk
              exact wpOp_plain rfl rfl (wp_move_v (ac.eval (.tmp 6)) rfl rfl ⟨hl2 5, (hF.put 5 42 (SP.is (.int .i64 (i : Int))) (ac.eval (.tmp 6)) (by rw [hD]; rfl) (((hF.keep 6 (by rw [hD]; rfl)).trans zs6)) (by rw [hD]; rfl) (by rw [hsz]; decide) (by rw [hl]; decide)), hb1, (by rw [getD_set _ _ _ (by decide)]; exact rA), gV⟩)
            · have hk3 := hk
              have ea := (hF.done 4 (41, SP.is (.slice (some ⟨bb, oo, none⟩) n cap)) (by rw [hD]; rfl) (ready_dep hk 4 (by kernel_rfl)))
              have eb := (hF.done 5 (42, SP.is (.int .i64 (i : Int))) (by rw [hD]; rfl) (ready_dep hk 5 (by kernel_rfl)))
              exact wpOp_plain rfl rfl (wp_ixsU 73 91 rfl bb oo n cap i 7 ea eb HIN.out und_As info_Ac ⟨hl2 6, (hF.put 6 43 (SP.is (.pointer (some ⟨bb, oo + i * 7, none⟩))) (.pointer (some ⟨bb, oo + i * 7, none⟩)) (by rw [hD]; rfl) rfl (by rw [hD]; rfl) (by rw [hsz]; decide) (by rw [hl]; decide)), hb1, (by rw [getD_set _ _ _ (by decide)]; exact rA), gV⟩)
            · have hk3 := hk
              have ea := (hF.done 6 (43, SP.is (.pointer (some ⟨bb, oo + i * 7, none⟩))) (by rw [hD]; rfl) (ready_dep hk 6 (by kernel_rfl)))
              exact wpOp_plain rfl rfl (wp_af3 bb (oo + i * 7) rfl ea ⟨hl2 7, (hF.put 7 44 (SP.is (.pointer (some ⟨bb, oo + i * 7 + 3, none⟩))) (.pointer (some ⟨bb, oo + i * 7 + 3, none⟩)) (by rw [hD]; rfl) rfl (by rw [hD]; rfl) (by rw [hsz]; decide) (by rw [hl]; decide)), hb1, (by rw [getD_set _ _ _ (by decide)]; exact rA), gV⟩)
            · have hk3 := hk
              have ea := (hF.done 7 (44, SP.is (.pointer (some ⟨bb, oo + i * 7 + 3, none⟩))) (by rw [hD]; rfl) (ready_dep hk 7 (by kernel_rfl)))
              exact wpOp_plain rfl rfl (wp_load_mid 33 (.tmp 44) rfl bb (oo + i * 7 + 3) ea cm _ (HC3.out W hb1) Try.underlying33 rfl HWM.out.info ⟨hl2 8, (hF.put 8 45 (SP.is (.agg cm.toArray)) (.agg cm.toArray) (by rw [hD]; rfl) rfl (by rw [hD]; rfl) (by rw [hsz]; decide) (by rw [hl]; decide)), hb1, (by rw [getD_set _ _ _ (by decide)]; exact rA), gV⟩)
            · have hk3 := hk
              have ea := (hF.done 0 (37, SP.is (.agg ch.toArray)) (by rw [hD]; rfl) (ready_dep hk 0 (by kernel_rfl)))
              have eb := (hF.done 8 (45, SP.is (.agg cm.toArray)) (by rw [hD]; rfl) (ready_dep hk 8 (by kernel_rfl)))
              refine wpOp_plain rfl rfl (wp_fcall_v 17 #[.agg ch.toArray, .agg cm.toArray] rfl rfl (by show [ac.eval (.tmp 37), ac.eval (.tmp 45)] = _; rw [show ac.eval (.tmp 37) = _ from ea, show ac.eval (.tmp 45) = _ from eb]) (by go_simp) ((HAR.out W).mono ?_))
              rintro e W2 ⟨rfl, hB⟩
              exact ⟨_, rfl, hl2 9, ((hF.world hB).put 9 46 (SP.is (.tuple #[.agg cr.toArray, .int .i64 er])) (.tuple #[.agg cr.toArray, .int .i64 er]) (by rw [hD]; rfl) rfl (by rw [hD]; rfl) (by rw [hsz]; decide) (by rw [hl]; decide)), hb1.trans (hB.mono hb1.size), (by rw [getD_set _ _ _ (by decide)]; exact Row.below rA hB (Row.lt rA)), gV.below hB⟩
            · have hk3 := hk
              exact wpOp_plain rfl rfl (wp_move_v (ac.eval (.tmp 46)) rfl rfl ⟨hl2 10, (hF.put 10 36 (SP.is (.tuple #[.agg cr.toArray, .int .i64 er])) (ac.eval (.tmp 46)) (by rw [hD]; rfl) ((hF.done 9 (46, SP.is (.tuple #[.agg cr.toArray, .int .i64 er])) (by rw [hD]; rfl) (ready_dep hk 9 (by kernel_rfl)))) (by rw [hD]; rfl) (by rw [hsz]; decide) (by rw [hl]; decide)), hb1, (by rw [getD_set _ _ _ (by decide)]; exact rA), gV⟩)
            · have hk3 := hk
              exact wpOp_plain rfl rfl (wp_extract (.tmp 36) 0 rfl _ (hF.done 10 (36, SP.is (.tuple #[.agg cr.toArray, .int .i64 er])) (by rw [hD]; rfl) (ready_dep hk 10 (by kernel_rfl))) (.agg cr.toArray) rfl ⟨hl2 11, (hF.put 11 47 (SP.is (.agg cr.toArray)) (.agg cr.toArray) (by rw [hD]; rfl) rfl (by rw [hD]; rfl) (by rw [hsz]; decide) (by rw [hl]; decide)), hb1, (by rw [getD_set _ _ _ (by decide)]; exact rA), gV⟩)
            · have hk3 := hk
              exact wpOp_plain rfl rfl (wp_extract (.tmp 36) 1 rfl _ (hF.done 10 (36, SP.is (.tuple #[.agg cr.toArray, .int .i64 er])) (by rw [hD]; rfl) (ready_dep hk 10 (by kernel_rfl))) (.int .i64 er) rfl ⟨hl2 12, (hF.put 12 48 (SP.is (.int .i64 er)) (.int .i64 er) (by rw [hD]; rfl) rfl (by rw [hD]; rfl) (by rw [hsz]; decide) (by rw [hl]; decide)), hb1, (by rw [getD_set _ _ _ (by decide)]; exact rA), gV⟩)
            · have hk3 := hk
              have hno : ¬ listed.getD 13 false = true := not_yet hk
              rw [if_neg hno] at rA
              have T := rA.there 0 cr.toArray.size (by rw [List.size_toArray, HWR.out.len, HWH.out.len]; decide)
              have fin := rA.over (vs := cr) (HWR.out.len.trans HWH.out.len.symm)
              have hT : Fp D a0 listed ac (W.setCells ba 0 cr) := hF.turn (by rw [hD]; simp only [List.forall_mem_cons, List.not_mem_nil, false_implies, implies_true, and_true]; exact ⟨fun _ h => h, fun _ h => h, fun _ h => h, fun _ h => h, fun _ h => h, fun _ h => h, fun _ h => h, fun _ h => h, fun _ h => h, fun _ h => h, fun _ h => h, fun _ h => h, fun _ h => h, fun _ h => h⟩)
              exact wpOp_plain rfl rfl (wp_store_mid 33 (.tmp 5) (.tmp 47) rfl ba 0 cr.toArray ((hF.keep 5 (by rw [hD]; rfl)).trans zs5) (hF.done 11 (47, SP.is (.agg cr.toArray)) (by rw [hD]; rfl) (ready_dep hk 11 (by kernel_rfl))) T HWR.out.info' HWR.out.one ⟨hl2 13, (hT.skip 13 1000 (by rw [hD]; rfl) (by rw [hl]; decide)), below_setCells hb1 (by omega) _, (by rw [if_pos (getD_same (by rw [hl]; decide))]; exact fin), gV.trans (gro_sets W ba 0 cr)⟩)
          · clear hb1 rA gV 
            intro listed ac W hI hr
            obtain ⟨hl, hF, hb1, rA, gV⟩ := hI
            have hall := all_listed (by kernel_rfl) hl hr
            rw [if_pos (hall 13 (by decide))] at rA
            have h37 : ac.eval (.tmp 37) = .agg ch.toArray := hF.done 0 (37, SP.is (.agg ch.toArray)) (by rw [hD]; rfl) (hall 0 (by decide))
            have h38 : ac.eval (.tmp 38) = .pointer (some ⟨q, 0, none⟩) := hF.done 1 (38, SP.is (.pointer (some ⟨q, 0, none⟩))) (by rw [hD]; rfl) (hall 1 (by decide))
            have h39 : ac.eval (.tmp 39) = .pointer (some ⟨q, 0, none⟩) := hF.done 2 (39, SP.is (.pointer (some ⟨q, 0, none⟩))) (by rw [hD]; rfl) (hall 2 (by decide))
            have h40 : ac.eval (.tmp 40) = .pointer (some ⟨q, 0, none⟩) := hF.done 3 (40, SP.is (.pointer (some ⟨q, 0, none⟩))) (by rw [hD]; rfl) (hall 3 (by decide))
            have h41 : ac.eval (.tmp 41) = .slice (some ⟨bb, oo, none⟩) n cap := hF.done 4 (41, SP.is (.slice (some ⟨bb, oo, none⟩) n cap)) (by rw [hD]; rfl) (hall 4 (by decide))
            have h42 : ac.eval (.tmp 42) = .int .i64 (i : Int) := hF.done 5 (42, SP.is (.int .i64 (i : Int))) (by rw [hD]; rfl) (hall 5 (by decide))
            have h43 : ac.eval (.tmp 43) = .pointer (some ⟨bb, oo + i * 7, none⟩) := hF.done 6 (43, SP.is (.pointer (some ⟨bb, oo + i * 7, none⟩))) (by rw [hD]; rfl) (hall 6 (by decide))
            have h44 : ac.eval (.tmp 44) = .pointer (some ⟨bb, oo + i * 7 + 3, none⟩) := hF.done 7 (44, SP.is (.pointer (some ⟨bb, oo + i * 7 + 3, none⟩))) (by rw [hD]; rfl) (hall 7 (by decide))
            have h45 : ac.eval (.tmp 45) = .agg cm.toArray := hF.done 8 (45, SP.is (.agg cm.toArray)) (by rw [hD]; rfl) (hall 8 (by decide))
            have h46 : ac.eval (.tmp 46) = .tuple #[.agg cr.toArray, .int .i64 er] := hF.done 9 (46, SP.is (.tuple #[.agg cr.toArray, .int .i64 er])) (by rw [hD]; rfl) (hall 9 (by decide))
            have h36 : ac.eval (.tmp 36) = .tuple #[.agg cr.toArray, .int .i64 er] := hF.done 10 (36, SP.is (.tuple #[.agg cr.toArray, .int .i64 er])) (by rw [hD]; rfl) (hall 10 (by decide))
            have h47 : ac.eval (.tmp 47) = .agg cr.toArray := hF.done 11 (47, SP.is (.agg cr.toArray)) (by rw [hD]; rfl) (hall 11 (by decide))
            have h48 : ac.eval (.tmp 48) = .int .i64 er := hF.done 12 (48, SP.is (.int .i64 er)) (by rw [hD]; rfl) (hall 12 (by decide))
            have ea := hF.lay [(37, .agg ch.toArray), (38, .pointer (some ⟨q, 0, none⟩)), (39, .pointer (some ⟨q, 0, none⟩)), (40, .pointer (some ⟨q, 0, none⟩)), (41, .slice (some ⟨bb, oo, none⟩) n cap), (42, .int .i64 (i : Int)), (43, .pointer (some ⟨bb, oo + i * 7, none⟩)), (44, .pointer (some ⟨bb, oo + i * 7 + 3, none⟩)), (45, .agg cm.toArray), (46, .tuple #[.agg cr.toArray, .int .i64 er]), (36, .tuple #[.agg cr.toArray, .int .i64 er]), (47, .agg cr.toArray), (48, .int .i64 er)] (by rw [hD, hsz]; rfl) (by simp only [List.forall_mem_cons, List.not_mem_nil, false_implies, implies_true, and_true]; exact ⟨h37, h38, h39, h40, h41, h42, h43, h44, h45, h46, h36, h47, h48⟩)
            rw [ha0] at ea
            simp only [List.foldl_cons, List.foldl_nil, List.setIfInBounds_toArray, List.set_cons_zero, List.set_cons_succ] at ea
            clear hF hall hr hl hD  zs0 zs5 zs6 ha0 hsz h37 h38 h39 h40 h41 h42 h43 h44 h45 h46 h36 h47 h48
            subst ea
            have HN : Hid (Ha w W ba b4 (addR h r.m)) := ⟨by rw [← HWR.out]; exact rA, gV.row HA.out.z HA.out.n.2.2, hb1, HA.out.n, HRL.out⟩
            clear gV rA hb1
            go_wp2_with fail
            go_roundw
            case rel => exact ⟨n1, _, HM.out.2.2, rfl, HM.out.1.trans (by unfold stepH; rw [if_neg (fun q => q HKT.out.2.symm), if_pos HKT.out.1.symm]), HN⟩
            case measure => have := HM.out; simp [intOf]; omega
        · obtain ⟨cr, hcr⟩ : ∃ c, c = vQ (dgs (subR h r.m) 4) := ⟨_, rfl⟩
          have HWR : Hid (Wc cr (subR h r.m)) := hcr
          obtain ⟨er, her⟩ : ∃ e, e = subE h r.m := ⟨_, rfl⟩
          have HAR : Hid (∀ X, Calls Try.prog 18 #[.agg ch.toArray, .agg cm.toArray] X fun e w' => e = .returned (.tuple #[.agg cr.toArray, .int .i64 er]) ∧ Below X.heap.size X w') := fun X => by
            have h9 := refSub_c h r.m HA.out.l HRM.out X
            rw [← HWH.out, ← HWM.out, ← hcr, ← her] at h9
            exact h9
          have HRL : Hid (subR h r.m < 2 ^ 256) := subR_lt' h r.m HA.out.l
          clear hcr her
          go_upto_region 10 with (first
            | (refine wpList_ixsU 73 91 (.tmp 19) (.tmp 20) rfl bb oo n cap i 7 rfl rfl HIN.out und_As info_Ac rfl ?_)
            | (refine wpList_ixsU 73 91 (.tmp 29) (.tmp 30) rfl bb oo n cap i 7 rfl rfl HIN.out und_As info_Ac rfl ?_))
          have hb1 := HA.out.be
          have rA : Row wr ba ch 33 := by rw [HWH.out]; exact HA.out.r
          have gV := Gro.refl (· = ba) wr
          have hlow : w.heap.size ≤ ba := HA.out.n.1
          refine wp_named fun a0 ha0 => ?_
          have hsz : a0.tmps.size = 65 := by rw [ha0]; rfl
          have zs0 : a0.eval (.tmp 0) = .pointer (some ⟨q, 0, none⟩) := by rw [ha0]; rfl
          have zs5 : a0.eval (.tmp 5) = .pointer (some ⟨ba, 0, none⟩) := by rw [ha0]; rfl
          have zs6 : a0.eval (.tmp 6) = .int .i64 (i : Int) := by rw [ha0]; rfl
          obtain ⟨D, hD⟩ : ∃ D : List (Tmp × SP), D = [(52, SP.is (.agg ch.toArray)), (53, SP.is (.pointer (some ⟨q, 0, none⟩))), (54, SP.is (.pointer (some ⟨q, 0, none⟩))), (55, SP.is (.pointer (some ⟨q, 0, none⟩))), (56, SP.is (.slice (some ⟨bb, oo, none⟩) n cap)), (57, SP.is (.int .i64 (i : Int))), (58, SP.is (.pointer (some ⟨bb, oo + i * 7, none⟩))), (59, SP.is (.pointer (some ⟨bb, oo + i * 7 + 3, none⟩))), (60, SP.is (.agg cm.toArray)), (61, SP.is (.tuple #[.agg cr.toArray, .int .i64 er])), (51, SP.is (.tuple #[.agg cr.toArray, .int .i64 er])), (62, SP.is (.agg cr.toArray)), (63, SP.is (.int .i64 er)), (1000, SP.any)] := ⟨_, rfl⟩
          refine wp_region_down (by kernel_rfl) (fun listed ac W => listed.size = 14 ∧ Fp D a0 listed ac W ∧ Below w.heap.size w W ∧ Row W ba (if listed.getD 13 false = true then cr else ch) 33 ∧ Gro (· = ba) wr W) ?_ ?_ ?_
          · exact ⟨by simp, Fp.start D a0 _ _, Below.drew hb1, (by rw [if_neg (fun h => start_no h)]; exact Row.drew rA), gV.below (Below.drew (Below.refl _ _))⟩
          · clear ha0 hb1 rA gV 
            intro listed ac W k hI hdn hk
            obtain ⟨hl, hF, hb1, rA, gV⟩ := hI
            have hk1 : k < 14 := List.mem_range.1 (List.mem_filter.1 hk).1
            have hl2 : ∀ j, (listed.setIfInBounds j true).size = 14 := fun j => by rw [Array.size_setIfInBounds]; exact hl
            rcases (show k = 0 ∨ k = 1 ∨ k = 2 ∨ k = 3 ∨ k = 4 ∨ k = 5 ∨ k = 6 ∨ k = 7 ∨ k = 8 ∨ k = 9 ∨ k = 10 ∨ k = 11 ∨ k = 12 ∨ k = 13 by omega) with rfl | rfl | rfl | rfl | rfl | rfl | rfl | rfl | rfl | rfl | rfl | rfl | rfl | rfl
            · have hk3 := hk
              have hnq : ¬ listed.getD 13 false = true := fun h => not_yet hk (hdn 13 h 0 (by kernel_rfl))
              have rA9 := rA
              rw [if_neg hnq] at rA9
              have ea := ((hF.keep 5 (by rw [hD]; rfl)).trans zs5)
              exact wpOp_plain rfl rfl (wp_load_mid 33 (.tmp 5) rfl ba 0 ea ch _ (rA9.all) Try.underlying33 rfl HWH.out.info ⟨hl2 0, (hF.put 0 52 (SP.is (.agg ch.toArray)) (.agg ch.toArray) (by rw [hD]; rfl) rfl (by rw [hD]; rfl) (by rw [hsz]; decide) (by rw [hl]; decide)), hb1, (by rw [getD_set _ _ _ (by decide)]; exact rA), gV⟩)
            · have hk3 := hk
              exact wpOp_plain rfl rfl (wp_move_v (ac.eval (.tmp 0)) rfl rfl ⟨hl2 1, (hF.put 1 53 (SP.is (.pointer (some ⟨q, 0, none⟩))) (ac.eval (.tmp 0)) (by rw [hD]; rfl) (((hF.keep 0 (by rw [hD]; rfl)).trans zs0)) (by rw [hD]; rfl) (by rw [hsz]; decide) (by rw [hl]; decide)), hb1, (by rw [getD_set _ _ _ (by decide)]; exact rA), gV⟩)
            · have hk3 := hk
              have ea := (hF.done 1 (53, SP.is (.pointer (some ⟨q, 0, none⟩))) (by rw [hD]; rfl) (ready_dep hk 1 (by kernel_rfl)))
              exact wpOp_plain rfl rfl (wp_nilc q rfl ea ⟨hl2 2, (hF.put 2 54 (SP.is (.pointer (some ⟨q, 0, none⟩))) (.pointer (some ⟨q, 0, none⟩)) (by rw [hD]; rfl) rfl (by rw [hD]; rfl) (by rw [hsz]; decide) (by rw [hl]; decide)), hb1, (by rw [getD_set _ _ _ (by decide)]; exact rA), gV⟩)
            · have hk3 := hk
              have ea := (hF.done 2 (54, SP.is (.pointer (some ⟨q, 0, none⟩))) (by rw [hD]; rfl) (ready_dep hk 2 (by kernel_rfl)))
              exact wpOp_plain rfl rfl (wp_rf0 q rfl ea ⟨hl2 3, (hF.put 3 55 (SP.is (.pointer (some ⟨q, 0, none⟩))) (.pointer (some ⟨q, 0, none⟩)) (by rw [hD]; rfl) rfl (by rw [hD]; rfl) (by rw [hsz]; decide) (by rw [hl]; decide)), hb1, (by rw [getD_set _ _ _ (by decide)]; exact rA), gV⟩)
            · have hk3 := hk
              have ea := (hF.done 3 (55, SP.is (.pointer (some ⟨q, 0, none⟩))) (by rw [hD]; rfl) (ready_dep hk 3 (by kernel_rfl)))
              exact wpOp_plain rfl rfl (wp_load_1 q 0 (.slice (some ⟨bb, oo, none⟩) n cap) rfl ea (run_load_as W q 0 _ (HC0.out W hb1)) ⟨hl2 4, (hF.put 4 56 (SP.is (.slice (some ⟨bb, oo, none⟩) n cap)) (.slice (some ⟨bb, oo, none⟩) n cap) (by rw [hD]; rfl) rfl (by rw [hD]; rfl) (by rw [hsz]; decide) (by rw [hl]; decide)), hb1, (by rw [getD_set _ _ _ (by decide)]; exact rA), gV⟩)
            · have hk3 := hk
              exact wpOp_plain rfl rfl (wp_move_v (ac.eval (.tmp 6)) rfl rfl ⟨hl2 5, (hF.put 5 57 (SP.is (.int .i64 (i : Int))) (ac.eval (.tmp 6)) (by rw [hD]; rfl) (((hF.keep 6 (by rw [hD]; rfl)).trans zs6)) (by rw [hD]; rfl) (by rw [hsz]; decide) (by rw [hl]; decide)), hb1, (by rw [getD_set _ _ _ (by decide)]; exact rA), gV⟩)
            · have hk3 := hk
              have ea := (hF.done 4 (56, SP.is (.slice (some ⟨bb, oo, none⟩) n cap)) (by rw [hD]; rfl) (ready_dep hk 4 (by kernel_rfl)))
              have eb := (hF.done 5 (57, SP.is (.int .i64 (i : Int))) (by rw [hD]; rfl) (ready_dep hk 5 (by kernel_rfl)))
              exact wpOp_plain rfl rfl (wp_ixsU 73 91 rfl bb oo n cap i 7 ea eb HIN.out und_As info_Ac ⟨hl2 6, (hF.put 6 58 (SP.is (.pointer (some ⟨bb, oo + i * 7, none⟩))) (.pointer (some ⟨bb, oo + i * 7, none⟩)) (by rw [hD]; rfl) rfl (by rw [hD]; rfl) (by rw [hsz]; decide) (by rw [hl]; decide)), hb1, (by rw [getD_set _ _ _ (by decide)]; exact rA), gV⟩)
            · have hk3 := hk
              have ea := (hF.done 6 (58, SP.is (.pointer (some ⟨bb, oo + i * 7, none⟩))) (by rw [hD]; rfl) (ready_dep hk 6 (by kernel_rfl)))
              exact wpOp_plain rfl rfl (wp_af3 bb (oo + i * 7) rfl ea ⟨hl2 7, (hF.put 7 59 (SP.is (.pointer (some ⟨bb, oo + i * 7 + 3, none⟩))) (.pointer (some ⟨bb, oo + i * 7 + 3, none⟩)) (by rw [hD]; rfl) rfl (by rw [hD]; rfl) (by rw [hsz]; decide) (by rw [hl]; decide)), hb1, (by rw [getD_set _ _ _ (by decide)]; exact rA), gV⟩)
            · have hk3 := hk
              have ea := (hF.done 7 (59, SP.is (.pointer (some ⟨bb, oo + i * 7 + 3, none⟩))) (by rw [hD]; rfl) (ready_dep hk 7 (by kernel_rfl)))
              exact wpOp_plain rfl rfl (wp_load_mid 33 (.tmp 59) rfl bb (oo + i * 7 + 3) ea cm _ (HC3.out W hb1) Try.underlying33 rfl HWM.out.info ⟨hl2 8, (hF.put 8 60 (SP.is (.agg cm.toArray)) (.agg cm.toArray) (by rw [hD]; rfl) rfl (by rw [hD]; rfl) (by rw [hsz]; decide) (by rw [hl]; decide)), hb1, (by rw [getD_set _ _ _ (by decide)]; exact rA), gV⟩)
            · have hk3 := hk
              have ea := (hF.done 0 (52, SP.is (.agg ch.toArray)) (by rw [hD]; rfl) (ready_dep hk 0 (by kernel_rfl)))
              have eb := (hF.done 8 (60, SP.is (.agg cm.toArray)) (by rw [hD]; rfl) (ready_dep hk 8 (by kernel_rfl)))
              refine wpOp_plain rfl rfl (wp_fcall_v 18 #[.agg ch.toArray, .agg cm.toArray] rfl rfl (by show [ac.eval (.tmp 52), ac.eval (.tmp 60)] = _; rw [show ac.eval (.tmp 52) = _ from ea, show ac.eval (.tmp 60) = _ from eb]) (by go_simp) ((HAR.out W).mono ?_))
              rintro e W2 ⟨rfl, hB⟩
              exact ⟨_, rfl, hl2 9, ((hF.world hB).put 9 61 (SP.is (.tuple #[.agg cr.toArray, .int .i64 er])) (.tuple #[.agg cr.toArray, .int .i64 er]) (by rw [hD]; rfl) rfl (by rw [hD]; rfl) (by rw [hsz]; decide) (by rw [hl]; decide)), hb1.trans (hB.mono hb1.size), (by rw [getD_set _ _ _ (by decide)]; exact Row.below rA hB (Row.lt rA)), gV.below hB⟩
            · have hk3 := hk
              exact wpOp_plain rfl rfl (wp_move_v (ac.eval (.tmp 61)) rfl rfl ⟨hl2 10, (hF.put 10 51 (SP.is (.tuple #[.agg cr.toArray, .int .i64 er])) (ac.eval (.tmp 61)) (by rw [hD]; rfl) ((hF.done 9 (61, SP.is (.tuple #[.agg cr.toArray, .int .i64 er])) (by rw [hD]; rfl) (ready_dep hk 9 (by kernel_rfl)))) (by rw [hD]; rfl) (by rw [hsz]; decide) (by rw [hl]; decide)), hb1, (by rw [getD_set _ _ _ (by decide)]; exact rA), gV⟩)
            · have hk3 := hk
              exact wpOp_plain rfl rfl (wp_extract (.tmp 51) 0 rfl _ (hF.done 10 (51, SP.is (.tuple #[.agg cr.toArray, .int .i64 er])) (by rw [hD]; rfl) (ready_dep hk 10 (by kernel_rfl))) (.agg cr.toArray) rfl ⟨hl2 11, (hF.put 11 62 (SP.is (.agg cr.toArray)) (.agg cr.toArray) (by rw [hD]; rfl) rfl (by rw [hD]; rfl) (by rw [hsz]; decide) (by rw [hl]; decide)), hb1, (by rw [getD_set _ _ _ (by decide)]; exact rA), gV⟩)
            · have hk3 := hk
              exact wpOp_plain rfl rfl (wp_extract (.tmp 51) 1 rfl _ (hF.done 10 (51, SP.is (.tuple #[.agg cr.toArray, .int .i64 er])) (by rw [hD]; rfl) (ready_dep hk 10 (by kernel_rfl))) (.int .i64 er) rfl ⟨hl2 12, (hF.put 12 63 (SP.is (.int .i64 er)) (.int .i64 er) (by rw [hD]; rfl) rfl (by rw [hD]; rfl) (by rw [hsz]; decide) (by rw [hl]; decide)), hb1, (by rw [getD_set _ _ _ (by decide)]; exact rA), gV⟩)
            · have hk3 := hk
              have hno : ¬ listed.getD 13 false = true := not_yet hk
              rw [if_neg hno] at rA
              have T := rA.there 0 cr.toArray.size (by rw [List.size_toArray, HWR.out.len, HWH.out.len]; decide)
              have fin := rA.over (vs := cr) (HWR.out.len.trans HWH.out.len.symm)
              have hT : Fp D a0 listed ac (W.setCells ba 0 cr) := hF.turn (by rw [hD]; simp only [List.forall_mem_cons, List.not_mem_nil, false_implies, implies_true, and_true]; exact ⟨fun _ h => h, fun _ h => h, fun _ h => h, fun _ h => h, fun _ h => h, fun _ h => h, fun _ h => h, fun _ h => h, fun _ h => h, fun _ h => h, fun _ h => h, fun _ h => h, fun _ h => h, fun _ h => h⟩)
              exact wpOp_plain rfl rfl (wp_store_mid 33 (.tmp 5) (.tmp 62) rfl ba 0 cr.toArray ((hF.keep 5 (by rw [hD]; rfl)).trans zs5) (hF.done 11 (62, SP.is (.agg cr.toArray)) (by rw [hD]; rfl) (ready_dep hk 11 (by kernel_rfl))) T HWR.out.info' HWR.out.one ⟨hl2 13, (hT.skip 13 1000 (by rw [hD]; rfl) (by rw [hl]; decide)), below_setCells hb1 (by omega) _, (by rw [if_pos (getD_same (by rw [hl]; decide))]; exact fin), gV.trans (gro_sets W ba 0 cr)⟩)
          · clear hb1 rA gV 
            intro listed ac W hI hr
            obtain ⟨hl, hF, hb1, rA, gV⟩ := hI
            have hall := all_listed (by kernel_rfl) hl hr
            rw [if_pos (hall 13 (by decide))] at rA
            have h52 : ac.eval (.tmp 52) = .agg ch.toArray := hF.done 0 (52, SP.is (.agg ch.toArray)) (by rw [hD]; rfl) (hall 0 (by decide))
            have h53 : ac.eval (.tmp 53) = .pointer (some ⟨q, 0, none⟩) := hF.done 1 (53, SP.is (.pointer (some ⟨q, 0, none⟩))) (by rw [hD]; rfl) (hall 1 (by decide))
            have h54 : ac.eval (.tmp 54) = .pointer (some ⟨q, 0, none⟩) := hF.done 2 (54, SP.is (.pointer (some ⟨q, 0, none⟩))) (by rw [hD]; rfl) (hall 2 (by decide))
            have h55 : ac.eval (.tmp 55) = .pointer (some ⟨q, 0, none⟩) := hF.done 3 (55, SP.is (.pointer (some ⟨q, 0, none⟩))) (by rw [hD]; rfl) (hall 3 (by decide))
            have h56 : ac.eval (.tmp 56) = .slice (some ⟨bb, oo, none⟩) n cap := hF.done 4 (56, SP.is (.slice (some ⟨bb, oo, none⟩) n cap)) (by rw [hD]; rfl) (hall 4 (by decide))
            have h57 : ac.eval (.tmp 57) = .int .i64 (i : Int) := hF.done 5 (57, SP.is (.int .i64 (i : Int))) (by rw [hD]; rfl) (hall 5 (by decide))
            have h58 : ac.eval (.tmp 58) = .pointer (some ⟨bb, oo + i * 7, none⟩) := hF.done 6 (58, SP.is (.pointer (some ⟨bb, oo + i * 7, none⟩))) (by rw [hD]; rfl) (hall 6 (by decide))
            have h59 : ac.eval (.tmp 59) = .pointer (some ⟨bb, oo + i * 7 + 3, none⟩) := hF.done 7 (59, SP.is (.pointer (some ⟨bb, oo + i * 7 + 3, none⟩))) (by rw [hD]; rfl) (hall 7 (by decide))
            have h60 : ac.eval (.tmp 60) = .agg cm.toArray := hF.done 8 (60, SP.is (.agg cm.toArray)) (by rw [hD]; rfl) (hall 8 (by decide))
            have h61 : ac.eval (.tmp 61) = .tuple #[.agg cr.toArray, .int .i64 er] := hF.done 9 (61, SP.is (.tuple #[.agg cr.toArray, .int .i64 er])) (by rw [hD]; rfl) (hall 9 (by decide))
            have h51 : ac.eval (.tmp 51) = .tuple #[.agg cr.toArray, .int .i64 er] := hF.done 10 (51, SP.is (.tuple #[.agg cr.toArray, .int .i64 er])) (by rw [hD]; rfl) (hall 10 (by decide))
            have h62 : ac.eval (.tmp 62) = .agg cr.toArray := hF.done 11 (62, SP.is (.agg cr.toArray)) (by rw [hD]; rfl) (hall 11 (by decide))
            have h63 : ac.eval (.tmp 63) = .int .i64 er := hF.done 12 (63, SP.is (.int .i64 er)) (by rw [hD]; rfl) (hall 12 (by decide))
            have ea := hF.lay [(52, .agg ch.toArray), (53, .pointer (some ⟨q, 0, none⟩)), (54, .pointer (some ⟨q, 0, none⟩)), (55, .pointer (some ⟨q, 0, none⟩)), (56, .slice (some ⟨bb, oo, none⟩) n cap), (57, .int .i64 (i : Int)), (58, .pointer (some ⟨bb, oo + i * 7, none⟩)), (59, .pointer (some ⟨bb, oo + i * 7 + 3, none⟩)), (60, .agg cm.toArray), (61, .tuple #[.agg cr.toArray, .int .i64 er]), (51, .tuple #[.agg cr.toArray, .int .i64 er]), (62, .agg cr.toArray), (63, .int .i64 er)] (by rw [hD, hsz]; rfl) (by simp only [List.forall_mem_cons, List.not_mem_nil, false_implies, implies_true, and_true]; exact ⟨h52, h53, h54, h55, h56, h57, h58, h59, h60, h61, h51, h62, h63⟩)
            rw [ha0] at ea
            simp only [List.foldl_cons, List.foldl_nil, List.setIfInBounds_toArray, List.set_cons_zero, List.set_cons_succ] at ea
            clear hF hall hr hl hD  zs0 zs5 zs6 ha0 hsz h52 h53 h54 h55 h56 h57 h58 h59 h60 h61 h51 h62 h63
            subst ea
            have HN : Hid (Ha w W ba b4 (subR h r.m)) := ⟨by rw [← HWR.out]; exact rA, gV.row HA.out.z HA.out.n.2.2, hb1, HA.out.n, HRL.out⟩
            clear gV rA hb1
            go_wp2_with fail
            go_roundw
            case rel => exact ⟨n1, _, HM.out.2.2, rfl, HM.out.1.trans (by unfold stepH; rw [if_neg (fun q => q HKT.out.2.symm), if_neg (by rw [← HKT.out.1]; decide), if_pos HKT.out.1.symm]), HN⟩
            case measure => have := HM.out; simp [intOf]; omega
        · go_wp2_with (first
            | (refine wpList_ixsU 73 91 (.tmp 19) (.tmp 20) rfl bb oo n cap i 7 rfl rfl HIN.out und_As info_Ac rfl ?_)
            | (refine wpList_ixsU 73 91 (.tmp 29) (.tmp 30) rfl bb oo n cap i 7 rfl rfl HIN.out und_As info_Ac rfl ?_))
          go_roundw
          case rel => exact ⟨n1, h, HM.out.2.2, rfl, HM.out.1.trans (by unfold stepH; rw [if_neg (fun q => q HKT.out.2.symm), if_neg (by rw [← HKT.out.1]; exact g0), if_neg (by rw [← HKT.out.1]; exact g1)]), HA⟩
          case measure => have := HM.out; simp [intOf]; omega
      · go_wp2_with (first
          | (refine wpList_ixsU 73 91 (.tmp 19) (.tmp 20) rfl bb oo n cap i 7 rfl rfl HIN.out und_As info_Ac rfl ?_)
          | (refine wpList_ixsU 73 91 (.tmp 29) (.tmp 30) rfl bb oo n cap i 7 rfl rfl HIN.out und_As info_Ac rfl ?_))
        go_roundw
        case rel => exact ⟨n1, h, HM.out.2.2, rfl, HM.out.1.trans (by unfold stepH; rw [if_pos (by rw [← HKT.out.2]; exact h1)]), HA⟩
        case measure => have := HM.out; simp [intOf]; omega
    · have HE : Hid (Row wr ba cres 33) := by
        have h9 := HA.out.r
        rw [← HX.out, show l.take i = l by rw [List.take_of_length_le]; rw [← HR.out.ln]; omega] at h9
        rw [HCR.out]
        exact h9
      clear HX
      go_wp2_with (first
        | (refine wpList_load_w rfl 33 (.tmp 5) rfl ba 0 rfl cres _ HE.out.all Try.underlying33 rfl HCR.out.info ?_)
        | (refine wpList_storeL rfl 33 (.tmp 4) (.tmp 64) rfl b4 cres (vQ (List.replicate 4 0)) 33 rfl rfl HA.out.z (HCR.out.len.trans zw_len.symm) HCR.out.info HCR.out.one ?_; intro X9 q1 q2; have R9 : Hid (Row X9 b4 cres 33) := q1; have B9 : Hid (Below w.heap.size w X9) := gro_new HA.out.be HA.out.n.2.1 q2; clear q1 q2))
      exact bodyPost_ret (results_row Try.results40 _ _ b4 33 cres rfl R9.out Try.underlying33 info_w4 HCR.out.len) rfl ⟨rfl, B9.out⟩

set_option maxRecDepth 100000 in
set_option maxHeartbeats 8000000 in
theorem rlocked_any {w : World} {q n cap : Nat} {A : Option Addr} {l : List Acv} (h : Rv w q A n cap l) : Calls Try.prog 42 #[.pointer (some ⟨q, 0, none⟩)] w fun e w' => e = .returned (.agg (vQ (dgs (rk l) 4)).toArray) ∧ Below w.heap.size w w' := by
  have HR : Hid (Rv w q A n cap l) := h
  have hnb := h.nb
  obtain ⟨cres, hcres⟩ : ∃ c, c = vQ (dgs (rk l) 4) := ⟨_, rfl⟩
  have HCR : Hid (Wc cres (rk l)) := hcres
  rw [← hcres]
  clear h hcres
  go_enter Try.func42, Try.ntmps42
  go_upto_region 1 with (refine wpList_allocW rfl rfl ?_; intro X1 q1 q2; have R4 : Hid (Row X1 w.heap.size (vQ (List.replicate 4 0)) 33) := q1; have B1 : Hid (Below w.heap.size w X1) := q2; clear q1 q2)
  go_upto_region 2 with (refine wpList_allocW rfl rfl ?_; intro X2 q1 q2; have HA0 : Hid (Ha w X2 X1.heap.size w.heap.size 0) := ⟨q1, Row.below R4.out q2 R4.out.lt, B1.out.trans (q2.mono B1.out.size), ⟨B1.out.size, Nat.le_refl _, (by have := R4.out.lt; omega)⟩, by decide⟩; clear q1 q2)
  obtain ⟨ba, hba⟩ : ∃ b, b = X1.heap.size := ⟨_, rfl⟩
  obtain ⟨b4, hb4⟩ : ∃ b, b = w.heap.size := ⟨_, rfl⟩
  have HA1 : Hid (Ha w X2 ba b4 0) := by rw [hba, hb4]; exact HA0.out
  rw [← hba, ← hb4]
  clear hba hb4 HA0 R4 B1
  have c0 : X2.cell? ⟨q, 0, none⟩ = some (.slice A n cap) := (Row.below HR.out.row HA1.out.be HR.out.row.lt).cell 0 _ rfl
  go_wp2_with fail
  clear c0
  go_loopw [4] (fun v wr => ∃ (i h : Nat), i ≤ n ∧ v = .int .i64 (i : Int) ∧ Hid (rk (l.take i) = h) ∧ Hid (Ha w wr ba b4 h)) (fun v _ => n - (intOf v).toNat)
  case atStart => exact ⟨0, 0, Nat.zero_le _, rfl, rfl, HA1⟩
  case round =>
    obtain ⟨i, h, hi, rfl, HX, HA⟩ := hrel
    clear HA1
    have c0 : wr.cell? ⟨q, 0, none⟩ = some (.slice A n cap) := (Row.below HR.out.row HA.out.be HR.out.row.lt).cell 0 _ rfl
    by_cases hin : i < n
    · obtain ⟨r, hr⟩ : ∃ r, l[i]? = some r := ⟨_, List.getElem?_eq_getElem (by rw [← HR.out.ln]; exact hin)⟩
      obtain ⟨hrm, bb, oo, rfl, hrg⟩ := HR.out.a i r hr
      obtain ⟨n1, hn1⟩ : ∃ n1, n1 = i + 1 := ⟨_, rfl⟩
      have e1 : (i : Int) + 1 = (n1 : Int) := by omega
      have HIN : Hid (i < n) := hin
      have HRM : Hid (r.m < 2 ^ 256) := hrm
      have HM : Hid (rk (l.take n1) = stepK h r ∧ n1 = i + 1 ∧ n1 ≤ n) := ⟨by rw [hn1, rk_more l i r hr, HX.out], hn1, by omega⟩
      have hrg2 : wr.rangeAt bb (oo + i * 7) r.cells := range_be hrg HA.out.be
      have ck : wr.cell? ⟨bb, oo + i * 7, none⟩ = some (.int .i64 r.k) := hrg2 0 _ rfl
      have ct : wr.cell? ⟨bb, oo + i * 7 + 2, none⟩ = some (.int .i64 r.tk) := hrg2 2 _ rfl
      obtain ⟨cm, hcm⟩ : ∃ c, c = vQ (dgs r.m 4) := ⟨_, rfl⟩
      have HWM : Hid (Wc cm r.m) := hcm
      obtain ⟨ch, hch⟩ : ∃ c, c = vQ (dgs h 4) := ⟨_, rfl⟩
      have HWH : Hid (Wc ch h) := hch
      have HC0 : Hid (∀ X, Below w.heap.size w X → X.cell? ⟨q, 0, none⟩ = some (.slice (some ⟨bb, oo, none⟩) n cap)) := fun X hB => (Row.below HR.out.row hB HR.out.row.lt).cell 0 _ rfl
      have HC3 : Hid (∀ X, Below w.heap.size w X → X.rangeAt bb (oo + i * 7 + 3) cm) := fun X hB j v hv => by rw [Nat.add_assoc]; exact (range_be hrg hB) (3 + j) v (by rw [Nat.add_comm]; rw [hcm] at hv; exact hv)
      clear hr hrg hrg2 hn1 HX hcm hch hrm
      obtain ⟨k, hk⟩ : ∃ z, z = r.k := ⟨_, rfl⟩
      obtain ⟨tk, htk⟩ : ∃ z, z = r.tk := ⟨_, rfl⟩
      have HKT : Hid (k = r.k ∧ tk = r.tk) := ⟨hk, htk⟩
      rw [← hk] at ck
      rw [← htk] at ct
      clear hk htk
      have hkk : k = 5 ∨ k = 6 ∨ (¬ k = 5 ∧ ¬ k = 6) := by omega
      rcases hkk with rfl | rfl | ⟨g0, g1⟩
      · obtain ⟨cr, hcr⟩ : ∃ c, c = vQ (dgs (addR h r.m) 4) := ⟨_, rfl⟩
        have HWR : Hid (Wc cr (addR h r.m)) := hcr
        obtain ⟨er, her⟩ : ∃ e, e = addE h r.m := ⟨_, rfl⟩
        have HAR : Hid (∀ X, Calls Try.prog 17 #[.agg ch.toArray, .agg cm.toArray] X fun e w' => e = .returned (.tuple #[.agg cr.toArray, .int .i64 er]) ∧ Below X.heap.size X w') := fun X => by
          have h9 := refAdd_c h r.m HA.out.l HRM.out X
          rw [← HWH.out, ← HWM.out, ← hcr, ← her] at h9
          exact h9
        have HRL : Hid (addR h r.m < 2 ^ 256) := addR_lt' h r.m
        clear hcr her
        go_upto_region 7 with (refine wpList_ixsU 73 91 (.tmp 17) (.tmp 18) rfl bb oo n cap i 7 rfl rfl HIN.out und_As info_Ac rfl ?_)
        have hb1 := HA.out.be
        have rA : Row wr ba ch 33 := by rw [HWH.out]; exact HA.out.r
        have gV := Gro.refl (· = ba) wr
        have hlow : w.heap.size ≤ ba := HA.out.n.1
        refine wp_named fun a0 ha0 => ?_
        have hsz : a0.tmps.size = 53 := by rw [ha0]; rfl
        have zs0 : a0.eval (.tmp 0) = .pointer (some ⟨q, 0, none⟩) := by rw [ha0]; rfl
        have zs3 : a0.eval (.tmp 3) = .pointer (some ⟨ba, 0, none⟩) := by rw [ha0]; rfl
        have zs4 : a0.eval (.tmp 4) = .int .i64 (i : Int) := by rw [ha0]; rfl
        obtain ⟨D, hD⟩ : ∃ D : List (Tmp × SP), D = [(25, SP.is (.agg ch.toArray)), (26, SP.is (.pointer (some ⟨q, 0, none⟩))), (27, SP.is (.pointer (some ⟨q, 0, none⟩))), (28, SP.is (.pointer (some ⟨q, 0, none⟩))), (29, SP.is (.slice (some ⟨bb, oo, none⟩) n cap)), (30, SP.is (.int .i64 (i : Int))), (31, SP.is (.pointer (some ⟨bb, oo + i * 7, none⟩))), (32, SP.is (.pointer (some ⟨bb, oo + i * 7 + 3, none⟩))), (33, SP.is (.agg cm.toArray)), (34, SP.is (.tuple #[.agg cr.toArray, .int .i64 er])), (24, SP.is (.tuple #[.agg cr.toArray, .int .i64 er])), (35, SP.is (.agg cr.toArray)), (36, SP.is (.int .i64 er)), (1000, SP.any)] := ⟨_, rfl⟩
        refine wp_region_down (by kernel_rfl) (fun listed ac W => listed.size = 14 ∧ Fp D a0 listed ac W ∧ Below w.heap.size w W ∧ Row W ba (if listed.getD 13 false = true then cr else ch) 33 ∧ Gro (· = ba) wr W) ?_ ?_ ?_
        · exact ⟨by simp, Fp.start D a0 _ _, Below.drew hb1, (by rw [if_neg (fun h => start_no h)]; exact Row.drew rA), gV.below (Below.drew (Below.refl _ _))⟩
        · clear ha0 hb1 rA gV 
          intro listed ac W k hI hdn hk
          obtain ⟨hl, hF, hb1, rA, gV⟩ := hI
          have hk1 : k < 14 := List.mem_range.1 (List.mem_filter.1 hk).1
          have hl2 : ∀ j, (listed.setIfInBounds j true).size = 14 := fun j => by rw [Array.size_setIfInBounds]; exact hl
          rcases (show k = 0 ∨ k = 1 ∨ k = 2 ∨ k = 3 ∨ k = 4 ∨ k = 5 ∨ k = 6 ∨ k = 7 ∨ k = 8 ∨ k = 9 ∨ k = 10 ∨ k = 11 ∨ k = 12 ∨ k = 13 by omega) with rfl | rfl | rfl | rfl | rfl | rfl | rfl | rfl | rfl | rfl | rfl | rfl | rfl | rfl
          · have hk3 := hk
            have hnq : ¬ listed.getD 13 false = true := fun h => not_yet hk (hdn 13 h 0 (by kernel_rfl))
            have rA9 := rA
            rw [if_neg hnq] at rA9
            have ea := ((hF.keep 3 (by rw [hD]; rfl)).trans zs3)
            exact wpOp_plain rfl rfl (wp_load_mid 33 (.tmp 3) rfl ba 0 ea ch _ (rA9.all) Try.underlying33 rfl HWH.out.info ⟨hl2 0, (hF.put 0 25 (SP.is (.agg ch.toArray)) (.agg ch.toArray) (by rw [hD]; rfl) rfl (by rw [hD]; rfl) (by rw [hsz]; decide) (by rw [hl]; decide)), hb1, (by rw [getD_set _ _ _ (by decide)]; exact rA), gV⟩)
          · have hk3 := hk
            exact wpOp_plain rfl rfl (wp_move_v (ac.eval (.tmp 0)) rfl rfl ⟨hl2 1, (hF.put 1 26 (SP.is (.pointer (some ⟨q, 0, none⟩))) (ac.eval (.tmp 0)) (by rw [hD]; rfl) (((hF.keep 0 (by rw [hD]; rfl)).trans zs0)) (by rw [hD]; rfl) (by rw [hsz]; decide) (by rw [hl]; decide)), hb1, (by rw [getD_set _ _ _ (by decide)]; exact rA), gV⟩)
          · have hk3 := hk
            have ea := (hF.done 1 (26, SP.is (.pointer (some ⟨q, 0, none⟩))) (by rw [hD]; rfl) (ready_dep hk 1 (by kernel_rfl)))
            exact wpOp_plain rfl rfl (wp_nilc q rfl ea ⟨hl2 2, (hF.put 2 27 (SP.is (.pointer (some ⟨q, 0, none⟩))) (.pointer (some ⟨q, 0, none⟩)) (by rw [hD]; rfl) rfl (by rw [hD]; rfl) (by rw [hsz]; decide) (by rw [hl]; decide)), hb1, (by rw [getD_set _ _ _ (by decide)]; exact rA), gV⟩)
          · have hk3 := hk
            have ea := (hF.done 2 (27, SP.is (.pointer (some ⟨q, 0, none⟩))) (by rw [hD]; rfl) (ready_dep hk 2 (by kernel_rfl)))
            exact wpOp_plain rfl rfl (wp_rf0 q rfl ea ⟨hl2 3, (hF.put 3 28 (SP.is (.pointer (some ⟨q, 0, none⟩))) (.pointer (some ⟨q, 0, none⟩)) (by rw [hD]; rfl) rfl (by rw [hD]; rfl) (by rw [hsz]; decide) (by rw [hl]; decide)), hb1, (by rw [getD_set _ _ _ (by decide)]; exact rA), gV⟩)
          · have hk3 := hk
            have ea := (hF.done 3 (28, SP.is (.pointer (some ⟨q, 0, none⟩))) (by rw [hD]; rfl) (ready_dep hk 3 (by kernel_rfl)))
            exact wpOp_plain rfl rfl (wp_load_1 q 0 (.slice (some ⟨bb, oo, none⟩) n cap) rfl ea (run_load_as W q 0 _ (HC0.out W hb1)) ⟨hl2 4, (hF.put 4 29 (SP.is (.slice (some ⟨bb, oo, none⟩) n cap)) (.slice (some ⟨bb, oo, none⟩) n cap) (by rw [hD]; rfl) rfl (by rw [hD]; rfl) (by rw [hsz]; decide) (by rw [hl]; decide)), hb1, (by rw [getD_set _ _ _ (by decide)]; exact rA), gV⟩)
          · have hk3 := hk
            exact wpOp_plain rfl rfl (wp_move_v (ac.eval (.tmp 4)) rfl rfl ⟨hl2 5, (hF.put 5 30 (SP.is (.int .i64 (i : Int))) (ac.eval (.tmp 4)) (by rw [hD]; rfl) (((hF.keep 4 (by rw [hD]; rfl)).trans zs4)) (by rw [hD]; rfl) (by rw [hsz]; decide) (by rw [hl]; decide)), hb1, (by rw [getD_set _ _ _ (by decide)]; exact rA), gV⟩)
          · have hk3 := hk
            have ea := (hF.done 4 (29, SP.is (.slice (some ⟨bb, oo, none⟩) n cap)) (by rw [hD]; rfl) (ready_dep hk 4 (by kernel_rfl)))
            have eb := (hF.done 5 (30, SP.is (.int .i64 (i : Int))) (by rw [hD]; rfl) (ready_dep hk 5 (by kernel_rfl)))
            exact wpOp_plain rfl rfl (wp_ixsU 73 91 rfl bb oo n cap i 7 ea eb HIN.out und_As info_Ac ⟨hl2 6, (hF.put 6 31 (SP.is (.pointer (some ⟨bb, oo + i * 7, none⟩))) (.pointer (some ⟨bb, oo + i * 7, none⟩)) (by rw [hD]; rfl) rfl (by rw [hD]; rfl) (by rw [hsz]; decide) (by rw [hl]; decide)), hb1, (by rw [getD_set _ _ _ (by decide)]; exact rA), gV⟩)
          · have hk3 := hk
            have ea := (hF.done 6 (31, SP.is (.pointer (some ⟨bb, oo + i * 7, none⟩))) (by rw [hD]; rfl) (ready_dep hk 6 (by kernel_rfl)))
            exact wpOp_plain rfl rfl (wp_af3 bb (oo + i * 7) rfl ea ⟨hl2 7, (hF.put 7 32 (SP.is (.pointer (some ⟨bb, oo + i * 7 + 3, none⟩))) (.pointer (some ⟨bb, oo + i * 7 + 3, none⟩)) (by rw [hD]; rfl) rfl (by rw [hD]; rfl) (by rw [hsz]; decide) (by rw [hl]; decide)), hb1, (by rw [getD_set _ _ _ (by decide)]; exact rA), gV⟩)
          · have hk3 := hk
            have ea := (hF.done 7 (32, SP.is (.pointer (some ⟨bb, oo + i * 7 + 3, none⟩))) (by rw [hD]; rfl) (ready_dep hk 7 (by kernel_rfl)))
            exact wpOp_plain rfl rfl (wp_load_mid 33 (.tmp 32) rfl bb (oo + i * 7 + 3) ea cm _ (HC3.out W hb1) Try.underlying33 rfl HWM.out.info ⟨hl2 8, (hF.put 8 33 (SP.is (.agg cm.toArray)) (.agg cm.toArray) (by rw [hD]; rfl) rfl (by rw [hD]; rfl) (by rw [hsz]; decide) (by rw [hl]; decide)), hb1, (by rw [getD_set _ _ _ (by decide)]; exact rA), gV⟩)
          · have hk3 := hk
            have ea := (hF.done 0 (25, SP.is (.agg ch.toArray)) (by rw [hD]; rfl) (ready_dep hk 0 (by kernel_rfl)))
            have eb := (hF.done 8 (33, SP.is (.agg cm.toArray)) (by rw [hD]; rfl) (ready_dep hk 8 (by kernel_rfl)))
            refine wpOp_plain rfl rfl (wp_fcall_v 17 #[.agg ch.toArray, .agg cm.toArray] rfl rfl (by show [ac.eval (.tmp 25), ac.eval (.tmp 33)] = _; rw [show ac.eval (.tmp 25) = _ from ea, show ac.eval (.tmp 33) = _ from eb]) (by go_simp) ((HAR.out W).mono ?_))
            rintro e W2 ⟨rfl, hB⟩
            exact ⟨_, rfl, hl2 9, ((hF.world hB).put 9 34 (SP.is (.tuple #[.agg cr.toArray, .int .i64 er])) (.tuple #[.agg cr.toArray, .int .i64 er]) (by rw [hD]; rfl) rfl (by rw [hD]; rfl) (by rw [hsz]; decide) (by rw [hl]; decide)), hb1.trans (hB.mono hb1.size), (by rw [getD_set _ _ _ (by decide)]; exact Row.below rA hB (Row.lt rA)), gV.below hB⟩
          · have hk3 := hk
            exact wpOp_plain rfl rfl (wp_move_v (ac.eval (.tmp 34)) rfl rfl ⟨hl2 10, (hF.put 10 24 (SP.is (.tuple #[.agg cr.toArray, .int .i64 er])) (ac.eval (.tmp 34)) (by rw [hD]; rfl) ((hF.done 9 (34, SP.is (.tuple #[.agg cr.toArray, .int .i64 er])) (by rw [hD]; rfl) (ready_dep hk 9 (by kernel_rfl)))) (by rw [hD]; rfl) (by rw [hsz]; decide) (by rw [hl]; decide)), hb1, (by rw [getD_set _ _ _ (by decide)]; exact rA), gV⟩)
          · have hk3 := hk
            exact wpOp_plain rfl rfl (wp_extract (.tmp 24) 0 rfl _ (hF.done 10 (24, SP.is (.tuple #[.agg cr.toArray, .int .i64 er])) (by rw [hD]; rfl) (ready_dep hk 10 (by kernel_rfl))) (.agg cr.toArray) rfl ⟨hl2 11, (hF.put 11 35 (SP.is (.agg cr.toArray)) (.agg cr.toArray) (by rw [hD]; rfl) rfl (by rw [hD]; rfl) (by rw [hsz]; decide) (by rw [hl]; decide)), hb1, (by rw [getD_set _ _ _ (by decide)]; exact rA), gV⟩)
          · have hk3 := hk
            exact wpOp_plain rfl rfl (wp_extract (.tmp 24) 1 rfl _ (hF.done 10 (24, SP.is (.tuple #[.agg cr.toArray, .int .i64 er])) (by rw [hD]; rfl) (ready_dep hk 10 (by kernel_rfl))) (.int .i64 er) rfl ⟨hl2 12, (hF.put 12 36 (SP.is (.int .i64 er)) (.int .i64 er) (by rw [hD]; rfl) rfl (by rw [hD]; rfl) (by rw [hsz]; decide) (by rw [hl]; decide)), hb1, (by rw [getD_set _ _ _ (by decide)]; exact rA), gV⟩)
          · have hk3 := hk
            have hno : ¬ listed.getD 13 false = true := not_yet hk
            rw [if_neg hno] at rA
            have T := rA.there 0 cr.toArray.size (by rw [List.size_toArray, HWR.out.len, HWH.out.len]; decide)
            have fin := rA.over (vs := cr) (HWR.out.len.trans HWH.out.len.symm)
            have hT : Fp D a0 listed ac (W.setCells ba 0 cr) := hF.turn (by rw [hD]; simp only [List.forall_mem_cons, List.not_mem_nil, false_implies, implies_true, and_true]; exact ⟨fun _ h => h, fun _ h => h, fun _ h => h, fun _ h => h, fun _ h => h, fun _ h => h, fun _ h => h, fun _ h => h, fun _ h => h, fun _ h => h, fun _ h => h, fun _ h => h, fun _ h => h, fun _ h => h⟩)
            exact wpOp_plain rfl rfl (wp_store_mid 33 (.tmp 3) (.tmp 35) rfl ba 0 cr.toArray ((hF.keep 3 (by rw [hD]; rfl)).trans zs3) (hF.done 11 (35, SP.is (.agg cr.toArray)) (by rw [hD]; rfl) (ready_dep hk 11 (by kernel_rfl))) T HWR.out.info' HWR.out.one ⟨hl2 13, (hT.skip 13 1000 (by rw [hD]; rfl) (by rw [hl]; decide)), below_setCells hb1 (by omega) _, (by rw [if_pos (getD_same (by rw [hl]; decide))]; exact fin), gV.trans (gro_sets W ba 0 cr)⟩)
        · clear hb1 rA gV 
          intro listed ac W hI hr
          obtain ⟨hl, hF, hb1, rA, gV⟩ := hI
          have hall := all_listed (by kernel_rfl) hl hr
          rw [if_pos (hall 13 (by decide))] at rA
          have h25 : ac.eval (.tmp 25) = .agg ch.toArray := hF.done 0 (25, SP.is (.agg ch.toArray)) (by rw [hD]; rfl) (hall 0 (by decide))
          have h26 : ac.eval (.tmp 26) = .pointer (some ⟨q, 0, none⟩) := hF.done 1 (26, SP.is (.pointer (some ⟨q, 0, none⟩))) (by rw [hD]; rfl) (hall 1 (by decide))
          have h27 : ac.eval (.tmp 27) = .pointer (some ⟨q, 0, none⟩) := hF.done 2 (27, SP.is (.pointer (some ⟨q, 0, none⟩))) (by rw [hD]; rfl) (hall 2 (by decide))
          have h28 : ac.eval (.tmp 28) = .pointer (some ⟨q, 0, none⟩) := hF.done 3 (28, SP.is (.pointer (some ⟨q, 0, none⟩))) (by rw [hD]; rfl) (hall 3 (by decide))
          have h29 : ac.eval (.tmp 29) = .slice (some ⟨bb, oo, none⟩) n cap := hF.done 4 (29, SP.is (.slice (some ⟨bb, oo, none⟩) n cap)) (by rw [hD]; rfl) (hall 4 (by decide))
          have h30 : ac.eval (.tmp 30) = .int .i64 (i : Int) := hF.done 5 (30, SP.is (.int .i64 (i : Int))) (by rw [hD]; rfl) (hall 5 (by decide))
          have h31 : ac.eval (.tmp 31) = .pointer (some ⟨bb, oo + i * 7, none⟩) := hF.done 6 (31, SP.is (.pointer (some ⟨bb, oo + i * 7, none⟩))) (by rw [hD]; rfl) (hall 6 (by decide))
          have h32 : ac.eval (.tmp 32) = .pointer (some ⟨bb, oo + i * 7 + 3, none⟩) := hF.done 7 (32, SP.is (.pointer (some ⟨bb, oo + i * 7 + 3, none⟩))) (by rw [hD]; rfl) (hall 7 (by decide))
          have h33 : ac.eval (.tmp 33) = .agg cm.toArray := hF.done 8 (33, SP.is (.agg cm.toArray)) (by rw [hD]; rfl) (hall 8 (by decide))
          have h34 : ac.eval (.tmp 34) = .tuple #[.agg cr.toArray, .int .i64 er] := hF.done 9 (34, SP.is (.tuple #[.agg cr.toArray, .int .i64 er])) (by rw [hD]; rfl) (hall 9 (by decide))
          have h24 : ac.eval (.tmp 24) = .tuple #[.agg cr.toArray, .int .i64 er] := hF.done 10 (24, SP.is (.tuple #[.agg cr.toArray, .int .i64 er])) (by rw [hD]; rfl) (hall 10 (by decide))
          have h35 : ac.eval (.tmp 35) = .agg cr.toArray := hF.done 11 (35, SP.is (.agg cr.toArray)) (by rw [hD]; rfl) (hall 11 (by decide))
          have h36 : ac.eval (.tmp 36) = .int .i64 er := hF.done 12 (36, SP.is (.int .i64 er)) (by rw [hD]; rfl) (hall 12 (by decide))
          have ea := hF.lay [(25, .agg ch.toArray), (26, .pointer (some ⟨q, 0, none⟩)), (27, .pointer (some ⟨q, 0, none⟩)), (28, .pointer (some ⟨q, 0, none⟩)), (29, .slice (some ⟨bb, oo, none⟩) n cap), (30, .int .i64 (i : Int)), (31, .pointer (some ⟨bb, oo + i * 7, none⟩)), (32, .pointer (some ⟨bb, oo + i * 7 + 3, none⟩)), (33, .agg cm.toArray), (34, .tuple #[.agg cr.toArray, .int .i64 er]), (24, .tuple #[.agg cr.toArray, .int .i64 er]), (35, .agg cr.toArray), (36, .int .i64 er)] (by rw [hD, hsz]; rfl) (by simp only [List.forall_mem_cons, List.not_mem_nil, false_implies, implies_true, and_true]; exact ⟨h25, h26, h27, h28, h29, h30, h31, h32, h33, h34, h24, h35, h36⟩)
          rw [ha0] at ea
          simp only [List.foldl_cons, List.foldl_nil, List.setIfInBounds_toArray, List.set_cons_zero, List.set_cons_succ] at ea
          clear hF hall hr hl hD  zs0 zs3 zs4 ha0 hsz h25 h26 h27 h28 h29 h30 h31 h32 h33 h34 h24 h35 h36
          subst ea
          have HN : Hid (Ha w W ba b4 (addR h r.m)) := ⟨by rw [← HWR.out]; exact rA, gV.row HA.out.z HA.out.n.2.2, hb1, HA.out.n, HRL.out⟩
          clear gV rA hb1
          go_wp2_with fail
          go_roundw
          case rel => exact ⟨n1, _, HM.out.2.2, rfl, HM.out.1.trans (by unfold stepK; rw [if_pos HKT.out.1.symm]), HN⟩
          case measure => have := HM.out; simp [intOf]; omega
      · obtain ⟨cr, hcr⟩ : ∃ c, c = vQ (dgs (subR h r.m) 4) := ⟨_, rfl⟩
        have HWR : Hid (Wc cr (subR h r.m)) := hcr
        obtain ⟨er, her⟩ : ∃ e, e = subE h r.m := ⟨_, rfl⟩
        have HAR : Hid (∀ X, Calls Try.prog 18 #[.agg ch.toArray, .agg cm.toArray] X fun e w' => e = .returned (.tuple #[.agg cr.toArray, .int .i64 er]) ∧ Below X.heap.size X w') := fun X => by
          have h9 := refSub_c h r.m HA.out.l HRM.out X
          rw [← HWH.out, ← HWM.out, ← hcr, ← her] at h9
          exact h9
        have HRL : Hid (subR h r.m < 2 ^ 256) := subR_lt' h r.m HA.out.l
        clear hcr her
        go_upto_region 9 with (refine wpList_ixsU 73 91 (.tmp 17) (.tmp 18) rfl bb oo n cap i 7 rfl rfl HIN.out und_As info_Ac rfl ?_)
        have hb1 := HA.out.be
        have rA : Row wr ba ch 33 := by rw [HWH.out]; exact HA.out.r
        have gV := Gro.refl (· = ba) wr
        have hlow : w.heap.size ≤ ba := HA.out.n.1
        refine wp_named fun a0 ha0 => ?_
        have hsz : a0.tmps.size = 53 := by rw [ha0]; rfl
        have zs0 : a0.eval (.tmp 0) = .pointer (some ⟨q, 0, none⟩) := by rw [ha0]; rfl
        have zs3 : a0.eval (.tmp 3) = .pointer (some ⟨ba, 0, none⟩) := by rw [ha0]; rfl
        have zs4 : a0.eval (.tmp 4) = .int .i64 (i : Int) := by rw [ha0]; rfl
        obtain ⟨D, hD⟩ : ∃ D : List (Tmp × SP), D = [(40, SP.is (.agg ch.toArray)), (41, SP.is (.pointer (some ⟨q, 0, none⟩))), (42, SP.is (.pointer (some ⟨q, 0, none⟩))), (43, SP.is (.pointer (some ⟨q, 0, none⟩))), (44, SP.is (.slice (some ⟨bb, oo, none⟩) n cap)), (45, SP.is (.int .i64 (i : Int))), (46, SP.is (.pointer (some ⟨bb, oo + i * 7, none⟩))), (47, SP.is (.pointer (some ⟨bb, oo + i * 7 + 3, none⟩))), (48, SP.is (.agg cm.toArray)), (49, SP.is (.tuple #[.agg cr.toArray, .int .i64 er])), (39, SP.is (.tuple #[.agg cr.toArray, .int .i64 er])), (50, SP.is (.agg cr.toArray)), (51, SP.is (.int .i64 er)), (1000, SP.any)] := ⟨_, rfl⟩
        refine wp_region_down (by kernel_rfl) (fun listed ac W => listed.size = 14 ∧ Fp D a0 listed ac W ∧ Below w.heap.size w W ∧ Row W ba (if listed.getD 13 false = true then cr else ch) 33 ∧ Gro (· = ba) wr W) ?_ ?_ ?_
        · exact ⟨by simp, Fp.start D a0 _ _, Below.drew hb1, (by rw [if_neg (fun h => start_no h)]; exact Row.drew rA), gV.below (Below.drew (Below.refl _ _))⟩
        · clear ha0 hb1 rA gV 
          intro listed ac W k hI hdn hk
          obtain ⟨hl, hF, hb1, rA, gV⟩ := hI
          have hk1 : k < 14 := List.mem_range.1 (List.mem_filter.1 hk).1
          have hl2 : ∀ j, (listed.setIfInBounds j true).size = 14 := fun j => by rw [Array.size_setIfInBounds]; exact hl
          rcases (show k = 0 ∨ k = 1 ∨ k = 2 ∨ k = 3 ∨ k = 4 ∨ k = 5 ∨ k = 6 ∨ k = 7 ∨ k = 8 ∨ k = 9 ∨ k = 10 ∨ k = 11 ∨ k = 12 ∨ k = 13 by omega) with rfl | rfl | rfl | rfl | rfl | rfl | rfl | rfl | rfl | rfl | rfl | rfl | rfl | rfl
          · have hk3 := hk
            have hnq : ¬ listed.getD 13 false = true := fun h => not_yet hk (hdn 13 h 0 (by kernel_rfl))
            have rA9 := rA
            rw [if_neg hnq] at rA9
            have ea := ((hF.keep 3 (by rw [hD]; rfl)).trans zs3)
            exact wpOp_plain rfl rfl (wp_load_mid 33 (.tmp 3) rfl ba 0 ea ch _ (rA9.all) Try.underlying33 rfl HWH.out.info ⟨hl2 0, (hF.put 0 40 (SP.is (.agg ch.toArray)) (.agg ch.toArray) (by rw [hD]; rfl) rfl (by rw [hD]; rfl) (by rw [hsz]; decide) (by rw [hl]; decide)), hb1, (by rw [getD_set _ _ _ (by decide)]; exact rA), gV⟩)
          · have hk3 := hk
            exact wpOp_plain rfl rfl (wp_move_v (ac.eval (.tmp 0)) rfl rfl ⟨hl2 1, (hF.put 1 41 (SP.is (.pointer (some ⟨q, 0, none⟩))) (ac.eval (.tmp 0)) (by rw [hD]; rfl) (((hF.keep 0 (by rw [hD]; rfl)).trans zs0)) (by rw [hD]; rfl) (by rw [hsz]; decide) (by rw [hl]; decide)), hb1, (by rw [getD_set _ _ _ (by decide)]; exact rA), gV⟩)
          · have hk3 := hk
            have ea := (hF.done 1 (41, SP.is (.pointer (some ⟨q, 0, none⟩))) (by rw [hD]; rfl) (ready_dep hk 1 (by kernel_rfl)))
            exact wpOp_plain rfl rfl (wp_nilc q rfl ea ⟨hl2 2, (hF.put 2 42 (SP.is (.pointer (some ⟨q, 0, none⟩))) (.pointer (some ⟨q, 0, none⟩)) (by rw [hD]; rfl) rfl (by rw [hD]; rfl) (by rw [hsz]; decide) (by rw [hl]; decide)), hb1, (by rw [getD_set _ _ _ (by decide)]; exact rA), gV⟩)
          · have hk3 := hk
            have ea := (hF.done 2 (42, SP.is (.pointer (some ⟨q, 0, none⟩))) (by rw [hD]; rfl) (ready_dep hk 2 (by kernel_rfl)))
            exact wpOp_plain rfl rfl (wp_rf0 q rfl ea ⟨hl2 3, (hF.put 3 43 (SP.is (.pointer (some ⟨q, 0, none⟩))) (.pointer (some ⟨q, 0, none⟩)) (by rw [hD]; rfl) rfl (by rw [hD]; rfl) (by rw [hsz]; decide) (by rw [hl]; decide)), hb1, (by rw [getD_set _ _ _ (by decide)]; exact rA), gV⟩)
          · have hk3 := hk
            have ea := (hF.done 3 (43, SP.is (.pointer (some ⟨q, 0, none⟩))) (by rw [hD]; rfl) (ready_dep hk 3 (by kernel_rfl)))
            exact wpOp_plain rfl rfl (wp_load_1 q 0 (.slice (some ⟨bb, oo, none⟩) n cap) rfl ea (run_load_as W q 0 _ (HC0.out W hb1)) ⟨hl2 4, (hF.put 4 44 (SP.is (.slice (some ⟨bb, oo, none⟩) n cap)) (.slice (some ⟨bb, oo, none⟩) n cap) (by rw [hD]; rfl) rfl (by rw [hD]; rfl) (by rw [hsz]; decide) (by rw [hl]; decide)), hb1, (by rw [getD_set _ _ _ (by decide)]; exact rA), gV⟩)
          · have hk3 := hk
            exact wpOp_plain rfl rfl (wp_move_v (ac.eval (.tmp 4)) rfl rfl ⟨hl2 5, (hF.put 5 45 (SP.is (.int .i64 (i : Int))) (ac.eval (.tmp 4)) (by rw [hD]; rfl) (((hF.keep 4 (by rw [hD]; rfl)).trans zs4)) (by rw [hD]; rfl) (by rw [hsz]; decide) (by rw [hl]; decide)), hb1, (by rw [getD_set _ _ _ (by decide)]; exact rA), gV⟩)
          · have hk3 := hk
            have ea := (hF.done 4 (44, SP.is (.slice (some ⟨bb, oo, none⟩) n cap)) (by rw [hD]; rfl) (ready_dep hk 4 (by kernel_rfl)))
            have eb := (hF.done 5 (45, SP.is (.int .i64 (i : Int))) (by rw [hD]; rfl) (ready_dep hk 5 (by kernel_rfl)))
            exact wpOp_plain rfl rfl (wp_ixsU 73 91 rfl bb oo n cap i 7 ea eb HIN.out und_As info_Ac ⟨hl2 6, (hF.put 6 46 (SP.is (.pointer (some ⟨bb, oo + i * 7, none⟩))) (.pointer (some ⟨bb, oo + i * 7, none⟩)) (by rw [hD]; rfl) rfl (by rw [hD]; rfl) (by rw [hsz]; decide) (by rw [hl]; decide)), hb1, (by rw [getD_set _ _ _ (by decide)]; exact rA), gV⟩)
          · have hk3 := hk
            have ea := (hF.done 6 (46, SP.is (.pointer (some ⟨bb, oo + i * 7, none⟩))) (by rw [hD]; rfl) (ready_dep hk 6 (by kernel_rfl)))
            exact wpOp_plain rfl rfl (wp_af3 bb (oo + i * 7) rfl ea ⟨hl2 7, (hF.put 7 47 (SP.is (.pointer (some ⟨bb, oo + i * 7 + 3, none⟩))) (.pointer (some ⟨bb, oo + i * 7 + 3, none⟩)) (by rw [hD]; rfl) rfl (by rw [hD]; rfl) (by rw [hsz]; decide) (by rw [hl]; decide)), hb1, (by rw [getD_set _ _ _ (by decide)]; exact rA), gV⟩)
          · have hk3 := hk
            have ea := (hF.done 7 (47, SP.is (.pointer (some ⟨bb, oo + i * 7 + 3, none⟩))) (by rw [hD]; rfl) (ready_dep hk 7 (by kernel_rfl)))
            exact wpOp_plain rfl rfl (wp_load_mid 33 (.tmp 47) rfl bb (oo + i * 7 + 3) ea cm _ (HC3.out W hb1) Try.underlying33 rfl HWM.out.info ⟨hl2 8, (hF.put 8 48 (SP.is (.agg cm.toArray)) (.agg cm.toArray) (by rw [hD]; rfl) rfl (by rw [hD]; rfl) (by rw [hsz]; decide) (by rw [hl]; decide)), hb1, (by rw [getD_set _ _ _ (by decide)]; exact rA), gV⟩)
          · have hk3 := hk
            have ea := (hF.done 0 (40, SP.is (.agg ch.toArray)) (by rw [hD]; rfl) (ready_dep hk 0 (by kernel_rfl)))
            have eb := (hF.done 8 (48, SP.is (.agg cm.toArray)) (by rw [hD]; rfl) (ready_dep hk 8 (by kernel_rfl)))
            refine wpOp_plain rfl rfl (wp_fcall_v 18 #[.agg ch.toArray, .agg cm.toArray] rfl rfl (by show [ac.eval (.tmp 40), ac.eval (.tmp 48)] = _; rw [show ac.eval (.tmp 40) = _ from ea, show ac.eval (.tmp 48) = _ from eb]) (by go_simp) ((HAR.out W).mono ?_))
            rintro e W2 ⟨rfl, hB⟩
            exact ⟨_, rfl, hl2 9, ((hF.world hB).put 9 49 (SP.is (.tuple #[.agg cr.toArray, .int .i64 er])) (.tuple #[.agg cr.toArray, .int .i64 er]) (by rw [hD]; rfl) rfl (by rw [hD]; rfl) (by rw [hsz]; decide) (by rw [hl]; decide)), hb1.trans (hB.mono hb1.size), (by rw [getD_set _ _ _ (by decide)]; exact Row.below rA hB (Row.lt rA)), gV.below hB⟩
          · have hk3 := hk
            exact wpOp_plain rfl rfl (wp_move_v (ac.eval (.tmp 49)) rfl rfl ⟨hl2 10, (hF.put 10 39 (SP.is (.tuple #[.agg cr.toArray, .int .i64 er])) (ac.eval (.tmp 49)) (by rw [hD]; rfl) ((hF.done 9 (49, SP.is (.tuple #[.agg cr.toArray, .int .i64 er])) (by rw [hD]; rfl) (ready_dep hk 9 (by kernel_rfl)))) (by rw [hD]; rfl) (by rw [hsz]; decide) (by rw [hl]; decide)), hb1, (by rw [getD_set _ _ _ (by decide)]; exact rA), gV⟩)
          · have hk3 := hk
            exact wpOp_plain rfl rfl (wp_extract (.tmp 39) 0 rfl _ (hF.done 10 (39, SP.is (.tuple #[.agg cr.toArray, .int .i64 er])) (by rw [hD]; rfl) (ready_dep hk 10 (by kernel_rfl))) (.agg cr.toArray) rfl ⟨hl2 11, (hF.put 11 50 (SP.is (.agg cr.toArray)) (.agg cr.toArray) (by rw [hD]; rfl) rfl (by rw [hD]; rfl) (by rw [hsz]; decide) (by rw [hl]; decide)), hb1, (by rw [getD_set _ _ _ (by decide)]; exact rA), gV⟩)
          · have hk3 := hk
            exact wpOp_plain rfl rfl (wp_extract (.tmp 39) 1 rfl _ (hF.done 10 (39, SP.is (.tuple #[.agg cr.toArray, .int .i64 er])) (by rw [hD]; rfl) (ready_dep hk 10 (by kernel_rfl))) (.int .i64 er) rfl ⟨hl2 12, (hF.put 12 51 (SP.is (.int .i64 er)) (.int .i64 er) (by rw [hD]; rfl) rfl (by rw [hD]; rfl) (by rw [hsz]; decide) (by rw [hl]; decide)), hb1, (by rw [getD_set _ _ _ (by decide)]; exact rA), gV⟩)
          · have hk3 := hk
            have hno : ¬ listed.getD 13 false = true := not_yet hk
            rw [if_neg hno] at rA
            have T := rA.there 0 cr.toArray.size (by rw [List.size_toArray, HWR.out.len, HWH.out.len]; decide)
            have fin := rA.over (vs := cr) (HWR.out.len.trans HWH.out.len.symm)
            have hT : Fp D a0 listed ac (W.setCells ba 0 cr) := hF.turn (by rw [hD]; simp only [List.forall_mem_cons, List.not_mem_nil, false_implies, implies_true, and_true]; exact ⟨fun _ h => h, fun _ h => h, fun _ h => h, fun _ h => h, fun _ h => h, fun _ h => h, fun _ h => h, fun _ h => h, fun _ h => h, fun _ h => h, fun _ h => h, fun _ h => h, fun _ h => h, fun _ h => h⟩)
            exact wpOp_plain rfl rfl (wp_store_mid 33 (.tmp 3) (.tmp 50) rfl ba 0 cr.toArray ((hF.keep 3 (by rw [hD]; rfl)).trans zs3) (hF.done 11 (50, SP.is (.agg cr.toArray)) (by rw [hD]; rfl) (ready_dep hk 11 (by kernel_rfl))) T HWR.out.info' HWR.out.one ⟨hl2 13, (hT.skip 13 1000 (by rw [hD]; rfl) (by rw [hl]; decide)), below_setCells hb1 (by omega) _, (by rw [if_pos (getD_same (by rw [hl]; decide))]; exact fin), gV.trans (gro_sets W ba 0 cr)⟩)
        · clear hb1 rA gV 
          intro listed ac W hI hr
          obtain ⟨hl, hF, hb1, rA, gV⟩ := hI
          have hall := all_listed (by kernel_rfl) hl hr
          rw [if_pos (hall 13 (by decide))] at rA
          have h40 : ac.eval (.tmp 40) = .agg ch.toArray := hF.done 0 (40, SP.is (.agg ch.toArray)) (by rw [hD]; rfl) (hall 0 (by decide))
          have h41 : ac.eval (.tmp 41) = .pointer (some ⟨q, 0, none⟩) := hF.done 1 (41, SP.is (.pointer (some ⟨q, 0, none⟩))) (by rw [hD]; rfl) (hall 1 (by decide))
          have h42 : ac.eval (.tmp 42) = .pointer (some ⟨q, 0, none⟩) := hF.done 2 (42, SP.is (.pointer (some ⟨q, 0, none⟩))) (by rw [hD]; rfl) (hall 2 (by decide))
          have h43 : ac.eval (.tmp 43) = .pointer (some ⟨q, 0, none⟩) := hF.done 3 (43, SP.is (.pointer (some ⟨q, 0, none⟩))) (by rw [hD]; rfl) (hall 3 (by decide))
          have h44 : ac.eval (.tmp 44) = .slice (some ⟨bb, oo, none⟩) n cap := hF.done 4 (44, SP.is (.slice (some ⟨bb, oo, none⟩) n cap)) (by rw [hD]; rfl) (hall 4 (by decide))
          have h45 : ac.eval (.tmp 45) = .int .i64 (i : Int) := hF.done 5 (45, SP.is (.int .i64 (i : Int))) (by rw [hD]; rfl) (hall 5 (by decide))
          have h46 : ac.eval (.tmp 46) = .pointer (some ⟨bb, oo + i * 7, none⟩) := hF.done 6 (46, SP.is (.pointer (some ⟨bb, oo + i * 7, none⟩))) (by rw [hD]; rfl) (hall 6 (by decide))
          have h47 : ac.eval (.tmp 47) = .pointer (some ⟨bb, oo + i * 7 + 3, none⟩) := hF.done 7 (47, SP.is (.pointer (some ⟨bb, oo + i * 7 + 3, none⟩))) (by rw [hD]; rfl) (hall 7 (by decide))
          have h48 : ac.eval (.tmp 48) = .agg cm.toArray := hF.done 8 (48, SP.is (.agg cm.toArray)) (by rw [hD]; rfl) (hall 8 (by decide))
          have h49 : ac.eval (.tmp 49) = .tuple #[.agg cr.toArray, .int .i64 er] := hF.done 9 (49, SP.is (.tuple #[.agg cr.toArray, .int .i64 er])) (by rw [hD]; rfl) (hall 9 (by decide))
          have h39 : ac.eval (.tmp 39) = .tuple #[.agg cr.toArray, .int .i64 er] := hF.done 10 (39, SP.is (.tuple #[.agg cr.toArray, .int .i64 er])) (by rw [hD]; rfl) (hall 10 (by decide))
          have h50 : ac.eval (.tmp 50) = .agg cr.toArray := hF.done 11 (50, SP.is (.agg cr.toArray)) (by rw [hD]; rfl) (hall 11 (by decide))
          have h51 : ac.eval (.tmp 51) = .int .i64 er := hF.done 12 (51, SP.is (.int .i64 er)) (by rw [hD]; rfl) (hall 12 (by decide))
          have ea := hF.lay [(40, .agg ch.toArray), (41, .pointer (some ⟨q, 0, none⟩)), (42, .pointer (some ⟨q, 0, none⟩)), (43, .pointer (some ⟨q, 0, none⟩)), (44, .slice (some ⟨bb, oo, none⟩) n cap), (45, .int .i64 (i : Int)), (46, .pointer (some ⟨bb, oo + i * 7, none⟩)), (47, .pointer (some ⟨bb, oo + i * 7 + 3, none⟩)), (48, .agg cm.toArray), (49, .tuple #[.agg cr.toArray, .int .i64 er]), (39, .tuple #[.agg cr.toArray, .int .i64 er]), (50, .agg cr.toArray), (51, .int .i64 er)] (by rw [hD, hsz]; rfl) (by simp only [List.forall_mem_cons, List.not_mem_nil, false_implies, implies_true, and_true]; exact ⟨h40, h41, h42, h43, h44, h45, h46, h47, h48, h49, h39, h50, h51⟩)
          rw [ha0] at ea
          simp only [List.foldl_cons, List.foldl_nil, List.setIfInBounds_toArray, List.set_cons_zero, List.set_cons_succ] at ea
          clear hF hall hr hl hD  zs0 zs3 zs4 ha0 hsz h40 h41 h42 h43 h44 h45 h46 h47 h48 h49 h39 h50 h51
          subst ea
          have HN : Hid (Ha w W ba b4 (subR h r.m)) := ⟨by rw [← HWR.out]; exact rA, gV.row HA.out.z HA.out.n.2.2, hb1, HA.out.n, HRL.out⟩
          clear gV rA hb1
          go_wp2_with fail
          go_roundw
          case rel => exact ⟨n1, _, HM.out.2.2, rfl, HM.out.1.trans (by unfold stepK; rw [if_neg (by rw [← HKT.out.1]; decide), if_pos HKT.out.1.symm]), HN⟩
          case measure => have := HM.out; simp [intOf]; omega
      · go_wp2_with (refine wpList_ixsU 73 91 (.tmp 17) (.tmp 18) rfl bb oo n cap i 7 rfl rfl HIN.out und_As info_Ac rfl ?_)
        go_roundw
        case rel => exact ⟨n1, h, HM.out.2.2, rfl, HM.out.1.trans (by unfold stepK; rw [if_neg (by rw [← HKT.out.1]; exact g0), if_neg (by rw [← HKT.out.1]; exact g1)]), HA⟩
        case measure => have := HM.out; simp [intOf]; omega
    · have HE : Hid (Row wr ba cres 33) := by
        have h9 := HA.out.r
        rw [← HX.out, show l.take i = l by rw [List.take_of_length_le]; rw [← HR.out.ln]; omega] at h9
        rw [HCR.out]
        exact h9
      clear HX
      go_wp2_with (first
        | (refine wpList_load_w rfl 33 (.tmp 3) rfl ba 0 rfl cres _ HE.out.all Try.underlying33 rfl HCR.out.info ?_)
        | (refine wpList_storeL rfl 33 (.tmp 2) (.tmp 52) rfl b4 cres (vQ (List.replicate 4 0)) 33 rfl rfl HA.out.z (HCR.out.len.trans zw_len.symm) HCR.out.info HCR.out.one ?_; intro X9 q1 q2; have R9 : Hid (Row X9 b4 cres 33) := q1; have B9 : Hid (Below w.heap.size w X9) := gro_new HA.out.be HA.out.n.2.1 q2; clear q1 q2))
      exact bodyPost_ret (results_row Try.results42 _ _ b4 33 cres rfl R9.out Try.underlying33 info_w4 HCR.out.len) rfl ⟨rfl, B9.out⟩


end Go.Proofs.Ytkbdnebmekhcdaa
