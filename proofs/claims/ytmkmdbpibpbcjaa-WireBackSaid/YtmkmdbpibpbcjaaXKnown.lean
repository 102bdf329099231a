/-
  wire: take, Number, End at the bytes of 256; the law's known.
-/
import Derived.Test.YtmkmdbpibpbcjaaXRd2

namespace Go.Proofs.Ytmkmdbpibpbcjaa
open Go Go.RowKit
open Sha

set_option maxRecDepth 100000 in
set_option maxHeartbeats 2000000 in
theorem seeNumber_256 (P g cap : Nat) (w : World) (h : Rd w P g cap three 0 0) :
    Calls Try.prog 91 #[.pointer (some ⟨P, 0, none⟩)] w fun e w' => e = .returned (.int .i64 256) ∧ Rd w' P g cap three 3 0 ∧ Gro (fun k => k = P) w w' := by
  have HD : Hid _ := seeDigits_256 P g cap w h
  clear h
  go_enter Try.func91, Try.ntmps91
  go_wp2_with fail
  refine Calls.mono HD.out ?_
  rintro e V ⟨rfl, hr, hg⟩
  have n0 : Row (V.alloc (Obj.cells q4z.toArray 30)) V.heap.size q4z 30 := Row.new' rfl rfl
  have T0 := n0.there 0 (q4 256 0 0 0).toArray.size (by decide)
  replace n0 := n0.over (vs := q4 256 0 0 0) rfl
  have hB : Below V.heap.size V ((V.alloc (Obj.cells q4z.toArray 30)).setCells V.heap.size 0 (q4 256 0 0 0)) := below_setCells ((Below.refl _ _).alloc (Nat.le_refl _) (Obj.cells q4z.toArray 30)) (b := V.heap.size) (o := 0) (Nat.le_refl _) (q4 256 0 0 0)
  replace hr := hr.be hB
  replace hg := hg.below hB
  clear hB
  have gc := n0.cell 0 _ rfl
  have HI : Hid ((Try.prog.info? 30).map (·.size) = some (q4 256 0 0 0).toArray.size) := info_q
  have HO : Hid ((q4 256 0 0 0).toArray.all (·.oneCell') = true) := all_oneCell_toArray (q4_one 256 0 0 0)
  have HR : Hid (Rd _ _ _ _ _ _ _) := hr
  have HG : Hid (Gro _ _ _) := hg
  clear n0 hr hg
  go_wp2_with (refine wpList_store_mid rfl 30 (.tmp 3) (.tmp 5) rfl V.heap.size 0 (q4 256 0 0 0).toArray rfl rfl T0 HI.out HO.out ?_; simp only [Act.put]; clear T0; (change wpList _ _ _ _ _ ((V.alloc (Obj.cells q4z.toArray 30)).setCells V.heap.size 0 (q4 256 0 0 0))); (generalize ((V.alloc (Obj.cells q4z.toArray 30)).setCells V.heap.size 0 (q4 256 0 0 0)) = X at *); (generalize hN : V.heap.size = N4 at *; clear hN))
  go_ret
  exact ⟨rfl, HR.out, HG.out⟩

set_option maxRecDepth 100000 in
theorem catch_idle (p q : Addr) (w : World) :
    CallsD Try.prog 125 #[.pointer (some p), .pointer (some q)] .returning w fun e u' w' => e = .returned (.tuple #[]) ∧ u' = .returning ∧ w' = w := by
  refine callsD_of_wpS Try.func125 rfl fun c₀ cs hu => ?_
  apply wpS_seq
  apply wpS_region
  simp [wpOpsS, go_sem, recoverD, hu, Try.ntmps125, Exit.thenS]
  apply wpS_seq
  apply wpS_region
  simp [wpOpsS, go_sem, Exit.thenS]
  refine wpS_cond (t := false) (by simp [Act.eval, Array.replicate]) ?_
  simp only [Bool.false_eq_true, if_false]
  refine wpS_of_wp (wp_skip ?_)
  cases c₀
  simp_all [bodyPostS, results, Try.results125]

end Go.Proofs.Ytmkmdbpibpbcjaa

namespace Go.Proofs.Ytmkmdbpibpbcjaa
open Go Go.RowKit
open Sha

set_option maxRecDepth 100000 in
set_option maxHeartbeats 2000000 in
theorem take_256 (P g cap : Nat) (w : World) (h : Rd w P g cap three 0 0) :
    Calls Try.prog 90 #[.pointer (some ⟨P, 0, none⟩), .func (.func 91) #[] #[]] w fun e w' => e = .returned (.int .i64 256) ∧ Rd w' P g cap three 3 0 ∧ Gro (fun k => k = P) w w' := by
  have hmf : ∀ (fn : Fn) (first cap : Array Value) (w : World), (Instr.makeFunc fn first cap).run Try.prog w = .ok (.func fn first cap) w := fun _ _ _ _ => rfl
  have b0 : Below w.heap.size w (w.alloc (Obj.cells #[.pointer (some ⟨P, 0, none⟩)] 43)) := (Below.refl _ _).alloc (Nat.le_refl _) _
  have b1 := b0.alloc b0.size (Obj.cells #[.int .i64 0] 3)
  have HR0 : Hid (Rd (w.alloc (Obj.cells #[.pointer (some ⟨P, 0, none⟩)] 43)) P g cap three 0 0) := h.be b0
  have HE : Hid _ := err_ok P _ 0 0 _ HR0.out.1
  have g1 := HR0.out.1.cell 1 _ rfl
  have HR1 : Hid (Rd ((w.alloc (Obj.cells #[.pointer (some ⟨P, 0, none⟩)] 43)).alloc (Obj.cells #[.int .i64 0] 3)) P g cap three 0 0) := HR0.out.be ((Below.refl _ _).alloc (Nat.le_refl _) _)
  have HB1 : Hid _ := b1
  clear h b0 b1
  go_enter_defers Try.func90, Try.ntmps90
  go_wp2_with (go_at_call 15; refine Calls.mono HE.out ?_; rintro e w2 ⟨rfl, rfl⟩)
  refine (seeNumber_256 P g cap _ HR1.out).mono ?_
  rintro e V ⟨rfl, hr, hg⟩
  have HR : Hid (Rd _ _ _ _ _ _ _) := hr
  have HG : Hid (Gro (fun k => k = P) w V) := (Gro.of_below HB1.out).trans hg
  clear hr hg
  go_wp2
  refine leaves_cons (f := 125) (args := #[.pointer (some ⟨w.heap.size + 1, 0, none⟩), .pointer (some ⟨w.heap.size, 0, none⟩)]) (by simp) (by simp [go_sem]) ?_
  refine (catch_idle ⟨w.heap.size + 1, 0, none⟩ ⟨w.heap.size, 0, none⟩ _).mono ?_
  rintro e u' w'' ⟨rfl, rfl, rfl⟩
  exact ⟨_, results_tmp rfl _ _ _, rfl, HR.out, HG.out⟩

set_option maxRecDepth 100000 in
theorem number_256 (P g cap : Nat) (w : World) (h : Rd w P g cap three 0 0) :
    Calls Try.prog 29 #[.pointer (some ⟨P, 0, none⟩)] w fun e w' => e = .returned (.int .i64 256) ∧ Rd w' P g cap three 3 0 ∧ Gro (fun k => k = P) w w' := by
  have HT : Hid _ := take_256 P g cap w h
  clear h
  go_enter Try.func29, Try.ntmps29
  go_wp2_with fail
  refine Calls.mono HT.out ?_
  rintro e V ⟨rfl, hr, hg⟩
  have HR : Hid (Rd _ _ _ _ _ _ _) := hr
  have HG : Hid (Gro _ _ _) := hg
  clear hr hg
  go_wp2_with fail
  go_ret
  exact ⟨rfl, HR.out, HG.out⟩

set_option maxRecDepth 100000 in
theorem end_256 (P g cap : Nat) (w : World) (h : Rd w P g cap three 3 0) :
    Calls Try.prog 17 #[.pointer (some ⟨P, 0, none⟩)] w fun e w' => e = .returned (.int .i64 0) ∧ Below w.heap.size w w' := by
  have HE : Hid _ := err_ok P _ 3 0 w h.1
  have HL : Hid _ := left_ok P (some ⟨g, 0, none⟩) 3 cap 3 (by decide) (by decide) 0 w h.1
  clear h
  go_enter Try.func17, Try.ntmps17
  go_wp2_with fail
  refine Calls.mono HE.out ?_
  rintro e w2 ⟨rfl, rfl⟩
  go_wp2_with fail
  refine Calls.mono HL.out ?_
  rintro e w3 ⟨rfl, m, hm⟩
  have HM : Hid _ := hm
  clear hm
  go_wp2_with fail
  go_ret
  refine ⟨rfl, ?_⟩
  rw [HM.out]
  exact ⟨rfl, rfl, rfl, Nat.le_refl _, fun _ _ => rfl⟩

set_option maxRecDepth 100000 in
set_option maxHeartbeats 2000000 in
theorem known_any (w : World) :
    Calls Try.prog 8 #[] w fun e w' => e = .returned (.bool true) ∧ Below w.heap.size w w' := by
  have e3 : [] ++ fm [256, 0, 0, 0] (nb 256 0 0 0) = three := by decide
  have HE3 : Hid _ := e3
  clear e3
  go_enter Try.func8, Try.ntmps8
  go_wp2_with fail
  refine (newWriter_any w).mono ?_
  rintro e V0 ⟨rfl, hw, hb⟩
  have HW : Hid (Wr _ _ _ _ _ _) := hw
  have HB : Hid (Below w.heap.size w V0) := hb
  clear hw hb
  go_wp2_with fail
  refine (number_ok w.heap.size none 0 [] 256 (by decide) _ rfl (by decide) V0 _ rfl HW.out).mono ?_
  rintro e V1 ⟨rfl, ⟨A1, c1, hw1, hf1⟩, hg1⟩
  rw [HE3.out] at hw1 hf1
  have b1 : Below w.heap.size V0 V1 := hg1.to_below HB.out.size (fun k hk => by rcases hk with rfl | hk; exact Nat.le_refl _; simp [Value.ownBlock] at hk)
  have HW1 : Hid (Wr _ _ _ _ _ _) := hw1
  have HB1 : Hid (Below w.heap.size w V1) := HB.out.trans b1
  clear hw1 hf1 hg1 b1 HW HB HE3
  go_wp2_with fail
  refine (done_ok w.heap.size A1 c1 three (by decide) V1 HW1.out).mono ?_
  rintro e V2 ⟨A2, c2, rfl, hbw, hfr, hb2⟩
  obtain ⟨g2, rfl⟩ : ∃ g2, A2 = some ⟨g2, 0, none⟩ := by
    rcases hbw.2 with ⟨_, q0⟩ | ⟨g, cap, cur, hv, _⟩
    · simp at q0
    · simp only [Value.slice.injEq] at hv
      exact ⟨g, hv.1⟩
  have hsl := Bw.sl hbw
  have rng : V2.rangeAt g2 0 (vB three) := by
    rcases hsl with ⟨q, _⟩ | ⟨ab, ao, c', hv, _, hr⟩
    · cases q
    · simp only [Value.slice.injEq, Option.some.injEq, Addr.mk.injEq] at hv
      obtain ⟨⟨rfl, rfl, _⟩, _⟩ := hv
      exact hr
  have c0 : V2.cell? ⟨g2, 0, none⟩ = some (.int .u8 2) := rng 0 _ rfl
  have c1' : V2.cell? ⟨g2, 1, none⟩ = some (.int .u8 1) := rng 1 _ rfl
  have c2' : V2.cell? ⟨g2, 2, none⟩ = some (.int .u8 0) := rng 2 _ rfl
  have HSL : Hid (SlAt _ _ _) := hsl
  have HB2 : Hid (Below w.heap.size w V2) := HB1.out.trans (hb2.mono HB1.out.size)
  clear hbw hfr hb2 hsl rng HB1 HW1
  go_wp2_with fail
  refine (newReader_ok g2 c2 three (by decide) (by decide) V2 HSL.out).mono ?_
  rintro e V3 ⟨P, g, c', rfl, hr, hP, hg, hb3⟩
  have HP : Hid (w.heap.size ≤ P) := Nat.le_trans HB2.out.size hP
  have HR : Hid (Rd _ _ _ _ _ _ _) := hr
  have HB3 : Hid (Below w.heap.size w V3) := HB2.out.trans (hb3.mono HB2.out.size)
  clear c0 c1' c2' HSL hr hP hg hb3 HB2
  go_wp2_with fail
  refine (number_256 P g c' V3 HR.out).mono ?_
  rintro e V4 ⟨rfl, hr4, hg4⟩
  have b4 : Below w.heap.size V3 V4 := hg4.to_below HB3.out.size (fun k hk => by rw [hk]; exact HP.out)
  have HR4 : Hid (Rd _ _ _ _ _ _ _) := hr4
  have HB4 : Hid (Below w.heap.size w V4) := HB3.out.trans b4
  clear hr4 hg4 b4 HR HB3
  go_wp2_with fail
  refine (end_256 P g c' V4 HR4.out).mono ?_
  rintro e V5 ⟨rfl, hb5⟩
  have HB5 : Hid (Below w.heap.size w V5) := HB4.out.trans (hb5.mono HB4.out.size)
  clear hb5 HR4 HB4
  go_wp2_with fail
  go_ret
  exact ⟨rfl, HB5.out⟩

end Go.Proofs.Ytmkmdbpibpbcjaa
