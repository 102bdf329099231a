/-
  the document's entry: CheckEntry, EntryBytes of one that may be.
-/
import Derived.Test.YtknabkoddickaaaGreatDoorIbF
namespace Go.Proofs.YtknabkoddickaaaGreatDoor
open Go Go.RowKit
open Sha

theorem dnB0 (bs : List (BitVec 8)) (n : Int) (h : 0 ≤ n) : dnB bs 0 n = bs ++ nf n := if_pos ⟨rfl, h⟩
theorem dnE0 (n : Int) (h : 0 ≤ n) : dnE 0 n = 0 := by unfold dnE; rw [if_pos rfl, if_neg (by omega)]
set_option maxRecDepth 100000 in
theorem rwithin_any (n a b : Int) (w : World) : Calls Tryz.prog 48 #[.int .i64 n, .int .i64 a, .int .i64 b] w fun e w' => e = .returned (.bool (decide (a ≤ n) && decide (n ≤ b))) ∧ w' = w := by
  obtain ⟨B, hB⟩ : ∃ B, B = (decide (a ≤ n) && decide (n ≤ b)) := ⟨_, rfl⟩
  rw [← hB]
  by_cases h1 : a ≤ n
  · by_cases h2 : n ≤ b
    · have HB : Hid (B = true) := by show _ = _; rw [hB, decide_eq_true h1, decide_eq_true h2]; rfl
      clear hB
      go_enter Tryz.func48, Tryz.ntmps48
      go_wp2
      go_ret
      exact ⟨by rw [HB.out]; rfl, rfl⟩
    · have HB : Hid (B = false) := by show _ = _; rw [hB, decide_eq_false h2, Bool.and_false]
      clear hB
      go_enter Tryz.func48, Tryz.ntmps48
      go_wp2
      go_ret
      exact ⟨by rw [HB.out]; rfl, rfl⟩
  · have HB : Hid (B = false) := by show _ = _; rw [hB, decide_eq_false h1, Bool.false_and]
    clear hB
    go_enter Tryz.func48, Tryz.ntmps48
    go_wp2
    go_ret
    exact ⟨by rw [HB.out]; rfl, rfl⟩
theorem built_w0 : Tryz.prog.built 43 [] = some (vQ (List.replicate 4 0)).toArray := by kernel_rfl
theorem built_a0 : Tryz.prog.built 40 [] = some (vB (List.replicate 20 0#8)).toArray := by kernel_rfl
section
variable {ops : Array Oper} {rest : List Oper} {op : Oper} {a : Act} {w : World} {Q : Exit → Act → World → Prop}
theorem wpList_buildW0 (hw : Region.wanted op (yielded ops a.tmps) = true) (ho : op.op = .build 43 #[]) (h : wpList Tryz.prog ops Q rest (a.put op.dst (.agg (vQ (List.replicate 4 0)).toArray)) w) : wpList Tryz.prog ops Q (op :: rest) a w :=
  BigFrame.wpList_want hw fun _ hK => by
    have hr := run_build (P := Tryz.prog) w 43 #[] _ built_w0
    unfold Oper.wp execOp
    simp only [ho, List.map_toArray, List.map_nil, Sem.run_bind, hr, Result.andThen_ok, Sem.run_pure, Oper.upon_value]
    exact hK _ _ h
theorem wpList_buildA0 (hw : Region.wanted op (yielded ops a.tmps) = true) (ho : op.op = .build 40 #[]) (h : wpList Tryz.prog ops Q rest (a.put op.dst (.agg (vB (List.replicate 20 0#8)).toArray)) w) : wpList Tryz.prog ops Q (op :: rest) a w :=
  BigFrame.wpList_want hw fun _ hK => by
    have hr := run_build (P := Tryz.prog) w 40 #[] _ built_a0
    unfold Oper.wp execOp
    simp only [ho, List.map_toArray, List.map_nil, Sem.run_bind, hr, Result.andThen_ok, Sem.run_pure, Oper.upon_value]
    exact hK _ _ h
end
theorem info_adE (l : List (BitVec 8)) (h : l.length = 20) : (Tryz.prog.info? 40).map (·.size) = some (vB l).length := by rw [vB_length, h]; kernel_rfl
theorem info_wdE (l : List Nat) (h : l.length = 4) : (Tryz.prog.info? 43).map (·.size) = some (vQ l).length := by rw [vQ_len, h]; kernel_rfl
theorem guardAE : Tryz.prog.eqGuardType Tryz.prog.depth 40 = false := by kernel_rfl
set_option maxRecDepth 100000 in
set_option maxHeartbeats 4000000 in
theorem rcheck_ok (e : Ev) (hw : e.Wf) (hm : e.May) (A : Option Addr) (n cap : Nat) (hn : e.d.length = n) (L : List Value) (hL : L = e.cells (.slice A n cap)) (w : World) :
    Calls Tryz.prog 35 #[.agg L.toArray] w fun r w' => r = .returned (.int .i64 0) ∧ Below w.heap.size w w' := by
  obtain ⟨k, sd, tm, tk, rc, am, gs, d⟩ := e
  obtain ⟨t0, t1, hc⟩ := hm
  obtain ⟨h1, h2, h3, hq⟩ := hw
  simp only at t0 t1 hc h1 h2 h3 hn hq
  have HT : Hid ((decide (0 ≤ tm) && decide (tm ≤ 4611686018427387904)) = true) := by show _ = true; rw [decide_eq_true t0, decide_eq_true t1]; rfl
  have HL : Hid (L = ent k sd tm tk rc am gs (.slice A n cap)) := hL
  have H1 : Hid (sd.length = 20) := h1
  have H2 : Hid (rc.length = 20) := h2
  have H3 : Hid (am.length = 4) := h3
  have HI2 : Hid _ := info_adE rc h2
  have HI3 : Hid _ := info_wdE am h3
  rcases hc with ⟨hk, k0, k1, ha, g0, g1, hd⟩ | ⟨hk, hk0, hrc, ham, hgs, hd⟩
  · have HK : Hid ((decide (0 ≤ tk) && decide (tk ≤ 63)) = true) := by show _ = true; rw [decide_eq_true k0, decide_eq_true k1]; rfl
    have HG : Hid ((decide (0 ≤ gs) && decide (gs ≤ 1099511627776)) = true) := by show _ = true; rw [decide_eq_true g0, decide_eq_true g1]; rfl
    have HA : Hid (am ≠ List.replicate 4 0) := ha
    obtain rfl : n = 0 := by omega
    obtain rfl : k = 1 := hk
    clear t0 t1 hL h1 h2 h3 hq k0 k1 ha g0 g1 hd hn
    go_enter Tryz.func35, Tryz.ntmps35
    go_upto_region 1 with (refine wpList_boxG 46 rfl (.tmp 0) rfl L rfl ?_; intro X1 q1 q2 q3; have R1 : Hid (En X1 w.heap.size 1 sd tm tk rc am gs (.slice A 0 cap)) := ⟨(by have := HL.out; subst this; exact q1), H1.out, H2.out, H3.out⟩; have B1 : Hid (Below w.heap.size w X1) := q2; clear q1 q2 q3; simp only [Act.put, List.setIfInBounds_toArray, List.set_cons_zero, List.set_cons_succ])
    obtain ⟨b, hb⟩ : ∃ b, b = w.heap.size := ⟨_, rfl⟩
    rw [← hb] at R1 ⊢
    clear hb
    have ck := R1.out.c_kind
    have ct := R1.out.c_time
    have ctk := R1.out.c_token
    have cg := R1.out.c_gas
    have cb := R1.out.c_body
    go_wp2_with (first
      | (go_at_call 48; refine Calls.mono (rwithin_any _ _ _ X1) ?_; rintro e1 Y ⟨rfl, hqq⟩; obtain rfl := hqq.symm; first | rw [HT.out] | rw [HK.out] | rw [HG.out])
      | (refine wpList_load_w rfl 43 (.tmp 18) rfl b 43 rfl (vQ am) _ R1.out.r_amount Tryz.underlying43 rfl HI3.out ?_; simp only [Act.put, List.setIfInBounds_toArray, List.set_cons_zero, List.set_cons_succ])
      | (refine wpList_buildW0 rfl rfl ?_; simp only [Act.put, List.setIfInBounds_toArray, List.set_cons_zero, List.set_cons_succ])
      | (refine wpList_neq_q rfl (.tmp 19) (.tmp 20) _ rfl am (List.replicate 4 0) H3.out rfl rfl rfl true (by rw [decide_eq_false HA.out]; rfl) ?_; simp only [Act.put, List.setIfInBounds_toArray, List.set_cons_zero, List.set_cons_succ]))
    go_ret
    exact ⟨rfl, B1.out⟩
  · have HA : Hid (am = List.replicate 4 0) := ham
    have HRC : Hid (rc = List.replicate 20 0#8) := hrc
    obtain rfl : tk = 0 := hk0
    obtain rfl : gs = 0 := hgs
    have hn2 : (n : Int) ≤ 4096 := by omega
    have hn4 : decide ((n : Int) ≤ 4096) = true := decide_eq_true hn2
    have hn5 : ¬ ((4096 : Int) < (n : Int)) := by omega
    obtain rfl : k = 2 := hk
    clear t0 t1 hL h1 h2 h3 hq hrc ham hd hn
    go_enter Tryz.func35, Tryz.ntmps35
    go_upto_region 1 with (refine wpList_boxG 46 rfl (.tmp 0) rfl L rfl ?_; intro X1 q1 q2 q3; have R1 : Hid (En X1 w.heap.size 2 sd tm 0 rc am 0 (.slice A n cap)) := ⟨(by have := HL.out; subst this; exact q1), H1.out, H2.out, H3.out⟩; have B1 : Hid (Below w.heap.size w X1) := q2; clear q1 q2 q3; simp only [Act.put, List.setIfInBounds_toArray, List.set_cons_zero, List.set_cons_succ])
    obtain ⟨b, hb⟩ : ∃ b, b = w.heap.size := ⟨_, rfl⟩
    rw [← hb] at R1 ⊢
    clear hb
    have ck := R1.out.c_kind
    have ct := R1.out.c_time
    have ctk := R1.out.c_token
    have cg := R1.out.c_gas
    have cb := R1.out.c_body
    go_wp2_with (first
      | (go_at_call 48; refine Calls.mono (rwithin_any _ _ _ X1) ?_; rintro e1 Y ⟨rfl, hqq⟩; obtain rfl := hqq.symm; rw [HT.out])
      | (refine wpList_load_w rfl 40 (.tmp 43) rfl b 23 rfl (vB rc) _ R1.out.r_to Tryz.underlying40 rfl HI2.out ?_; simp only [Act.put, List.setIfInBounds_toArray, List.set_cons_zero, List.set_cons_succ])
      | (refine wpList_load_w rfl 43 (.tmp 49) rfl b 43 rfl (vQ am) _ R1.out.r_amount Tryz.underlying43 rfl HI3.out ?_; simp only [Act.put, List.setIfInBounds_toArray, List.set_cons_zero, List.set_cons_succ])
      | (refine wpList_buildW0 rfl rfl ?_; simp only [Act.put, List.setIfInBounds_toArray, List.set_cons_zero, List.set_cons_succ])
      | (refine wpList_buildA0 rfl rfl ?_; simp only [Act.put, List.setIfInBounds_toArray, List.set_cons_zero, List.set_cons_succ])
      | (refine wpList_eql_b rfl 40 (.tmp 44) (.tmp 45) _ rfl 5 20 rc (List.replicate 20 0#8) rfl rfl Tryz.underlying40 Tryz.underlying5 info_u8 H2.out rfl guardAE true (decide_eq_true HRC.out) ?_; simp only [Act.put, List.setIfInBounds_toArray, List.set_cons_zero, List.set_cons_succ])
      | (refine wpList_eql_q rfl (.tmp 50) (.tmp 51) _ rfl am (List.replicate 4 0) H3.out rfl rfl rfl true (decide_eq_true HA.out) ?_; simp only [Act.put, List.setIfInBounds_toArray, List.set_cons_zero, List.set_cons_succ]))
    go_ret
    exact ⟨rfl, B1.out⟩
set_option maxRecDepth 100000 in
set_option maxHeartbeats 4000000 in
theorem dw_bytes (w0 : World) (Dp : Nat) (v : Value) (bs : List (BitVec 8)) (hs : bs.length ≤ 1000000) (d : List (BitVec 8)) (A : Option Addr) (n cap : Nat) (hn : d.length = n) (hn2 : n ≤ 1000000) (hnil : A = none → cap = 0) (w : World) (h : Dw w0 w Dp v bs 0) (hS : SlAt w (.slice A n cap) d) :
    Calls Tryz.prog 111 #[.pointer (some ⟨Dp, 0, none⟩), .slice A n cap] w fun e w' => e = .returned (.tuple #[]) ∧ ∃ v', Dw w0 w' Dp v' (bs ++ (fm [n, 0, 0, 0] (nb n 0 0 0) ++ d)) 0 := by
  have hnb : nb n 0 0 0 ≤ 8 := nb_small n
  obtain ⟨F, hF⟩ : ∃ F, F = fm [n, 0, 0, 0] (nb n 0 0 0) := ⟨_, rfl⟩
  obtain ⟨m, hm⟩ : ∃ m, m = nb n 0 0 0 + 1 := ⟨_, rfl⟩
  have hFl : F.length = m := by rw [hF, hm]; simp [fm]
  have HNU : Hid (Calls Tryz.prog 132 #[.int .i64 (n : Int)] w fun e w' => ∃ A c, e = .returned (.slice A m c) ∧ Bw w' (.slice A m c) F ∧ Fresh w.heap.size (.slice A m c) ∧ Below w.heap.size w w') := by rw [hF, hm]; exact number_doc n (by omega) w
  have HFL : Hid (F.length = m) := hFl
  have HNN : Hid (d.length = n) := hn
  have HNL : Hid (A = none → cap = 0) := hnil
  have HK : Hid (F.length + n ≤ 140737488355328) := by show _ ≤ _; omega
  have HS : Hid (∀ X, Below w.heap.size w X → SlAt X (.slice A n cap) d) := fun X k => hS.be k
  have HLY : Hid (∀ X, Below w.heap.size w X → ∀ A' c', (A' = none → c' = 0) → Bw X (.slice A' (m + n) c') (F ++ d) → Calls Tryz.prog 131 #[.pointer (some ⟨Dp, 0, none⟩), .slice A' (m + n) c'] X fun e w' => e = .returned (.tuple #[]) ∧ ∃ v', Dw w0 w' Dp v' (bs ++ (F ++ d)) 0) := fun X k A' c' hnl hb => by
    refine (lay_doc w0 Dp v bs 0 (F ++ d) A' (m + n) c' (by rw [List.length_append, hFl, hn]) hnl (by omega) X (h.keep k) (fun W k2 => Bw.sl (Bw.be hb k2))).mono ?_
    rintro e w' ⟨q1, v', q2, _⟩
    rw [if_pos rfl] at q2
    exact ⟨q1, v', q2⟩
  rw [← hF]
  clear hF hm hFl hnb hs hn hn2 hnil h hS
  go_enter Tryz.func111, Tryz.ntmps111
  go_upto_region 1 with (go_at_call 132; refine Calls.mono HNU.out ?_; rintro e X1 ⟨A1, c1, rfl, q1, q2, q3⟩; have W1 : Hid (Bw X1 (.slice A1 m c1) F) := q1; have F1 : Hid (Fresh w.heap.size (.slice A1 m c1)) := q2; have B1 : Hid (Below w.heap.size w X1) := q3; clear q1 q2 q3)
  go_upto_region 2 with (refine wpList_app rfl (.tmp 8) (.tmp 9) rfl (.slice A1 m c1) F d rfl W1.out A n cap HNN.out rfl (HS.out X1 B1.out) HNL.out HK.out ?_; intro v4 X4 q1 q2 q3; have W4 : Hid (Bw X4 v4 (F ++ d)) := q1; have B4 : Hid (Below w.heap.size w X4) := below_gb B1.out q2 (fun g eg => F1.out g eg); clear q1 q2 q3; obtain ⟨A5, c5, e5, _, n5⟩ := Bw.form W4.out; rw [List.length_append, HFL.out, HNN.out] at e5; subst e5; have N5 : Hid (A5 = none → c5 = 0) := n5; clear n5; simp only [Act.put, List.setIfInBounds_toArray, List.set_cons_zero, List.set_cons_succ])
  go_wp2_with (go_at_call 131; refine Calls.mono (HLY.out X4 B4.out A5 c5 N5.out W4.out) ?_; rintro e X6 ⟨rfl, v6, q⟩; have M6 : Hid (Dw w0 X6 Dp v6 (bs ++ (F ++ d)) 0) := q; clear q)
  refine bodyPost_end (results_none rfl _ _ _) rfl ?_
  exact ⟨rfl, v6, M6.out⟩
set_option maxRecDepth 100000 in
set_option maxHeartbeats 4000000 in
theorem rebytes_ok (e : Ev) (hw : e.Wf) (hm : e.May) (A : Option Addr) (n cap : Nat) (hn : e.d.length = n) (hnil : A = none → cap = 0) (L : List Value) (hL : L = e.cells (.slice A n cap)) (w : World) (hS : SlAt w (.slice A n cap) e.d) :
    Calls Tryz.prog 57 #[.agg L.toArray] w fun r w' => ∃ A' N c', r = .returned (.tuple #[.slice A' N c', .int .i64 0]) ∧ e.bytes.length = N ∧ Bw w' (.slice A' N c') e.bytes ∧ Fresh w.heap.size (.slice A' N c') ∧ Below w.heap.size w w' := by
  have HCE : Hid (∀ X, Calls Tryz.prog 35 #[.agg L.toArray] X fun r w' => r = .returned (.int .i64 0) ∧ Below X.heap.size X w') := fun X => rcheck_ok e hw hm A n cap hn L hL X
  have HI : Hid ((Tryz.prog.info? 46).map (·.size) = some L.length) := by rw [hL]; exact Ev.info hw _
  obtain ⟨k, sd, tm, tk, rc, am, gs, d⟩ := e
  obtain ⟨t0, t1, hc⟩ := hm
  obtain ⟨h1, h2, h3, hq⟩ := hw
  simp only at t0 t1 hc h1 h2 h3 hn hq hS
  have HL : Hid (L = ent k sd tm tk rc am gs (.slice A n cap)) := hL
  have H1 : Hid (sd.length = 20) := h1
  have H2 : Hid (rc.length = 20) := h2
  have H3 : Hid (am.length = 4) := h3
  have HQ : Hid (∀ x ∈ am, x < 18446744073709551616) := hq
  have HI1 : Hid _ := info_adE sd h1
  have HI2 : Hid _ := info_adE rc h2
  have HI3 : Hid _ := info_wdE am h3
  have HT : Hid (0 ≤ tm ∧ tm < 9223372036854775808) := ⟨t0, by omega⟩
  have a1 := nf_len tm
  have a2 := nf_len tk
  have a4 := wf_len am
  rcases hc with ⟨hk, k0, k1, ha, g0, g1, hd⟩ | ⟨hk, hk0, hrc, ham, hgs, hd⟩
  · have HK : Hid (0 ≤ tk ∧ tk < 9223372036854775808) := ⟨k0, by omega⟩
    have HG : Hid (0 ≤ gs ∧ gs < 9223372036854775808) := ⟨g0, by omega⟩
    obtain rfl : k = 1 := hk
    have LN : Hid (([1#8] ++ sd).length ≤ 1000000 ∧ ([1#8] ++ sd ++ nf tm).length ≤ 1000000 ∧ ([1#8] ++ sd ++ nf tm ++ nf tk).length ≤ 1000000 ∧ ([1#8] ++ sd ++ nf tm ++ nf tk ++ rc).length ≤ 1000000 ∧ ([1#8] ++ sd ++ nf tm ++ nf tk ++ rc ++ wf am).length ≤ 1000000) := by
      simp only [List.length_append, List.length_cons, List.length_nil, h1, h2]
      refine ⟨?_, ?_, ?_, ?_, ?_⟩ <;> omega
    have eb : Ev.bytes ⟨1, sd, tm, tk, rc, am, gs, d⟩ = eb1 sd tm tk rc am gs := rfl
    rw [eb]
    clear eb t0 t1 hL h1 h2 h3 hq k0 k1 ha g0 g1 hd hn hS hnil a1 a2 a4
    go_enter Tryz.func57, Tryz.ntmps57
    go_upto_region 1 with (refine wpList_boxG 46 rfl (.tmp 0) rfl L rfl ?_; intro X0 q1 q2 q3; have R0 : Hid (Row X0 w.heap.size L 46) := q1; have B0 : Hid (Below w.heap.size w X0) := q2; clear q1 q2 q3; simp only [Act.put, List.setIfInBounds_toArray, List.set_cons_zero, List.set_cons_succ])
    obtain ⟨b, hb⟩ : ∃ b, b = w.heap.size := ⟨_, rfl⟩
    rw [← hb] at R0 ⊢
    clear hb
    go_upto_region 4 with (first
      | (refine wpList_load_w rfl 46 (.tmp 1) rfl b 0 rfl L _ R0.out.all Tryz.underlying46 rfl HI.out ?_; simp only [Act.put, List.setIfInBounds_toArray, List.set_cons_zero, List.set_cons_succ])
      | (go_at_call 35; refine Calls.mono (HCE.out X0) ?_; rintro e1 X1 ⟨rfl, q⟩; have B1 : Hid (Below w.heap.size w X1) := B0.out.trans (q.mono B0.out.size); have R1 : Hid (Row X1 b L 46) := Row.below R0.out q R0.out.lt; clear q))
    have EN : Hid (∀ Y, Below X1.heap.size X1 Y → En Y b 1 sd tm tk rc am gs (.slice A n cap)) := fun Y k => ⟨by have := Row.below R1.out k R1.out.lt; rw [HL.out] at this; exact this, H1.out, H2.out, H3.out⟩
    clear R0 B0 R1 HCE
    go_upto_region 5 with (refine wpList_boxG 147 rfl (.tmp 11) rfl [.slice none 0 0, .int .i64 0] rfl ?_; intro X2 q1 q2 q3; have M2 : Hid (Dw X1 X2 X1.heap.size (.slice none 0 0) [] 0) := ⟨q1, Bw.nil _, (fun g e => by cases e), Nat.le_refl _, q2⟩; have ck := (EN.out X2 q2).c_kind; clear q1 q2 q3; simp only [Act.put, List.setIfInBounds_toArray, List.set_cons_zero, List.set_cons_succ])
    obtain ⟨P, hP⟩ : ∃ P, P = X1.heap.size := ⟨_, rfl⟩
    rw [← hP] at M2 ⊢
    clear hP
    go_upto_region 6 with (first
      | (go_at_call 107; refine Calls.mono (dw_byte X1 P (.slice none 0 0) [] 0 (Nat.zero_le _) 1#8 1 rfl X2 M2.out) ?_; rintro e3 X3 ⟨rfl, v3, q⟩; have M3 : Hid (Dw X1 X3 P v3 ([1#8]) 0) := (by  exact q); have SR : Hid (X3.rangeAt b 1 (vB sd)) := (EN.out X3 q.be).r_sender; clear q M2 ck))
    go_upto_region 7 with (first
      | (refine wpList_load_w rfl 40 (.tmp 19) rfl b 1 rfl (vB sd) _ SR.out Tryz.underlying40 rfl HI1.out ?_; simp only [Act.put, List.setIfInBounds_toArray, List.set_cons_zero, List.set_cons_succ])
      | (go_at_call 108; refine Calls.mono (dw_address X1 P v3 [1#8] 0 (by decide) sd H1.out X3 M3.out) ?_; rintro e4 X4 ⟨rfl, v4, q⟩; have M4 : Hid (Dw X1 X4 P v4 ([1#8] ++ sd) 0) := (by  exact q); have ct := (EN.out X4 q.be).c_time; clear q M3 SR))
    go_upto_region 8 with (first
      | (go_at_call 109; refine Calls.mono (dw_number X1 P v4 ([1#8] ++ sd) 0 LN.out.1 tm HT.out.2 X4 M4.out) ?_; rintro e5 X5 ⟨rfl, v5, q⟩; have M5 : Hid (Dw X1 X5 P v5 ([1#8] ++ sd ++ nf tm) 0) := (by rw [dnB0 _ _ HT.out.1, dnE0 _ HT.out.1] at q; exact q); have ck := (EN.out X5 q.be).c_kind; have ctk := (EN.out X5 q.be).c_token; have cb := (EN.out X5 q.be).c_body; clear q M4 ct))
    go_upto_region 10 with (first
      | (go_at_call 109; refine Calls.mono (dw_number X1 P v5 ([1#8] ++ sd ++ nf tm) 0 LN.out.2.1 tk HK.out.2 X5 M5.out) ?_; rintro e6 X6 ⟨rfl, v6, q⟩; have M6 : Hid (Dw X1 X6 P v6 ([1#8] ++ sd ++ nf tm ++ nf tk) 0) := (by rw [dnB0 _ _ HK.out.1, dnE0 _ HK.out.1] at q; exact q); have RT : Hid (X6.rangeAt b 23 (vB rc)) := (EN.out X6 q.be).r_to; clear q M5 ck ctk cb))
    go_upto_region 11 with (first
      | (refine wpList_load_w rfl 40 (.tmp 34) rfl b 23 rfl (vB rc) _ RT.out Tryz.underlying40 rfl HI2.out ?_; simp only [Act.put, List.setIfInBounds_toArray, List.set_cons_zero, List.set_cons_succ])
      | (go_at_call 108; refine Calls.mono (dw_address X1 P v6 ([1#8] ++ sd ++ nf tm ++ nf tk) 0 LN.out.2.2.1 rc H2.out X6 M6.out) ?_; rintro e7 X7 ⟨rfl, v7, q⟩; have M7 : Hid (Dw X1 X7 P v7 ([1#8] ++ sd ++ nf tm ++ nf tk ++ rc) 0) := (by  exact q); have RA : Hid (X7.rangeAt b 43 (vQ am)) := (EN.out X7 q.be).r_amount; clear q M6 RT))
    go_upto_region 12 with (first
      | (refine wpList_load_w rfl 43 (.tmp 38) rfl b 43 rfl (vQ am) _ RA.out Tryz.underlying43 rfl HI3.out ?_; simp only [Act.put, List.setIfInBounds_toArray, List.set_cons_zero, List.set_cons_succ])
      | (go_at_call 110; refine Calls.mono (dw_wide X1 P v7 ([1#8] ++ sd ++ nf tm ++ nf tk ++ rc) 0 LN.out.2.2.2.1 am H3.out HQ.out X7 M7.out) ?_; rintro e8 X8 ⟨rfl, v8, q⟩; have M8 : Hid (Dw X1 X8 P v8 ([1#8] ++ sd ++ nf tm ++ nf tk ++ rc ++ wf am) 0) := (by  exact q); have cg := (EN.out X8 q.be).c_gas; clear q M7 RA))
    go_upto_region 14 with (first
      | (go_at_call 109; refine Calls.mono (dw_number X1 P v8 ([1#8] ++ sd ++ nf tm ++ nf tk ++ rc ++ wf am) 0 LN.out.2.2.2.2 gs HG.out.2 X8 M8.out) ?_; rintro e9 X9 ⟨rfl, v9, q⟩; have M9 : Hid (Dw X1 X9 P v9 (eb1 sd tm tk rc am gs) 0) := (by rw [dnB0 _ _ HG.out.1, dnE0 _ HG.out.1] at q; exact q); clear q M8 cg))
    obtain ⟨A9, c9, e9, _, n9⟩ := Bw.form M9.out.bw
    have N9 : Hid (A9 = none → c9 = 0) := n9
    obtain ⟨z, hz⟩ : ∃ z, z = (eb1 sd tm tk rc am gs).length := ⟨_, rfl⟩
    have HZ : Hid ((eb1 sd tm tk rc am gs).length = z) := hz.symm
    rw [← hz] at e9
    subst e9
    have cv := M9.out.row.cell 0 _ rfl
    clear hz n9
    go_wp2
    go_ret2
    exact ⟨A9, z, c9, rfl, HZ.out, M9.out.bw, M9.out.fr.more B1.out.size, B1.out.trans (M9.out.be.mono B1.out.size)⟩
  · obtain rfl : k = 2 := hk
    have LN : Hid (([2#8] ++ sd).length ≤ 1000000 ∧ ([2#8] ++ sd ++ nf tm).length ≤ 1000000) := by
      simp only [List.length_append, List.length_cons, List.length_nil, h1]
      refine ⟨?_, ?_⟩ <;> omega
    have HN2 : Hid (n ≤ 1000000) := by show _ ≤ _; omega
    have HNN : Hid (d.length = n) := hn
    have HNL : Hid (A = none → cap = 0) := hnil
    have HS : Hid (∀ X, Below w.heap.size w X → SlAt X (.slice A n cap) d) := fun X k => hS.be k
    have eb : Ev.bytes ⟨2, sd, tm, tk, rc, am, gs, d⟩ = eb2 sd tm n d := by rw [← hn]; rfl
    rw [eb]
    clear eb t0 t1 hL h1 h2 h3 hq hk0 hrc ham hgs hd hn hS hnil a1 a2 a4
    go_enter Tryz.func57, Tryz.ntmps57
    go_upto_region 1 with (refine wpList_boxG 46 rfl (.tmp 0) rfl L rfl ?_; intro X0 q1 q2 q3; have R0 : Hid (Row X0 w.heap.size L 46) := q1; have B0 : Hid (Below w.heap.size w X0) := q2; clear q1 q2 q3; simp only [Act.put, List.setIfInBounds_toArray, List.set_cons_zero, List.set_cons_succ])
    obtain ⟨b, hb⟩ : ∃ b, b = w.heap.size := ⟨_, rfl⟩
    rw [← hb] at R0 ⊢
    clear hb
    go_upto_region 4 with (first
      | (refine wpList_load_w rfl 46 (.tmp 1) rfl b 0 rfl L _ R0.out.all Tryz.underlying46 rfl HI.out ?_; simp only [Act.put, List.setIfInBounds_toArray, List.set_cons_zero, List.set_cons_succ])
      | (go_at_call 35; refine Calls.mono (HCE.out X0) ?_; rintro e1 X1 ⟨rfl, q⟩; have B1 : Hid (Below w.heap.size w X1) := B0.out.trans (q.mono B0.out.size); have R1 : Hid (Row X1 b L 46) := Row.below R0.out q R0.out.lt; clear q))
    have EN : Hid (∀ Y, Below X1.heap.size X1 Y → En Y b 2 sd tm tk rc am gs (.slice A n cap)) := fun Y k => ⟨by have := Row.below R1.out k R1.out.lt; rw [HL.out] at this; exact this, H1.out, H2.out, H3.out⟩
    clear R0 B0 R1 HCE
    go_upto_region 5 with (refine wpList_boxG 147 rfl (.tmp 11) rfl [.slice none 0 0, .int .i64 0] rfl ?_; intro X2 q1 q2 q3; have M2 : Hid (Dw X1 X2 X1.heap.size (.slice none 0 0) [] 0) := ⟨q1, Bw.nil _, (fun g e => by cases e), Nat.le_refl _, q2⟩; have ck := (EN.out X2 q2).c_kind; clear q1 q2 q3; simp only [Act.put, List.setIfInBounds_toArray, List.set_cons_zero, List.set_cons_succ])
    obtain ⟨P, hP⟩ : ∃ P, P = X1.heap.size := ⟨_, rfl⟩
    rw [← hP] at M2 ⊢
    clear hP
    go_upto_region 6 with (first
      | (go_at_call 107; refine Calls.mono (dw_byte X1 P (.slice none 0 0) [] 0 (Nat.zero_le _) 2#8 2 rfl X2 M2.out) ?_; rintro e3 X3 ⟨rfl, v3, q⟩; have M3 : Hid (Dw X1 X3 P v3 ([2#8]) 0) := (by  exact q); have SR : Hid (X3.rangeAt b 1 (vB sd)) := (EN.out X3 q.be).r_sender; clear q M2 ck))
    go_upto_region 7 with (first
      | (refine wpList_load_w rfl 40 (.tmp 19) rfl b 1 rfl (vB sd) _ SR.out Tryz.underlying40 rfl HI1.out ?_; simp only [Act.put, List.setIfInBounds_toArray, List.set_cons_zero, List.set_cons_succ])
      | (go_at_call 108; refine Calls.mono (dw_address X1 P v3 [2#8] 0 (by decide) sd H1.out X3 M3.out) ?_; rintro e4 X4 ⟨rfl, v4, q⟩; have M4 : Hid (Dw X1 X4 P v4 ([2#8] ++ sd) 0) := (by  exact q); have ct := (EN.out X4 q.be).c_time; clear q M3 SR))
    go_upto_region 8 with (first
      | (go_at_call 109; refine Calls.mono (dw_number X1 P v4 ([2#8] ++ sd) 0 LN.out.1 tm HT.out.2 X4 M4.out) ?_; rintro e5 X5 ⟨rfl, v5, q⟩; have M5 : Hid (Dw X1 X5 P v5 ([2#8] ++ sd ++ nf tm) 0) := (by rw [dnB0 _ _ HT.out.1, dnE0 _ HT.out.1] at q; exact q); have ck := (EN.out X5 q.be).c_kind; have ctk := (EN.out X5 q.be).c_token; have cb := (EN.out X5 q.be).c_body; clear q M4 ct))
    go_upto_region 14 with (first
      | (go_at_call 111; refine Calls.mono (dw_bytes X1 P v5 ([2#8] ++ sd ++ nf tm) LN.out.2 d A n cap HNN.out HN2.out HNL.out X5 M5.out (HS.out X5 (B1.out.trans (M5.out.be.mono B1.out.size)))) ?_; rintro e9 X9 ⟨rfl, v9, q⟩; have M9 : Hid (Dw X1 X9 P v9 (eb2 sd tm n d) 0) := (by  exact q); clear q M5 ck ctk cb))
    obtain ⟨A9, c9, e9, _, n9⟩ := Bw.form M9.out.bw
    have N9 : Hid (A9 = none → c9 = 0) := n9
    obtain ⟨z, hz⟩ : ∃ z, z = (eb2 sd tm n d).length := ⟨_, rfl⟩
    have HZ : Hid ((eb2 sd tm n d).length = z) := hz.symm
    rw [← hz] at e9
    subst e9
    have cv := M9.out.row.cell 0 _ rfl
    clear hz n9
    go_wp2
    go_ret2
    exact ⟨A9, z, c9, rfl, HZ.out, M9.out.bw, M9.out.fr.more B1.out.size, B1.out.trans (M9.out.be.mono B1.out.size)⟩

end Go.Proofs.YtknabkoddickaaaGreatDoor
