/-
  the law OutboxBytes: its walk.
-/
import Derived.Test.YtehjadgmleoobaaBoH
namespace Go.Proofs.Ytehjadgmleoobaa
open Go Go.RowKit
open Sha

/-- A leaf that came in. -/
structure Lfv where
  ix : Int
  en : Int
  tk : Int
  rc : List (BitVec 8)
  am : List Nat
structure Lfv.Ok (s : Lfv) : Prop where
  ix : s.ix < 9223372036854775808
  en : s.en < 9223372036854775808
  tk : s.tk < 9223372036854775808
  rc : s.rc.length = 20
  am : s.am.length = 4
  q : ∀ x ∈ s.am, x < 18446744073709551616
def La (w : World) (A : Option Addr) (ls : List Lfv) : Prop := ∀ (i : Nat) (s : Lfv), ls[i]? = some s → s.Ok ∧ ∃ b o, A = some ⟨b, o, none⟩ ∧ w.rangeAt b (o + i * 27) (lf s.ix s.en s.tk s.rc s.am)
theorem built_bk : Try.prog.built 28 [] = some (bkc (.slice none 0 0) (.slice none 0 0)).toArray := by kernel_rfl
section
variable {ops : Array Oper} {rest : List Oper} {op : Oper} {a : Act} {w : World} {Q : Exit → Act → World → Prop}
theorem wpList_buildBk (hgd : op.guard = none) (ho : op.op = .build 28 #[]) (h : wpList Try.prog ops Q rest (a.put op.dst (.agg (bkc (.slice none 0 0) (.slice none 0 0)).toArray)) w) : wpList Try.prog ops Q (op :: rest) a w :=
  wpList_plain hgd fun _ hK => by
    have hr := run_build (P := Try.prog) w 28 #[] _ built_bk
    unfold Oper.wp execOp
    simp only [ho, List.map_toArray, List.map_nil, Sem.run_bind, hr, Result.andThen_ok, Sem.run_pure, Oper.upon_value]
    exact hK _ _ h
end
def SP.bwx (f : List (BitVec 8)) : SP := ⟨fun W x => ∃ v, x = v ∧ Bw W v f, fun _ _ _ hB ⟨v, e, h⟩ => ⟨v, e, Bw.be h hB⟩⟩
def SP.on1 (f : List (BitVec 8)) : SP := ⟨fun W x => ∃ M v, x = .slice (some ⟨M, 0, none⟩) 1 1 ∧ Row W M [v] 29 ∧ Bw W v f, fun _ _ _ hB ⟨M, v, e, r, h⟩ => ⟨M, v, e, Row.below r hB r.lt, Bw.be h hB⟩⟩
def SP.lp (w0 : World) (B q m N : Nat) : SP := ⟨fun W x => ∃ A c, x = .slice A m c ∧ Lp w0 W B q m A c N, fun _ _ _ hB ⟨A, c, e, h⟩ => ⟨A, c, e, h.below hB⟩⟩
theorem Bw.cellAt {w : World} {G m cf : Nat} {e : List (BitVec 8)} (h : Bw w (.slice (some ⟨G, 0, none⟩) m cf) e) (j : Nat) (y : BitVec 8) (hy : e[j]? = some y) : w.cell? ⟨G, j, none⟩ = some (.int .u8 (c y)) := by
  rcases Bw.sl h with ⟨e0, _⟩ | ⟨ab, ao, cap, e1, _, r⟩
  · rw [e0] at hy; cases hy
  · simp only [Value.slice.injEq, Option.some.injEq, Addr.mk.injEq] at e1
    obtain ⟨⟨rfl, rfl, _⟩, _, _⟩ := e1
    have := r j (.int .u8 (c y)) (by unfold vB; rw [List.getElem?_map, hy]; rfl)
    rwa [Nat.zero_add] at this
theorem xr_getA (j : Nat) (d : List (BitVec 8)) (y : BitVec 8) (hy : d[j]? = some y) : (xr j d ++ e3)[j]? = some y := by
  have hj : j < d.length := (List.getElem?_eq_some_iff.1 hy).1
  rw [List.getElem?_append_left (by rw [xr_len]; exact hj), xr_get j d hj, ← List.getElem?_eq_getElem hj, hy]
theorem xr_setA (j : Nat) (d : List (BitVec 8)) (y : BitVec 8) (hy : d[j]? = some y) : (xr j d ++ e3).set j (y ^^^ 1#8) = xr (j + 1) d ++ e3 := by
  obtain ⟨hj, e⟩ := List.getElem?_eq_some_iff.1 hy
  rw [List.set_append_left _ _ (by rw [xr_len]; exact hj), ← e, xr_set j d hj]
theorem info_Lf27 : (Try.prog.info? 39).map (·.size) = some 27 := by kernel_rfl
set_option maxRecDepth 100000 in
set_option maxHeartbeats 4000000 in
theorem bytes_walk (ls : List Lfv) (LA : Option Addr) (n0 c0 : Nat) (hn0 : n0 = ls.length) (hb0 : n0 ≤ 400000) (TA : Option Addr) (m0 tc : Nat) (hmb : m0 ≤ 100000000) (w : World) (hL : La w LA ls) (hT : ∀ X B, Row X B (bkc (.slice none 0 0) (.slice none 0 0)) 28 → w.heap.size ≤ B → Below w.heap.size w X → Lp w X B 0 m0 TA tc w.heap.size) :
    Calls Try.prog 3 #[.slice LA n0 c0, .slice TA m0 tc] w fun e w' => e = .returned (.bool true) ∧ Below w.heap.size w w' := by
  have HL : Hid (La w LA ls) := hL
  have HT : Hid (∀ X B, Row X B (bkc (.slice none 0 0) (.slice none 0 0)) 28 → w.heap.size ≤ B → Below w.heap.size w X → Lp w X B 0 m0 TA tc w.heap.size) := hT
  have HN : Hid (n0 = ls.length) := hn0
  clear hL hT hn0
  go_enter Try.func3, Try.ntmps3
  go_upto_region 4 with (first
    | (go_at_call 4; refine Calls.mono (obk_any w) ?_; rintro e X1 ⟨rfl, q⟩; have B1 : Hid (Below w.heap.size w X1) := q; clear q)
    | (refine wpList_buildBk rfl rfl ?_; simp only [Act.put, List.setIfInBounds_toArray, List.set_cons_zero, List.set_cons_succ])
    | (refine wpList_boxG 28 rfl (.tmp 23) rfl (bkc (.slice none 0 0) (.slice none 0 0)) rfl ?_; intro X2 q1 q2 q3; have R2 : Hid (Row X2 X1.heap.size (bkc (.slice none 0 0) (.slice none 0 0)) 28) := q1; have B2 : Hid (Below X1.heap.size X1 X2) := q2; clear q1 q2 q3; simp only [Act.put, List.setIfInBounds_toArray, List.set_cons_zero, List.set_cons_succ]))
  obtain ⟨B, hB⟩ : ∃ B, B = X1.heap.size := ⟨_, rfl⟩
  have hP := HT.out X2 B (by rw [hB]; exact R2.out) (by rw [hB]; exact B1.out.size) (B1.out.trans (B2.out.mono B1.out.size))
  rw [← hB]
  have HP : Hid (Lp w X2 B 0 m0 TA tc w.heap.size) := hP
  clear hP hB R2 B1 B2 HT
  go_upto_region 5 with fail
  go_loopw [1, 6, 7, 8, 9, 10, 11, 12] (fun tv k _ _ _ _ _ _ wr => ∃ t : Nat, t ≤ n0 ∧ k = .int .i64 (t : Int) ∧ ∃ (TA' : Option Addr) (tc' : Nat), tv = .slice TA' (m0 + t) tc' ∧ Hid (Lp w wr B (2 * t) (m0 + t) TA' tc' wr.heap.size)) (fun _ k _ _ _ _ _ _ _ => n0 - (intOf k).toNat)
  case atStart => exact ⟨0, Nat.zero_le _, rfl, TA, tc, rfl, HP.out.now⟩
  case round =>
    obtain ⟨t, ht, rfl, TA', tc', rfl, HP1⟩ := hrel
    clear HP
    by_cases hlt : t < n0
    · obtain ⟨s, hs⟩ : ∃ s, ls[t]? = some s := ⟨_, List.getElem?_eq_getElem (by rw [← HN.out]; exact hlt)⟩
      obtain ⟨hok, b, o, rfl, hrg⟩ := HL.out t s hs
      obtain ⟨L, hL⟩ : ∃ L, L = lf s.ix s.en s.tk s.rc s.am := ⟨_, rfl⟩
      obtain ⟨d, hd⟩ : ∃ d, d = lbs s.ix s.en s.tk s.rc s.am := ⟨_, rfl⟩
      obtain ⟨E, hE⟩ : ∃ E, E = lbe s.ix s.en s.tk s.am := ⟨_, rfl⟩
      obtain ⟨f, hf⟩ : ∃ f, f = formB s.ix s.en s.tk s.rc s.am := ⟨_, rfl⟩
      obtain ⟨n, hn⟩ : ∃ n, n = d.length := ⟨_, rfl⟩
      rw [← hL] at hrg
      have HR : Hid (∀ W, Below w.heap.size w W → W.rangeAt b (o + t * 27) L) := fun W k => range_be hrg k
      have HI : Hid ((Try.prog.info? 39).map (·.size) = some L.length) := by rw [hL]; exact info_lf hok.rc hok.am
      have HOB : Hid (∀ X, Calls Try.prog 5 #[.agg L.toArray] X fun e w' => ∃ A cap, e = .returned (.tuple #[.slice A n cap, .int .i64 E]) ∧ Bw w' (.slice A n cap) d ∧ Fresh X.heap.size (.slice A n cap) ∧ Below X.heap.size X w') := fun X => (ob_any s.ix s.en s.tk s.rc s.am hok.rc hok.am hok.q L hL X).mono (by rw [← hd, ← hE, ← hn]; rintro e w' ⟨A, n', cap, rfl, h⟩; exact ⟨A, cap, h⟩)
      have HRB : Hid (∀ X, Calls Try.prog 6 #[.agg L.toArray] X fun e w' => ∃ A cap, e = .returned (.tuple #[.slice A n cap, .int .i64 E]) ∧ Bw w' (.slice A n cap) d ∧ Fresh X.heap.size (.slice A n cap) ∧ Below X.heap.size X w') := fun X => (rb_any s.ix s.en s.tk s.rc s.am hok.rc hok.am hok.q L hL X).mono (by rw [← hd, ← hE, ← hn]; rintro e w' ⟨A, n', cap, rfl, h⟩; exact ⟨A, cap, h⟩)
      have HFO : Hid (∀ X, Calls Try.prog 8 #[.agg L.toArray] X fun e w' => ∃ v, e = .returned v ∧ Bw w' v f ∧ Below X.heap.size X w') := fun X => (form_doc s.ix s.en s.tk hok.ix hok.en hok.tk s.rc s.am hok.rc hok.am hok.q L hL X).mono (by rw [← hf]; rintro e w' ⟨v, h1, h2, _, h4⟩; exact ⟨v, h1, h2, h4⟩)
      have HFL : Hid (f.length ≤ 100000000) := by show _ ≤ _; rw [hf]; exact Nat.le_trans (formB_len _ _ _ _ _ hok.rc) (by decide)
      have hn2 : n ≤ 1000000 := by rw [hn, hd]; exact Nat.le_trans (lbs_len _ _ _ _ _ hok.rc) (by decide)
      have HND : Hid (n = d.length) := hn
      have HDD : Hid ((!decide (d = d)) = false) := by show _ = _; simp
      have hmm : m0 + t ≤ 1000000000 := by omega
      have H0 : Hid (w.heap.size ≤ wr.heap.size) := HP1.out.be.size
      clear hs hok hrg hL hd hE hf hn
      go_upto_region 8 with (first
        | (refine wpList_load_w rfl 39 (.tmp 34) rfl b (o + t * 27) rfl L _ (HR.out wr HP1.out.be) Try.underlying39 rfl HI.out ?_; simp only [Act.put, List.setIfInBounds_toArray, List.set_cons_zero, List.set_cons_succ])
        | (go_at_call 5; refine Calls.mono (HOB.out wr) ?_; rintro e X7 ⟨A7, c7, rfl, q1, q2, q3⟩; have BA : Hid (Bw X7 (.slice A7 n c7) d) := q1; have FBA : Hid (Fresh wr.heap.size (.slice A7 n c7)) := q2; have SX7 : Hid (wr.heap.size ≤ X7.heap.size) := q3.size; have P7 : Hid (Lp w X7 B (2 * t) (m0 + t) TA' tc' wr.heap.size) := HP1.out.below q3; clear q1 q2 q3))
      clear HP1
      go_upto_region 9 with (first
        | (refine wpList_load_w rfl 39 (.tmp 42) rfl b (o + t * 27) rfl L _ (HR.out X7 P7.out.be) Try.underlying39 rfl HI.out ?_; simp only [Act.put, List.setIfInBounds_toArray, List.set_cons_zero, List.set_cons_succ])
        | (go_at_call 5; refine Calls.mono (HOB.out X7) ?_; rintro e X8 ⟨A8, c8, rfl, q1, q2, q3⟩; have BG : Hid (Bw X8 (.slice A8 n c8) d) := q1; have FBG : Hid (Fresh X7.heap.size (.slice A8 n c8)) := q2; have SX8 : Hid (X7.heap.size ≤ X8.heap.size) := q3.size; have P8 : Hid (Lp w X8 B (2 * t) (m0 + t) TA' tc' wr.heap.size) := P7.out.below q3; have BA8 : Hid (Bw X8 (.slice A7 n c7) d) := Bw.be BA.out q3; clear q1 q2 q3))
      clear P7
      go_upto_region 10 with (first
        | (refine wpList_load_w rfl 39 (.tmp 50) rfl b (o + t * 27) rfl L _ (HR.out X8 P8.out.be) Try.underlying39 rfl HI.out ?_; simp only [Act.put, List.setIfInBounds_toArray, List.set_cons_zero, List.set_cons_succ])
        | (go_at_call 6; refine Calls.mono (HRB.out X8) ?_; rintro e X9 ⟨A9, c9, rfl, q1, q2, q3⟩; have BR : Hid (Bw X9 (.slice A9 n c9) d) := q1; have FBR : Hid (Fresh X8.heap.size (.slice A9 n c9)) := q2; have SX9 : Hid (X8.heap.size ≤ X9.heap.size) := q3.size; have P9 : Hid (Lp w X9 B (2 * t) (m0 + t) TA' tc' wr.heap.size) := P8.out.below q3; have BA9 : Hid (Bw X9 (.slice A7 n c7) d) := Bw.be BA8.out q3; have BG9 : Hid (Bw X9 (.slice A8 n c8) d) := Bw.be BG.out q3; clear q1 q2 q3))
      clear P8 BA8
      go_upto_region 11 with (go_at_call 7; refine Calls.mono (keeps_lp (N' := X7.heap.size) P9.out (by omega) d A7 A9 n c7 c9 HND.out hn2 BA9.out BR.out (fun g e => ⟨FBA.out g e, Bw.lt BA.out g e⟩) SX7.out H0.out) ?_; rintro e Y1 ⟨rfl, q1, q2⟩; have Q1 : Hid (Lp w Y1 B (2 * t + 1) (m0 + t) TA' tc' X7.heap.size) := q1; have BA1 : Hid (Bw Y1 (.slice A7 n c7) d) := q2 _ _ BA9.out; have BG1 : Hid (Bw Y1 (.slice A8 n c8) d) := q2 _ _ BG9.out; have BR1 : Hid (Bw Y1 (.slice A9 n c9) d) := q2 _ _ BR.out; clear q1 q2)
      clear P9 BA9 BG9 BR
      go_upto_region 12 with (go_at_call 7; refine Calls.mono (keeps_lp (N' := X8.heap.size) Q1.out (by omega) d A8 A9 n c8 c9 HND.out hn2 BG1.out BR1.out (fun g e => ⟨FBG.out g e, Bw.lt BG.out g e⟩) SX8.out (Nat.le_trans H0.out SX7.out)) ?_; rintro e Y2 ⟨rfl, q1, q2⟩; have Q2 : Hid (Lp w Y2 B (2 * t + 1 + 1) (m0 + t) TA' tc' X8.heap.size) := q1; have BA2 : Hid (Bw Y2 (.slice A7 n c7) d) := q2 _ _ BA1.out; have BR2 : Hid (Bw Y2 (.slice A9 n c9) d) := q2 _ _ BR1.out; clear q1 q2)
      clear Q1 BA1 BG1 BR1 BA BG FBA FBG FBR
      go_upto_region 14 with (first
        | (refine wpList_conv_s rfl (.tmp 67) rfl (.slice A7 n c7) d rfl (Bw.sl BA2.out) ?_; simp only [Act.put, List.setIfInBounds_toArray, List.set_cons_zero, List.set_cons_succ])
        | (refine wpList_conv_s rfl (.tmp 69) rfl (.slice A9 n c9) d rfl (Bw.sl BR2.out) ?_; simp only [Act.put, List.setIfInBounds_toArray, List.set_cons_zero, List.set_cons_succ])
        | (refine wpList_neq_s rfl (.tmp 68) (.tmp 70) _ _ rfl d d rfl rfl false HDD.out ?_; simp only [Act.put, List.setIfInBounds_toArray, List.set_cons_zero, List.set_cons_succ]))
      obtain ⟨M9, hM9⟩ : ∃ M9, M9 = X8.heap.size := ⟨_, rfl⟩
      obtain ⟨q, hq⟩ : ∃ q, q = 2 * t + 1 + 1 := ⟨_, rfl⟩
      have hLp := Q2.out
      rw [← hM9, ← hq] at hLp
      have hb1 := Below.refl Y2.heap.size Y2
      clear Q2 BA2 BR2 HOB HRB H0 SX7 SX8 SX9 HND HDD hM9
      refine wp_named fun a0 ha0 => ?_
      have hsz : a0.tmps.size = 173 := by rw [ha0]; rfl
      have zs0 : a0.eval (.tmp 0) = .slice (some ⟨b, o, none⟩) n0 c0 := by rw [ha0]; rfl
      have zs1 : a0.eval (.tmp 1) = .slice TA' (m0 + t) tc' := by rw [ha0]; rfl
      have zs6 : a0.eval (.tmp 6) = .int .i64 (t : Int) := by rw [ha0]; rfl
      obtain ⟨D, hD⟩ : ∃ D : List (Tmp × SP), D = [(73, SP.is (.slice TA' (m0 + t) tc')), (74, SP.is (.slice TA' (m0 + t) tc')), (75, SP.is (.int .i64 ((m0 + t : Nat) : Int))), (76, SP.is (.slice TA' (m0 + t) tc')), (77, SP.is (.int .i64 ((m0 + t : Nat) : Int))), (78, SP.is (.slice TA' (m0 + t) (m0 + t))), (79, SP.is (.slice (some ⟨b, o, none⟩) n0 c0)), (80, SP.is (.int .i64 (t : Int))), (81, SP.is (.pointer (some ⟨b, o + t * 27, none⟩))), (82, SP.is (.agg L.toArray)), (83, SP.bwx f), (84, SP.on1 f), (85, SP.lp w B q (m0 + t + 1) M9), (1, SP.lp w B q (m0 + t + 1) M9)] := ⟨_, rfl⟩
      refine wp_region_down (by kernel_rfl) (fun listed ac W => listed.size = 14 ∧ Fp D a0 listed ac W ∧ Below Y2.heap.size Y2 W ∧ Lp w W B q (m0 + t) TA' tc' M9) ?_ ?_ ?_
      · exact ⟨by simp, Fp.start D a0 _ _, Below.drew hb1, hLp.below (Below.drew (Below.refl _ _))⟩
      · clear ha0 hb1 hLp 
        intro listed ac W k hI hdn hk
        obtain ⟨hl, hF, hb1, hLp⟩ := hI
        have hk1 : k < 14 := List.mem_range.1 (List.mem_filter.1 hk).1
        have hl2 : ∀ j, (listed.setIfInBounds j true).size = 14 := fun j => by rw [Array.size_setIfInBounds]; exact hl
        rcases (show k = 0 ∨ k = 1 ∨ k = 2 ∨ k = 3 ∨ k = 4 ∨ k = 5 ∨ k = 6 ∨ k = 7 ∨ k = 8 ∨ k = 9 ∨ k = 10 ∨ k = 11 ∨ k = 12 ∨ k = 13 by omega) with rfl | rfl | rfl | rfl | rfl | rfl | rfl | rfl | rfl | rfl | rfl | rfl | rfl | rfl
        · have hk3 := hk
          exact wpOp_plain rfl rfl (wp_move_v (.slice TA' (m0 + t) tc') rfl ((hF.fresh 13 (1, SP.lp w B q (m0 + t + 1) M9) (by rw [hD]; rfl) (fun h => not_yet hk (hdn 5 (hdn 12 (hdn 13 h 12 (by kernel_rfl)) 5 (by kernel_rfl)) 0 (by kernel_rfl)))).trans zs1) ⟨hl2 0, (hF.put 0 73 (SP.is (.slice TA' (m0 + t) tc')) (.slice TA' (m0 + t) tc') (by rw [hD]; rfl) rfl (by rw [hD]; rfl) (by rw [hsz]; decide) (by rw [hl]; decide)), hb1, hLp⟩)
        · have hk3 := hk
          exact wpOp_plain rfl rfl (wp_move_v (.slice TA' (m0 + t) tc') rfl ((hF.fresh 13 (1, SP.lp w B q (m0 + t + 1) M9) (by rw [hD]; rfl) (fun h => not_yet hk (hdn 2 (hdn 5 (hdn 12 (hdn 13 h 12 (by kernel_rfl)) 5 (by kernel_rfl)) 2 (by kernel_rfl)) 1 (by kernel_rfl)))).trans zs1) ⟨hl2 1, (hF.put 1 74 (SP.is (.slice TA' (m0 + t) tc')) (.slice TA' (m0 + t) tc') (by rw [hD]; rfl) rfl (by rw [hD]; rfl) (by rw [hsz]; decide) (by rw [hl]; decide)), hb1, hLp⟩)
        · have hk3 := hk
          have ea := (hF.done 1 (74, SP.is (.slice TA' (m0 + t) tc')) (by rw [hD]; rfl) (ready_dep hk 1 (by kernel_rfl)))
          exact wpOp_plain rfl rfl (wp_len_s 23 29 TA' (m0 + t) tc' rfl Try.underlying23 ea ⟨hl2 2, (hF.put 2 75 (SP.is (.int .i64 ((m0 + t : Nat) : Int))) (.int .i64 ((m0 + t : Nat) : Int)) (by rw [hD]; rfl) rfl (by rw [hD]; rfl) (by rw [hsz]; decide) (by rw [hl]; decide)), hb1, hLp⟩)
        · have hk3 := hk
          exact wpOp_plain rfl rfl (wp_move_v (.slice TA' (m0 + t) tc') rfl ((hF.fresh 13 (1, SP.lp w B q (m0 + t + 1) M9) (by rw [hD]; rfl) (fun h => not_yet hk (hdn 4 (hdn 5 (hdn 12 (hdn 13 h 12 (by kernel_rfl)) 5 (by kernel_rfl)) 4 (by kernel_rfl)) 3 (by kernel_rfl)))).trans zs1) ⟨hl2 3, (hF.put 3 76 (SP.is (.slice TA' (m0 + t) tc')) (.slice TA' (m0 + t) tc') (by rw [hD]; rfl) rfl (by rw [hD]; rfl) (by rw [hsz]; decide) (by rw [hl]; decide)), hb1, hLp⟩)
        · have hk3 := hk
          have ea := (hF.done 3 (76, SP.is (.slice TA' (m0 + t) tc')) (by rw [hD]; rfl) (ready_dep hk 3 (by kernel_rfl)))
          exact wpOp_plain rfl rfl (wp_len_s 23 29 TA' (m0 + t) tc' rfl Try.underlying23 ea ⟨hl2 4, (hF.put 4 77 (SP.is (.int .i64 ((m0 + t : Nat) : Int))) (.int .i64 ((m0 + t : Nat) : Int)) (by rw [hD]; rfl) rfl (by rw [hD]; rfl) (by rw [hsz]; decide) (by rw [hl]; decide)), hb1, hLp⟩)
        · have hk3 := hk
          have ea := (hF.done 0 (73, SP.is (.slice TA' (m0 + t) tc')) (by rw [hD]; rfl) (ready_dep hk 0 (by kernel_rfl)))
          have eb := (hF.done 2 (75, SP.is (.int .i64 ((m0 + t : Nat) : Int))) (by rw [hD]; rfl) (ready_dep hk 2 (by kernel_rfl)))
          have ec := (hF.done 4 (77, SP.is (.int .i64 ((m0 + t : Nat) : Int))) (by rw [hD]; rfl) (ready_dep hk 4 (by kernel_rfl)))
          exact wpOp_plain rfl rfl (wp_full (.tmp 73) (.tmp 75) (.tmp 77) rfl TA' (m0 + t) tc' hLp.cap.1 hLp.cap.2 ea eb ec ⟨hl2 5, (hF.put 5 78 (SP.is (.slice TA' (m0 + t) (m0 + t))) (.slice TA' (m0 + t) (m0 + t)) (by rw [hD]; rfl) rfl (by rw [hD]; rfl) (by rw [hsz]; decide) (by rw [hl]; decide)), hb1, hLp⟩)
        · have hk3 := hk
          exact wpOp_plain rfl rfl (wp_move_v (ac.eval (.tmp 0)) rfl rfl ⟨hl2 6, (hF.put 6 79 (SP.is (.slice (some ⟨b, o, none⟩) n0 c0)) (ac.eval (.tmp 0)) (by rw [hD]; rfl) (((hF.keep 0 (by rw [hD]; rfl)).trans zs0)) (by rw [hD]; rfl) (by rw [hsz]; decide) (by rw [hl]; decide)), hb1, hLp⟩)
        · have hk3 := hk
          exact wpOp_plain rfl rfl (wp_move_v (ac.eval (.tmp 6)) rfl rfl ⟨hl2 7, (hF.put 7 80 (SP.is (.int .i64 (t : Int))) (ac.eval (.tmp 6)) (by rw [hD]; rfl) (((hF.keep 6 (by rw [hD]; rfl)).trans zs6)) (by rw [hD]; rfl) (by rw [hsz]; decide) (by rw [hl]; decide)), hb1, hLp⟩)
        · have hk3 := hk
          have ea := (hF.done 6 (79, SP.is (.slice (some ⟨b, o, none⟩) n0 c0)) (by rw [hD]; rfl) (ready_dep hk 6 (by kernel_rfl)))
          have eb := (hF.done 7 (80, SP.is (.int .i64 (t : Int))) (by rw [hD]; rfl) (ready_dep hk 7 (by kernel_rfl)))
          exact wpOp_plain rfl rfl (wp_ixs 22 39 rfl b o n0 c0 t 27 ea eb hlt Try.underlying22 info_Lf27 ⟨hl2 8, (hF.put 8 81 (SP.is (.pointer (some ⟨b, o + t * 27, none⟩))) (.pointer (some ⟨b, o + t * 27, none⟩)) (by rw [hD]; rfl) rfl (by rw [hD]; rfl) (by rw [hsz]; decide) (by rw [hl]; decide)), hb1, hLp⟩)
        · have hk3 := hk
          have ea := (hF.done 8 (81, SP.is (.pointer (some ⟨b, o + t * 27, none⟩))) (by rw [hD]; rfl) (ready_dep hk 8 (by kernel_rfl)))
          exact wpOp_plain rfl rfl (wp_load_mid 39 (.tmp 81) rfl b (o + t * 27) ea L _ (HR.out W hLp.be) Try.underlying39 rfl HI.out ⟨hl2 9, (hF.put 9 82 (SP.is (.agg L.toArray)) (.agg L.toArray) (by rw [hD]; rfl) rfl (by rw [hD]; rfl) (by rw [hsz]; decide) (by rw [hl]; decide)), hb1, hLp⟩)
        · have hk3 := hk
          have ea := (hF.done 9 (82, SP.is (.agg L.toArray)) (by rw [hD]; rfl) (ready_dep hk 9 (by kernel_rfl)))
          refine wpOp_plain rfl rfl (wp_fcall_v 8 #[.agg L.toArray] rfl rfl (by show [ac.eval (.tmp 82)] = _; rw [show ac.eval (.tmp 82) = _ from ea]) (by go_simp) ((HFO.out W).mono ?_))
          rintro e W2 ⟨v, rfl, qv, hB⟩
          exact ⟨_, rfl, hl2 10, ((hF.world hB).put 10 83 (SP.bwx f) v (by rw [hD]; rfl) (⟨v, rfl, qv⟩) (by rw [hD]; rfl) (by rw [hsz]; decide) (by rw [hl]; decide)), hb1.trans (hB.mono hb1.size), hLp.below hB⟩
        · have hk3 := hk
          obtain ⟨v, ea, qv⟩ := (hF.done 10 (83, SP.bwx f) (by rw [hD]; rfl) (ready_dep hk 10 (by kernel_rfl)))
          refine wpOp_plain rfl rfl (wp_buildOne 23 29 Try.underlying23 info_sl4 (.tmp 83) rfl v (by obtain ⟨A, cap, rfl, _⟩ := Bw.form qv; rfl) ea ?_)
          intro W2 q1 hB
          exact ⟨hl2 11, ((hF.world hB).put 11 84 (SP.on1 f) (.slice (some ⟨W.heap.size, 0, none⟩) 1 1) (by rw [hD]; rfl) (⟨_, v, rfl, q1, Bw.be qv hB⟩) (by rw [hD]; rfl) (by rw [hsz]; decide) (by rw [hl]; decide)), hb1.trans (hB.mono hb1.size), hLp.below hB⟩
        · have hk3 := hk
          have e1 := (hF.done 5 (78, SP.is (.slice TA' (m0 + t) (m0 + t))) (by rw [hD]; rfl) (ready_dep hk 5 (by kernel_rfl)))
          obtain ⟨M, v, e2, r1, r2⟩ := (hF.done 11 (84, SP.on1 f) (by rw [hD]; rfl) (ready_dep hk 11 (by kernel_rfl)))
          refine wpOp_plain rfl rfl (wp_appLp (.tmp 78) (.tmp 84) rfl w B q (m0 + t) TA' tc' M9 hLp hmm e1 M v f e2 r1 r2 HFL.out ?_)
          intro A2 c2 W2 p1 hB
          exact ⟨hl2 12, ((hF.world hB).put 12 85 (SP.lp w B q (m0 + t + 1) M9) (.slice A2 (m0 + t + 1) c2) (by rw [hD]; rfl) (⟨_, _, rfl, p1⟩) (by rw [hD]; rfl) (by rw [hsz]; decide) (by rw [hl]; decide)), hb1.trans (hB.mono hb1.size), hLp.below hB⟩
        · have hk3 := hk
          exact wpOp_plain rfl rfl (wp_assign_v (ac.eval (.tmp 85)) rfl rfl ⟨hl2 13, (hF.put 13 1 (SP.lp w B q (m0 + t + 1) M9) (ac.eval (.tmp 85)) (by rw [hD]; rfl) ((hF.done 12 (85, SP.lp w B q (m0 + t + 1) M9) (by rw [hD]; rfl) (ready_dep hk 12 (by kernel_rfl)))) (by rw [hD]; rfl) (by rw [hsz]; decide) (by rw [hl]; decide)), hb1, hLp⟩)
      · clear hb1 hLp 
        intro listed ac W hI hr
        obtain ⟨hl, hF, hb1, hLp⟩ := hI
        have hall := all_listed (by kernel_rfl) hl hr
        have h73 : ac.eval (.tmp 73) = .slice TA' (m0 + t) tc' := hF.done 0 (73, SP.is (.slice TA' (m0 + t) tc')) (by rw [hD]; rfl) (hall 0 (by decide))
        have h74 : ac.eval (.tmp 74) = .slice TA' (m0 + t) tc' := hF.done 1 (74, SP.is (.slice TA' (m0 + t) tc')) (by rw [hD]; rfl) (hall 1 (by decide))
        have h75 : ac.eval (.tmp 75) = .int .i64 ((m0 + t : Nat) : Int) := hF.done 2 (75, SP.is (.int .i64 ((m0 + t : Nat) : Int))) (by rw [hD]; rfl) (hall 2 (by decide))
        have h76 : ac.eval (.tmp 76) = .slice TA' (m0 + t) tc' := hF.done 3 (76, SP.is (.slice TA' (m0 + t) tc')) (by rw [hD]; rfl) (hall 3 (by decide))
        have h77 : ac.eval (.tmp 77) = .int .i64 ((m0 + t : Nat) : Int) := hF.done 4 (77, SP.is (.int .i64 ((m0 + t : Nat) : Int))) (by rw [hD]; rfl) (hall 4 (by decide))
        have h78 : ac.eval (.tmp 78) = .slice TA' (m0 + t) (m0 + t) := hF.done 5 (78, SP.is (.slice TA' (m0 + t) (m0 + t))) (by rw [hD]; rfl) (hall 5 (by decide))
        have h79 : ac.eval (.tmp 79) = .slice (some ⟨b, o, none⟩) n0 c0 := hF.done 6 (79, SP.is (.slice (some ⟨b, o, none⟩) n0 c0)) (by rw [hD]; rfl) (hall 6 (by decide))
        have h80 : ac.eval (.tmp 80) = .int .i64 (t : Int) := hF.done 7 (80, SP.is (.int .i64 (t : Int))) (by rw [hD]; rfl) (hall 7 (by decide))
        have h81 : ac.eval (.tmp 81) = .pointer (some ⟨b, o + t * 27, none⟩) := hF.done 8 (81, SP.is (.pointer (some ⟨b, o + t * 27, none⟩))) (by rw [hD]; rfl) (hall 8 (by decide))
        have h82 : ac.eval (.tmp 82) = .agg L.toArray := hF.done 9 (82, SP.is (.agg L.toArray)) (by rw [hD]; rfl) (hall 9 (by decide))
        obtain ⟨x83, h83⟩ : ∃ x, ac.eval (.tmp 83) = x := ⟨_, rfl⟩
        obtain ⟨x84, h84⟩ : ∃ x, ac.eval (.tmp 84) = x := ⟨_, rfl⟩
        obtain ⟨x85, h85⟩ : ∃ x, ac.eval (.tmp 85) = x := ⟨_, rfl⟩
        have f1 := hF.done 13 (1, SP.lp w B q (m0 + t + 1) M9) (by rw [hD]; rfl) (hall 13 (by decide))
        obtain ⟨x1, h1⟩ : ∃ x, ac.eval (.tmp 1) = x := ⟨_, rfl⟩
        replace f1 : (SP.lp w B q (m0 + t + 1) M9).P W x1 := by rw [← h1]; exact f1
        have ea := hF.lay [(73, .slice TA' (m0 + t) tc'), (74, .slice TA' (m0 + t) tc'), (75, .int .i64 ((m0 + t : Nat) : Int)), (76, .slice TA' (m0 + t) tc'), (77, .int .i64 ((m0 + t : Nat) : Int)), (78, .slice TA' (m0 + t) (m0 + t)), (79, .slice (some ⟨b, o, none⟩) n0 c0), (80, .int .i64 (t : Int)), (81, .pointer (some ⟨b, o + t * 27, none⟩)), (82, .agg L.toArray), (83, x83), (84, x84), (85, x85), (1, x1)] (by rw [hD, hsz]; rfl) (by simp only [List.forall_mem_cons, List.not_mem_nil, false_implies, implies_true, and_true]; exact ⟨h73, h74, h75, h76, h77, h78, h79, h80, h81, h82, h83, h84, h85, h1⟩)
        rw [ha0] at ea
        simp only [List.foldl_cons, List.foldl_nil, List.setIfInBounds_toArray, List.set_cons_zero, List.set_cons_succ] at ea
        clear hF hall hr hl hD  zs0 zs1 zs6 ha0 hsz h73 h74 h75 h76 h77 h78 h79 h80 h81 h82 h83 h84 h85 h1
        subst ea

        obtain ⟨A2, c2, rfl, hL2⟩ := f1
        have HL2 : Hid (Lp w W B (2 * (t + 1)) (m0 + (t + 1)) A2 c2 W.heap.size) := (by have := hL2.now; rw [hq] at this; exact this)
        clear hL2 hLp hb1 HR HI HFO HFL
        go_wp2
        refine ⟨⟨t + 1, hlt, by go_num, A2, c2, rfl, HL2⟩, by simp [intOf]; omega⟩
    · obtain ⟨vl, vw, us, ws, ds, vs, ts, k1, k2, k3, k4, k5, k6, k7, k8, k9⟩ := HP1.out
      obtain ⟨Z, rfl⟩ : ∃ Z, Z = wr := ⟨_, rfl⟩
      have HBK : Hid (Bbk w Z B vl vw vl vw us ws ds ds) := k1
      have HTL : Hid (Tl Z B vl vw TA' vs ts) := k5
      have HTN : Hid (ts.length = m0 + t) := k6
      have HTD : Hid (∀ d ∈ ts, d.length ≤ 100000000) := k7
      have HDN : Hid (ds.length ≤ 1000000) := by show _ ≤ _; omega
      have HDL : Hid (∀ d ∈ ds, d.length ≤ 1000000) := k3
      have hmt : m0 + t ≤ 1000000000 := by omega
      clear k1 k2 k3 k4 k5 k6 k7 k8 k9 HP1 HL HN
      go_upto_region 16 with fail
      go_loopw [13, 14, 15, 16, 17, 18, 19, 20] (fun k _ _ _ _ _ _ _ wr => ∃ i : Nat, i ≤ m0 + t ∧ k = .int .i64 (i : Int) ∧ Hid (Below Z.heap.size Z wr)) (fun k _ _ _ _ _ _ _ _ => m0 + t - (intOf k).toNat)
      case atStart => exact ⟨0, Nat.zero_le _, rfl, Below.refl _ _⟩
      case round =>
        obtain ⟨i, hi, rfl, HZ⟩ := hrel
        by_cases hil : i < m0 + t
        · obtain ⟨d, hd⟩ : ∃ d, ts[i]? = some d := ⟨_, List.getElem?_eq_getElem (by rw [HTN.out]; exact hil)⟩
          obtain ⟨v, hv⟩ : ∃ v, vs[i]? = some v := ⟨_, List.getElem?_eq_getElem (by rw [HTL.out.len, HTN.out]; exact hil)⟩
          obtain ⟨b, o, rfl, hc, _⟩ := HTL.out.lies i v hv
          obtain ⟨A, cap, g, ao, hve, hcap, hnil, hlies, hrg, hsl⟩ := (HTL.out.tx i v d hv hd).form
          have hdl := HTD.out d (List.mem_of_getElem? hd)
          obtain ⟨n, hn⟩ : ∃ n, d.length = n := ⟨_, rfl⟩
          rw [hn] at hve hcap hdl
          subst hve
          obtain ⟨ix, en, tk, rc, am, E, hrc, ham, hr1, hr2⟩ := read_both d
          obtain ⟨L, hL⟩ : ∃ L, L = lf ix en tk rc am := ⟨_, rfl⟩
          obtain ⟨ix2, en2, tk2, rc2, am2, E2, hrc2, ham2, hs1, hs2⟩ := read_both (xr n d)
          obtain ⟨L2, hL2⟩ : ∃ L2, L2 = lf ix2 en2 tk2 rc2 am2 := ⟨_, rfl⟩
          rw [← hL] at hr1 hr2
          rw [← hL2] at hs1 hs2
          have hxn : (xr n d).length = n := (xr_len n d).trans hn
          have HCE : Hid (∀ W, Below Z.heap.size Z W → W.cell? ⟨b, o + i, none⟩ = some (.slice A n cap)) := fun W k => cell_be hc k
          have HSE : Hid (∀ W, Below Z.heap.size Z W → SlAt W (.slice A n cap) d) := fun W k => SlAt.be hsl k
          have HR1 : Hid (∀ W G cf, SlAt W (.slice (some ⟨G, 0, none⟩) n cf) d → Calls Try.prog 10 #[.slice (some ⟨G, 0, none⟩) n cf] W fun e w' => e = .returned (.tuple #[.agg L.toArray, .int .i64 E]) ∧ Below W.heap.size W w') := fun W G cf k => hr1 W _ n cf hn (fun e => by cases e) k
          have HR2 : Hid (∀ W, Below Z.heap.size Z W → Calls Try.prog 11 #[.slice A n cap] W fun e w' => e = .returned (.tuple #[.agg L.toArray, .int .i64 E]) ∧ Below W.heap.size W w') := fun W k => hr2 W A n cap g ao hn (by omega) hcap hlies (fun e => range_be (hrg e) k)
          have HS1 : Hid (∀ W G cf, SlAt W (.slice (some ⟨G, 0, none⟩) n cf) (xr n d) → Calls Try.prog 10 #[.slice (some ⟨G, 0, none⟩) n cf] W fun e w' => e = .returned (.tuple #[.agg L2.toArray, .int .i64 E2]) ∧ Below W.heap.size W w') := fun W G cf k => hs1 W _ n cf hxn (fun e => by cases e) k
          have HS2 : Hid (∀ W G, Row W G (vB (xr n d)) 5 → Calls Try.prog 11 #[.slice (some ⟨G, 0, none⟩) n n] W fun e w' => e = .returned (.tuple #[.agg L2.toArray, .int .i64 E2]) ∧ Below W.heap.size W w') := fun W G r => hs2 W _ n n G 0 hxn (by omega) (Nat.le_refl _) (.inr rfl) (fun _ => r.all)
          have HOW : Hid (∀ W, Below Z.heap.size Z W → Calls Try.prog 9 #[.slice A n cap] W fun e w' => e = .returned (.slice (some ⟨W.heap.size, 0, none⟩) n n) ∧ Row w' W.heap.size (vB d) 5 ∧ Below W.heap.size W w') := fun W k => own11_any A n cap d hn (by omega) W (SlAt.be hsl k)
          have HOX : Hid (∀ W G cf, SlAt W (.slice (some ⟨G, 0, none⟩) n cf) (xr n d) → Calls Try.prog 9 #[.slice (some ⟨G, 0, none⟩) n cf] W fun e w' => e = .returned (.slice (some ⟨W.heap.size, 0, none⟩) n n) ∧ Row w' W.heap.size (vB (xr n d)) 5 ∧ Below W.heap.size W w') := fun W G cf k => own11_any _ n cf (xr n d) hxn (by omega) W k
          have HNL : Hid (∀ w, (binOp .neq 39 (.agg L.toArray) (.agg L.toArray)).run Try.prog w = .ok (.bool false) w) := fun w => by rw [hL]; exact neLL _ _ _ _ _ hrc ham w
          have HNL2 : Hid (∀ w, (binOp .neq 39 (.agg L2.toArray) (.agg L2.toArray)).run Try.prog w = .ok (.bool false) w) := fun w => by rw [hL2]; exact neLL _ _ _ _ _ hrc2 ham2 w
          have HIL : Hid ((Try.prog.info? 39).map (·.size) = some L.length) := by rw [hL]; exact info_lf hrc ham
          have HIL2 : Hid ((Try.prog.info? 39).map (·.size) = some L2.length) := by rw [hL2]; exact info_lf hrc2 ham2
          have HLL : Hid (L.length = zLf.length) := by rw [hL]; exact lf_len hrc ham
          have HLL2 : Hid (L2.length = L.length) := by rw [hL2, hL]; exact (lf_len hrc2 ham2).trans (lf_len hrc ham).symm
          have HOL : Hid (L.toArray.all (·.oneCell') = true) := by rw [hL]; exact lf_all
          have HOL2 : Hid (L2.toArray.all (·.oneCell') = true) := by rw [hL2]; exact lf_all
          have HDN1 : Hid (d.length = n) := hn
          have HDL1 : Hid (d.length ≤ 100000000) := by show _ ≤ _; omega
          have cm := HCE.out wr HZ.out
          clear hd hv hc hlies hrg hsl hn hL hL2 hrc ham hrc2 ham2 hr1 hr2 hs1 hs2 hxn hcap hnil
          go_upto_region 19 with (first
            | (go_at_call 9; refine Calls.mono (HOW.out wr HZ.out) ?_; rintro e Y1 ⟨rfl, q1, q2⟩; have R1 : Hid (Row Y1 wr.heap.size (vB d) 5) := q1; have B1 : Hid (Below Z.heap.size Z Y1) := HZ.out.trans (q2.mono HZ.out.size); clear q1 q2)
            | (refine wpList_app3 rfl (.tmp 96) (.tmp 97) rfl Z.heap.size wr.heap.size n Y1.heap.size d HDN1.out hdl HZ.out.size (by have h1 := B1.out.size; simp; omega) rfl (Row.alloc R1.out _) rfl (.inr ⟨_, 0, 3, rfl, by decide, (Row.new' rfl rfl : Row _ _ (vB e3) 5).all⟩) ?_; intro G cf Y2 q0 q1 q2 q3; have FB2 : Hid (Bw Y2 (.slice (some ⟨G, 0, none⟩) (n + 3) cf) (d ++ e3)) := q2; have B2 : Hid (Below Z.heap.size Z Y2) := (B1.out.alloc B1.out.size _).trans q3; have HGZ : Hid (Z.heap.size ≤ G) := q0; have HCF : Hid (n + 3 ≤ cf) := q1; clear q0 q1 q2 q3; simp only [Act.put, List.setIfInBounds_toArray, List.set_cons_zero, List.set_cons_succ]))
          clear cm R1 B1 HOW
          have cm := HCE.out Y2 B2.out
          go_upto_region 20 with (refine wpList_cutn rfl (.tmp 99) (.tmp 104) rfl G (n + 3) cf n rfl rfl (by have := HCF.out; omega) ?_; simp only [Act.put, List.setIfInBounds_toArray, List.set_cons_zero, List.set_cons_succ])
          clear cm
          go_upto_region 21 with (first
            | (go_at_call 10; refine Calls.mono (HR1.out Y2 G cf (Bw.cutsl FB2.out HDN1.out (by have := HCF.out; omega))) ?_; rintro e Y3 ⟨rfl, q⟩; have FB3 : Hid (Bw Y3 (.slice (some ⟨G, 0, none⟩) (n + 3) cf) (d ++ e3)) := Bw.be FB2.out q; have B3 : Hid (Below Z.heap.size Z Y3) := B2.out.trans (q.mono B2.out.size); clear q)
            | (refine wpList_allocLf rfl rfl ?_; intro Y4 q1 q2 q3; have R4 : Hid (Row Y4 Y3.heap.size zLf 39) := q1; have FB4 : Hid (Bw Y4 (.slice (some ⟨G, 0, none⟩) (n + 3) cf) (d ++ e3)) := Bw.be FB3.out q2; have B4 : Hid (Below Z.heap.size Z Y4) := B3.out.trans (q2.mono B3.out.size); clear q1 q2 q3; simp only [Act.put, List.setIfInBounds_toArray, List.set_cons_zero, List.set_cons_succ])
            | (refine wpList_storeL rfl 39 (.tmp 16) (.tmp 109) rfl Y3.heap.size L zLf 39 rfl rfl R4.out HLL.out HIL.out HOL.out ?_; intro Y5 q1 q2; have FB5 : Hid (Bw Y5 (.slice (some ⟨G, 0, none⟩) (n + 3) cf) (d ++ e3)) := Bw.block FB4.out (fun g e => by rw [q1]; exact heap_sets Y4 _ 0 _ g (Bw.ne FB4.out R4.out (by decide) g e)); have B5 : Hid (Below Z.heap.size Z Y5) := (by rw [q1]; exact below_setCells B4.out B3.out.size _); have R5 : Hid (Row Y5 Y3.heap.size L 39) := q2; clear q1 q2; simp only [Act.put]))
          obtain ⟨b16, hb16⟩ : ∃ b16, b16 = Y3.heap.size := ⟨_, rfl⟩
          have HZ16 : Hid (Z.heap.size ≤ b16) := by show _ ≤ _; rw [hb16]; exact B3.out.size
          rw [← hb16] at R5 ⊢
          clear hb16 FB2 FB3 FB4 B2 B3 B4 R4 HR1
          have cm := HCE.out Y5 B5.out
          go_upto_region 22 with (first
            | (go_at_call 11; refine Calls.mono (HR2.out Y5 B5.out) ?_; rintro e Y6 ⟨rfl, q⟩; have FB6 : Hid (Bw Y6 (.slice (some ⟨G, 0, none⟩) (n + 3) cf) (d ++ e3)) := Bw.be FB5.out q; have B6 : Hid (Below Z.heap.size Z Y6) := B5.out.trans (q.mono B5.out.size); have R6 : Hid (Row Y6 b16 L 39) := Row.below R5.out q R5.out.lt; clear q)
            | (refine wpList_allocLf rfl rfl ?_; intro Ya q1 q2 q3; have Ra : Hid (Row Ya Y6.heap.size zLf 39) := q1; have FBa : Hid (Bw Ya (.slice (some ⟨G, 0, none⟩) (n + 3) cf) (d ++ e3)) := Bw.be FB6.out q2; have Ba : Hid (Below Z.heap.size Z Ya) := B6.out.trans (q2.mono B6.out.size); have R6a : Hid (Row Ya b16 L 39) := Row.below R6.out q2 R6.out.lt; clear q1 q2 q3; simp only [Act.put, List.setIfInBounds_toArray, List.set_cons_zero, List.set_cons_succ])
            | (refine wpList_storeL rfl 39 (.tmp 18) (.tmp 117) rfl Y6.heap.size L zLf 39 rfl rfl Ra.out HLL.out HIL.out HOL.out ?_; intro Y7 q1 q2; have FB7 : Hid (Bw Y7 (.slice (some ⟨G, 0, none⟩) (n + 3) cf) (d ++ e3)) := Bw.block FBa.out (fun g e => by rw [q1]; exact heap_sets Ya _ 0 _ g (Bw.ne FBa.out Ra.out (by decide) g e)); have B7 : Hid (Below Z.heap.size Z Y7) := (by rw [q1]; exact below_setCells Ba.out B6.out.size _); have R8 : Hid (Row Y7 Y6.heap.size L 39) := q2; have R7 : Hid (Row Y7 b16 L 39) := (by rw [q1]; exact Row.setCells_other R6a.out _ _ _ (Nat.ne_of_lt R6.out.lt)); clear q1 q2; simp only [Act.put]))
          have h68 : b16 < Y6.heap.size := R6.out.lt
          obtain ⟨b18, hb18⟩ : ∃ b18, b18 = Y6.heap.size := ⟨_, rfl⟩
          have HZ18 : Hid (Z.heap.size ≤ b18) := by show _ ≤ _; rw [hb18]; exact B6.out.size
          rw [← hb18] at R8 h68 ⊢
          have H68 : Hid (b16 < b18) := h68
          have hb1 := Below.refl Y7.heap.size Y7
          have r16 := R7.out
          have r18 := R8.out
          have HFS : Hid (∀ W, Below Y7.heap.size Y7 W → SlAt W (.slice (some ⟨G, 0, none⟩) (n + 3) cf) (d ++ e3)) := fun W k => Bw.sl (Bw.be FB7.out k)
          have HCM : Hid (∀ W, Below Y7.heap.size Y7 W → W.cell? ⟨b, o + i * 1, none⟩ = some (.slice A n cap)) := fun W k => by rw [Nat.mul_one]; exact HCE.out W (B7.out.trans (k.mono B7.out.size))
          have HSL : Hid (∀ W, Below Y7.heap.size Y7 W → SlAt W (.slice A n cap) d) := fun W k => HSE.out W (B7.out.trans (k.mono B7.out.size))
          clear cm hb18 h68 R5 R6 R6a Ra R7 R8 FB5 FB6 FBa B5 B6 Ba HR2 HCE HSE
          refine wp_named fun a0 ha0 => ?_
          have hsz : a0.tmps.size = 173 := by rw [ha0]; rfl
          have zs1 : a0.eval (.tmp 1) = .slice (some ⟨b, o, none⟩) (m0 + t) tc' := by rw [ha0]; rfl
          have zs13 : a0.eval (.tmp 13) = .int .i64 (i : Int) := by rw [ha0]; rfl
          have zs14 : a0.eval (.tmp 14) = .slice (some ⟨G, 0, none⟩) (n + 3) cf := by rw [ha0]; rfl
          have zs16 : a0.eval (.tmp 16) = .pointer (some ⟨b16, 0, none⟩) := by rw [ha0]; rfl
          have zs17 : a0.eval (.tmp 17) = .int .i64 E := by rw [ha0]; rfl
          have zs18 : a0.eval (.tmp 18) = .pointer (some ⟨b18, 0, none⟩) := by rw [ha0]; rfl
          have zs19 : a0.eval (.tmp 19) = .int .i64 E := by rw [ha0]; rfl
          obtain ⟨D, hD⟩ : ∃ D : List (Tmp × SP), D = [(119, SP.is (.int .i64 E)), (120, SP.is (.int .i64 E)), (121, SP.is (.bool false)), (122, SP.is (.bool false)), (123, SP.is (.agg L.toArray)), (124, SP.is (.agg L.toArray)), (125, SP.is (.bool false)), (126, SP.is (.bool false)), (127, SP.is (.bool false)), (128, SP.is (.slice (some ⟨G, 0, none⟩) (n + 3) cf)), (129, SP.is (.string (str (d ++ e3)))), (130, SP.is (.slice (some ⟨b, o, none⟩) (m0 + t) tc')), (131, SP.is (.int .i64 (i : Int))), (132, SP.is (.pointer (some ⟨b, o + i * 1, none⟩))), (133, SP.is (.slice A n cap)), (134, SP.is (.string (str d))), (135, SP.is (.string (str (d ++ e3)))), (136, SP.is (.bool false)), (137, SP.is (.bool false))] := ⟨_, rfl⟩
          refine wp_region_down (by kernel_rfl) (fun listed ac W => listed.size = 19 ∧ Fp D a0 listed ac W ∧ Below Y7.heap.size Y7 W ∧ Row W b16 L 39 ∧ Row W b18 L 39) ?_ ?_ ?_
          · exact ⟨by simp, Fp.start D a0 _ _, Below.drew hb1, Row.drew r16, Row.drew r18⟩
          · clear ha0 hb1 r16 r18 
            intro listed ac W k hI hdn hk
            obtain ⟨hl, hF, hb1, r16, r18⟩ := hI
            have hk1 : k < 19 := List.mem_range.1 (List.mem_filter.1 hk).1
            have hl2 : ∀ j, (listed.setIfInBounds j true).size = 19 := fun j => by rw [Array.size_setIfInBounds]; exact hl
            rcases (show k = 0 ∨ k = 1 ∨ k = 2 ∨ k = 3 ∨ k = 4 ∨ k = 5 ∨ k = 6 ∨ k = 7 ∨ k = 8 ∨ k = 9 ∨ k = 10 ∨ k = 11 ∨ k = 12 ∨ k = 13 ∨ k = 14 ∨ k = 15 ∨ k = 16 ∨ k = 17 ∨ k = 18 by omega) with rfl | rfl | rfl | rfl | rfl | rfl | rfl | rfl | rfl | rfl | rfl | rfl | rfl | rfl | rfl | rfl | rfl | rfl | rfl
            · have hk3 := hk
              exact wpOp_plain rfl rfl (wp_move_v (ac.eval (.tmp 17)) rfl rfl ⟨hl2 0, (hF.put 0 119 (SP.is (.int .i64 E)) (ac.eval (.tmp 17)) (by rw [hD]; rfl) (((hF.keep 17 (by rw [hD]; rfl)).trans zs17)) (by rw [hD]; rfl) (by rw [hsz]; decide) (by rw [hl]; decide)), hb1, r16, r18⟩)
            · have hk3 := hk
              exact wpOp_plain rfl rfl (wp_move_v (ac.eval (.tmp 19)) rfl rfl ⟨hl2 1, (hF.put 1 120 (SP.is (.int .i64 E)) (ac.eval (.tmp 19)) (by rw [hD]; rfl) (((hF.keep 19 (by rw [hD]; rfl)).trans zs19)) (by rw [hD]; rfl) (by rw [hsz]; decide) (by rw [hl]; decide)), hb1, r16, r18⟩)
            · have hk3 := hk
              have ea := (hF.done 0 (119, SP.is (.int .i64 E)) (by rw [hD]; rfl) (ready_dep hk 0 (by kernel_rfl)))
              have eb := (hF.done 1 (120, SP.is (.int .i64 E)) (by rw [hD]; rfl) (ready_dep hk 1 (by kernel_rfl)))
              exact wpOp_plain rfl rfl (wp_neqE rfl E ea eb ⟨hl2 2, (hF.put 2 121 (SP.is (.bool false)) (.bool false) (by rw [hD]; rfl) rfl (by rw [hD]; rfl) (by rw [hsz]; decide) (by rw [hl]; decide)), hb1, r16, r18⟩)
            · have hk3 := hk
              exact wpOp_plain rfl rfl (wp_move_v (ac.eval (.tmp 121)) rfl rfl ⟨hl2 3, (hF.put 3 122 (SP.is (.bool false)) (ac.eval (.tmp 121)) (by rw [hD]; rfl) ((hF.done 2 (121, SP.is (.bool false)) (by rw [hD]; rfl) (ready_dep hk 2 (by kernel_rfl)))) (by rw [hD]; rfl) (by rw [hsz]; decide) (by rw [hl]; decide)), hb1, r16, r18⟩)
            · have hk3 := hk
              exact wpOp_wanted rfl (wanted_g (g := 3) (b := false) rfl rfl (hF.done 3 (122, SP.is (.bool false)) (by rw [hD]; rfl) (ready_dep hk 3 (by kernel_rfl))) (by rw [hF.size, hsz]; decide)) (wp_load_mid 39 (.tmp 16) rfl b16 0 ((hF.keep 16 (by rw [hD]; rfl)).trans zs16) L _ r16.all Try.underlying39 rfl HIL.out ⟨hl2 4, (hF.put 4 123 (SP.is (.agg L.toArray)) (.agg L.toArray) (by rw [hD]; rfl) rfl (by rw [hD]; rfl) (by rw [hsz]; decide) (by rw [hl]; decide)), hb1, r16, r18⟩)
            · have hk3 := hk
              exact wpOp_wanted rfl (wanted_g (g := 3) (b := false) rfl rfl (hF.done 3 (122, SP.is (.bool false)) (by rw [hD]; rfl) (ready_dep hk 3 (by kernel_rfl))) (by rw [hF.size, hsz]; decide)) (wp_load_mid 39 (.tmp 18) rfl b18 0 ((hF.keep 18 (by rw [hD]; rfl)).trans zs18) L _ r18.all Try.underlying39 rfl HIL.out ⟨hl2 5, (hF.put 5 124 (SP.is (.agg L.toArray)) (.agg L.toArray) (by rw [hD]; rfl) rfl (by rw [hD]; rfl) (by rw [hsz]; decide) (by rw [hl]; decide)), hb1, r16, r18⟩)
            · have hk3 := hk
              have ea := (hF.done 4 (123, SP.is (.agg L.toArray)) (by rw [hD]; rfl) (ready_dep hk 4 (by kernel_rfl)))
              have eb := (hF.done 5 (124, SP.is (.agg L.toArray)) (by rw [hD]; rfl) (ready_dep hk 5 (by kernel_rfl)))
              exact wpOp_wanted rfl (wanted_g (g := 3) (b := false) rfl rfl (hF.done 3 (122, SP.is (.bool false)) (by rw [hD]; rfl) (ready_dep hk 3 (by kernel_rfl))) (by rw [hF.size, hsz]; decide)) (wp_neqGb (.tmp 123) (.tmp 124) _ rfl L L false ea eb HNL.out ⟨hl2 6, (hF.put 6 125 (SP.is (.bool false)) (.bool false) (by rw [hD]; rfl) rfl (by rw [hD]; rfl) (by rw [hsz]; decide) (by rw [hl]; decide)), hb1, r16, r18⟩)
            · have hk3 := hk
              have ea := (hF.done 3 (122, SP.is (.bool false)) (by rw [hD]; rfl) (ready_dep hk 3 (by kernel_rfl)))
              have eb := (hF.done 6 (125, SP.is (.bool false)) (by rw [hD]; rfl) (ready_dep hk 6 (by kernel_rfl)))
              exact wpOp_plain rfl rfl (wp_pick_f (.bool false) rfl ea eb ⟨hl2 7, (hF.put 7 126 (SP.is (.bool false)) (.bool false) (by rw [hD]; rfl) rfl (by rw [hD]; rfl) (by rw [hsz]; decide) (by rw [hl]; decide)), hb1, r16, r18⟩)
            · have hk3 := hk
              exact wpOp_plain rfl rfl (wp_move_v (ac.eval (.tmp 126)) rfl rfl ⟨hl2 8, (hF.put 8 127 (SP.is (.bool false)) (ac.eval (.tmp 126)) (by rw [hD]; rfl) ((hF.done 7 (126, SP.is (.bool false)) (by rw [hD]; rfl) (ready_dep hk 7 (by kernel_rfl)))) (by rw [hD]; rfl) (by rw [hsz]; decide) (by rw [hl]; decide)), hb1, r16, r18⟩)
            · have hk3 := hk
              exact wpOp_wanted rfl (wanted_g (g := 8) (b := false) rfl rfl (hF.done 8 (127, SP.is (.bool false)) (by rw [hD]; rfl) (ready_dep hk 8 (by kernel_rfl))) (by rw [hF.size, hsz]; decide)) (wp_move_v (ac.eval (.tmp 14)) rfl rfl ⟨hl2 9, (hF.put 9 128 (SP.is (.slice (some ⟨G, 0, none⟩) (n + 3) cf)) (ac.eval (.tmp 14)) (by rw [hD]; rfl) (((hF.keep 14 (by rw [hD]; rfl)).trans zs14)) (by rw [hD]; rfl) (by rw [hsz]; decide) (by rw [hl]; decide)), hb1, r16, r18⟩)
            · have hk3 := hk
              have ea := (hF.done 9 (128, SP.is (.slice (some ⟨G, 0, none⟩) (n + 3) cf)) (by rw [hD]; rfl) (ready_dep hk 9 (by kernel_rfl)))
              exact wpOp_wanted rfl (wanted_g (g := 8) (b := false) rfl rfl (hF.done 8 (127, SP.is (.bool false)) (by rw [hD]; rfl) (ready_dep hk 8 (by kernel_rfl))) (by rw [hF.size, hsz]; decide)) (wp_convs rfl (d ++ e3) _ ea (HFS.out W hb1) ⟨hl2 10, (hF.put 10 129 (SP.is (.string (str (d ++ e3)))) (.string (str (d ++ e3))) (by rw [hD]; rfl) rfl (by rw [hD]; rfl) (by rw [hsz]; decide) (by rw [hl]; decide)), hb1, r16, r18⟩)
            · have hk3 := hk
              exact wpOp_wanted rfl (wanted_g (g := 8) (b := false) rfl rfl (hF.done 8 (127, SP.is (.bool false)) (by rw [hD]; rfl) (ready_dep hk 8 (by kernel_rfl))) (by rw [hF.size, hsz]; decide)) (wp_move_v (ac.eval (.tmp 1)) rfl rfl ⟨hl2 11, (hF.put 11 130 (SP.is (.slice (some ⟨b, o, none⟩) (m0 + t) tc')) (ac.eval (.tmp 1)) (by rw [hD]; rfl) (((hF.keep 1 (by rw [hD]; rfl)).trans zs1)) (by rw [hD]; rfl) (by rw [hsz]; decide) (by rw [hl]; decide)), hb1, r16, r18⟩)
            · have hk3 := hk
              exact wpOp_wanted rfl (wanted_g (g := 8) (b := false) rfl rfl (hF.done 8 (127, SP.is (.bool false)) (by rw [hD]; rfl) (ready_dep hk 8 (by kernel_rfl))) (by rw [hF.size, hsz]; decide)) (wp_move_v (ac.eval (.tmp 13)) rfl rfl ⟨hl2 12, (hF.put 12 131 (SP.is (.int .i64 (i : Int))) (ac.eval (.tmp 13)) (by rw [hD]; rfl) (((hF.keep 13 (by rw [hD]; rfl)).trans zs13)) (by rw [hD]; rfl) (by rw [hsz]; decide) (by rw [hl]; decide)), hb1, r16, r18⟩)
            · have hk3 := hk
              have ea := (hF.done 11 (130, SP.is (.slice (some ⟨b, o, none⟩) (m0 + t) tc')) (by rw [hD]; rfl) (ready_dep hk 11 (by kernel_rfl)))
              have eb := (hF.done 12 (131, SP.is (.int .i64 (i : Int))) (by rw [hD]; rfl) (ready_dep hk 12 (by kernel_rfl)))
              exact wpOp_wanted rfl (wanted_g (g := 8) (b := false) rfl rfl (hF.done 8 (127, SP.is (.bool false)) (by rw [hD]; rfl) (ready_dep hk 8 (by kernel_rfl))) (by rw [hF.size, hsz]; decide)) (wp_ixs 23 29 rfl b o (m0 + t) tc' i 1 ea eb hil Try.underlying23 info_slb1b ⟨hl2 13, (hF.put 13 132 (SP.is (.pointer (some ⟨b, o + i * 1, none⟩))) (.pointer (some ⟨b, o + i * 1, none⟩)) (by rw [hD]; rfl) rfl (by rw [hD]; rfl) (by rw [hsz]; decide) (by rw [hl]; decide)), hb1, r16, r18⟩)
            · have hk3 := hk
              have ea := (hF.done 13 (132, SP.is (.pointer (some ⟨b, o + i * 1, none⟩))) (by rw [hD]; rfl) (ready_dep hk 13 (by kernel_rfl)))
              exact wpOp_wanted rfl (wanted_g (g := 8) (b := false) rfl rfl (hF.done 8 (127, SP.is (.bool false)) (by rw [hD]; rfl) (ready_dep hk 8 (by kernel_rfl))) (by rw [hF.size, hsz]; decide)) (wp_load_1 b (o + i * 1) (.slice A n cap) rfl ea (ld_sl W b (o + i * 1) (.slice A n cap) (HCM.out W hb1)) ⟨hl2 14, (hF.put 14 133 (SP.is (.slice A n cap)) (.slice A n cap) (by rw [hD]; rfl) rfl (by rw [hD]; rfl) (by rw [hsz]; decide) (by rw [hl]; decide)), hb1, r16, r18⟩)
            · have hk3 := hk
              have ea := (hF.done 14 (133, SP.is (.slice A n cap)) (by rw [hD]; rfl) (ready_dep hk 14 (by kernel_rfl)))
              exact wpOp_wanted rfl (wanted_g (g := 8) (b := false) rfl rfl (hF.done 8 (127, SP.is (.bool false)) (by rw [hD]; rfl) (ready_dep hk 8 (by kernel_rfl))) (by rw [hF.size, hsz]; decide)) (wp_convs rfl d _ ea (HSL.out W hb1) ⟨hl2 15, (hF.put 15 134 (SP.is (.string (str d))) (.string (str d)) (by rw [hD]; rfl) rfl (by rw [hD]; rfl) (by rw [hsz]; decide) (by rw [hl]; decide)), hb1, r16, r18⟩)
            · have hk3 := hk
              have ea := (hF.done 15 (134, SP.is (.string (str d))) (by rw [hD]; rfl) (ready_dep hk 15 (by kernel_rfl)))
              exact wpOp_wanted rfl (wanted_g (g := 8) (b := false) rfl rfl (hF.done 8 (127, SP.is (.bool false)) (by rw [hD]; rfl) (ready_dep hk 8 (by kernel_rfl))) (by rw [hF.size, hsz]; decide)) (wp_adds rfl d HDL1.out ea ⟨hl2 16, (hF.put 16 135 (SP.is (.string (str (d ++ e3)))) (.string (str (d ++ e3))) (by rw [hD]; rfl) rfl (by rw [hD]; rfl) (by rw [hsz]; decide) (by rw [hl]; decide)), hb1, r16, r18⟩)
            · have hk3 := hk
              have ea := (hF.done 10 (129, SP.is (.string (str (d ++ e3)))) (by rw [hD]; rfl) (ready_dep hk 10 (by kernel_rfl)))
              have eb := (hF.done 16 (135, SP.is (.string (str (d ++ e3)))) (by rw [hD]; rfl) (ready_dep hk 16 (by kernel_rfl)))
              exact wpOp_wanted rfl (wanted_g (g := 8) (b := false) rfl rfl (hF.done 8 (127, SP.is (.bool false)) (by rw [hD]; rfl) (ready_dep hk 8 (by kernel_rfl))) (by rw [hF.size, hsz]; decide)) (wp_neqs rfl (d ++ e3) ea eb ⟨hl2 17, (hF.put 17 136 (SP.is (.bool false)) (.bool false) (by rw [hD]; rfl) rfl (by rw [hD]; rfl) (by rw [hsz]; decide) (by rw [hl]; decide)), hb1, r16, r18⟩)
            · have hk3 := hk
              have ea := (hF.done 8 (127, SP.is (.bool false)) (by rw [hD]; rfl) (ready_dep hk 8 (by kernel_rfl)))
              have eb := (hF.done 17 (136, SP.is (.bool false)) (by rw [hD]; rfl) (ready_dep hk 17 (by kernel_rfl)))
              exact wpOp_plain rfl rfl (wp_pick_f (.bool false) rfl ea eb ⟨hl2 18, (hF.put 18 137 (SP.is (.bool false)) (.bool false) (by rw [hD]; rfl) rfl (by rw [hD]; rfl) (by rw [hsz]; decide) (by rw [hl]; decide)), hb1, r16, r18⟩)
          · clear hb1 r16 r18 
            intro listed ac W hI hr
            obtain ⟨hl, hF, hb1, r16, r18⟩ := hI
            have hall := all_listed (by kernel_rfl) hl hr
            have h119 : ac.eval (.tmp 119) = .int .i64 E := hF.done 0 (119, SP.is (.int .i64 E)) (by rw [hD]; rfl) (hall 0 (by decide))
            have h120 : ac.eval (.tmp 120) = .int .i64 E := hF.done 1 (120, SP.is (.int .i64 E)) (by rw [hD]; rfl) (hall 1 (by decide))
            have h121 : ac.eval (.tmp 121) = .bool false := hF.done 2 (121, SP.is (.bool false)) (by rw [hD]; rfl) (hall 2 (by decide))
            have h122 : ac.eval (.tmp 122) = .bool false := hF.done 3 (122, SP.is (.bool false)) (by rw [hD]; rfl) (hall 3 (by decide))
            have h123 : ac.eval (.tmp 123) = .agg L.toArray := hF.done 4 (123, SP.is (.agg L.toArray)) (by rw [hD]; rfl) (hall 4 (by decide))
            have h124 : ac.eval (.tmp 124) = .agg L.toArray := hF.done 5 (124, SP.is (.agg L.toArray)) (by rw [hD]; rfl) (hall 5 (by decide))
            have h125 : ac.eval (.tmp 125) = .bool false := hF.done 6 (125, SP.is (.bool false)) (by rw [hD]; rfl) (hall 6 (by decide))
            have h126 : ac.eval (.tmp 126) = .bool false := hF.done 7 (126, SP.is (.bool false)) (by rw [hD]; rfl) (hall 7 (by decide))
            have h127 : ac.eval (.tmp 127) = .bool false := hF.done 8 (127, SP.is (.bool false)) (by rw [hD]; rfl) (hall 8 (by decide))
            have h128 : ac.eval (.tmp 128) = .slice (some ⟨G, 0, none⟩) (n + 3) cf := hF.done 9 (128, SP.is (.slice (some ⟨G, 0, none⟩) (n + 3) cf)) (by rw [hD]; rfl) (hall 9 (by decide))
            have h129 : ac.eval (.tmp 129) = .string (str (d ++ e3)) := hF.done 10 (129, SP.is (.string (str (d ++ e3)))) (by rw [hD]; rfl) (hall 10 (by decide))
            have h130 : ac.eval (.tmp 130) = .slice (some ⟨b, o, none⟩) (m0 + t) tc' := hF.done 11 (130, SP.is (.slice (some ⟨b, o, none⟩) (m0 + t) tc')) (by rw [hD]; rfl) (hall 11 (by decide))
            have h131 : ac.eval (.tmp 131) = .int .i64 (i : Int) := hF.done 12 (131, SP.is (.int .i64 (i : Int))) (by rw [hD]; rfl) (hall 12 (by decide))
            have h132 : ac.eval (.tmp 132) = .pointer (some ⟨b, o + i * 1, none⟩) := hF.done 13 (132, SP.is (.pointer (some ⟨b, o + i * 1, none⟩))) (by rw [hD]; rfl) (hall 13 (by decide))
            have h133 : ac.eval (.tmp 133) = .slice A n cap := hF.done 14 (133, SP.is (.slice A n cap)) (by rw [hD]; rfl) (hall 14 (by decide))
            have h134 : ac.eval (.tmp 134) = .string (str d) := hF.done 15 (134, SP.is (.string (str d))) (by rw [hD]; rfl) (hall 15 (by decide))
            have h135 : ac.eval (.tmp 135) = .string (str (d ++ e3)) := hF.done 16 (135, SP.is (.string (str (d ++ e3)))) (by rw [hD]; rfl) (hall 16 (by decide))
            have h136 : ac.eval (.tmp 136) = .bool false := hF.done 17 (136, SP.is (.bool false)) (by rw [hD]; rfl) (hall 17 (by decide))
            have h137 : ac.eval (.tmp 137) = .bool false := hF.done 18 (137, SP.is (.bool false)) (by rw [hD]; rfl) (hall 18 (by decide))
            have ea := hF.lay [(119, .int .i64 E), (120, .int .i64 E), (121, .bool false), (122, .bool false), (123, .agg L.toArray), (124, .agg L.toArray), (125, .bool false), (126, .bool false), (127, .bool false), (128, .slice (some ⟨G, 0, none⟩) (n + 3) cf), (129, .string (str (d ++ e3))), (130, .slice (some ⟨b, o, none⟩) (m0 + t) tc'), (131, .int .i64 (i : Int)), (132, .pointer (some ⟨b, o + i * 1, none⟩)), (133, .slice A n cap), (134, .string (str d)), (135, .string (str (d ++ e3))), (136, .bool false), (137, .bool false)] (by rw [hD, hsz]; rfl) (by simp only [List.forall_mem_cons, List.not_mem_nil, false_implies, implies_true, and_true]; exact ⟨h119, h120, h121, h122, h123, h124, h125, h126, h127, h128, h129, h130, h131, h132, h133, h134, h135, h136, h137⟩)
            rw [ha0] at ea
            simp only [List.foldl_cons, List.foldl_nil, List.setIfInBounds_toArray, List.set_cons_zero, List.set_cons_succ] at ea
            clear hF hall hr hl hD  zs1 zs13 zs14 zs16 zs17 zs18 zs19 ha0 hsz h119 h120 h121 h122 h123 h124 h125 h126 h127 h128 h129 h130 h131 h132 h133 h134 h135 h136 h137
            subst ea

            have FB8 : Hid (Bw W (.slice (some ⟨G, 0, none⟩) (n + 3) cf) (xr 0 d ++ e3)) := (by rw [xr_zero]; exact Bw.be FB7.out hb1)
            have R16 : Hid (Row W b16 L 39) := r16
            have R18 : Hid (Row W b18 L 39) := r18
            have BZ : Hid (Below Z.heap.size Z W) := B7.out.trans (hb1.mono B7.out.size)
            clear hb1 r16 r18 FB7 B7 HFS HCM HSL HNL HZ
            go_upto_region 25 with fail
            go_loopw [20] (fun k wr => ∃ j : Nat, j ≤ n ∧ k = .int .i64 (j : Int) ∧ Hid (Bw wr (.slice (some ⟨G, 0, none⟩) (n + 3) cf) (xr j d ++ e3)) ∧ Hid (Row wr b16 L 39) ∧ Hid (Row wr b18 L 39) ∧ Hid (Below Z.heap.size Z wr)) (fun k _ => n - (intOf k).toNat)
            case atStart => exact ⟨0, Nat.zero_le _, rfl, FB8, R16, R18, BZ⟩
            case round =>
              obtain ⟨j, hj, rfl, JB, J6, J8, JZ⟩ := hrel
              clear FB8 R16 R18 BZ
              by_cases hjn : j < n
              · obtain ⟨y, hy⟩ : ∃ y, d[j]? = some y := ⟨_, List.getElem?_eq_getElem (by rw [HDN1.out]; exact hjn)⟩
                have HY : Hid (d[j]? = some y) := hy
                have cj := Bw.cellAt JB.out j y (xr_getA j d y hy)
                obtain ⟨cur, rr, q1, q2, _⟩ := bw_row2 JB.out
                have RR : Hid (Row wr G cur 5) := rr
                have hcl : j < cur.length := by omega
                clear hy rr q1 q2
                go_wp2_with (first
                  | (refine wpList_xor1 rfl (.tmp 149) _ rfl y rfl ?_; simp only [Act.put, List.setIfInBounds_toArray, List.set_cons_zero, List.set_cons_succ])
                  | (refine wpList_setB rfl (.tmp 151) (.tmp 150) rfl G j (c (y ^^^ 1#8)) cur 5 rfl rfl RR.out hcl ?_; intro V q; have JB2 : Hid (Bw V (.slice (some ⟨G, 0, none⟩) (n + 3) cf) (xr (j + 1) d ++ e3)) := (by rw [q, ← xr_setA j d y HY.out]; exact Bw.setAt JB.out j (by omega) _); have J62 : Hid (Row V b16 L 39) := (by rw [q]; exact J6.out.set_other G j _ (row_ne J6.out RR.out (by decide))); have J82 : Hid (Row V b18 L 39) := (by rw [q]; exact J8.out.set_other G j _ (row_ne J8.out RR.out (by decide))); have JZ2 : Hid (Below Z.heap.size Z V) := (by rw [q]; exact JZ.out.trans (((Gro.refl (· = G) wr).set G j _ rfl).to_below JZ.out.size (fun k e => by rw [e]; exact HGZ.out))); clear q cj; simp only [Act.put]))
                refine ⟨⟨j + 1, hjn, by go_num, JB2, J62, J82, JZ2⟩, by simp [intOf]; omega⟩
              · have ejn : j = n := by omega
                rw [ejn] at JB
                clear ejn
                go_upto_region 29 with (first
                  | (go_at_call 10; refine Calls.mono (HS1.out wr G cf (Bw.cutsl JB.out ((xr_len n d).trans HDN1.out) (by have := HCF.out; omega))) ?_; rintro e V1 ⟨rfl, q⟩; have K6 : Hid (Row V1 b16 L 39) := Row.below J6.out q J6.out.lt; have K8 : Hid (Row V1 b18 L 39) := Row.below J8.out q J8.out.lt; have KB : Hid (Bw V1 (.slice (some ⟨G, 0, none⟩) (n + 3) cf) (xr n d ++ e3)) := Bw.be JB.out q; have KZ : Hid (Below Z.heap.size Z V1) := JZ.out.trans (q.mono JZ.out.size); clear q)
                  | (refine wpList_storeL rfl 39 (.tmp 16) (.tmp 155) rfl b16 L2 L 39 rfl rfl K6.out HLL2.out HIL2.out HOL2.out ?_; intro V2 q1 q2; have M6 : Hid (Row V2 b16 L2 39) := q2; have M8 : Hid (Row V2 b18 L 39) := (by rw [q1]; exact Row.setCells_other K8.out _ _ _ (Nat.ne_of_gt H68.out)); have MB : Hid (Bw V2 (.slice (some ⟨G, 0, none⟩) (n + 3) cf) (xr n d ++ e3)) := Bw.block KB.out (fun g e => by rw [q1]; exact heap_sets V1 _ 0 _ g (Bw.ne KB.out K6.out (by decide) g e)); have MZ : Hid (Below Z.heap.size Z V2) := (by rw [q1]; exact below_setCells KZ.out HZ16.out _); clear q1 q2; simp only [Act.put]))
                clear JB J6 J8 JZ K6 K8 KB KZ HS1
                go_upto_region 30 with (first
                  | (go_at_call 9; refine Calls.mono (HOX.out V2 G cf (Bw.cutsl MB.out ((xr_len n d).trans HDN1.out) (by have := HCF.out; omega))) ?_; rintro e V3 ⟨rfl, q1, q⟩; have O3 : Hid (Row V3 V2.heap.size (vB (xr n d)) 5) := q1; have N6 : Hid (Row V3 b16 L2 39) := Row.below M6.out q M6.out.lt; have N8 : Hid (Row V3 b18 L 39) := Row.below M8.out q M8.out.lt; have NZ : Hid (Below Z.heap.size Z V3) := MZ.out.trans (q.mono MZ.out.size); clear q q1)
                  | (go_at_call 11; refine Calls.mono (HS2.out V3 V2.heap.size O3.out) ?_; rintro e V4 ⟨rfl, q⟩; have S6 : Hid (Row V4 b16 L2 39) := Row.below N6.out q N6.out.lt; have S8 : Hid (Row V4 b18 L 39) := Row.below N8.out q N8.out.lt; have SZ : Hid (Below Z.heap.size Z V4) := NZ.out.trans (q.mono NZ.out.size); clear q)
                  | (refine wpList_storeL rfl 39 (.tmp 18) (.tmp 161) rfl b18 L2 L 39 rfl rfl S8.out HLL2.out HIL2.out HOL2.out ?_; intro V5 q1 q2; have T8 : Hid (Row V5 b18 L2 39) := q2; have T6 : Hid (Row V5 b16 L2 39) := (by rw [q1]; exact Row.setCells_other S6.out _ _ _ (Nat.ne_of_lt H68.out)); have TZ : Hid (Below Z.heap.size Z V5) := (by rw [q1]; exact below_setCells SZ.out HZ18.out _); clear q1 q2; simp only [Act.put]))
                clear M6 M8 MB MZ O3 N6 N8 NZ S6 S8 SZ HS2 HOX
                go_wp2_with (first
                  | (refine wpList_load_w rfl 39 (.tmp 16) rfl b16 (0) rfl L2 _ (Row.all T6.out) Try.underlying39 rfl HIL2.out ?_; simp only [Act.put, List.setIfInBounds_toArray, List.set_cons_zero, List.set_cons_succ])
                  | (refine wpList_load_w rfl 39 (.tmp 18) rfl b18 (0) rfl L2 _ (Row.all T8.out) Try.underlying39 rfl HIL2.out ?_; simp only [Act.put, List.setIfInBounds_toArray, List.set_cons_zero, List.set_cons_succ])
                  | (refine wpList_neqGb rfl (.tmp 167) (.tmp 168) _ rfl L2 L2 false rfl rfl HNL2.out ?_; simp only [Act.put, List.setIfInBounds_toArray, List.set_cons_zero, List.set_cons_succ]))
                refine ⟨⟨i + 1, hil, by go_num, TZ⟩, by simp [intOf]; omega⟩
        · go_wp2_with (go_at_call 12; refine Calls.mono (still_any w B vl vw us ws ds HDN.out HDL.out wr (HBK.out.below HZ.out)) ?_; rintro e V ⟨rfl, q⟩; have BV : Hid (Below w.heap.size w V) := q; clear q)
          go_ret
          exact ⟨rfl, BV.out⟩

end Go.Proofs.Ytehjadgmleoobaa
