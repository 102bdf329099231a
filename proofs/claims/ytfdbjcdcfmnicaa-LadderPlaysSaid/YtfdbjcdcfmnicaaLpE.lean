/-
  LadderPlays: the document's Post.
-/
import Derived.Test.YtfdbjcdcfmnicaaLpD
namespace Go.Proofs.Ytfdbjcdcfmnicaa
open Go Go.RowKit
open Sha

theorem Lo.below {w w' : World} {e : TypeId} {s n : Nat} {v : Value} {xs : List Value} (h : Lo w e s v n xs) (k : Below w.heap.size w w') : Lo w' e s v n xs := h.be k
theorem fol_iff {c d : Cm} (hd : d.May) : folB c d = true ↔ d.n < c.n ∧ c.n ≤ d.n + 1024 ∧ c.n ≤ 1099511627776 ∧ d.k ≤ c.k ∧ c.k ≤ 1099511627776 := by
  obtain ⟨a1, a2, a3, a4⟩ := hd
  unfold folB mayB
  simp only [Bool.and_eq_true, decide_eq_true_eq]
  omega
section
variable {Q : Exit → Act → World → Prop} {o : Oper} {a : Act} {w : World} {K : Act → World → Prop}
theorem wp_fR3 {x : Operand} (ho : o.op = .fieldAddr tRL x 3) (B : Nat) (hx : a.eval x = .pointer (some ⟨B, 0, none⟩)) (h : K (a.put o.dst (.pointer (some ⟨B, 68, none⟩))) w) : Oper.wp Try.prog o a w K Q := by
  unfold Oper.wp execOp
  simp only [ho, hx]
  go_simp
  exact h
end
section
variable {ops : Array Oper} {rest : List Oper} {op : Oper} {a : Act} {w : World} {Q : Exit → Act → World → Prop}
theorem wpList_bPn (hgd : op.guard = none) (x : Operand) (ho : op.op = .buildSlice tPs 1 #[(0, x)]) (L : List Value) (hL : L.length = 90) (hx : a.eval x = .agg L.toArray)
    (h : ∀ X, Row X w.heap.size L tP → Below w.heap.size w X → wpList Try.prog ops Q rest (a.put op.dst (.slice (some ⟨w.heap.size, 0, none⟩) 1 1)) X) : wpList Try.prog ops Q (op :: rest) a w :=
  wpList_plain hgd fun _ hK => wp_bPn x ho L hL hx fun X q1 q2 => hK _ _ (h X q1 q2)
theorem wpList_appLo (hgd : op.guard = none) (s x : Operand) (ho : op.op = .call { callee := .builtin .append, args := #[s, x], argTypes := #[tPs, tPs] }) (v : Value) (n : Nat) (l news : List Value) (hs : a.eval s = v) (hown : Lo w tP 90 v n l)
    (g2 : Nat) (hm : news.length = 90) (hx : a.eval x = .slice (some ⟨g2, 0, none⟩) 1 1) (hX : w.rangeAt g2 0 news) (h1 : ∀ v ∈ news, v.oneCell' = true) (hk : n ≤ 1000000)
    (h : ∀ v' w', Lo w' tP 90 v' (n + 1) (l ++ news) → w.grownBy w' v.ownBlock → Nv w v v' → wpList Try.prog ops Q rest (a.put op.dst v') w') : wpList Try.prog ops Q (op :: rest) a w :=
  wpList_plain hgd fun _ hK => wp_appLo tPs tP 90 136 Try.underlying42 info_PO (by decide) (by decide) s x ho v n l news hs hown g2 hm hx hX h1 hk fun v' w' q1 q2 q3 => hK _ _ (h v' w' q1 q2 q3)
end
set_option maxRecDepth 100000 in
set_option maxHeartbeats 16000000 in
theorem rpost_any {w : World} {v : Value} {B : Int} {st : La} (h : Rf w v B st) (hB : 0 ≤ B) (hB2 : B < 4611686018427387904) (c : Cm) (hc : c.Wf) (ad : List (BitVec 8)) (had : ad.length = 20) (inbox now : Int) (L Lc : List Value) (hL : L = st.dc v) (hLc : Lc = c.cells) (st' : La) (N E : Int) (hr : st.post c ad inbox now = (st', N, E)) : Calls Try.prog 56 #[.agg L.toArray, .agg Lc.toArray, .agg (vB ad).toArray, .int .i64 inbox, .int .i64 now] w fun e w' => ∃ v', e = .returned (.tuple #[.agg (st'.dc v').toArray, .int .i64 N, .int .i64 E]) ∧ Rf w' v' (B + 1) st' ∧ Nv w v v' ∧ Below w.heap.size w w' := by
  have HI : Hid ((Try.prog.info? tRL).map (·.size) = some L.length) := by show _ = _; rw [hL]; exact La.dinfo h.ok.cf v
  have HRF : Hid (Rf w v B st) := h
  have HLL : Hid (L = st.dc v) := hL
  obtain ⟨A, cap, hv, hcap, hp⟩ := h.form
  have HLN0 : Hid (L.length = zRL.length) := by show _ = _; rw [hL, La.dlen h.ok.cf, zRL_len]
  have HO0 : Hid (L.toArray.all (·.oneCell') = true) := by show _ = _; rw [hL, hv]; exact all_one (La.done _ _ _ _)
  obtain ⟨la, hla⟩ : ∃ z, z = st.last := ⟨_, rfl⟩
  obtain ⟨wi, hwi⟩ : ∃ z, z = st.win := ⟨_, rfl⟩
  obtain ⟨gi, hgi⟩ : ∃ z, z = st.given := ⟨_, rfl⟩
  obtain ⟨n, hn⟩ : ∃ n, n = st.pend.length := ⟨_, rfl⟩
  rw [← hn] at hv hcap hp
  have HC : Hid (∀ X b, Row X b L tRL → X.cell? ⟨b, 66, none⟩ = some (.slice A n cap) ∧ X.cell? ⟨b, 67, none⟩ = some (.int .i64 wi) ∧ X.cell? ⟨b, 68, none⟩ = some (.int .i64 gi) ∧ X.cell? ⟨b, 69, none⟩ = some (.int .i64 la)) := fun X b r => by
    rw [hL] at r
    obtain ⟨q1, q2, q3, q4, _⟩ := h.row r
    rw [hv] at q1
    rw [hwi, hgi, hla]
    exact ⟨q1, q2, q3, q4⟩
  obtain ⟨tp, htp⟩ : ∃ t, t = st.top := ⟨_, rfl⟩
  obtain ⟨Lt, hLt⟩ : ∃ M, M = tp.cells := ⟨_, rfl⟩
  have HTW : Hid (tp.Wf ∧ tp.May) := by rw [htp]; exact La.top_wf h.ok
  have HTOP : Hid (∀ X, Below w.heap.size w X → Calls Try.prog 67 #[.agg L.toArray] X fun e w' => e = .returned (.agg Lt.toArray) ∧ Below X.heap.size X w') := fun X k => by rw [hLt]; exact rtop_any (h.be k) L hL tp htp
  have HIT : Hid ((Try.prog.info? tC).map (·.size) = some Lt.length) := by show _ = _; rw [hLt]; exact Cm.info HTW.out.1
  have HLT : Hid (Lt.length = zC.cells.length) := by show _ = _; rw [hLt]; exact (Cm.len HTW.out.1).trans (Cm.len zC_wf).symm
  have HOT : Hid (Lt.toArray.all (·.oneCell') = true) := by show _ = _; rw [hLt]; exact all_one (Cm.one tp)
  have HIC : Hid ((Try.prog.info? tC).map (·.size) = some Lc.length) := by show _ = _; rw [hLc]; exact Cm.info hc
  have HIA : Hid ((Try.prog.info? tAd).map (·.size) = some (vB ad).length) := by show _ = _; rw [vB_length, had]; exact info_A
  obtain ⟨cn, hcn⟩ : ∃ z, z = c.n := ⟨_, rfl⟩
  obtain ⟨ck, hck⟩ : ∃ z, z = c.k := ⟨_, rfl⟩
  obtain ⟨tn, htn⟩ : ∃ z, z = tp.n := ⟨_, rfl⟩
  obtain ⟨tk, htk⟩ : ∃ z, z = tp.k := ⟨_, rfl⟩
  have HCC : Hid (Lc[0]? = some (.int .i64 cn) ∧ Lc[65]? = some (.int .i64 ck)) := by rw [hLc, hcn, hck]; exact ⟨Cm.at_n c, Cm.at_k hc⟩
  have HCT : Hid (Lt[0]? = some (.int .i64 tn) ∧ Lt[65]? = some (.int .i64 tk)) := by rw [hLt, htn, htk]; exact ⟨Cm.at_n tp, Cm.at_k HTW.out.1⟩
  have hmt : 0 ≤ tn ∧ tn ≤ 1099511627776 ∧ 0 ≤ tk ∧ tk ≤ 1099511627776 := by rw [htn, htk]; exact HTW.out.2
  have HFOL : Hid (folB c st.top = true ↔ tn < cn ∧ cn ≤ tn + 1024 ∧ cn ≤ 1099511627776 ∧ tk ≤ ck ∧ ck ≤ 1099511627776) := by rw [← htp, htn, htk, hcn, hck]; exact fol_iff HTW.out.2
  have hw1 : 1 ≤ wi ∧ wi ≤ 4611686018427387904 := by rw [hwi]; exact ⟨h.ok.w1, h.ok.w2⟩
  have hg1 : 0 ≤ gi ∧ gi ≤ B := by rw [hgi]; exact ⟨h.ok.g0, h.ok.g1⟩
  obtain ⟨M4, hM4⟩ : ∃ z, z = 4611686018427387904 - wi := ⟨_, rfl⟩
  obtain ⟨M6, hM6⟩ : ∃ z, z = tn + 1024 := ⟨_, rfl⟩
  have e1 : IntKind.i64.wrap (4611686018427387904 - wi) = M4 := by rw [hM4, IntKind.wrap_i64]; omega
  have e2 : IntKind.i64.wrap (tn + 1024) = M6 := by rw [hM6, IntKind.wrap_i64]; omega
  have HM4 : Hid (M4 = 4611686018427387904 - wi) := hM4
  have HM6 : Hid (M6 = tn + 1024) := hM6
  unfold La.post at hr
  rw [← hla, ← hwi, ← hcn, ← hn, ← hM4] at hr
  have HR : Hid (_ = (st', N, E)) := hr
  have HALL : Hid (st.Ok B ∧ v = .slice A n cap ∧ n = st.pend.length ∧ gi = st.given ∧ wi = st.win ∧ la = st.last ∧ Lc = c.cells ∧ c.Wf ∧ ad.length = 20 ∧ 0 ≤ B) := ⟨h.ok, hv, hn, hgi, hwi, hla, hLc, hc, had, hB⟩
  have HPR : Hid (Pr w A n st.pend) := hp
  clear h hL hv hcap hp hla hwi hgi hn htp hLt hLc hcn hck htn htk hr hc had hB hM4 hM6
  go_enter Try.func56, Try.ntmps56
  go_upto_region 2 with (first
    | (refine wpList_bxG tRL rfl (.tmp 0) rfl L rfl ?_; intro X1 q1 q2 q3; clear q3; have RL1 : Hid (Row X1 w.heap.size L tRL) := q1; have B1 : Hid (Below w.heap.size w X1) := q2; clear q1 q2; simp only [Act.put, List.setIfInBounds_toArray, List.set_cons_zero, List.set_cons_succ])
    | (refine wpList_bxG tC rfl (.tmp 1) rfl Lc rfl ?_; intro X2 q1 q2 q3; clear q3; have RC2 : Hid (Row X2 X1.heap.size Lc tC) := q1; have B2 : Hid (Below w.heap.size w X2) := B1.out.trans (q2.mono B1.out.size); have RL2 : Hid (Row X2 w.heap.size L tRL) := Row.below RL1.out q2 RL1.out.lt; clear q1 q2; simp only [Act.put, List.setIfInBounds_toArray, List.set_cons_zero, List.set_cons_succ])
    | (refine wpList_bxG tAd rfl (.tmp 2) rfl (vB ad) rfl ?_; intro X3 q1 q2 q3; clear q3; have RA3 : Hid (Row X3 X2.heap.size (vB ad) tAd) := q1; have B3 : Hid (Below w.heap.size w X3) := B2.out.trans (q2.mono B2.out.size); have RL3 : Hid (Row X3 w.heap.size L tRL) := Row.below RL2.out q2 RL2.out.lt; have RC3 : Hid (Row X3 X1.heap.size Lc tC) := Row.below RC2.out q2 RC2.out.lt; clear q1 q2; simp only [Act.put, List.setIfInBounds_toArray, List.set_cons_zero, List.set_cons_succ])
    | (refine wpList_alRL rfl rfl ?_; intro X4 q1 q2 q3; clear q3; have RZ4 : Hid (Row X4 X3.heap.size zRL tRL) := q1; have B4 : Hid (Below w.heap.size w X4) := B3.out.trans (q2.mono B3.out.size); have RL4 : Hid (Row X4 w.heap.size L tRL) := Row.below RL3.out q2 RL3.out.lt; have RC4 : Hid (Row X4 X1.heap.size Lc tC) := Row.below RC3.out q2 RC3.out.lt; have RA4 : Hid (Row X4 X2.heap.size (vB ad) tAd) := Row.below RA3.out q2 RA3.out.lt; clear q1 q2; simp only [Act.put, List.setIfInBounds_toArray, List.set_cons_zero, List.set_cons_succ])
    | (refine wpList_ldS rfl tRL (.tmp 5) rfl w.heap.size 0 rfl L _ RL4.out.all Try.underlying44 rfl HI.out ?_; simp only [Act.put, List.setIfInBounds_toArray, List.set_cons_zero, List.set_cons_succ])
    | (go_at_call 67; refine Calls.mono (HTOP.out _ B4.out) ?_; rintro e X5 ⟨rfl, q2⟩; have B5 : Hid (Below w.heap.size w X5) := B4.out.trans (q2.mono B4.out.size); have RL5 : Hid (Row X5 w.heap.size L tRL) := Row.below RL4.out q2 RL4.out.lt; have RC5 : Hid (Row X5 X1.heap.size Lc tC) := Row.below RC4.out q2 RC4.out.lt; have RA5 : Hid (Row X5 X2.heap.size (vB ad) tAd) := Row.below RA4.out q2 RA4.out.lt; have RZ5 : Hid (Row X5 X3.heap.size zRL tRL) := Row.below RZ4.out q2 RZ4.out.lt; clear q2)
    | (refine wpList_alC rfl rfl ?_; intro X6 q1 q2 q3; clear q3; have RT6 : Hid (Row X6 X5.heap.size zC.cells tC) := q1; have B6 : Hid (Below w.heap.size w X6) := B5.out.trans (q2.mono B5.out.size); have RL6 : Hid (Row X6 w.heap.size L tRL) := Row.below RL5.out q2 RL5.out.lt; have RC6 : Hid (Row X6 X1.heap.size Lc tC) := Row.below RC5.out q2 RC5.out.lt; have RA6 : Hid (Row X6 X2.heap.size (vB ad) tAd) := Row.below RA5.out q2 RA5.out.lt; have RZ6 : Hid (Row X6 X3.heap.size zRL tRL) := Row.below RZ5.out q2 RZ5.out.lt; clear q1 q2; simp only [Act.put, List.setIfInBounds_toArray, List.set_cons_zero, List.set_cons_succ])
    | (refine wpList_stL rfl tC (.tmp 13) (.tmp 16) rfl X5.heap.size Lt zC.cells tC rfl rfl RT6.out HLT.out HIT.out HOT.out ?_; intro X7 q1 q2; have RT7 : Hid (Row X7 X5.heap.size Lt tC) := q1; have B7 : Hid (Below w.heap.size w X7) := gro_newL B6.out B5.out.size q2; have RL7 : Hid (Row X7 w.heap.size L tRL) := q2.row RL6.out (fun e => by { have := RL5.out.lt; omega }); have RC7 : Hid (Row X7 X1.heap.size Lc tC) := q2.row RC6.out (fun e => by { have := RC5.out.lt; omega }); have RA7 : Hid (Row X7 X2.heap.size (vB ad) tAd) := q2.row RA6.out (fun e => by { have := RA5.out.lt; omega }); have RZ7 : Hid (Row X7 X3.heap.size zRL tRL) := q2.row RZ6.out (fun e => by { have := RZ5.out.lt; omega }); clear q1 q2; simp only [Act.put]))
  have d1 : w.heap.size < X1.heap.size := RL1.out.lt
  have d2 : X1.heap.size < X2.heap.size := RC2.out.lt
  have d3 : X2.heap.size < X3.heap.size := RA3.out.lt
  have d4 : X3.heap.size < X5.heap.size := RZ5.out.lt
  have d5 : X5.heap.size < X7.heap.size := RT7.out.lt
  obtain ⟨V, hV⟩ : ∃ V, V = X7 := ⟨_, rfl⟩
  rw [← hV] at RL7 RC7 RA7 RZ7 RT7 B7 d5 ⊢
  obtain ⟨b, hb⟩ : ∃ b, b = w.heap.size := ⟨_, rfl⟩
  obtain ⟨bC, hbC⟩ : ∃ b, b = X1.heap.size := ⟨_, rfl⟩
  obtain ⟨bA, hbA⟩ : ∃ b, b = X2.heap.size := ⟨_, rfl⟩
  obtain ⟨bZ, hbZ⟩ : ∃ b, b = X3.heap.size := ⟨_, rfl⟩
  obtain ⟨bT, hbT⟩ : ∃ b, b = X5.heap.size := ⟨_, rfl⟩
  rw [← hb] at RL7 d1
  rw [← hbC] at RC7 d1 d2
  rw [← hbA] at RA7 d2 d3
  rw [← hbZ] at RZ7 d3 d4
  rw [← hbT] at RT7 d4 d5
  rw [← hb, ← hbC, ← hbA, ← hbZ, ← hbT]
  have HWB : Hid (w.heap.size = b) := hb.symm
  have HDD : Hid (b < bC ∧ bC < bA ∧ bA < bZ ∧ bZ < bT ∧ bT < V.heap.size) := ⟨d1, d2, d3, d4, d5⟩
  clear hV hb hbC hbA hbZ hbT RL1 RL2 RL3 RL4 RL5 RL6 RC2 RC3 RC4 RC5 RC6 RA3 RA4 RA5 RA6 RZ4 RZ5 RZ6 RT6 B1 B2 B3 B4 B5 B6 HTOP d1 d2 d3 d4 d5
  obtain ⟨c66, c67, c68, c69⟩ := HC.out V b RL7.out
  have cc0 := RC7.out.cell 0 _ HCC.out.1
  have cc1 := RC7.out.cell 65 _ HCC.out.2
  have ct0 := RT7.out.cell 0 _ HCT.out.1
  have ct1 := RT7.out.cell 65 _ HCT.out.2
  have hn0 : (0 : Int) ≤ (n : Int) := by omega
  have hr := HR.out
  by_cases h1 : now < 0
  · rw [if_pos (by rw [tmB, decide_eq_false (by omega), Bool.false_and, Bool.false_and])] at hr
    have t1 := decide_eq_true h1
    obtain ⟨rfl, k2⟩ := Prod.mk.inj hr
    obtain ⟨rfl, rfl⟩ := Prod.mk.inj k2
    clear k2 hr HR HALL HPR
    go_upto_region 3 with fail
    go_wp2_with (first
      | (refine wpList_ldS rfl tRL (.tmp 5) rfl b 0 rfl L _ RL7.out.all Try.underlying44 rfl HI.out ?_; simp only [Act.put, List.setIfInBounds_toArray, List.set_cons_zero, List.set_cons_succ])
      | (refine wpList_stL rfl tRL (.tmp 10) (.tmp 29) rfl bZ L zRL tRL rfl rfl RZ7.out HLN0.out HI.out HO0.out ?_; intro Y q1 q2; have F2 : Hid (Row Y bZ L tRL) := q1; have FB : Hid (Below w.heap.size w Y) := gro_newL B7.out (by rw [HWB.out]; have := HDD.out; omega) q2; clear q1 q2; simp only [Act.put]))
    exact bodyPost_ret (results_rStt Try.results56 _ _ bZ tRL L (.int .i64 0) (.int .i64 168) rfl rfl rfl F2.out Try.underlying44 HI.out) rfl ⟨v, by rw [HLL.out], ⟨HRF.out.own.be FB.out, HRF.out.ok.mono (by omega)⟩, .inl rfl, FB.out⟩
  have u1 := decide_eq_false h1
  by_cases h2 : 4611686018427387904 < now
  · rw [if_pos (by rw [tmB, decide_eq_false (show ¬ now ≤ 4611686018427387904 by omega), Bool.and_false, Bool.false_and])] at hr
    have t2 := decide_eq_true h2
    obtain ⟨rfl, k2⟩ := Prod.mk.inj hr
    obtain ⟨rfl, rfl⟩ := Prod.mk.inj k2
    clear k2 hr HR HALL HPR
    go_upto_region 3 with fail
    go_wp2_with (first
      | (refine wpList_ldS rfl tRL (.tmp 5) rfl b 0 rfl L _ RL7.out.all Try.underlying44 rfl HI.out ?_; simp only [Act.put, List.setIfInBounds_toArray, List.set_cons_zero, List.set_cons_succ])
      | (refine wpList_stL rfl tRL (.tmp 10) (.tmp 29) rfl bZ L zRL tRL rfl rfl RZ7.out HLN0.out HI.out HO0.out ?_; intro Y q1 q2; have F2 : Hid (Row Y bZ L tRL) := q1; have FB : Hid (Below w.heap.size w Y) := gro_newL B7.out (by rw [HWB.out]; have := HDD.out; omega) q2; clear q1 q2; simp only [Act.put]))
    exact bodyPost_ret (results_rStt Try.results56 _ _ bZ tRL L (.int .i64 0) (.int .i64 168) rfl rfl rfl F2.out Try.underlying44 HI.out) rfl ⟨v, by rw [HLL.out], ⟨HRF.out.own.be FB.out, HRF.out.ok.mono (by omega)⟩, .inl rfl, FB.out⟩
  have u2 := decide_eq_false h2
  by_cases h3 : now < la
  · rw [if_pos (by rw [decide_eq_false (show ¬ la ≤ now by omega), Bool.and_false])] at hr
    have t3 := decide_eq_true h3
    obtain ⟨rfl, k2⟩ := Prod.mk.inj hr
    obtain ⟨rfl, rfl⟩ := Prod.mk.inj k2
    clear k2 hr HR HALL HPR
    go_upto_region 3 with fail
    go_wp2_with (first
      | (refine wpList_ldS rfl tRL (.tmp 5) rfl b 0 rfl L _ RL7.out.all Try.underlying44 rfl HI.out ?_; simp only [Act.put, List.setIfInBounds_toArray, List.set_cons_zero, List.set_cons_succ])
      | (refine wpList_stL rfl tRL (.tmp 10) (.tmp 29) rfl bZ L zRL tRL rfl rfl RZ7.out HLN0.out HI.out HO0.out ?_; intro Y q1 q2; have F2 : Hid (Row Y bZ L tRL) := q1; have FB : Hid (Below w.heap.size w Y) := gro_newL B7.out (by rw [HWB.out]; have := HDD.out; omega) q2; clear q1 q2; simp only [Act.put]))
    exact bodyPost_ret (results_rStt Try.results56 _ _ bZ tRL L (.int .i64 0) (.int .i64 168) rfl rfl rfl F2.out Try.underlying44 HI.out) rfl ⟨v, by rw [HLL.out], ⟨HRF.out.own.be FB.out, HRF.out.ok.mono (by omega)⟩, .inl rfl, FB.out⟩
  rw [if_neg (by rw [tmB, decide_eq_true (show 0 ≤ now by omega), decide_eq_true (show now ≤ 4611686018427387904 by omega), decide_eq_true (show la ≤ now by omega)]; decide)] at hr
  have u3 := decide_eq_false h3
  by_cases h4 : M4 < now
  · rw [if_pos h4] at hr
    have t4 := decide_eq_true h4
    obtain ⟨rfl, k2⟩ := Prod.mk.inj hr
    obtain ⟨rfl, rfl⟩ := Prod.mk.inj k2
    clear k2 hr HR HALL HPR
    go_upto_region 5 with fail
    go_wp2_with (first
      | (refine wpList_ldS rfl tRL (.tmp 5) rfl b 0 rfl L _ RL7.out.all Try.underlying44 rfl HI.out ?_; simp only [Act.put, List.setIfInBounds_toArray, List.set_cons_zero, List.set_cons_succ])
      | (refine wpList_stL rfl tRL (.tmp 10) (.tmp 35) rfl bZ L zRL tRL rfl rfl RZ7.out HLN0.out HI.out HO0.out ?_; intro Y q1 q2; have F2 : Hid (Row Y bZ L tRL) := q1; have FB : Hid (Below w.heap.size w Y) := gro_newL B7.out (by rw [HWB.out]; have := HDD.out; omega) q2; clear q1 q2; simp only [Act.put]))
    exact bodyPost_ret (results_rStt Try.results56 _ _ bZ tRL L (.int .i64 0) (.int .i64 168) rfl rfl rfl F2.out Try.underlying44 HI.out) rfl ⟨v, by rw [HLL.out], ⟨HRF.out.own.be FB.out, HRF.out.ok.mono (by omega)⟩, .inl rfl, FB.out⟩
  rw [if_neg h4] at hr
  have u4 := decide_eq_false h4
  by_cases h5 : cn ≤ tn
  · rw [if_pos (Bool.eq_false_iff.2 fun q => by have := HFOL.out.1 q; have := HM6.out; omega)] at hr
    have t5 := decide_eq_true h5
    obtain ⟨rfl, k2⟩ := Prod.mk.inj hr
    obtain ⟨rfl, rfl⟩ := Prod.mk.inj k2
    clear k2 hr HR HALL HPR
    go_upto_region 7 with fail
    go_wp2_with (first
      | (refine wpList_ldS rfl tRL (.tmp 5) rfl b 0 rfl L _ RL7.out.all Try.underlying44 rfl HI.out ?_; simp only [Act.put, List.setIfInBounds_toArray, List.set_cons_zero, List.set_cons_succ])
      | (refine wpList_stL rfl tRL (.tmp 10) (.tmp 54) rfl bZ L zRL tRL rfl rfl RZ7.out HLN0.out HI.out HO0.out ?_; intro Y q1 q2; have F2 : Hid (Row Y bZ L tRL) := q1; have FB : Hid (Below w.heap.size w Y) := gro_newL B7.out (by rw [HWB.out]; have := HDD.out; omega) q2; clear q1 q2; simp only [Act.put]))
    exact bodyPost_ret (results_rStt Try.results56 _ _ bZ tRL L (.int .i64 0) (.int .i64 161) rfl rfl rfl F2.out Try.underlying44 HI.out) rfl ⟨v, by rw [HLL.out], ⟨HRF.out.own.be FB.out, HRF.out.ok.mono (by omega)⟩, .inl rfl, FB.out⟩
  have u5 := decide_eq_false h5
  by_cases h6 : M6 < cn
  · rw [if_pos (Bool.eq_false_iff.2 fun q => by have := HFOL.out.1 q; have := HM6.out; omega)] at hr
    have t6 := decide_eq_true h6
    obtain ⟨rfl, k2⟩ := Prod.mk.inj hr
    obtain ⟨rfl, rfl⟩ := Prod.mk.inj k2
    clear k2 hr HR HALL HPR
    go_upto_region 7 with fail
    go_wp2_with (first
      | (refine wpList_ldS rfl tRL (.tmp 5) rfl b 0 rfl L _ RL7.out.all Try.underlying44 rfl HI.out ?_; simp only [Act.put, List.setIfInBounds_toArray, List.set_cons_zero, List.set_cons_succ])
      | (refine wpList_stL rfl tRL (.tmp 10) (.tmp 54) rfl bZ L zRL tRL rfl rfl RZ7.out HLN0.out HI.out HO0.out ?_; intro Y q1 q2; have F2 : Hid (Row Y bZ L tRL) := q1; have FB : Hid (Below w.heap.size w Y) := gro_newL B7.out (by rw [HWB.out]; have := HDD.out; omega) q2; clear q1 q2; simp only [Act.put]))
    exact bodyPost_ret (results_rStt Try.results56 _ _ bZ tRL L (.int .i64 0) (.int .i64 161) rfl rfl rfl F2.out Try.underlying44 HI.out) rfl ⟨v, by rw [HLL.out], ⟨HRF.out.own.be FB.out, HRF.out.ok.mono (by omega)⟩, .inl rfl, FB.out⟩
  have u6 := decide_eq_false h6
  by_cases h7 : 1099511627776 < cn
  · rw [if_pos (Bool.eq_false_iff.2 fun q => by have := HFOL.out.1 q; have := HM6.out; omega)] at hr
    have t7 := decide_eq_true h7
    obtain ⟨rfl, k2⟩ := Prod.mk.inj hr
    obtain ⟨rfl, rfl⟩ := Prod.mk.inj k2
    clear k2 hr HR HALL HPR
    go_upto_region 7 with fail
    go_wp2_with (first
      | (refine wpList_ldS rfl tRL (.tmp 5) rfl b 0 rfl L _ RL7.out.all Try.underlying44 rfl HI.out ?_; simp only [Act.put, List.setIfInBounds_toArray, List.set_cons_zero, List.set_cons_succ])
      | (refine wpList_stL rfl tRL (.tmp 10) (.tmp 54) rfl bZ L zRL tRL rfl rfl RZ7.out HLN0.out HI.out HO0.out ?_; intro Y q1 q2; have F2 : Hid (Row Y bZ L tRL) := q1; have FB : Hid (Below w.heap.size w Y) := gro_newL B7.out (by rw [HWB.out]; have := HDD.out; omega) q2; clear q1 q2; simp only [Act.put]))
    exact bodyPost_ret (results_rStt Try.results56 _ _ bZ tRL L (.int .i64 0) (.int .i64 161) rfl rfl rfl F2.out Try.underlying44 HI.out) rfl ⟨v, by rw [HLL.out], ⟨HRF.out.own.be FB.out, HRF.out.ok.mono (by omega)⟩, .inl rfl, FB.out⟩
  have u7 := decide_eq_false h7
  by_cases h8 : ck < tk
  · rw [if_pos (Bool.eq_false_iff.2 fun q => by have := HFOL.out.1 q; have := HM6.out; omega)] at hr
    have t8 := decide_eq_true h8
    obtain ⟨rfl, k2⟩ := Prod.mk.inj hr
    obtain ⟨rfl, rfl⟩ := Prod.mk.inj k2
    clear k2 hr HR HALL HPR
    go_upto_region 9 with fail
    go_wp2_with (first
      | (refine wpList_ldS rfl tRL (.tmp 5) rfl b 0 rfl L _ RL7.out.all Try.underlying44 rfl HI.out ?_; simp only [Act.put, List.setIfInBounds_toArray, List.set_cons_zero, List.set_cons_succ])
      | (refine wpList_stL rfl tRL (.tmp 10) (.tmp 65) rfl bZ L zRL tRL rfl rfl RZ7.out HLN0.out HI.out HO0.out ?_; intro Y q1 q2; have F2 : Hid (Row Y bZ L tRL) := q1; have FB : Hid (Below w.heap.size w Y) := gro_newL B7.out (by rw [HWB.out]; have := HDD.out; omega) q2; clear q1 q2; simp only [Act.put]))
    exact bodyPost_ret (results_rStt Try.results56 _ _ bZ tRL L (.int .i64 0) (.int .i64 161) rfl rfl rfl F2.out Try.underlying44 HI.out) rfl ⟨v, by rw [HLL.out], ⟨HRF.out.own.be FB.out, HRF.out.ok.mono (by omega)⟩, .inl rfl, FB.out⟩
  have u8 := decide_eq_false h8
  by_cases h9 : 1099511627776 < ck
  · rw [if_pos (Bool.eq_false_iff.2 fun q => by have := HFOL.out.1 q; have := HM6.out; omega)] at hr
    have t9 := decide_eq_true h9
    obtain ⟨rfl, k2⟩ := Prod.mk.inj hr
    obtain ⟨rfl, rfl⟩ := Prod.mk.inj k2
    clear k2 hr HR HALL HPR
    go_upto_region 9 with fail
    go_wp2_with (first
      | (refine wpList_ldS rfl tRL (.tmp 5) rfl b 0 rfl L _ RL7.out.all Try.underlying44 rfl HI.out ?_; simp only [Act.put, List.setIfInBounds_toArray, List.set_cons_zero, List.set_cons_succ])
      | (refine wpList_stL rfl tRL (.tmp 10) (.tmp 65) rfl bZ L zRL tRL rfl rfl RZ7.out HLN0.out HI.out HO0.out ?_; intro Y q1 q2; have F2 : Hid (Row Y bZ L tRL) := q1; have FB : Hid (Below w.heap.size w Y) := gro_newL B7.out (by rw [HWB.out]; have := HDD.out; omega) q2; clear q1 q2; simp only [Act.put]))
    exact bodyPost_ret (results_rStt Try.results56 _ _ bZ tRL L (.int .i64 0) (.int .i64 161) rfl rfl rfl F2.out Try.underlying44 HI.out) rfl ⟨v, by rw [HLL.out], ⟨HRF.out.own.be FB.out, HRF.out.ok.mono (by omega)⟩, .inl rfl, FB.out⟩
  have hfol : folB c st.top = true := HFOL.out.2 (by have := HM6.out; omega)
  rw [if_neg (by rw [hfol]; decide)] at hr
  have u9 := decide_eq_false h9
  by_cases h10 : inbox < cn
  · rw [if_pos h10] at hr
    have t10 := decide_eq_true h10
    obtain ⟨rfl, k2⟩ := Prod.mk.inj hr
    obtain ⟨rfl, rfl⟩ := Prod.mk.inj k2
    clear k2 hr HR HALL HPR
    go_upto_region 11 with fail
    go_wp2_with (first
      | (refine wpList_ldS rfl tRL (.tmp 5) rfl b 0 rfl L _ RL7.out.all Try.underlying44 rfl HI.out ?_; simp only [Act.put, List.setIfInBounds_toArray, List.set_cons_zero, List.set_cons_succ])
      | (refine wpList_stL rfl tRL (.tmp 10) (.tmp 70) rfl bZ L zRL tRL rfl rfl RZ7.out HLN0.out HI.out HO0.out ?_; intro Y q1 q2; have F2 : Hid (Row Y bZ L tRL) := q1; have FB : Hid (Below w.heap.size w Y) := gro_newL B7.out (by rw [HWB.out]; have := HDD.out; omega) q2; clear q1 q2; simp only [Act.put]))
    exact bodyPost_ret (results_rStt Try.results56 _ _ bZ tRL L (.int .i64 0) (.int .i64 162) rfl rfl rfl F2.out Try.underlying44 HI.out) rfl ⟨v, by rw [HLL.out], ⟨HRF.out.own.be FB.out, HRF.out.ok.mono (by omega)⟩, .inl rfl, FB.out⟩
  rw [if_neg h10] at hr
  have u10 := decide_eq_false h10
  by_cases h11 : 32 ≤ n
  · rw [if_pos h11] at hr
    have t11 := decide_eq_true h11
    have h11b : (32 : Int) ≤ (n : Int) := by omega
    have t11b : decide ((32 : Int) ≤ (n : Int)) = true := decide_eq_true h11b
    obtain ⟨rfl, k2⟩ := Prod.mk.inj hr
    obtain ⟨rfl, rfl⟩ := Prod.mk.inj k2
    clear k2 hr HR HALL HPR
    go_upto_region 13 with fail
    go_wp2_with (first
      | (refine wpList_ldS rfl tRL (.tmp 5) rfl b 0 rfl L _ RL7.out.all Try.underlying44 rfl HI.out ?_; simp only [Act.put, List.setIfInBounds_toArray, List.set_cons_zero, List.set_cons_succ])
      | (refine wpList_stL rfl tRL (.tmp 10) (.tmp 75) rfl bZ L zRL tRL rfl rfl RZ7.out HLN0.out HI.out HO0.out ?_; intro Y q1 q2; have F2 : Hid (Row Y bZ L tRL) := q1; have FB : Hid (Below w.heap.size w Y) := gro_newL B7.out (by rw [HWB.out]; have := HDD.out; omega) q2; clear q1 q2; simp only [Act.put]))
    exact bodyPost_ret (results_rStt Try.results56 _ _ bZ tRL L (.int .i64 0) (.int .i64 163) rfl rfl rfl F2.out Try.underlying44 HI.out) rfl ⟨v, by rw [HLL.out], ⟨HRF.out.own.be FB.out, HRF.out.ok.mono (by omega)⟩, .inl rfl, FB.out⟩
  rw [if_neg h11] at hr
  have u11 : decide ((32 : Int) ≤ (n : Int)) = false := decide_eq_false (by omega)
  have h11b : (n : Int) < 32 := by omega
  obtain ⟨hs', k2⟩ := Prod.mk.inj hr
  obtain ⟨hN, rfl⟩ := Prod.mk.inj k2
  clear k2 hr HR
  obtain ⟨hok, hv, hn, hgi, hwi, hla, hLc, hc, had, hB⟩ := HALL.out
  rw [hwi] at hs'
  obtain ⟨g1, hg2⟩ : ∃ z, z = gi + 1 := ⟨_, rfl⟩
  obtain ⟨dl, hdl⟩ : ∃ z, z = now + wi := ⟨_, rfl⟩
  have e3 : IntKind.i64.wrap (gi + 1) = g1 := by rw [hg2, IntKind.wrap_i64]; omega
  have e4 : IntKind.i64.wrap (now + wi) = dl := by rw [hdl, IntKind.wrap_i64]; have := HM4.out; omega
  have hN2 : g1 = N := by rw [hg2, hgi, hN]
  subst hN2
  obtain ⟨x, hx⟩ : ∃ x, x = st.newP c ad now := ⟨_, rfl⟩
  have HXW : Hid x.Wf := by rw [hx]; exact ⟨hc, had⟩
  obtain ⟨R8, hR8⟩ : ∃ M, M = x.cells := ⟨_, rfl⟩
  have HBL : Hid (Try.prog.built tP [(0, .int .i64 g1), (1, .agg Lc.toArray), (2, .agg (vB ad).toArray), (3, .int .i64 now), (4, .int .i64 dl)] = some R8.toArray) := by
    show _ = _
    rw [hR8, hLc, hg2, hgi, hdl, hwi, hx]
    exact built_pn (st.newP c ad now) (by rw [← hx]; exact HXW.out) rfl
  have HL8 : Hid (R8.length = 90) := by show _ = _; rw [hR8]; exact Pn.len HXW.out
  have HO8 : Hid (∀ u ∈ R8, u.oneCell' = true) := by rw [hR8]; exact Pn.one x
  have HI8 : Hid ((Try.prog.info? tP).map (·.size) = some R8.length) := by show _ = _; rw [hR8]; exact Pn.info HXW.out
  have HN8 : Hid (R8.length = zP.cells.length) := by show _ = _; rw [HL8.out, Pn.len zP_wf]
  have HNB : Hid (n ≤ 1000000) := by show _ ≤ _; omega
  have HNL : Hid (st.pend.length = n) := hn.symm
  have HCP : Hid (∀ X, Below w.heap.size w X → Calls Try.prog 89 #[.slice A n cap] X fun e w' => ∃ g, e = .returned (.slice (some ⟨g, 0, none⟩) n n) ∧ X.heap.size ≤ g ∧ Row w' g (pcs st.pend) tP ∧ Below X.heap.size X w') := fun X kx => rcopied_any X _ n _ st.pend (HPR.out.be kx) HNB.out
  have HOK : Hid (st'.Ok (B + 1)) := by
    rw [← hs']
    have hm := (fol_iff (La.top_wf hok).2).1 hfol
    have ht := (La.top_wf hok).2
    exact La.post_ok (now := now) hok (by omega) (by omega) hc ⟨by have := ht.1; omega, hm.2.2.1, by have := ht.2.2.1; omega, hm.2.2.2.2⟩ had (by omega) hB
  have HPE : Hid (st'.pend = st.pend ++ [x] ∧ pcs st'.pend = pcs st.pend ++ R8 ∧ st'.pend.length = n + 1) := by
    rw [← hs', hR8, hx]
    refine ⟨rfl, ?_, ?_⟩
    · show pcs (st.pend ++ [st.newP c ad now]) = _
      rw [pcs_app, pcs_cons, show pcs [] = [] from rfl, List.append_nil]
    · show (st.pend ++ [st.newP c ad now]).length = n + 1
      rw [List.length_append, hn]; rfl
  have HLEN : Hid (L.length = 70) := by show _ = _; rw [HLN0.out, zRL_len]
  have HG68 : Hid (L[68]? = some (.int .i64 gi)) := by rw [HLL.out, hgi]; exact La.d68 hok.cf v
  have HST : Hid (∀ u, ((L.set 66 u).set 68 (.int .i64 g1)).set 69 (.int .i64 now) = st'.dc u) := fun u => by
    rw [HLL.out, La.dset66 hok.cf, La.dset68 hok.cf, La.dset69 (st := { st with given := g1 }) hok.cf, ← hs', hg2, hgi]
    rfl
  have HWP : Hid (∀ q ∈ st.pend, q.Wf) := hok.pw
  clear hok hv hn hgi hwi hla hLc hc had hB hs' hN hg2 hdl hx hR8 HALL hfol HFOL HTW hmt hw1 hg1
  go_upto_region 14 with fail
  go_upto_region 15 with (first
    | (refine wpList_ldS rfl tC (.tmp 6) rfl bC 0 rfl Lc _ RC7.out.all Try.underlying25 rfl HIC.out ?_; simp only [Act.put, List.setIfInBounds_toArray, List.set_cons_zero, List.set_cons_succ])
    | (refine wpList_ldS rfl tAd (.tmp 7) rfl bA 0 rfl (vB ad) _ RA7.out.all Try.underlying51 rfl HIA.out ?_; simp only [Act.put, List.setIfInBounds_toArray, List.set_cons_zero, List.set_cons_succ])
    | (refine wpList_blt rfl tP _ rfl [(0, .int .i64 g1), (1, .agg Lc.toArray), (2, .agg (vB ad).toArray), (3, .int .i64 now), (4, .int .i64 dl)] rfl R8 HBL.out ?_; simp only [Act.put, List.setIfInBounds_toArray, List.set_cons_zero, List.set_cons_succ])
    | (refine wpList_alP rfl rfl ?_; intro Y1 q1 q2 q3; clear q3; have RP0 : Hid (Row Y1 V.heap.size zP.cells tP) := q1; have BY1 : Hid (Below w.heap.size w Y1) := B7.out.trans (q2.mono B7.out.size); have RLY1 : Hid (Row Y1 b L tRL) := Row.below RL7.out q2 RL7.out.lt; have RZY1 : Hid (Row Y1 bZ zRL tRL) := Row.below RZ7.out q2 RZ7.out.lt; clear q1 q2 c66 c67 c68 c69 cc0 cc1 ct0 ct1; simp only [Act.put, List.setIfInBounds_toArray, List.set_cons_zero, List.set_cons_succ])
    | (refine wpList_stL rfl tP (.tmp 14) (.tmp 86) rfl V.heap.size R8 zP.cells tP rfl rfl RP0.out HN8.out HI8.out (all_one HO8.out) ?_; intro Y2 q1 q2; have RPY2 : Hid (Row Y2 V.heap.size R8 tP) := q1; have BY2 : Hid (Below w.heap.size w Y2) := gro_newL BY1.out B7.out.size q2; have RLY2 : Hid (Row Y2 b L tRL) := q2.row RLY1.out (fun e => by { have := HDD.out; omega }); have RZY2 : Hid (Row Y2 bZ zRL tRL) := q2.row RZY1.out (fun e => by { have := HDD.out; omega }); have c66 := (HC.out Y2 b RLY2.out).1; clear q1 q2; simp only [Act.put]))
  go_upto_region 16 with (first
    | (go_at_call 89; refine Calls.mono (HCP.out _ BY2.out) ?_; rintro e Y3 ⟨g3, rfl, q0, q1, q2⟩; have N3 : Hid (Y2.heap.size ≤ g3) := q0; have G3 : Hid (w.heap.size ≤ g3) := Nat.le_trans BY2.out.size q0; have CY3 : Hid (Row Y3 g3 (pcs st.pend) tP) := q1; have BY3 : Hid (Below w.heap.size w Y3) := BY2.out.trans (q2.mono BY2.out.size); have RLY3 : Hid (Row Y3 b L tRL) := Row.below RLY2.out q2 RLY2.out.lt; have RZY3 : Hid (Row Y3 bZ zRL tRL) := Row.below RZY2.out q2 RZY2.out.lt; have RPY3 : Hid (Row Y3 V.heap.size R8 tP) := Row.below RPY2.out q2 RPY2.out.lt; have D3 : Hid (b < g3 ∧ bZ < g3 ∧ V.heap.size < g3) := ⟨Nat.lt_of_lt_of_le RLY2.out.lt q0, Nat.lt_of_lt_of_le RZY2.out.lt q0, Nat.lt_of_lt_of_le RPY2.out.lt q0⟩; clear c66 q0 q1 q2)
    | (refine wpList_st1 rfl tPs (.tmp 90) (.tmp 89) rfl b 66 (.slice (some ⟨g3, 0, none⟩) n n) L tRL rfl rfl rfl RLY3.out (by rw [HLEN.out]; decide) info_Ps rfl ?_; intro Y4 q1 q2; have RLY4 : Hid (Row Y4 b (L.set 66 (.slice (some ⟨g3, 0, none⟩) n n)) tRL) := q1; have BY4 : Hid (Below w.heap.size w Y4) := gro_newL BY3.out (Nat.le_of_eq HWB.out) q2; have RZY4 : Hid (Row Y4 bZ zRL tRL) := q2.row RZY3.out (fun e => by { have := HDD.out; omega }); have RPY4 : Hid (Row Y4 V.heap.size R8 tP) := q2.row RPY3.out (fun e => by { have := HDD.out; omega }); have CY4 : Hid (Row Y4 g3 (pcs st.pend) tP) := q2.row CY3.out (fun e => by { have := D3.out; omega }); have c66 : Y4.cell? ⟨b, 66, none⟩ = some (.slice (some ⟨g3, 0, none⟩) n n) := q1.cell 66 _ (List.getElem?_set_self (by { rw [HLEN.out]; decide })); clear q1 q2; simp only [Act.put]))
  go_upto_region 17 with (first
    | (refine wpList_ldS rfl tP (.tmp 14) rfl V.heap.size 0 rfl R8 _ RPY4.out.all Try.underlying66 rfl HI8.out ?_; simp only [Act.put, List.setIfInBounds_toArray, List.set_cons_zero, List.set_cons_succ])
    | (refine wpList_bPn rfl (.tmp 93) rfl R8 HL8.out rfl ?_; intro Y5 q1 q2; have RN5 : Hid (Row Y5 Y4.heap.size R8 tP) := q1; have BY5 : Hid (Below w.heap.size w Y5) := BY4.out.trans (q2.mono BY4.out.size); have RLY5 : Hid (Row Y5 b (L.set 66 (.slice (some ⟨g3, 0, none⟩) n n)) tRL) := Row.below RLY4.out q2 RLY4.out.lt; have RZY5 : Hid (Row Y5 bZ zRL tRL) := Row.below RZY4.out q2 RZY4.out.lt; have CY5 : Hid (Row Y5 g3 (pcs st.pend) tP) := Row.below CY4.out q2 CY4.out.lt; clear q1 q2 c66; simp only [Act.put, List.setIfInBounds_toArray, List.set_cons_zero, List.set_cons_succ])
    | (refine wpList_appLo rfl (.tmp 92) (.tmp 94) rfl (.slice (some ⟨g3, 0, none⟩) n n) n (pcs st.pend) R8 rfl (lo_row CY5.out HNL.out HNB.out HWP.out) Y4.heap.size HL8.out rfl RN5.out.all HO8.out HNB.out ?_; intro v6 Y6 q1 q2 q3; rw [← HPE.out.2.1] at q1; obtain ⟨A6, c6, rfl, _, _, _⟩ := q1.form; have GR : Hid (Gro (· = g3) Y5 Y6) := ⟨q2.os, q2.tape, q2.output, q2.size, fun k hk hne => q2.block k hk (fun e => hne (by { cases e; rfl }))⟩; have OY6 : Hid (Lo Y6 tP 90 (.slice A6 (n + 1) c6) (n + 1) (pcs st'.pend)) := q1; have NV6 : Hid (∀ g, (Value.slice A6 (n + 1) c6).ownBlock = some g → g3 ≤ g ∧ b ≠ g ∧ bZ ≠ g) := fun g e => by { have := D3.out; have := RZY5.out.lt; have := RLY5.out.lt; have := CY5.out.lt; rcases q3 with q3 | q3; { rw [q3] at e; obtain rfl : g3 = g := by { simpa [Value.ownBlock] using e }; omega }; { have := q3 g e; omega } }; clear q1 q2 q3; have RLY6 : Hid (Row Y6 b (L.set 66 (.slice (some ⟨g3, 0, none⟩) n n)) tRL) := GR.out.row RLY5.out (fun e => by { have := D3.out; omega }); have RZY6 : Hid (Row Y6 bZ zRL tRL) := GR.out.row RZY5.out (fun e => by { have := D3.out; omega }); have BY6 : Hid (Below w.heap.size w Y6) := gro_newL BY5.out G3.out GR.out; simp only [Act.put, List.setIfInBounds_toArray, List.set_cons_zero, List.set_cons_succ])
    | (refine wpList_st1 rfl tPs (.tmp 96) (.tmp 95) rfl b 66 (.slice A6 (n + 1) c6) (L.set 66 (.slice (some ⟨g3, 0, none⟩) n n)) tRL rfl rfl rfl RLY6.out (by rw [List.length_set, HLEN.out]; decide) info_Ps rfl ?_; intro Y7 q1 q2; rw [List.set_set] at q1; have RLY7 : Hid (Row Y7 b (L.set 66 (.slice A6 (n + 1) c6)) tRL) := q1; have BY7 : Hid (Below w.heap.size w Y7) := gro_newL BY6.out (Nat.le_of_eq HWB.out) q2; have RZY7 : Hid (Row Y7 bZ zRL tRL) := q2.row RZY6.out (fun e => by { have := HDD.out; omega }); have OY7 : Hid (Lo Y7 tP 90 (.slice A6 (n + 1) c6) (n + 1) (pcs st'.pend)) := OY6.out.gro q2 (fun g e q => (NV6.out g e).2.1 q.symm); have c68 : Y7.cell? ⟨b, 68, none⟩ = some (.int .i64 gi) := q1.cell 68 _ (by { rw [List.getElem?_set_ne (by decide)]; exact HG68.out }); clear q1 q2; simp only [Act.put]))
  go_upto_region 18 with (first
    | (refine wpList_st1 rfl 3 (.tmp 100) (.tmp 99) rfl b 68 (.int .i64 g1) (L.set 66 (.slice A6 (n + 1) c6)) tRL rfl rfl rfl RLY7.out (by rw [List.length_set, HLEN.out]; decide) info_int rfl ?_; intro Y8 q1 q2; have RLY8 : Hid (Row Y8 b ((L.set 66 (.slice A6 (n + 1) c6)).set 68 (.int .i64 g1)) tRL) := q1; have BY8 : Hid (Below w.heap.size w Y8) := gro_newL BY7.out (Nat.le_of_eq HWB.out) q2; have RZY8 : Hid (Row Y8 bZ zRL tRL) := q2.row RZY7.out (fun e => by { have := HDD.out; omega }); have OY8 : Hid (Lo Y8 tP 90 (.slice A6 (n + 1) c6) (n + 1) (pcs st'.pend)) := OY7.out.gro q2 (fun g e q => (NV6.out g e).2.1 q.symm); clear q1 q2 c68; simp only [Act.put]))
  go_upto_region 19 with (first
    | (refine wpList_st1 rfl 3 (.tmp 102) (.tmp 101) rfl b 69 (.int .i64 now) ((L.set 66 (.slice A6 (n + 1) c6)).set 68 (.int .i64 g1)) tRL rfl rfl rfl RLY8.out (by rw [List.length_set, List.length_set, HLEN.out]; decide) info_int rfl ?_; intro Y9 q1 q2; rw [HST.out] at q1; have RLY9 : Hid (Row Y9 b (st'.dc (.slice A6 (n + 1) c6)) tRL) := q1; have BY9 : Hid (Below w.heap.size w Y9) := gro_newL BY8.out (Nat.le_of_eq HWB.out) q2; have RZY9 : Hid (Row Y9 bZ zRL tRL) := q2.row RZY8.out (fun e => by { have := HDD.out; omega }); have OY9 : Hid (Lo Y9 tP 90 (.slice A6 (n + 1) c6) (n + 1) (pcs st'.pend)) := OY8.out.gro q2 (fun g e q => (NV6.out g e).2.1 q.symm); clear q1 q2; simp only [Act.put]))
  obtain ⟨L9, hL9⟩ : ∃ M, M = st'.dc (.slice A6 (n + 1) c6) := ⟨_, rfl⟩
  rw [← hL9] at RLY9
  have H9 : Hid (L9 = st'.dc (.slice A6 (n + 1) c6)) := hL9
  have h9n : L9.length = 70 := by rw [hL9, La.dlen HOK.out.cf]
  have HI9 : Hid ((Try.prog.info? tRL).map (·.size) = some L9.length) := by show _ = _; rw [h9n]; exact info_RL
  have H9J : Hid ((Try.prog.info? tRL).map (·.size) = some L9.toArray.size) := by show _ = _; rw [List.size_toArray, h9n]; exact info_RL
  have H9O : Hid (L9.toArray.all (·.oneCell') = true) := by show _ = _; rw [hL9]; exact all_one (La.done _ _ _ _)
  have H9N : Hid (0 + L9.toArray.size ≤ zRL.length) := by show _ ≤ _; rw [List.size_toArray, h9n, zRL_len]; decide
  have H9Z : Hid (L9.length = zRL.length) := by show _ = _; rw [h9n, zRL_len]
  have H968 : Hid (L9[68]? = some (.int .i64 g1)) := by show _ = _; rw [hL9, ← HST.out, List.getElem?_set_ne (by decide), List.getElem?_set_self (by rw [List.length_set, HLEN.out]; decide)]
  obtain ⟨w9, hw9⟩ : ∃ x : World, x = w := ⟨_, rfl⟩
  have HW9 : Hid (w9 = w) := hw9
  have hw90 : w9.heap.size = b := by rw [hw9]; exact HWB.out
  have hb1 : Below w9.heap.size w9 Y9 := by rw [hw9]; exact BY9.out
  have r1 := RLY9.out
  have r2 := RZY9.out
  have hO := OY9.out
  have d1 : b < bZ := by have := HDD.out; omega
  clear hL9 h9n hw9 RLY9 RZY9 OY9
  refine wp_named fun a0 ha0 => ?_
  have hsz : a0.tmps.size = 106 := by rw [ha0]; rfl
  have zs5 : a0.eval (.tmp 5) = .pointer (some ⟨b, 0, none⟩) := by rw [ha0]; rfl
  have zs10 : a0.eval (.tmp 10) = .pointer (some ⟨bZ, 0, none⟩) := by rw [ha0]; rfl
  obtain ⟨D, hD⟩ : ∃ D : List (Tmp × SP), D = [(103, SP.is (.agg L9.toArray)), (104, SP.is (.pointer (some ⟨b, 68, none⟩))), (105, SP.is (.int .i64 g1)), (1000, SP.any), (11, SP.is (.int .i64 g1)), (12, SP.is (.int .i64 0))] := ⟨_, rfl⟩
  refine wp_region_down (by kernel_rfl) (fun listed ac W => listed.size = 6 ∧ Fp D a0 listed ac W ∧ Below w9.heap.size w9 W ∧ Row W b L9 tRL ∧ Row W bZ (if listed.getD 3 false = true then L9 else zRL) tRL ∧ Lo W tP 90 (.slice A6 (n + 1) c6) (n + 1) (pcs st'.pend)) ?_ ?_ ?_
  · exact ⟨by simp, Fp.start D a0 _ _, Below.drew hb1, Row.drew r1, (by rw [if_neg (fun h => start_no h)]; exact Row.drew r2), hO.below (Below.drew (Below.refl _ _))⟩
  · clear ha0 hb1 r1 r2 hO 
    intro listed ac W k hI hdn hk
    obtain ⟨hl, hF, hb1, r1, r2, hO⟩ := hI
    have hk1 : k < 6 := List.mem_range.1 (List.mem_filter.1 hk).1
    have hl2 : ∀ j, (listed.setIfInBounds j true).size = 6 := fun j => by rw [Array.size_setIfInBounds]; exact hl
    rcases (show k = 0 ∨ k = 1 ∨ k = 2 ∨ k = 3 ∨ k = 4 ∨ k = 5 by omega) with rfl | rfl | rfl | rfl | rfl | rfl
    · have hk3 := hk
      exact wpOp_plain rfl rfl (wp_load_mid tRL (.tmp 5) rfl b 0 ((hF.keep 5 (by rw [hD]; rfl)).trans zs5) L9 _ r1.all Try.underlying44 rfl HI9.out ⟨hl2 0, (hF.put 0 103 (SP.is (.agg L9.toArray)) (.agg L9.toArray) (by rw [hD]; rfl) rfl (by rw [hD]; rfl) (by rw [hsz]; decide) (by rw [hl]; decide)), hb1, r1, (by rw [getD_set _ _ _ (by decide)]; exact r2), hO⟩)
    · have hk3 := hk
      exact wpOp_plain rfl rfl (wp_fR3 rfl b ((hF.keep 5 (by rw [hD]; rfl)).trans zs5) ⟨hl2 1, (hF.put 1 104 (SP.is (.pointer (some ⟨b, 68, none⟩))) (.pointer (some ⟨b, 68, none⟩)) (by rw [hD]; rfl) rfl (by rw [hD]; rfl) (by rw [hsz]; decide) (by rw [hl]; decide)), hb1, r1, (by rw [getD_set _ _ _ (by decide)]; exact r2), hO⟩)
    · have hk3 := hk
      have ea := (hF.done 1 (104, SP.is (.pointer (some ⟨b, 68, none⟩))) (by rw [hD]; rfl) (ready_dep hk 1 (by kernel_rfl)))
      exact wpOp_plain rfl rfl (wp_ld1 b 68 (.int .i64 g1) rfl ea (ld_int W b 68 _ (r1.cell 68 _ H968.out)) ⟨hl2 2, (hF.put 2 105 (SP.is (.int .i64 g1)) (.int .i64 g1) (by rw [hD]; rfl) rfl (by rw [hD]; rfl) (by rw [hsz]; decide) (by rw [hl]; decide)), hb1, r1, (by rw [getD_set _ _ _ (by decide)]; exact r2), hO⟩)
    · have hk3 := hk
      have hno : ¬ listed.getD 3 false = true := not_yet hk
      rw [if_neg hno] at r2
      have T := r2.there 0 L9.toArray.size H9N.out
      have fin := r2.over (vs := L9) H9Z.out
      have hT : Fp D a0 listed ac (W.setCells bZ 0 L9) := hF.turn (by rw [hD]; simp only [List.forall_mem_cons, List.not_mem_nil, false_implies, implies_true, and_true]; exact ⟨fun _ h => h, fun _ h => h, fun _ h => h, fun _ h => h, fun _ h => h, fun _ h => h⟩)
      exact wpOp_plain rfl rfl (wp_store_mid tRL (.tmp 10) (.tmp 103) rfl bZ 0 L9.toArray ((hF.keep 10 (by rw [hD]; rfl)).trans zs10) (hF.done 0 (103, SP.is (.agg L9.toArray)) (by rw [hD]; rfl) (ready_dep hk 0 (by kernel_rfl))) T H9J.out H9O.out ⟨hl2 3, (hT.skip 3 1000 (by rw [hD]; rfl) (by rw [hl]; decide)), below_setCells hb1 (by omega) _, Row.setCells_other r1 _ _ _ (by omega), (by rw [if_pos (getD_same (by rw [hl]; decide))]; exact fin), hO.gro (gro_setsL W bZ 0 L9) (fun g e q => (NV6.out g e).2.2 q.symm)⟩)
    · have hk3 := hk
      exact wpOp_plain rfl rfl (wp_assign_v (ac.eval (.tmp 105)) rfl rfl ⟨hl2 4, (hF.put 4 11 (SP.is (.int .i64 g1)) (ac.eval (.tmp 105)) (by rw [hD]; rfl) ((hF.done 2 (105, SP.is (.int .i64 g1)) (by rw [hD]; rfl) (ready_dep hk 2 (by kernel_rfl)))) (by rw [hD]; rfl) (by rw [hsz]; decide) (by rw [hl]; decide)), hb1, r1, (by rw [getD_set _ _ _ (by decide)]; exact r2), hO⟩)
    · have hk3 := hk
      exact wpOp_plain rfl rfl (wp_assign_v (.int .i64 0) rfl rfl ⟨hl2 5, (hF.put 5 12 (SP.is (.int .i64 0)) (.int .i64 0) (by rw [hD]; rfl) rfl (by rw [hD]; rfl) (by rw [hsz]; decide) (by rw [hl]; decide)), hb1, r1, (by rw [getD_set _ _ _ (by decide)]; exact r2), hO⟩)
  · clear hb1 r1 r2 hO 
    intro listed ac W hI hr
    obtain ⟨hl, hF, hb1, r1, r2, hO⟩ := hI
    have hall := all_listed (by kernel_rfl) hl hr
    rw [if_pos (hall 3 (by decide))] at r2
    have h103 : ac.eval (.tmp 103) = .agg L9.toArray := hF.done 0 (103, SP.is (.agg L9.toArray)) (by rw [hD]; rfl) (hall 0 (by decide))
    have h104 : ac.eval (.tmp 104) = .pointer (some ⟨b, 68, none⟩) := hF.done 1 (104, SP.is (.pointer (some ⟨b, 68, none⟩))) (by rw [hD]; rfl) (hall 1 (by decide))
    have h105 : ac.eval (.tmp 105) = .int .i64 g1 := hF.done 2 (105, SP.is (.int .i64 g1)) (by rw [hD]; rfl) (hall 2 (by decide))
    have h11 : ac.eval (.tmp 11) = .int .i64 g1 := hF.done 4 (11, SP.is (.int .i64 g1)) (by rw [hD]; rfl) (hall 4 (by decide))
    have h12 : ac.eval (.tmp 12) = .int .i64 0 := hF.done 5 (12, SP.is (.int .i64 0)) (by rw [hD]; rfl) (hall 5 (by decide))
    have ea := hF.lay [(103, .agg L9.toArray), (104, .pointer (some ⟨b, 68, none⟩)), (105, .int .i64 g1), (11, .int .i64 g1), (12, .int .i64 0)] (by rw [hD, hsz]; rfl) (by simp only [List.forall_mem_cons, List.not_mem_nil, false_implies, implies_true, and_true]; exact ⟨h103, h104, h105, h11, h12⟩)
    rw [ha0] at ea
    simp only [List.foldl_cons, List.foldl_nil, List.setIfInBounds_toArray, List.set_cons_zero, List.set_cons_succ] at ea
    clear hF hall hr hl hD  zs5 zs10 ha0 hsz h103 h104 h105 h11 h12
    subst ea
    have F2 : Hid (Row W bZ L9 tRL) := r2
    have FO : Hid (Lo W tP 90 (.slice A6 (n + 1) c6) (n + 1) (pcs st'.pend)) := hO
    have FB : Hid (Below w.heap.size w W) := by have := hb1; rw [HW9.out] at this; exact this
    clear r1 r2 hO hb1
    go_wp2_with fail
    exact bodyPost_ret (results_rStt Try.results56 _ _ bZ tRL L9 (.int .i64 g1) (.int .i64 0) rfl rfl rfl F2.out Try.underlying44 HI9.out) rfl ⟨.slice A6 (n + 1) c6, by rw [H9.out], ⟨by rw [HPE.out.2.2]; exact FO.out, HOK.out⟩, .inr (fun g e => Nat.le_trans G3.out (NV6.out g e).1), FB.out⟩

end Go.Proofs.Ytfdbjcdcfmnicaa
