/-
  LadderPlays: the document's ladder, by value; its copied, Place, Top.
-/
import Derived.Test.YtfdbjcdcfmnicaaLaM
import Derived.Laws.MakeOwn
import Derived.Laws.IdiomCopy
namespace Go.Proofs.Ytfdbjcdcfmnicaa
open Go Go.RowKit
open Sha

abbrev tRL : TypeId := 44
theorem info_RL : (Try.prog.info? tRL).map (·.size) = some 70 := by kernel_rfl
def La.dc (st : La) (v : Value) : List Value := st.conf.cells ++ [v, .int .i64 st.win, .int .i64 st.given, .int .i64 st.last]
section
variable {st : La} (h : st.conf.Wf) (v : Value)
include h
theorem La.dlen : (st.dc v).length = 70 := by
  unfold La.dc; rw [List.length_append, Cm.len h]; rfl
theorem La.dtail (i : Nat) : (st.dc v)[66 + i]? = [v, Value.int .i64 st.win, .int .i64 st.given, .int .i64 st.last][i]? := by
  unfold La.dc
  rw [List.getElem?_append_right (by rw [Cm.len h]; omega), Cm.len h, show 66 + i - 66 = i by omega]
theorem La.d66 : (st.dc v)[66]? = some v := La.dtail h v 0
theorem La.d67 : (st.dc v)[67]? = some (.int .i64 st.win) := La.dtail h v 1
theorem La.d68 : (st.dc v)[68]? = some (.int .i64 st.given) := La.dtail h v 2
theorem La.d69 : (st.dc v)[69]? = some (.int .i64 st.last) := La.dtail h v 3
theorem La.dinfo : (Try.prog.info? tRL).map (·.size) = some (st.dc v).length := by rw [La.dlen h]; exact info_RL
theorem La.dset66 (u : Value) : (st.dc v).set 66 u = st.dc u := by
  unfold La.dc
  rw [List.set_append_right _ _ (by rw [Cm.len h]; exact Nat.le_refl _), Cm.len h]
  rfl
theorem La.dset68 (x : Int) : (st.dc v).set 68 (.int .i64 x) = La.dc { st with given := x } v := by
  unfold La.dc
  rw [List.set_append_right _ _ (by rw [Cm.len h]; decide), Cm.len h]
  rfl
theorem La.dset69 (x : Int) : (st.dc v).set 69 (.int .i64 x) = La.dc { st with last := x } v := by
  unfold La.dc
  rw [List.set_append_right _ _ (by rw [Cm.len h]; decide), Cm.len h]
  rfl
theorem La.dsetc (c : Cm) (hc : c.Wf) : (st.dc v).take 0 ++ c.cells ++ (st.dc v).drop (0 + c.cells.length) = La.dc { st with conf := c } v := by
  unfold La.dc
  rw [List.take_zero, List.nil_append, Nat.zero_add, Cm.len hc, List.drop_append_of_le_length (by rw [Cm.len h]; exact Nat.le_refl _), List.drop_eq_nil_of_le (by rw [Cm.len h]; exact Nat.le_refl _), List.nil_append]
end
theorem La.dconf (st : La) (v : Value) (j : Nat) (u : Value) (hj : st.conf.cells[j]? = some u) : (st.dc v)[0 + j]? = some u := by
  unfold La.dc
  rw [Nat.zero_add, List.getElem?_append_left ((List.getElem?_eq_some_iff.1 hj).1)]
  exact hj
theorem La.done (st : La) (A : Option Addr) (n c : Nat) : ∀ u ∈ st.dc (.slice A n c), u.oneCell' = true := by
  intro u hu
  simp only [La.dc, List.mem_append, List.mem_cons, List.not_mem_nil, or_false] at hu
  rcases hu with h | rfl | rfl | rfl | rfl
  · exact Cm.one _ u h
  · rfl
  · rfl
  · rfl
  · rfl
/-- A list that is read alone, where it lies. -/
theorem Pr.ofLo {w : World} {A : Option Addr} {n c : Nat} {l : List Pn} (h : Lo w tP 90 (.slice A n c) n (pcs l)) (hn : l.length = n) (hw : ∀ p ∈ l, p.Wf) : Pr w A n l := by
  obtain ⟨A', cap, e1, _, h1, h2⟩ := h.form
  obtain ⟨rfl, rfl⟩ : A = A' ∧ c = cap := by simpa using e1
  exact ⟨hn, hw, fun e => (h1 e).1, h2⟩
section
variable {ops : Array Oper} {rest : List Oper} {op : Oper} {a : Act} {w : World} {Q : Exit → Act → World → Prop}
theorem wpList_mkP (hgd : op.guard = none) (x y : Operand) (ho : op.op = .makeSlice tPs x y) (n : Nat) (hx : a.eval x = .int .i64 (n : Int)) (hy : a.eval y = .int .i64 (n : Int)) (hn : n ≤ 1000000)
    (h : ∀ X cs, cs.length = n * 90 → Row X w.heap.size cs tP → Below w.heap.size w X → wpList Try.prog ops Q rest (a.put op.dst (.slice (some ⟨w.heap.size, 0, none⟩) n n)) X) : wpList Try.prog ops Q (op :: rest) a w :=
  wpList_plain hgd fun _ hK => by
    obtain ⟨ie, z, i1, i2, i3, i5, i4⟩ := info_PO
    have hr := run_make (P := Try.prog) w tPs tP ie z Try.underlying42 i1 i2 .i64 .i64 (n : Int) (n : Int) (by omega) (by omega) (by rw [i5]; omega) (by omega)
    rw [i3, Int.toNat_natCast] at hr
    unfold Oper.wp execOp
    simp only [ho, hx, hy, Sem.run_bind, hr, Result.andThen_ok]
    exact hK _ _ (h _ (madeCells z.cells (n * 90)).toList (by rw [Array.length_toList, size_madeCells]) (Row.new' rfl rfl) ((Below.refl _ _).alloc (Nat.le_refl _) _))
theorem run_cpP (w : World) (ty : TypeId) (g dLen dCap : Nat) (ad : Addr) (sLen sCap : Nat) (cs : List Value) (hle : sLen ≤ dLen) (hn : cs.length = sLen * 90) (hsrc : ∀ j v, cs[j]? = some v → w.cell? (ad.add j) = some v) (ht : w.there g 0 cs.length) (h1 : ∀ v ∈ cs, v.oneCell' = true) :
    (Builtin.copy_ #[tPs, tPs] ty #[.slice (some ⟨g, 0, none⟩) dLen dCap, .slice (some ad) sLen sCap]).run Try.prog w = .ok (goInt sLen) (w.setCells g 0 cs) := by
  obtain ⟨ie, z, hq, _, hi, _, _⟩ := info_PO
  have hl := run_loadCells_list (P := Try.prog) w ad cs hsrc
  have hst := run_storeCells_cells (P := Try.prog) g 0 cs 0 w (fun j hj => by simpa using (ht j (by simpa using hj)).1) (fun j hj => by simpa using (ht j (by simpa using hj)).2) h1
  simp only [Nat.add_zero] at hst
  simp [Builtin.copy_, run_underlying Try.underlying42, Builtin.lenOf, Builtin.firstCells, sizeOf, typeInfo, hq, hi, Nat.min_eq_left hle, ← hn, hl, hst]
theorem run_cpP0 (w : World) (ty : TypeId) (d s : Option Addr) (dLen dCap sCap : Nat) :
    (Builtin.copy_ #[tPs, tPs] ty #[.slice d dLen dCap, .slice s 0 sCap]).run Try.prog w = .ok (goInt 0) w := by
  obtain ⟨ie, z, hq, _, _, _, _⟩ := info_PO
  have hl : ∀ p : Addr, (loadCells p 0).run Try.prog w = .ok #[] w := fun p => run_loadCells_list (P := Try.prog) w p [] (fun j v hj => by simp at hj)
  cases d with
  | none => cases s <;> simp [Builtin.copy_, run_underlying Try.underlying42, Builtin.lenOf, Builtin.firstCells, sizeOf, typeInfo, hq, hl]
  | some d => cases s <;> simp [Builtin.copy_, run_underlying Try.underlying42, Builtin.lenOf, Builtin.firstCells, sizeOf, typeInfo, hq, hl, storeCells]
theorem wpList_cpP (hgd : op.guard = none) (d s : Operand) (ho : op.op = .call { callee := .builtin .copy, args := #[d, s], argTypes := #[tPs, tPs] }) (g : Nat) (A : Option Addr) (n c cap : Nat) (l : List Pn) (cs : List Value) (hd : a.eval d = .slice (some ⟨g, 0, none⟩) n c) (hs : a.eval s = .slice A n cap) (hp : Pr w A n l) (hr : Row w g cs tP) (hl : cs.length = n * 90)
    (h : ∀ X, Row X g (pcs l) tP → Gro (· = g) w X → wpList Try.prog ops Q rest (a.put op.dst (goInt n)) X) : wpList Try.prog ops Q (op :: rest) a w := by
  refine wpList_plain hgd fun K hK => ?_
  have hpl : (pcs l).length = n * 90 := by rw [pcs_len hp.wf, hp.len]
  have e1 : (pcs l).length = cs.length := by omega
  cases A with
  | none =>
    have hn0 := hp.nil rfl
    subst hn0
    have hrun := run_cpP0 w op.type (some ⟨g, 0, none⟩) none 0 c cap
    have e2 : pcs l = cs := by rw [List.length_eq_zero_iff.1 (show (pcs l).length = 0 by omega), List.length_eq_zero_iff.1 (show cs.length = 0 by omega)]
    refine wp_pure (v := goInt 0) ?_ (hK _ _ (h w (by rw [e2]; exact hr) (Gro.refl _ _)))
    simp [execOp, ho, resolve, invoke, builtin, hd, hs, hrun, Result.andThen]
  | some ad =>
    obtain ⟨b, o, rfl, hrg⟩ := hp.at_ ad rfl
    have hrun := run_cpP w op.type g n c ⟨b, o, none⟩ n cap (pcs l) (Nat.le_refl _) hpl (fun j v hj => by rw [Addr.add_mid]; exact hrg j v hj) (hr.there 0 _ (by omega)) (pcs_one l)
    have hx : (execOp a.eval op).run Try.prog w = .ok (Next.value (goInt n)) (w.setCells g 0 (pcs l)) := by
      simp [execOp, ho, resolve, invoke, builtin, hd, hs, hrun, Result.andThen]
    unfold Oper.wp
    rw [hx]
    exact hK _ _ (h _ (hr.over e1) (gro_setsL w g 0 _))
end
set_option maxRecDepth 100000 in
set_option maxHeartbeats 4000000 in
theorem rcopied_any (w : World) (A : Option Addr) (n cap : Nat) (l : List Pn) (hp : Pr w A n l) (hn : n ≤ 1000000) : Calls Try.prog 89 #[.slice A n cap] w fun e w' => ∃ g, e = .returned (.slice (some ⟨g, 0, none⟩) n n) ∧ w.heap.size ≤ g ∧ Row w' g (pcs l) tP ∧ Below w.heap.size w w' := by
  have HP : Hid (Pr w A n l) := hp
  have HN : Hid (n ≤ 1000000) := hn
  clear hp hn
  go_enter Try.func89, Try.ntmps89
  go_wp2_with (first
    | (refine wpList_mkP rfl (.tmp 5) (.tmp 5) rfl n rfl rfl HN.out ?_; intro X cs q0 q1 q2; have HL : Hid (cs.length = n * 90) := q0; have R1 : Hid (Row X w.heap.size cs tP) := q1; have B1 : Hid (Below w.heap.size w X) := q2; clear q0 q1 q2; simp only [Act.put, List.setIfInBounds_toArray, List.set_cons_zero, List.set_cons_succ])
    | (refine wpList_cpP rfl (.tmp 7) (.tmp 8) rfl w.heap.size A n n cap l cs rfl rfl (HP.out.be B1.out) R1.out HL.out ?_; intro Y q1 q2; have R2 : Hid (Row Y w.heap.size (pcs l) tP) := q1; have B2 : Hid (Below w.heap.size w Y) := gro_newL B1.out (Nat.le_refl _) q2; clear q1 q2; simp only [Act.put, List.setIfInBounds_toArray, List.set_cons_zero, List.set_cons_succ]))
  go_ret
  exact ⟨_, rfl, Nat.le_refl _, R2.out, B2.out⟩
theorem lo_row {w : World} {g n : Nat} {l : List Pn} (r : Row w g (pcs l) tP) (hn : l.length = n) (hb : n ≤ 1000000) (hw : ∀ p ∈ l, p.Wf) : Lo w tP 90 (.slice (some ⟨g, 0, none⟩) n n) n (pcs l) := by
  have e : (pcs l).length = n * 90 := by rw [pcs_len hw, hn]
  exact ⟨e, .inr ⟨g, 0, n, pcs l, rfl, r, Nat.le_refl _, by unfold maxLen; omega, by omega, by rw [List.drop_zero, List.take_of_length_le (by omega)]⟩⟩
/-- The document's ladder: its list lies somewhere and is read alone. -/
structure Rf (w : World) (v : Value) (B : Int) (st : La) : Prop where
  own : Lo w tP 90 v st.pend.length (pcs st.pend)
  ok : st.Ok B
section
variable {w w' : World} {v : Value} {B : Int} {st : La}
theorem Rf.be (h : Rf w v B st) (k : Below w.heap.size w w') : Rf w' v B st := ⟨h.own.be k, h.ok⟩
theorem Rf.form (h : Rf w v B st) : ∃ A cap, v = .slice A st.pend.length cap ∧ st.pend.length ≤ cap ∧ Pr w A st.pend.length st.pend := by
  obtain ⟨A, cap, e1, e2, h1, h2⟩ := h.own.form
  exact ⟨A, cap, e1, e2, rfl, h.ok.pw, fun e => (h1 e).1, h2⟩
theorem Rf.at (h : Rf w v B st) {i : Nat} {x : Pn} (hi : st.pend[i]? = some x) : ∃ g o cap, v = .slice (some ⟨g, o, none⟩) st.pend.length cap ∧ st.pend.length ≤ cap ∧ w.rangeAt g (o + i * 90) x.cells := by
  obtain ⟨A, cap, e1, e2, p⟩ := h.form
  obtain ⟨g, o, rfl, r⟩ := p.get hi
  exact ⟨g, o, cap, e1, e2, r⟩
theorem Rf.row {b : Nat} (h : Rf w v B st) (r : Row w' b (st.dc v) tRL) : w'.cell? ⟨b, 66, none⟩ = some v ∧ w'.cell? ⟨b, 67, none⟩ = some (.int .i64 st.win) ∧ w'.cell? ⟨b, 68, none⟩ = some (.int .i64 st.given) ∧ w'.cell? ⟨b, 69, none⟩ = some (.int .i64 st.last) ∧ w'.rangeAt b 0 st.conf.cells :=
  ⟨r.cell 66 _ (La.d66 h.ok.cf v), r.cell 67 _ (La.d67 h.ok.cf v), r.cell 68 _ (La.d68 h.ok.cf v), r.cell 69 _ (La.d69 h.ok.cf v), r.range 0 _ (La.dconf st v)⟩
end
set_option maxRecDepth 100000 in
set_option maxHeartbeats 4000000 in
theorem rplace_any {w : World} {v : Value} {B : Int} {st : La} (h : Rf w v B st) (nr : Int) (L : List Value) (hL : L = st.dc v) : Calls Try.prog 90 #[.agg L.toArray, .int .i64 nr] w fun e w' => e = .returned (.int .i64 (fiI st.pend nr)) ∧ Below w.heap.size w w' := by
  obtain ⟨A, cap, hv, _, hp⟩ := h.form
  obtain ⟨l, hl⟩ : ∃ l, l = st.pend := ⟨_, rfl⟩
  obtain ⟨n, hn⟩ : ∃ n, n = l.length := ⟨_, rfl⟩
  rw [← hl, ← hn] at hv hp
  rw [← hl]
  have HC : Hid (∀ X, Row X w.heap.size L tRL → X.cell? ⟨w.heap.size, 66, none⟩ = some (.slice A n cap)) := fun X r => by rw [hL] at r; have := (h.row r).1; rwa [hv] at this
  have HP : Hid (Pr w A n l) := hp
  have hnb : n ≤ 1000000 := by have := h.ok.pl; rw [hn, hl]; omega
  clear h hL hv hp hl hn
  go_enter Try.func90, Try.ntmps90
  go_wp2_with (first
    | (refine wpList_bxG tRL rfl (.tmp 0) rfl L rfl ?_; intro X1 q1 q2 _; have R1 : Hid (Row X1 w.heap.size L tRL) := q1; have B1 : Hid (Below w.heap.size w X1) := q2; skip; clear q1 q2; simp only [Act.put, List.setIfInBounds_toArray, List.set_cons_zero, List.set_cons_succ]))
  go_loopw [5] (fun i wr => ∃ t : Nat, t ≤ n ∧ i = .int .i64 (t : Int) ∧ Row wr w.heap.size L tRL ∧ Below w.heap.size w wr ∧ ∀ (j : Nat) (x : Pn), j < t → l[j]? = some x → x.nr ≠ nr) (fun i _ => n - (intOf i).toNat)
  case atStart => exact ⟨0, Nat.zero_le _, rfl, R1.out, B1.out, fun j x hj => by omega⟩
  case round =>
    clear R1 B1
    obtain ⟨t, ht, rfl, hrw, hbw, hno⟩ := hrel
    have HRW : Hid (Row wr w.heap.size L tRL) := hrw
    have HBW : Hid (Below w.heap.size w wr) := hbw
    have HNO : Hid (∀ (j : Nat) (x : Pn), j < t → l[j]? = some x → x.nr ≠ nr) := hno
    have c66 := HC.out wr hrw
    clear hbw hno hrw
    by_cases hlt : t < n
    · obtain ⟨x, hx⟩ : ∃ x, l[t]? = some x := ⟨_, List.getElem?_eq_getElem (by rw [HP.out.len]; exact hlt)⟩
      obtain ⟨g, o, rfl, hr⟩ := HP.out.get hx
      have cnr : wr.cell? ⟨g, o + t * 90, none⟩ = some (.int .i64 x.nr) := range_be hr HBW.out 0 _ (Pn.at_nr x)
      have HX : Hid (l[t]? = some x) := hx
      obtain ⟨z, hz⟩ : ∃ z, z = x.nr := ⟨_, rfl⟩
      have HZ : Hid (z = x.nr) := hz
      rw [← hz] at cnr
      clear hx hr hz
      by_cases heq : z = nr
      · subst heq
        go_wp2_with (refine wpList_ixL tPs tP (.tmp 14) (.tmp 15) rfl g o n cap t 90 rfl rfl hlt Try.underlying42 info_P rfl ?_; simp only [Act.put, List.setIfInBounds_toArray, List.set_cons_zero, List.set_cons_succ])
        go_ret
        exact ⟨by rw [fiI_some HX.out HZ.out.symm HNO.out]; rfl, HBW.out⟩
      · go_wp2_with (refine wpList_ixL tPs tP (.tmp 14) (.tmp 15) rfl g o n cap t 90 rfl rfl hlt Try.underlying42 info_P rfl ?_; simp only [Act.put, List.setIfInBounds_toArray, List.set_cons_zero, List.set_cons_succ])
        refine ⟨⟨t + 1, hlt, by go_num, HRW.out, HBW.out, fun j y hj hy => ?_⟩, by simp [intOf]; omega⟩
        by_cases hjt : j < t
        · exact HNO.out j y hjt hy
        · obtain rfl : j = t := by omega
          rw [HX.out] at hy
          cases hy
          rw [← HZ.out]; exact heq
    · go_wp2
      go_ret
      exact ⟨by rw [fiI_none (fun i x hx => HNO.out i x (by have := (List.getElem?_eq_some_iff.1 hx).1; have := HP.out.len; omega) hx)]; rfl, HBW.out⟩
set_option maxRecDepth 100000 in
set_option maxHeartbeats 4000000 in
theorem rtop_any {w : World} {v : Value} {B : Int} {st : La} (h : Rf w v B st) (L : List Value) (hL : L = st.dc v) (c : Cm) (hc : c = st.top) : Calls Try.prog 67 #[.agg L.toArray] w fun e w' => e = .returned (.agg c.cells.toArray) ∧ Below w.heap.size w w' := by
  have hwf := (La.top_wf h.ok).1
  rw [← hc] at hwf
  have HI : Hid ((Try.prog.info? tC).map (·.size) = some c.cells.length) := Cm.info hwf
  have HLN : Hid (c.cells.length = zC.cells.length) := (Cm.len hwf).trans (Cm.len zC_wf).symm
  obtain ⟨k, hk⟩ : ∃ k, k = st.pend.length := ⟨_, rfl⟩
  unfold La.top at hc
  rw [← hk] at hc
  cases k with
  | zero =>
    obtain ⟨A, cap, hv, _, hp⟩ := h.form
    rw [← hk] at hv
    have HC : Hid (∀ X, Row X w.heap.size L tRL → X.cell? ⟨w.heap.size, 66, none⟩ = some (.slice A 0 cap)) := fun X r => by rw [hL] at r; have := (h.row r).1; rwa [hv] at this
    have HR : Hid (∀ X, Row X w.heap.size L tRL → X.rangeAt w.heap.size 0 c.cells) := fun X r => by rw [hL] at r; rw [hc]; exact (h.row r).2.2.2.2
    clear hc hwf h hk hL hv hp
    go_enter Try.func67, Try.ntmps67
    go_wp2_with (first
      | (refine wpList_bxG tRL rfl (.tmp 0) rfl L rfl ?_; intro X1 q1 q2 _; have R1 : Hid (Row X1 w.heap.size L tRL) := q1; have B1 : Hid (Below w.heap.size w X1) := q2; skip; clear q1 q2; simp only [Act.put, List.setIfInBounds_toArray, List.set_cons_zero, List.set_cons_succ])
      | (refine wpList_alC rfl rfl ?_; intro X2 q1 q2 _; have R2 : Hid (Row X2 X1.heap.size zC.cells tC) := q1; have B2 : Hid (Below w.heap.size w X2) := B1.out.trans (q2.mono B1.out.size); have c66 := HC.out X2 (Row.below R1.out q2 R1.out.lt); have R12 : Hid (Row X2 w.heap.size L tRL) := Row.below R1.out q2 R1.out.lt; clear q1 q2; simp only [Act.put, List.setIfInBounds_toArray, List.set_cons_zero, List.set_cons_succ])
      | (refine wpList_ldS rfl tC (.tmp 7) rfl w.heap.size 0 rfl c.cells _ (HR.out _ R12.out) Try.underlying25 rfl HI.out ?_; simp only [Act.put, List.setIfInBounds_toArray, List.set_cons_zero, List.set_cons_succ])
      | (refine wpList_stL rfl tC (.tmp 2) (.tmp 8) rfl X1.heap.size c.cells zC.cells tC rfl rfl R2.out HLN.out HI.out (all_one (Cm.one c)) ?_; intro X3 q1 q2; have R3 : Hid (Row X3 X1.heap.size c.cells tC) := q1; have B3 : Hid (Below w.heap.size w X3) := gro_newL B2.out B1.out.size q2; clear q1 q2))
    exact bodyPost_ret (results_rS Try.results67 _ _ X1.heap.size tC c.cells rfl R3.out Try.underlying25 HI.out) rfl ⟨rfl, B3.out⟩
  | succ j =>
    obtain ⟨x, hx⟩ : ∃ x, st.pend[j]? = some x := ⟨_, List.getElem?_eq_getElem (by omega)⟩
    have hcx : c = x.c := by rw [hc, La.beh, if_neg (Nat.succ_ne_zero j), Nat.add_sub_cancel, List.getD_eq_getElem?_getD, hx]; rfl
    obtain ⟨g, o, cap, hv, _, hr⟩ := h.at hx
    obtain ⟨n, hn⟩ : ∃ n, n = j + 1 := ⟨_, rfl⟩
    rw [← hk, ← hn] at hv
    have HJ : Hid (j < n) := by show _ < _; omega
    have HC : Hid (∀ X, Row X w.heap.size L tRL → X.cell? ⟨w.heap.size, 66, none⟩ = some (.slice (some ⟨g, o, none⟩) n cap)) := fun X r => by rw [hL] at r; have := (h.row r).1; rwa [hv] at this
    have HR : Hid (∀ X, Below w.heap.size w X → X.rangeAt g (o + j * 90 + 1) c.cells) := fun X kx i u hu => by
      rw [hcx] at hu
      have := range_be hr kx (1 + i) u (Pn.at_c x i u hu)
      rwa [← Nat.add_assoc] at this
    have hs : IntKind.i64.wrap ((n : Int) - 1) = (j : Int) := by rw [IntKind.wrap_i64]; have := h.ok.pl; omega
    have hz : ¬ ((n : Int) = 0) := by omega
    clear hc hwf h hk hcx hr hx hv hn hL
    go_enter Try.func67, Try.ntmps67
    go_wp2_with (first
      | (refine wpList_bxG tRL rfl (.tmp 0) rfl L rfl ?_; intro X1 q1 q2 _; have R1 : Hid (Row X1 w.heap.size L tRL) := q1; have B1 : Hid (Below w.heap.size w X1) := q2; skip; clear q1 q2; simp only [Act.put, List.setIfInBounds_toArray, List.set_cons_zero, List.set_cons_succ])
      | (refine wpList_alC rfl rfl ?_; intro X2 q1 q2 _; have R2 : Hid (Row X2 X1.heap.size zC.cells tC) := q1; have B2 : Hid (Below w.heap.size w X2) := B1.out.trans (q2.mono B1.out.size); have c66 := HC.out X2 (Row.below R1.out q2 R1.out.lt); have R12 : Hid (Row X2 w.heap.size L tRL) := Row.below R1.out q2 R1.out.lt; clear q1 q2; simp only [Act.put, List.setIfInBounds_toArray, List.set_cons_zero, List.set_cons_succ])
      | (refine wpList_ixL tPs tP (.tmp 10) (.tmp 14) rfl g o n cap j 90 rfl rfl HJ.out Try.underlying42 info_P rfl ?_; simp only [Act.put, List.setIfInBounds_toArray, List.set_cons_zero, List.set_cons_succ])
      | (refine wpList_ldS rfl tC (.tmp 16) rfl g (o + j * 90 + 1) rfl c.cells _ (HR.out _ B2.out) Try.underlying25 rfl HI.out ?_; simp only [Act.put, List.setIfInBounds_toArray, List.set_cons_zero, List.set_cons_succ])
      | (refine wpList_stL rfl tC (.tmp 2) (.tmp 17) rfl X1.heap.size c.cells zC.cells tC rfl rfl R2.out HLN.out HI.out (all_one (Cm.one c)) ?_; intro X3 q1 q2; have R3 : Hid (Row X3 X1.heap.size c.cells tC) := q1; have B3 : Hid (Below w.heap.size w X3) := gro_newL B2.out B1.out.size q2; clear q1 q2))
    exact bodyPost_ret (results_rS Try.results67 _ _ X1.heap.size tC c.cells rfl R3.out Try.underlying25 HI.out) rfl ⟨rfl, B3.out⟩

end Go.Proofs.Ytfdbjcdcfmnicaa
