/-
  LadderWindow: its walk.
-/
import Derived.Test.YtdilgeikleddbaaLaK
namespace Go.Proofs.Ytdilgeikleddbaa
open Go Go.RowKit
open Sha

def dg5 : List (BitVec 8) := 5#8 :: List.replicate 31 0#8
def ad1 : List (BitVec 8) := 1#8 :: List.replicate 19 0#8
def wn (c : Cm) : Cm := ⟨c.n + 1, dg5, zD, c.k⟩
def wP (c : Cm) (win now du : Int) : Pn := ⟨1, wn c, ad1, now, now + win, du⟩
def wS (c : Cm) (win now du : Int) : La := ⟨win, now, 1, c, [wP c win now du]⟩
def wE (c : Cm) (win now : Int) : La := ⟨win, now + win, 1, wn c, []⟩
theorem wn_wf (c : Cm) : (wn c).Wf := ⟨by show dg5.length = 32; decide, by show zD.length = 32; decide⟩
theorem wP_wf (c : Cm) (win now du : Int) : (wP c win now du).Wf := ⟨wn_wf c, by show ad1.length = 20; decide⟩
theorem built_n (a k : Int) : Try.prog.built tC [(0, .int .i64 a), (1, .agg (vB dg5).toArray), (3, .int .i64 k)] = some (Cm.cells ⟨a, dg5, zD, k⟩).toArray := by kernel_rfl
theorem built_d5 : Try.prog.built tDg [(0, .int .u8 5)] = some (vB dg5).toArray := by kernel_rfl
theorem built_a1 : Try.prog.built tAd [(0, .int .u8 1)] = some (vB ad1).toArray := by kernel_rfl
theorem tmB_true {x : Int} (h0 : 0 ≤ x) (h1 : x ≤ 4611686018427387904) : tmB x = true := by unfold tmB; rw [decide_eq_true h0, decide_eq_true h1]; rfl
section
variable {c : Cm} {win now : Int}
theorem w_no (h0 : 0 ≤ now) (h1 : now ≤ 4611686018427387904) (h : 4611686018427387904 - win < now) (ad : List (BitVec 8)) (ib : Int) (d : Cm) : (La0 c win).post d ad ib now = (La0 c win, 0, 168) := by
  unfold La.post
  rw [tmB_true h0 h1, show (La0 c win).last = 0 from rfl, decide_eq_true h0, if_neg (by decide), show (La0 c win).win = win from rfl, if_pos h]
theorem w_post (hm : c.May) (hn : c.n < 1099511627776) (h0 : 0 ≤ now) (h1 : now ≤ 4611686018427387904) (h : ¬ 4611686018427387904 - win < now) : (La0 c win).post (wn c) ad1 (wn c).n now = (wS c win now 0, 1, 0) := by
  obtain ⟨m1, m2, m3, m4⟩ := hm
  have hf : folB (wn c) (La0 c win).top = true := by
    show folB (wn c) c = true
    unfold folB mayB
    have e : (wn c).n = c.n + 1 := rfl
    have e2 : (wn c).k = c.k := rfl
    rw [e, e2, decide_eq_true (show 0 ≤ c.n + 1 by omega), decide_eq_true (show c.n + 1 ≤ 1099511627776 by omega), decide_eq_true m3, decide_eq_true m4, decide_eq_true (show c.n < c.n + 1 by omega), decide_eq_true (show c.n + 1 - c.n ≤ 1024 by omega), decide_eq_true (Int.le_refl _)]
    rfl
  unfold La.post
  rw [tmB_true h0 h1, show (La0 c win).last = 0 from rfl, decide_eq_true h0, if_neg (by decide), show (La0 c win).win = win from rfl, if_neg h, hf, if_neg (by decide), if_neg (by omega), if_neg (by show ¬ 32 ≤ 0; decide)]
  rfl
theorem w_fi (du : Int) : fiN (wS c win now du).pend 1 = some 0 := by
  unfold fiN wS wP
  simp
theorem w_at (du : Int) : (wS c win now du).pend[0]? = some (wP c win now du) := rfl
theorem w_hold1 (h0 : 0 ≤ now + win) (h1 : now + win ≤ 4611686018427387904) : (wS c win now 0).hold 1 (now + win) = (wS c win now 0, 167) := by
  unfold La.hold
  rw [tmB_true h0 h1, if_neg (by decide), w_fi]
  simp only [w_at]
  rw [if_pos (by show now + win ≤ now + win; exact Int.le_refl _)]
theorem w_hold2 (h0 : 0 ≤ now + win - 1) (h1 : now + win - 1 ≤ 4611686018427387904) : (wS c win now 0).hold 1 (now + win - 1) = (wS c win now 1, 0) := by
  unfold La.hold
  rw [tmB_true h0 h1, if_neg (by decide), w_fi]
  simp only [w_at]
  rw [if_neg (by show ¬ now + win ≤ now + win - 1; omega)]
  rfl
theorem w_conf1 (h0 : 0 ≤ now + win) (h1 : now + win ≤ 4611686018427387904) (h2 : 0 ≤ win) : (wS c win now 1).confirm (now + win) = (wS c win now 1, zP, 166) := by
  unfold La.confirm
  rw [tmB_true h0 h1, show (wS c win now 1).last = now from rfl, decide_eq_true (by omega), if_neg (by decide)]
  rfl
theorem w_rel1 : (wS c win now 1).rel 1 = (wS c win now 0, 0) := by
  unfold La.rel
  rw [w_fi]
  simp only [w_at]
  rw [if_neg (by show ¬ (1 : Int) = 0; decide)]
  rfl
theorem w_rel2 : (wS c win now 0).rel 1 = (wS c win now 0, 166) := by
  unfold La.rel
  rw [w_fi]
  simp only [w_at]
  rw [if_pos (by show (0 : Int) = 0; rfl)]
theorem w_conf2 (h0 : 0 ≤ now + win - 1) (h1 : now + win - 1 ≤ 4611686018427387904) (h2 : 1 ≤ win) : (wS c win now 0).confirm (now + win - 1) = (wS c win now 0, zP, 165) := by
  unfold La.confirm
  rw [tmB_true h0 h1, show (wS c win now 0).last = now from rfl, decide_eq_true (by omega), if_neg (by decide)]
  show (if (0 : Int) < 0 then _ else if now + win - 1 < now + win then _ else _) = _
  rw [if_neg (by decide), if_pos (by omega)]
theorem w_conf3 (h0 : 0 ≤ now + win) (h1 : now + win ≤ 4611686018427387904) (h2 : 0 ≤ win) : (wS c win now 0).confirm (now + win) = (wE c win now, wP c win now 0, 0) := by
  unfold La.confirm
  rw [tmB_true h0 h1, show (wS c win now 0).last = now from rfl, decide_eq_true (by omega), if_neg (by decide)]
  show (if (0 : Int) < 0 then _ else if now + win < now + win then _ else _) = _
  rw [if_neg (by decide), if_neg (by omega)]
  rfl
end
set_option maxRecDepth 100000 in
set_option maxHeartbeats 4000000 in
theorem window_walk (c : Cm) (hc : c.Wf) (win now : Int) (hn1 : -9223372036854775808 ≤ now) (hn2 : now ≤ 9223372036854775807) (Lf : List Value) (hLf : Lf = c.cells) (w : World) : Calls Try.prog 7 #[.agg Lf.toArray, .int .i64 win, .int .i64 now] w fun e w' => e = .returned (.bool true) ∧ Below w.heap.size w w' := by
  have HLF : Hid (Lf = c.cells) := hLf
  have HCW : Hid c.Wf := hc
  have HIC : Hid ((Try.prog.info? tC).map (·.size) = some c.cells.length) := Cm.info hc
  have HCL : Hid (c.cells.length = zC.cells.length) := (Cm.len hc).trans (Cm.len zC_wf).symm
  by_cases hE : newE c win = 0
  case neg =>
    obtain ⟨E, hEE⟩ : ∃ E, newE c win = E := ⟨_, rfl⟩
    have HNEW : Hid (∀ X, Calls Try.prog 21 #[.agg c.cells.toArray, .int .i64 win] X fun e w' => e = .returned (.tuple #[.pointer none, .int .i64 E]) ∧ Below X.heap.size X w') := fun X => new_no c hc win _ rfl E hEE (by rw [← hEE]; exact hE) X
    have hne : ¬ E = 0 := by rw [← hEE]; exact hE
    have hne2 : (E != 0) = true := by simpa using hne
    clear hEE hE hc hLf hn1 hn2
    go_enter Try.func7, Try.ntmps7
    go_wp2_with (first
      | (refine wpList_bxG tC rfl (.tmp 0) rfl Lf rfl ?_; intro X0 q1 q2 q3; clear q3; rw [HLF.out] at q1; have H0 : Hid (Hp w X0 [(w.heap.size, c.cells, tC)] []) := (Hp.nil w).addR q2 q1 (Nat.le_refl _); clear q1 q2; simp only [Act.put, List.setIfInBounds_toArray, List.set_cons_zero, List.set_cons_succ])
      | (go_at_call 9; refine Calls.mono (awake_any _) ?_; rintro e X1 ⟨rfl, q⟩; have H1 : Hid (Hp w X1 [(w.heap.size, c.cells, tC)] []) := H0.out.below q; clear q H0)
      | (refine wpList_ldS rfl tC (.tmp 3) rfl w.heap.size 0 rfl c.cells _ (H1.out.row _ (List.mem_cons_self ..)).all Try.underlying25 rfl HIC.out ?_; simp only [Act.put, List.setIfInBounds_toArray, List.set_cons_zero, List.set_cons_succ])
      | (go_at_call 21; refine Calls.mono (HNEW.out _) ?_; rintro e X2 ⟨rfl, q⟩; have B2 : Hid (Below w.heap.size w X2) := H1.out.be.trans (q.mono H1.out.be.size); clear q))
    go_ret
    exact ⟨rfl, B2.out⟩
  case pos =>
  have HNEW : Hid (∀ X, Calls Try.prog 21 #[.agg c.cells.toArray, .int .i64 win] X fun e w' => ∃ p, e = .returned (.tuple #[.pointer (some ⟨p, 0, none⟩), .int .i64 0]) ∧ Ld w' p (.slice none 0 0) 0 (La0 c win) ∧ X.heap.size ≤ p ∧ Below X.heap.size X w') := fun X => new_ok c hc win _ rfl hE (Int.le_refl 0) X
  obtain ⟨hT, w1, w2⟩ : mayB c = true ∧ 1 ≤ win ∧ win ≤ 4611686018427387904 := by
    unfold newE at hE
    split at hE
    · rename_i h
      split at hE
      · rename_i h2; exact ⟨h, h2⟩
      · cases hE
    · cases hE
  have hmay := (mayB_iff c).1 hT
  by_cases hcn : 1099511627776 ≤ c.n
  · clear hE hc hLf hT hmay w1 w2 hn1 hn2
    go_enter Try.func7, Try.ntmps7
    go_wp2_with (first
      | (refine wpList_bxG tC rfl (.tmp 0) rfl Lf rfl ?_; intro X0 q1 q2 q3; clear q3; rw [HLF.out] at q1; have H0 : Hid (Hp w X0 [(w.heap.size, c.cells, tC)] []) := (Hp.nil w).addR q2 q1 (Nat.le_refl _); clear q1 q2; simp only [Act.put, List.setIfInBounds_toArray, List.set_cons_zero, List.set_cons_succ])
      | (go_at_call 9; refine Calls.mono (awake_any _) ?_; rintro e X1 ⟨rfl, q⟩; have H1 : Hid (Hp w X1 [(w.heap.size, c.cells, tC)] []) := H0.out.below q; clear q H0)
      | (refine wpList_ldS rfl tC (.tmp 3) rfl w.heap.size 0 rfl c.cells _ (H1.out.row _ (List.mem_cons_self ..)).all Try.underlying25 rfl HIC.out ?_; simp only [Act.put, List.setIfInBounds_toArray, List.set_cons_zero, List.set_cons_succ])
      | (go_at_call 21; refine Calls.mono (HNEW.out _) ?_; rintro e X2 ⟨p, rfl, q1, q2, q3⟩; have H2 : Hid (Hp w X2 [(w.heap.size, c.cells, tC)] [(p, .slice none 0 0, 0, La0 c win)]) := H1.out.addL q3 q1 (fun g hg => by { rcases hg with rfl | hg; exact q2; cases hg }); have c3n : X2.cell? ⟨w.heap.size, 0, none⟩ = some (.int .i64 c.n) := (H2.out.row _ (List.mem_cons_self ..)).cell 0 _ (Cm.at_n c); have c3k : X2.cell? ⟨w.heap.size, 65, none⟩ = some (.int .i64 c.k) := (H2.out.row _ (List.mem_cons_self ..)).cell 65 _ (Cm.at_k HCW.out); clear q1 q2 q3 H1))
    go_ret
    exact ⟨rfl, H2.out.be⟩
  by_cases hn0 : now < 0
  · clear hE hc hLf hT hmay w1 w2 hn1 hn2
    go_enter Try.func7, Try.ntmps7
    go_wp2_with (first
      | (refine wpList_bxG tC rfl (.tmp 0) rfl Lf rfl ?_; intro X0 q1 q2 q3; clear q3; rw [HLF.out] at q1; have H0 : Hid (Hp w X0 [(w.heap.size, c.cells, tC)] []) := (Hp.nil w).addR q2 q1 (Nat.le_refl _); clear q1 q2; simp only [Act.put, List.setIfInBounds_toArray, List.set_cons_zero, List.set_cons_succ])
      | (go_at_call 9; refine Calls.mono (awake_any _) ?_; rintro e X1 ⟨rfl, q⟩; have H1 : Hid (Hp w X1 [(w.heap.size, c.cells, tC)] []) := H0.out.below q; clear q H0)
      | (refine wpList_ldS rfl tC (.tmp 3) rfl w.heap.size 0 rfl c.cells _ (H1.out.row _ (List.mem_cons_self ..)).all Try.underlying25 rfl HIC.out ?_; simp only [Act.put, List.setIfInBounds_toArray, List.set_cons_zero, List.set_cons_succ])
      | (go_at_call 21; refine Calls.mono (HNEW.out _) ?_; rintro e X2 ⟨p, rfl, q1, q2, q3⟩; have H2 : Hid (Hp w X2 [(w.heap.size, c.cells, tC)] [(p, .slice none 0 0, 0, La0 c win)]) := H1.out.addL q3 q1 (fun g hg => by { rcases hg with rfl | hg; exact q2; cases hg }); have c3n : X2.cell? ⟨w.heap.size, 0, none⟩ = some (.int .i64 c.n) := (H2.out.row _ (List.mem_cons_self ..)).cell 0 _ (Cm.at_n c); have c3k : X2.cell? ⟨w.heap.size, 65, none⟩ = some (.int .i64 c.k) := (H2.out.row _ (List.mem_cons_self ..)).cell 65 _ (Cm.at_k HCW.out); clear q1 q2 q3 H1))
    go_ret
    exact ⟨rfl, H2.out.be⟩
  by_cases hnM : 4611686018427387904 ≤ now
  · clear hE hc hLf hT hmay w1 w2 hn1 hn2
    go_enter Try.func7, Try.ntmps7
    go_wp2_with (first
      | (refine wpList_bxG tC rfl (.tmp 0) rfl Lf rfl ?_; intro X0 q1 q2 q3; clear q3; rw [HLF.out] at q1; have H0 : Hid (Hp w X0 [(w.heap.size, c.cells, tC)] []) := (Hp.nil w).addR q2 q1 (Nat.le_refl _); clear q1 q2; simp only [Act.put, List.setIfInBounds_toArray, List.set_cons_zero, List.set_cons_succ])
      | (go_at_call 9; refine Calls.mono (awake_any _) ?_; rintro e X1 ⟨rfl, q⟩; have H1 : Hid (Hp w X1 [(w.heap.size, c.cells, tC)] []) := H0.out.below q; clear q H0)
      | (refine wpList_ldS rfl tC (.tmp 3) rfl w.heap.size 0 rfl c.cells _ (H1.out.row _ (List.mem_cons_self ..)).all Try.underlying25 rfl HIC.out ?_; simp only [Act.put, List.setIfInBounds_toArray, List.set_cons_zero, List.set_cons_succ])
      | (go_at_call 21; refine Calls.mono (HNEW.out _) ?_; rintro e X2 ⟨p, rfl, q1, q2, q3⟩; have H2 : Hid (Hp w X2 [(w.heap.size, c.cells, tC)] [(p, .slice none 0 0, 0, La0 c win)]) := H1.out.addL q3 q1 (fun g hg => by { rcases hg with rfl | hg; exact q2; cases hg }); have c3n : X2.cell? ⟨w.heap.size, 0, none⟩ = some (.int .i64 c.n) := (H2.out.row _ (List.mem_cons_self ..)).cell 0 _ (Cm.at_n c); have c3k : X2.cell? ⟨w.heap.size, 65, none⟩ = some (.int .i64 c.k) := (H2.out.row _ (List.mem_cons_self ..)).cell 65 _ (Cm.at_k HCW.out); clear q1 q2 q3 H1))
    go_ret
    exact ⟨rfl, H2.out.be⟩
  have a0 : 0 ≤ now := by omega
  have a1' : now ≤ 4611686018427387904 := by omega
  obtain ⟨n1, hnn⟩ : ∃ n1, n1 = c.n + 1 := ⟨_, rfl⟩
  have hs0 : IntKind.i64.wrap (c.n + 1) = n1 := by rw [IntKind.wrap_i64, hnn]; have := hmay.1; omega
  have hs9 : IntKind.i64.wrap (4611686018427387904 - win) = 4611686018427387904 - win := by rw [IntKind.wrap_i64]; omega
  obtain ⟨nx, hnx⟩ : ∃ nx, nx = wn c := ⟨_, rfl⟩
  obtain ⟨d5, hd5⟩ : ∃ d, d = dg5 := ⟨_, rfl⟩
  obtain ⟨a1, ha1⟩ : ∃ d, d = ad1 := ⟨_, rfl⟩
  have HB5 : Hid (Try.prog.built tDg [(0, .int .u8 5)] = some (vB d5).toArray) := by show _ = _; rw [hd5]; exact built_d5
  have HBA : Hid (Try.prog.built tAd [(0, .int .u8 1)] = some (vB a1).toArray) := by show _ = _; rw [ha1]; exact built_a1
  have HBN : Hid (Try.prog.built tC [(0, .int .i64 n1), (1, .agg (vB d5).toArray), (3, .int .i64 c.k)] = some nx.cells.toArray) := by show _ = _; rw [hd5, hnx, hnn]; exact built_n (c.n + 1) c.k
  have HNW : Hid nx.Wf := by rw [hnx]; exact wn_wf c
  have HNN : Hid (nx.n = n1) := by show _ = _; rw [hnx, hnn]; rfl
  have HIN : Hid ((Try.prog.info? tC).map (·.size) = some nx.cells.length) := Cm.info HNW.out
  have HNL : Hid (nx.cells.length = zC.cells.length) := (Cm.len HNW.out).trans (Cm.len zC_wf).symm
  have hal : a1.length = 20 := by rw [ha1]; decide
  by_cases hb : 4611686018427387904 - win < now
  · have HPO : Hid (∀ X p v, Ld X p v 0 (La0 c win) → Calls Try.prog 23 #[.pointer (some ⟨p, 0, none⟩), .agg nx.cells.toArray, .agg (vB a1).toArray, .int .i64 n1, .int .i64 now] X fun e w' => e = .returned (.tuple #[.int .i64 0, .int .i64 168]) ∧ Tn X w' p v (0 + 1) (La0 c win)) := fun X p v h => post_any h (Int.le_refl 0) (by decide) nx HNW.out a1 hal n1 now _ rfl (La0 c win) 0 168 (w_no a0 a1' hb _ _ _)
    clear hE hc hLf hT hmay w1 w2 a0 a1' hnn hnx hd5 ha1 hal hn1 hn2
    go_enter Try.func7, Try.ntmps7
    go_wp2_with (first
      | (refine wpList_bxG tC rfl (.tmp 0) rfl Lf rfl ?_; intro X0 q1 q2 q3; clear q3; rw [HLF.out] at q1; have H0 : Hid (Hp w X0 [(w.heap.size, c.cells, tC)] []) := (Hp.nil w).addR q2 q1 (Nat.le_refl _); clear q1 q2; simp only [Act.put, List.setIfInBounds_toArray, List.set_cons_zero, List.set_cons_succ])
      | (go_at_call 9; refine Calls.mono (awake_any _) ?_; rintro e X1 ⟨rfl, q⟩; have H1 : Hid (Hp w X1 [(w.heap.size, c.cells, tC)] []) := H0.out.below q; clear q H0)
      | (refine wpList_ldS rfl tC (.tmp 3) rfl w.heap.size 0 rfl c.cells _ (H1.out.row _ (List.mem_cons_self ..)).all Try.underlying25 rfl HIC.out ?_; simp only [Act.put, List.setIfInBounds_toArray, List.set_cons_zero, List.set_cons_succ])
      | (go_at_call 21; refine Calls.mono (HNEW.out _) ?_; rintro e X2 ⟨p, rfl, q1, q2, q3⟩; have H2 : Hid (Hp w X2 [(w.heap.size, c.cells, tC)] [(p, .slice none 0 0, 0, La0 c win)]) := H1.out.addL q3 q1 (fun g hg => by { rcases hg with rfl | hg; exact q2; cases hg }); have c3n : X2.cell? ⟨w.heap.size, 0, none⟩ = some (.int .i64 c.n) := (H2.out.row _ (List.mem_cons_self ..)).cell 0 _ (Cm.at_n c); have c3k : X2.cell? ⟨w.heap.size, 65, none⟩ = some (.int .i64 c.k) := (H2.out.row _ (List.mem_cons_self ..)).cell 65 _ (Cm.at_k HCW.out); clear q1 q2 q3 H1)
      | (refine wpList_blt rfl tDg _ rfl [(0, .int .u8 5)] rfl (vB d5) HB5.out ?_; simp only [Act.put, List.setIfInBounds_toArray, List.set_cons_zero, List.set_cons_succ])
      | (refine wpList_blt rfl tC _ rfl [(0, .int .i64 n1), (1, .agg (vB d5).toArray), (3, .int .i64 c.k)] rfl nx.cells HBN.out ?_; simp only [Act.put, List.setIfInBounds_toArray, List.set_cons_zero, List.set_cons_succ])
      | (refine wpList_alC rfl rfl ?_; intro X3 q1 q2 q3; clear q3; have RA : Hid (Row X3 X2.heap.size zC.cells tC) := q1; have BA : Hid (Below X2.heap.size X2 X3) := q2; clear q1 q2; simp only [Act.put, List.setIfInBounds_toArray, List.set_cons_zero, List.set_cons_succ])
      | (refine wpList_stL rfl tC (.tmp 10) (.tmp 64) rfl X2.heap.size nx.cells zC.cells tC rfl rfl RA.out HNL.out HIN.out (all_one (Cm.one nx)) ?_; intro X4 q1 q2; have H4 : Hid (Hp w X4 [(X2.heap.size, nx.cells, tC), (w.heap.size, c.cells, tC)] [(p, .slice none 0 0, 0, La0 c win)]) := H2.out.addR (gro_newL BA.out (Nat.le_refl _) q2) q1 (Nat.le_refl _); have c10 : X4.cell? ⟨X2.heap.size, 0, none⟩ = some (.int .i64 n1) := by { have := q1.cell 0 _ (Cm.at_n nx); rw [HNN.out] at this; exact this }; clear q1 q2 H2 RA BA c3n c3k)
      | (refine wpList_ldS rfl tC (.tmp 10) rfl X2.heap.size 0 rfl nx.cells _ (H4.out.row _ (List.mem_cons_self ..)).all Try.underlying25 rfl HIN.out ?_; simp only [Act.put, List.setIfInBounds_toArray, List.set_cons_zero, List.set_cons_succ])
      | (refine wpList_blt rfl tAd _ rfl [(0, .int .u8 1)] rfl (vB a1) HBA.out ?_; simp only [Act.put, List.setIfInBounds_toArray, List.set_cons_zero, List.set_cons_succ])
      | (go_at_call 23; refine Calls.mono (HPO.out _ _ _ (H4.out.lad _ (List.mem_cons_self ..))) ?_; rintro e X5 ⟨rfl, q1⟩; obtain ⟨v5, q2, _⟩ := H4.out.turn 0 rfl q1; have B5 : Hid (Below w.heap.size w X5) := q2.be; clear q1 q2))
    go_ret
    exact ⟨rfl, B5.out⟩
  obtain ⟨S0, hS0⟩ : ∃ S, S = wS c win now 0 := ⟨_, rfl⟩
  obtain ⟨S1, hS1⟩ : ∃ S, S = wS c win now 1 := ⟨_, rfl⟩
  obtain ⟨SE, hSE⟩ : ∃ S, S = wE c win now := ⟨_, rfl⟩
  obtain ⟨pn, hpn⟩ : ∃ S, S = wP c win now 0 := ⟨_, rfl⟩
  obtain ⟨dl, hdl⟩ : ∃ d, d = now + win := ⟨_, rfl⟩
  obtain ⟨dm, hdm⟩ : ∃ d, d = now + win - 1 := ⟨_, rfl⟩
  have hs1 : IntKind.i64.wrap (now + win) = dl := by rw [IntKind.wrap_i64, hdl]; omega
  have hs2 : IntKind.i64.wrap (dl - 1) = dm := by rw [IntKind.wrap_i64, hdl, hdm]; omega
  have t0 : 0 ≤ now + win := by omega
  have t1 : now + win ≤ 4611686018427387904 := by omega
  have t2 : 0 ≤ now + win - 1 := by omega
  have t3 : now + win - 1 ≤ 4611686018427387904 := by omega
  have HPW : Hid pn.Wf := by rw [hpn]; exact wP_wf _ _ _ _
  have HPD : Hid (pn.dl = dl) := by show _ = _; rw [hpn, hdl]; rfl
  have HPP : Hid (pn.po = now) := by show _ = _; rw [hpn]; rfl
  have HIP : Hid ((Try.prog.info? tP).map (·.size) = some pn.cells.length) := Pn.info HPW.out
  have HPL : Hid (pn.cells.length = zP.cells.length) := (Pn.len HPW.out).trans (Pn.len zP_wf).symm
  have HPO : Hid (∀ X p v, Ld X p v 0 (La0 c win) → Calls Try.prog 23 #[.pointer (some ⟨p, 0, none⟩), .agg nx.cells.toArray, .agg (vB a1).toArray, .int .i64 n1, .int .i64 now] X fun e w' => e = .returned (.tuple #[.int .i64 1, .int .i64 0]) ∧ Tn X w' p v (0 + 1) S0) := fun X p v h => post_any h (Int.le_refl 0) (by decide) nx HNW.out a1 hal n1 now _ rfl S0 1 0 (by rw [hS0, hnx, ha1, hnn]; exact w_post hmay (by omega) a0 a1' hb)
  have HFD : Hid (∀ X p v, Ld X p v (0 + 1) S0 → Calls Try.prog 31 #[.pointer (some ⟨p, 0, none⟩), .int .i64 1] X fun e w' => e = .returned (.tuple #[.agg pn.cells.toArray, .int .i64 0]) ∧ Below X.heap.size X w') := fun X p v h => find_some h 1 0 pn (by rw [hS0]; exact w_fi 0) (by rw [hS0, hpn]; rfl)
  have HH1 : Hid (∀ X p v, Ld X p v (0 + 1) S0 → Calls Try.prog 27 #[.pointer (some ⟨p, 0, none⟩), .int .i64 1, .int .i64 dl] X fun e w' => e = .returned (.int .i64 167) ∧ Tn X w' p v (0 + 1 + 1) S0) := fun X p v h => hold_any h (by decide) 1 dl S0 167 (by rw [hS0, hdl]; exact w_hold1 t0 t1)
  have HH2 : Hid (∀ X p v, Ld X p v (0 + 1 + 1) S0 → Calls Try.prog 27 #[.pointer (some ⟨p, 0, none⟩), .int .i64 1, .int .i64 dm] X fun e w' => e = .returned (.int .i64 0) ∧ Tn X w' p v (0 + 1 + 1 + 1) S1) := fun X p v h => hold_any h (by decide) 1 dm S1 0 (by rw [hS0, hS1, hdm]; exact w_hold2 t2 t3)
  have HCP1 : Hid (∀ X p v, Ld X p v (0 + 1 + 1 + 1) S1 → Calls Try.prog 32 #[.pointer (some ⟨p, 0, none⟩)] X fun e w' => ∃ p' v', e = .returned (.pointer (some ⟨p', 0, none⟩)) ∧ Ld w' p' v' (0 + 1 + 1 + 1) S1 ∧ X.heap.size ≤ p' ∧ Fresh X.heap.size v' ∧ Below X.heap.size X w') := fun X p v h => copy_any h
  have HCP2 : Hid (∀ X p v, Ld X p v (0 + 1 + 1 + 1) S0 → Calls Try.prog 32 #[.pointer (some ⟨p, 0, none⟩)] X fun e w' => ∃ p' v', e = .returned (.pointer (some ⟨p', 0, none⟩)) ∧ Ld w' p' v' (0 + 1 + 1 + 1) S0 ∧ X.heap.size ≤ p' ∧ Fresh X.heap.size v' ∧ Below X.heap.size X w') := fun X p v h => copy_any h
  have HC1 : Hid (∀ X p v, Ld X p v (0 + 1 + 1 + 1) S1 → Calls Try.prog 24 #[.pointer (some ⟨p, 0, none⟩), .int .i64 dl] X fun e w' => e = .returned (.tuple #[.agg zP.cells.toArray, .int .i64 166]) ∧ Ts X w' p v (0 + 1 + 1 + 1) S1) := fun X p v h => confirm_any h dl S1 zP 166 (by rw [hS1, hdl]; exact w_conf1 t0 t1 (by omega))
  have HC2 : Hid (∀ X p v, Ld X p v (0 + 1 + 1 + 1) S0 → Calls Try.prog 24 #[.pointer (some ⟨p, 0, none⟩), .int .i64 dm] X fun e w' => e = .returned (.tuple #[.agg zP.cells.toArray, .int .i64 165]) ∧ Ts X w' p v (0 + 1 + 1 + 1) S0) := fun X p v h => confirm_any h dm S0 zP 165 (by rw [hS0, hdm]; exact w_conf2 t2 t3 w1)
  have HC3 : Hid (∀ X p v, Ld X p v (0 + 1 + 1 + 1) S0 → Calls Try.prog 24 #[.pointer (some ⟨p, 0, none⟩), .int .i64 dl] X fun e w' => e = .returned (.tuple #[.agg pn.cells.toArray, .int .i64 0]) ∧ Ts X w' p v (0 + 1 + 1 + 1) SE) := fun X p v h => confirm_any h dl SE pn 0 (by rw [hS0, hSE, hpn, hdl]; exact w_conf3 t0 t1 (by omega))
  have HR1 : Hid (∀ X p v, Ld X p v (0 + 1 + 1 + 1) S1 → Calls Try.prog 28 #[.pointer (some ⟨p, 0, none⟩), .int .i64 1] X fun e w' => e = .returned (.int .i64 0) ∧ Tn X w' p v (0 + 1 + 1 + 1) S0) := fun X p v h => release_any h (by decide) 1 S0 0 (by rw [hS0, hS1]; exact w_rel1)
  have HR2 : Hid (∀ X p v, Ld X p v (0 + 1 + 1 + 1) S0 → Calls Try.prog 28 #[.pointer (some ⟨p, 0, none⟩), .int .i64 1] X fun e w' => e = .returned (.int .i64 166) ∧ Tn X w' p v (0 + 1 + 1 + 1) S0) := fun X p v h => release_any h (by decide) 1 S0 166 (by rw [hS0]; exact w_rel2)
  have HCF1 : Hid (∀ X p v, Ld X p v (0 + 1 + 1 + 1) SE → Calls Try.prog 30 #[.pointer (some ⟨p, 0, none⟩)] X fun e w' => e = .returned (.agg nx.cells.toArray) ∧ Below X.heap.size X w') := fun X p v h => confirmed_any h nx (by rw [hSE, hnx]; rfl)
  have HCF2 : Hid (∀ X p v, Ld X p v (0 + 1 + 1 + 1) S1 → Calls Try.prog 30 #[.pointer (some ⟨p, 0, none⟩)] X fun e w' => e = .returned (.agg c.cells.toArray) ∧ Below X.heap.size X w') := fun X p v h => confirmed_any h c (by rw [hS1]; rfl)
  clear hE hc hLf hT hmay w1 w2 a0 a1' hnn hnx hd5 ha1 hal hn1 hn2 hS0 hS1 hSE hpn hdl hdm t0 t1 t2 t3
  go_enter Try.func7, Try.ntmps7
  go_wp2_with (first
    | (refine wpList_bxG tC rfl (.tmp 0) rfl Lf rfl ?_; intro X0 q1 q2 q3; clear q3; rw [HLF.out] at q1; have H0 : Hid (Hp w X0 [(w.heap.size, c.cells, tC)] []) := (Hp.nil w).addR q2 q1 (Nat.le_refl _); clear q1 q2; simp only [Act.put, List.setIfInBounds_toArray, List.set_cons_zero, List.set_cons_succ])
    | (go_at_call 9; refine Calls.mono (awake_any _) ?_; rintro e X1 ⟨rfl, q⟩; have H1 : Hid (Hp w X1 [(w.heap.size, c.cells, tC)] []) := H0.out.below q; clear q H0)
    | (refine wpList_ldS rfl tC (.tmp 3) rfl w.heap.size 0 rfl c.cells _ (H1.out.row _ (List.mem_cons_self ..)).all Try.underlying25 rfl HIC.out ?_; simp only [Act.put, List.setIfInBounds_toArray, List.set_cons_zero, List.set_cons_succ])
    | (go_at_call 21; refine Calls.mono (HNEW.out _) ?_; rintro e X2 ⟨p, rfl, q1, q2, q3⟩; have H2 : Hid (Hp w X2 [(w.heap.size, c.cells, tC)] [(p, .slice none 0 0, 0, La0 c win)]) := H1.out.addL q3 q1 (fun g hg => by { rcases hg with rfl | hg; exact q2; cases hg }); have c3n : X2.cell? ⟨w.heap.size, 0, none⟩ = some (.int .i64 c.n) := (H2.out.row _ (List.mem_cons_self ..)).cell 0 _ (Cm.at_n c); have c3k : X2.cell? ⟨w.heap.size, 65, none⟩ = some (.int .i64 c.k) := (H2.out.row _ (List.mem_cons_self ..)).cell 65 _ (Cm.at_k HCW.out); clear q1 q2 q3 H1)
    | (refine wpList_blt rfl tDg _ rfl [(0, .int .u8 5)] rfl (vB d5) HB5.out ?_; simp only [Act.put, List.setIfInBounds_toArray, List.set_cons_zero, List.set_cons_succ])
    | (refine wpList_blt rfl tC _ rfl [(0, .int .i64 n1), (1, .agg (vB d5).toArray), (3, .int .i64 c.k)] rfl nx.cells HBN.out ?_; simp only [Act.put, List.setIfInBounds_toArray, List.set_cons_zero, List.set_cons_succ])
    | (refine wpList_stL rfl tC (.tmp 10) (.tmp 64) rfl X2.heap.size nx.cells zC.cells tC rfl rfl RA.out HNL.out HIN.out (all_one (Cm.one nx)) ?_; intro X4 q1 q2; have H4 : Hid (Hp w X4 [(X2.heap.size, nx.cells, tC), (w.heap.size, c.cells, tC)] [(p, .slice none 0 0, 0, La0 c win)]) := H2.out.addR (gro_newL BA.out (Nat.le_refl _) q2) q1 (Nat.le_refl _); have c10 : X4.cell? ⟨X2.heap.size, 0, none⟩ = some (.int .i64 n1) := by { have := q1.cell 0 _ (Cm.at_n nx); rw [HNN.out] at this; exact this }; clear q1 q2 H2 RA BA c3n c3k)
    | (refine wpList_ldS rfl tC (.tmp 10) rfl X2.heap.size 0 rfl nx.cells _ (H4.out.row _ (List.mem_cons_self ..)).all Try.underlying25 rfl HIN.out ?_; simp only [Act.put, List.setIfInBounds_toArray, List.set_cons_zero, List.set_cons_succ])
    | (refine wpList_blt rfl tAd _ rfl [(0, .int .u8 1)] rfl (vB a1) HBA.out ?_; simp only [Act.put, List.setIfInBounds_toArray, List.set_cons_zero, List.set_cons_succ])
    | (go_at_call 23; refine Calls.mono (HPO.out _ _ _ (H4.out.lad _ (List.mem_cons_self ..))) ?_; rintro e X5 ⟨rfl, q1⟩; obtain ⟨v5, q2, _⟩ := H4.out.turn 0 rfl q1; have H5 : Hid (Hp w X5 [(X2.heap.size, nx.cells, tC), (w.heap.size, c.cells, tC)] [(p, v5, 0 + 1, S0)]) := q2; clear q1 q2 H4 c10)
    | (go_at_call 31; refine Calls.mono (HFD.out _ _ _ (H5.out.lad _ (List.mem_cons_self ..))) ?_; rintro e X6 ⟨rfl, q⟩; have H6 : Hid (Hp w X6 [(X2.heap.size, nx.cells, tC), (w.heap.size, c.cells, tC)] [(p, v5, 0 + 1, S0)]) := H5.out.below q; clear q H5)
    | (refine wpList_stL rfl tP (.tmp 13) (.tmp 89) rfl X6.heap.size pn.cells zP.cells tP rfl rfl RB.out HPL.out HIP.out (all_one (Pn.one pn)) ?_; intro X8 q1 q2; have H8 : Hid (Hp w X8 [(X6.heap.size, pn.cells, tP), (X2.heap.size, nx.cells, tC), (w.heap.size, c.cells, tC)] [(p, v5, 0 + 1, S0)]) := H6.out.addR (gro_newL BB.out (Nat.le_refl _) q2) q1 (Nat.le_refl _); have c87 : X8.cell? ⟨X6.heap.size, 87, none⟩ = some (.int .i64 now) := by { have := q1.cell 87 _ (Pn.at_po HPW.out); rw [HPP.out] at this; exact this }; have c88 : X8.cell? ⟨X6.heap.size, 88, none⟩ = some (.int .i64 dl) := by { have := (H8.out.row _ (List.mem_cons_self ..)).cell 88 _ (Pn.at_dl HPW.out); rw [HPD.out] at this; exact this }; clear q1 q2 H6 RB BB)
    | (go_at_call 27; refine Calls.mono (HH1.out _ _ _ (H8.out.lad _ (List.mem_cons_self ..))) ?_; rintro e X9 ⟨rfl, q1⟩; obtain ⟨v9, q2, _⟩ := H8.out.turn 0 rfl q1; have H9 : Hid (Hp w X9 [(X6.heap.size, pn.cells, tP), (X2.heap.size, nx.cells, tC), (w.heap.size, c.cells, tC)] [(p, v9, 0 + 1 + 1, S0)]) := q2; clear q1 q2 H8 c87 c88 HH1; have c88 : X9.cell? ⟨X6.heap.size, 88, none⟩ = some (.int .i64 dl) := by { have := (H9.out.row _ (List.mem_cons_self ..)).cell 88 _ (Pn.at_dl HPW.out); rw [HPD.out] at this; exact this })
    | (go_at_call 27; refine Calls.mono (HH2.out _ _ _ (H9.out.lad _ (List.mem_cons_self ..))) ?_; rintro e Y1 ⟨rfl, q1⟩; obtain ⟨u1, q2, _⟩ := H9.out.turn 0 rfl q1; have HA : Hid (Hp w Y1 [(X6.heap.size, pn.cells, tP), (X2.heap.size, nx.cells, tC), (w.heap.size, c.cells, tC)] [(p, u1, 0 + 1 + 1 + 1, S1)]) := q2; clear q1 q2 H9 c88; have c88 : Y1.cell? ⟨X6.heap.size, 88, none⟩ = some (.int .i64 dl) := by { have := (HA.out.row _ (List.mem_cons_self ..)).cell 88 _ (Pn.at_dl HPW.out); rw [HPD.out] at this; exact this })
    | (go_at_call 32; refine Calls.mono (HCP1.out _ _ _ (HA.out.lad _ (List.mem_cons_self ..))) ?_; rintro e Y2 ⟨p2, v2, rfl, q1, q2, q3, q4⟩; have HB : Hid (Hp w Y2 [(X6.heap.size, pn.cells, tP), (X2.heap.size, nx.cells, tC), (w.heap.size, c.cells, tC)] [(p2, v2, 0 + 1 + 1 + 1, S1), (p, u1, 0 + 1 + 1 + 1, S1)]) := HA.out.addL q4 q1 (fun g hg => by { rcases hg with rfl | hg; exact q2; exact q3 g hg }); clear q1 q2 q3 q4 HA c88 HCP1; have c88 : Y2.cell? ⟨X6.heap.size, 88, none⟩ = some (.int .i64 dl) := by { have := (HB.out.row _ (List.mem_cons_self ..)).cell 88 _ (Pn.at_dl HPW.out); rw [HPD.out] at this; exact this })
    | (go_at_call 24; refine Calls.mono (HC1.out _ _ _ (HB.out.lad _ (List.mem_cons_self ..))) ?_; rintro e Y3 ⟨rfl, q1⟩; obtain ⟨v3, q2, _⟩ := HB.out.turn 0 rfl q1.tn; have HC : Hid (Hp w Y3 [(X6.heap.size, pn.cells, tP), (X2.heap.size, nx.cells, tC), (w.heap.size, c.cells, tC)] [(p2, v3, 0 + 1 + 1 + 1, S1), (p, u1, 0 + 1 + 1 + 1, S1)]) := q2; clear q1 q2 HB c88 HC1)
    | (refine wpList_stL rfl tP (.tmp 18) (.tmp 139) rfl Y3.heap.size zP.cells zP.cells tP rfl rfl RC.out rfl (Pn.info zP_wf) (all_one (Pn.one zP)) ?_; intro Y5 q1 q2; have HD : Hid (Hp w Y5 [(X6.heap.size, pn.cells, tP), (X2.heap.size, nx.cells, tC), (w.heap.size, c.cells, tC)] [(p2, v3, 0 + 1 + 1 + 1, S1), (p, u1, 0 + 1 + 1 + 1, S1)]) := HC.out.below (gro_newL BC.out (Nat.le_refl _) q2); clear q1 q2 HC RC BC)
    | (go_at_call 28; refine Calls.mono (HR1.out _ _ _ (HD.out.lad _ (List.mem_cons_of_mem _ (List.mem_cons_self ..)))) ?_; rintro e Y6 ⟨rfl, q1⟩; obtain ⟨u2, q2, _⟩ := HD.out.turn 1 rfl q1; have HE : Hid (Hp w Y6 [(X6.heap.size, pn.cells, tP), (X2.heap.size, nx.cells, tC), (w.heap.size, c.cells, tC)] [(p2, v3, 0 + 1 + 1 + 1, S1), (p, u2, 0 + 1 + 1 + 1, S0)]) := q2; clear q1 q2 HD HR1)
    | (go_at_call 28; refine Calls.mono (HR2.out _ _ _ (HE.out.lad _ (List.mem_cons_of_mem _ (List.mem_cons_self ..)))) ?_; rintro e Y7 ⟨rfl, q1⟩; obtain ⟨u3, q2, _⟩ := HE.out.turn 1 rfl q1; have HF : Hid (Hp w Y7 [(X6.heap.size, pn.cells, tP), (X2.heap.size, nx.cells, tC), (w.heap.size, c.cells, tC)] [(p2, v3, 0 + 1 + 1 + 1, S1), (p, u3, 0 + 1 + 1 + 1, S0)]) := q2; clear q1 q2 HE)
    | (go_at_call 32; refine Calls.mono (HCP2.out _ _ _ (HF.out.lad _ (List.mem_cons_of_mem _ (List.mem_cons_self ..)))) ?_; rintro e Y8 ⟨p3, v4, rfl, q1, q2, q3, q4⟩; have HG : Hid (Hp w Y8 [(X6.heap.size, pn.cells, tP), (X2.heap.size, nx.cells, tC), (w.heap.size, c.cells, tC)] [(p3, v4, 0 + 1 + 1 + 1, S0), (p2, v3, 0 + 1 + 1 + 1, S1), (p, u3, 0 + 1 + 1 + 1, S0)]) := HF.out.addL q4 q1 (fun g hg => by { rcases hg with rfl | hg; exact q2; exact q3 g hg }); clear q1 q2 q3 q4 HF; have c88 : Y8.cell? ⟨X6.heap.size, 88, none⟩ = some (.int .i64 dl) := by { have := (HG.out.row _ (List.mem_cons_self ..)).cell 88 _ (Pn.at_dl HPW.out); rw [HPD.out] at this; exact this })
    | (go_at_call 24; refine Calls.mono (HC2.out _ _ _ (HG.out.lad _ (List.mem_cons_self ..))) ?_; rintro e Y9 ⟨rfl, q1⟩; obtain ⟨v6, q2, _⟩ := HG.out.turn 0 rfl q1.tn; have HI : Hid (Hp w Y9 [(X6.heap.size, pn.cells, tP), (X2.heap.size, nx.cells, tC), (w.heap.size, c.cells, tC)] [(p3, v6, 0 + 1 + 1 + 1, S0), (p2, v3, 0 + 1 + 1 + 1, S1), (p, u3, 0 + 1 + 1 + 1, S0)]) := q2; clear q1 q2 HG c88 HC2)
    | (refine wpList_stL rfl tP (.tmp 23) (.tmp 157) rfl Y9.heap.size zP.cells zP.cells tP rfl rfl RD.out rfl (Pn.info zP_wf) (all_one (Pn.one zP)) ?_; intro Z2 q1 q2; have HJ : Hid (Hp w Z2 [(X6.heap.size, pn.cells, tP), (X2.heap.size, nx.cells, tC), (w.heap.size, c.cells, tC)] [(p3, v6, 0 + 1 + 1 + 1, S0), (p2, v3, 0 + 1 + 1 + 1, S1), (p, u3, 0 + 1 + 1 + 1, S0)]) := HI.out.below (gro_newL BD.out (Nat.le_refl _) q2); clear q1 q2 HI RD BD; have c88 : Z2.cell? ⟨X6.heap.size, 88, none⟩ = some (.int .i64 dl) := by { have := (HJ.out.row _ (List.mem_cons_self ..)).cell 88 _ (Pn.at_dl HPW.out); rw [HPD.out] at this; exact this })
    | (go_at_call 24; refine Calls.mono (HC3.out _ _ _ (HJ.out.lad _ (List.mem_cons_of_mem _ (List.mem_cons_of_mem _ (List.mem_cons_self ..))))) ?_; rintro e Z3 ⟨rfl, q1⟩; obtain ⟨u4, q2, _⟩ := HJ.out.turn 2 rfl q1.tn; have HK : Hid (Hp w Z3 [(X6.heap.size, pn.cells, tP), (X2.heap.size, nx.cells, tC), (w.heap.size, c.cells, tC)] [(p3, v6, 0 + 1 + 1 + 1, S0), (p2, v3, 0 + 1 + 1 + 1, S1), (p, u4, 0 + 1 + 1 + 1, SE)]) := q2; clear q1 q2 HJ c88)
    | (refine wpList_stL rfl tP (.tmp 25) (.tmp 164) rfl Z3.heap.size pn.cells zP.cells tP rfl rfl RE.out HPL.out HIP.out (all_one (Pn.one pn)) ?_; intro Z5 q1 q2; have HL : Hid (Hp w Z5 [(Z3.heap.size, pn.cells, tP), (X6.heap.size, pn.cells, tP), (X2.heap.size, nx.cells, tC), (w.heap.size, c.cells, tC)] [(p3, v6, 0 + 1 + 1 + 1, S0), (p2, v3, 0 + 1 + 1 + 1, S1), (p, u4, 0 + 1 + 1 + 1, SE)]) := HK.out.addR (gro_newL BE.out (Nat.le_refl _) q2) q1 (Nat.le_refl _); clear q1 q2 HK RE BE)
    | (go_at_call 30; refine Calls.mono (HCF1.out _ _ _ (HL.out.lad _ (List.mem_cons_of_mem _ (List.mem_cons_of_mem _ (List.mem_cons_self ..))))) ?_; rintro e Z6 ⟨rfl, q⟩; have HM : Hid (Hp w Z6 [(Z3.heap.size, pn.cells, tP), (X6.heap.size, pn.cells, tP), (X2.heap.size, nx.cells, tC), (w.heap.size, c.cells, tC)] [(p3, v6, 0 + 1 + 1 + 1, S0), (p2, v3, 0 + 1 + 1 + 1, S1), (p, u4, 0 + 1 + 1 + 1, SE)]) := HL.out.below q; clear q HL HCF1)
    | (refine wpList_stL rfl tC (.tmp 27) (.tmp 167) rfl Z6.heap.size nx.cells zC.cells tC rfl rfl RF.out HNL.out HIN.out (all_one (Cm.one nx)) ?_; intro Z8 q1 q2; have HN : Hid (Hp w Z8 [(Z6.heap.size, nx.cells, tC), (Z3.heap.size, pn.cells, tP), (X6.heap.size, pn.cells, tP), (X2.heap.size, nx.cells, tC), (w.heap.size, c.cells, tC)] [(p3, v6, 0 + 1 + 1 + 1, S0), (p2, v3, 0 + 1 + 1 + 1, S1), (p, u4, 0 + 1 + 1 + 1, SE)]) := HM.out.addR (gro_newL BF.out (Nat.le_refl _) q2) q1 (Nat.le_refl _); clear q1 q2 HM RF BF)
    | (go_at_call 30; refine Calls.mono (HCF2.out _ _ _ (HN.out.lad _ (List.mem_cons_of_mem _ (List.mem_cons_self ..)))) ?_; rintro e Z9 ⟨rfl, q⟩; have HO : Hid (Hp w Z9 [(Z6.heap.size, nx.cells, tC), (Z3.heap.size, pn.cells, tP), (X6.heap.size, pn.cells, tP), (X2.heap.size, nx.cells, tC), (w.heap.size, c.cells, tC)] [(p3, v6, 0 + 1 + 1 + 1, S0), (p2, v3, 0 + 1 + 1 + 1, S1), (p, u4, 0 + 1 + 1 + 1, SE)]) := HN.out.below q; clear q HN)
    | (refine wpList_stL rfl tC (.tmp 28) (.tmp 169) rfl Z9.heap.size c.cells zC.cells tC rfl rfl RG.out HCL.out HIC.out (all_one (Cm.one c)) ?_; intro V2 q1 q2; have HP : Hid (Hp w V2 [(Z9.heap.size, c.cells, tC), (Z6.heap.size, nx.cells, tC), (Z3.heap.size, pn.cells, tP), (X6.heap.size, pn.cells, tP), (X2.heap.size, nx.cells, tC), (w.heap.size, c.cells, tC)] [(p3, v6, 0 + 1 + 1 + 1, S0), (p2, v3, 0 + 1 + 1 + 1, S1), (p, u4, 0 + 1 + 1 + 1, SE)]) := HO.out.addR (gro_newL BG.out (Nat.le_refl _) q2) q1 (Nat.le_refl _); clear q1 q2 HO RG BG)
    | (refine wpList_alC rfl rfl ?_; intro V1 q1 q2 q3; clear q3; have RG : Hid (Row V1 Z9.heap.size zC.cells tC) := q1; have BG : Hid (Below Z9.heap.size Z9 V1) := q2; clear q1 q2; simp only [Act.put, List.setIfInBounds_toArray, List.set_cons_zero, List.set_cons_succ])
    | (refine wpList_alC rfl rfl ?_; intro Z7 q1 q2 q3; clear q3; have RF : Hid (Row Z7 Z6.heap.size zC.cells tC) := q1; have BF : Hid (Below Z6.heap.size Z6 Z7) := q2; clear q1 q2; simp only [Act.put, List.setIfInBounds_toArray, List.set_cons_zero, List.set_cons_succ])
    | (refine wpList_alC rfl rfl ?_; intro X3 q1 q2 q3; clear q3; have RA : Hid (Row X3 X2.heap.size zC.cells tC) := q1; have BA : Hid (Below X2.heap.size X2 X3) := q2; clear q1 q2; simp only [Act.put, List.setIfInBounds_toArray, List.set_cons_zero, List.set_cons_succ])
    | (refine wpList_alP rfl rfl ?_; intro Z4 q1 q2 q3; clear q3; have RE : Hid (Row Z4 Z3.heap.size zP.cells tP) := q1; have BE : Hid (Below Z3.heap.size Z3 Z4) := q2; clear q1 q2; simp only [Act.put, List.setIfInBounds_toArray, List.set_cons_zero, List.set_cons_succ])
    | (refine wpList_alP rfl rfl ?_; intro Z1 q1 q2 q3; clear q3; have RD : Hid (Row Z1 Y9.heap.size zP.cells tP) := q1; have BD : Hid (Below Y9.heap.size Y9 Z1) := q2; clear q1 q2; simp only [Act.put, List.setIfInBounds_toArray, List.set_cons_zero, List.set_cons_succ])
    | (refine wpList_alP rfl rfl ?_; intro Y4 q1 q2 q3; clear q3; have RC : Hid (Row Y4 Y3.heap.size zP.cells tP) := q1; have BC : Hid (Below Y3.heap.size Y3 Y4) := q2; clear q1 q2; simp only [Act.put, List.setIfInBounds_toArray, List.set_cons_zero, List.set_cons_succ])
    | (refine wpList_alP rfl rfl ?_; intro X7 q1 q2 q3; clear q3; have RB : Hid (Row X7 X6.heap.size zP.cells tP) := q1; have BB : Hid (Below X6.heap.size X6 X7) := q2; clear q1 q2; simp only [Act.put, List.setIfInBounds_toArray, List.set_cons_zero, List.set_cons_succ])
    | (refine wpList_ldS rfl tP (.tmp 25) rfl Z3.heap.size 0 rfl pn.cells _ (HP.out.row _ (List.mem_cons_of_mem _ (List.mem_cons_of_mem _ (List.mem_cons_self ..)))).all Try.underlying66 rfl HIP.out ?_; simp only [Act.put, List.setIfInBounds_toArray, List.set_cons_zero, List.set_cons_succ])
    | (refine wpList_ldS rfl tP (.tmp 13) rfl X6.heap.size 0 rfl pn.cells _ (HP.out.row _ (List.mem_cons_of_mem _ (List.mem_cons_of_mem _ (List.mem_cons_of_mem _ (List.mem_cons_self ..))))).all Try.underlying66 rfl HIP.out ?_; simp only [Act.put, List.setIfInBounds_toArray, List.set_cons_zero, List.set_cons_succ])
    | (refine wpList_eqP rfl (.tmp 189) (.tmp 190) _ rfl pn pn HPW.out HPW.out rfl rfl true (decide_eq_true rfl) ?_; simp only [Act.put, List.setIfInBounds_toArray, List.set_cons_zero, List.set_cons_succ])
    | (refine wpList_ldS rfl tC (.tmp 27) rfl Z6.heap.size 0 rfl nx.cells _ (HP.out.row _ (List.mem_cons_of_mem _ (List.mem_cons_self ..))).all Try.underlying25 rfl HIN.out ?_; simp only [Act.put, List.setIfInBounds_toArray, List.set_cons_zero, List.set_cons_succ])
    | (refine wpList_ldS rfl tC (.tmp 10) rfl X2.heap.size 0 rfl nx.cells _ (HP.out.row _ (List.mem_cons_of_mem _ (List.mem_cons_of_mem _ (List.mem_cons_of_mem _ (List.mem_cons_of_mem _ (List.mem_cons_self ..)))))).all Try.underlying25 rfl HIN.out ?_; simp only [Act.put, List.setIfInBounds_toArray, List.set_cons_zero, List.set_cons_succ])
    | (refine wpList_eqC rfl (.tmp 194) (.tmp 195) _ rfl nx nx HNW.out HNW.out rfl rfl true (decide_eq_true rfl) ?_; simp only [Act.put, List.setIfInBounds_toArray, List.set_cons_zero, List.set_cons_succ])
    | (refine wpList_ldS rfl tC (.tmp 28) rfl Z9.heap.size 0 rfl c.cells _ (HP.out.row _ (List.mem_cons_self ..)).all Try.underlying25 rfl HIC.out ?_; simp only [Act.put, List.setIfInBounds_toArray, List.set_cons_zero, List.set_cons_succ])
    | (refine wpList_ldS rfl tC (.tmp 3) rfl w.heap.size 0 rfl c.cells _ (HP.out.row _ (List.mem_cons_of_mem _ (List.mem_cons_of_mem _ (List.mem_cons_of_mem _ (List.mem_cons_of_mem _ (List.mem_cons_of_mem _ (List.mem_cons_self ..))))))).all Try.underlying25 rfl HIC.out ?_; simp only [Act.put, List.setIfInBounds_toArray, List.set_cons_zero, List.set_cons_succ])
    | (refine wpList_eqC rfl (.tmp 199) (.tmp 200) _ rfl c c HCW.out HCW.out rfl rfl true (decide_eq_true rfl) ?_; simp only [Act.put, List.setIfInBounds_toArray, List.set_cons_zero, List.set_cons_succ]))
  go_ret
  exact ⟨rfl, HP.out.be⟩

end Go.Proofs.Ytdilgeikleddbaa
