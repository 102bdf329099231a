/-
  what a run does: the host's four, one step, all of it.
-/
import Derived.Test.YtabcglakdlkdcaaMkEa
import Derived.BigRegion
import Derived.Test.YtabcglakdlkdcaaMkQ
import Derived.Test.YtabcglakdlkdcaaMkEi
import Derived.Test.YtabcglakdlkdcaaMkEj
import Derived.Test.YtabcglakdlkdcaaMkEp

namespace Go.Proofs.Ytabcglakdlkdcaa
open Go Go.RowKit
open Sha
open Wd

theorem Rn.stk {k0 w0 w w' : World} {r T gs n g m cp : Nat} {pl : Value} {C : List Value} {h av : Value} {ss ss2 : List Nat} {l nx : Nat} {an : List Value} {ls : List Ins} {ags : List Nat} (H : Rn k0 w0 w r T gs n pl C h av (.slice (some ⟨g, 0, none⟩) m cp) ss l nx an ls ags) (k : Gro (· = g) w w') (hs : Lw w' 27 4 (.slice (some ⟨g, 0, none⟩) m cp) ss2.length (fw ss2)) : Rn k0 w0 w' r T gs n pl C h av (.slice (some ⟨g, 0, none⟩) m cp) ss2 l nx an ls ags := by
  have hp : ∀ q, pl.ownBlock = some q → ¬ q = g := fun q e eq => by
    obtain ⟨_, h2⟩ := H.prg
    rcases h2 with ⟨h2, _⟩ | ⟨g', cap, cur, hv, hg, hh, _⟩
    · rw [h2] at e; cases e
    · rw [hv] at e
      obtain rfl : g' = q := by simpa [Value.ownBlock] using e
      have rr : Row w g' cur.toList 77 := by unfold Row; simpa using hh
      exact Lw.ne H.st rr (by decide) g rfl eq.symm
  exact ⟨k.row H.row (Lw.ne H.st H.row (by decide) g rfl).symm, H.clen, H.alen, hs, k.row H.tab (Lw.ne H.st H.tab (by decide) g rfl).symm, Lw.gro H.prg k hp, k.row H.sta (Lw.ne H.st H.sta (by decide) g rfl).symm, H.cargs, Lw.gro H.arg k (fun q e eq => H.apart g rfl (by rw [e, eq])), H.apart, H.be.trans (k.to_below H.be.size (fun q e => by rw [e]; exact H.slo g rfl)), H.rlo, H.slo, fun h1 h2 q => k.row (H.kp h1 h2 q) (Lw.ne H.st (H.kp h1 h2 q) h2 g rfl).symm⟩
theorem fw_set (ss : List Nat) (i x : Nat) (x0 x1 x2 x3 : Value) (hx : wq x = [x0, x1, x2, x3]) (hi : i < ss.length) : ((((fw ss).set (i * 4) x0).set (i * 4 + 1) x1).set (i * 4 + 2) x2).set (i * 4 + 3) x3 = fw (ss.set i x) := by
  induction ss generalizing i with
  | nil => cases hi
  | cons y r ih =>
    have e : ∀ y r, fw (y :: r) = wq y ++ fw r := fun _ _ => rfl
    cases i with
    | zero =>
      rw [List.set_cons_zero, e, e, hx, wq_cells]
      rfl
    | succ k =>
      have hk : k < r.length := by simpa using hi
      rw [List.set_cons_succ, e, e, wq_cells, ← ih k hk]
      rw [show (k + 1) * 4 = k * 4 + 4 by omega]
      rfl
set_option maxRecDepth 100000 in
set_option maxHeartbeats 4000000 in
theorem do_swap (r T gs n : Nat) (pl : Value) (C : List Value) (h av stk : Value) (ss : List Nat) (l nx : Nat) (an : List Value) (ls : List Ins) (ags : List Nat) (I : List Value) (ci pi ai ni x y : Nat) (hI : I = ic ci pi ai ni) (hn1 : 1 ≤ ni) (hn : ni + 1 ≤ ss.length) (hx : ss[ss.length - 1 - ni]? = some x) (hy : ss[ss.length - 1]? = some y) (k0 w0 w : World) (H : Rn k0 w0 w r T gs n pl C h av stk (ss) l nx an ls ags) (hss : ss.length ≤ 900) : Calls Try.prog 22 #[.pointer (some ⟨r, 0, none⟩), .agg I.toArray] w fun e w' => e = .returned (.int .i64 0) ∧ ∃ stk', Rn k0 w0 w' r T gs n pl C h av stk' ((ss.set (ss.length - 1) x).set (ss.length - 1 - ni) y) l nx an ls ags := by
  obtain ⟨g, cp, hsv, hcp⟩ := Lw.open H.st (by omega)
  subst hsv
  obtain ⟨k, hk⟩ : ∃ k, k = ss.length := ⟨_, rfl⟩
  have HK : Hid (k = ss.length) := hk
  rw [← hk] at H
  have HH : Hid (Rn k0 w0 w r T gs n pl C h av (.slice (some ⟨g, 0, none⟩) k cp) (ss) l nx an ls ags) := H
  obtain ⟨k1, hk1⟩ : ∃ k1, k1 = k - 1 := ⟨_, rfl⟩
  obtain ⟨m, hm⟩ : ∃ m, m = k1 - ni := ⟨_, rfl⟩
  have e1 : (k : Int) - 1 = (k1 : Int) := by omega
  have e2 : (k1 : Int) - (ni : Int) = (m : Int) := by omega
  have hmk : m < k1 := by omega
  have hkk : k1 < k := by omega
  have hmk2 : m < k := by omega
  have hkl : k ≤ 900 := by omega
  have hw1 : IntKind.i64.wrap (k1 : Int) = (k1 : Int) := by rw [IntKind.wrap_i64]; omega
  have hw2 : IntKind.i64.wrap (m : Int) = (m : Int) := by rw [IntKind.wrap_i64]; omega
  have hnl : ni ≤ 900 := by omega
  rw [show ss.length - 1 - ni = m by omega] at hx
  rw [show ss.length - 1 = k1 by omega] at hy
  rw [show ss.length - 1 - ni = m by omega, show ss.length - 1 = k1 by omega]
  obtain ⟨x0, hx0⟩ : ∃ a, a = ((lim x 0 : Nat) : Int) := ⟨_, rfl⟩
  obtain ⟨x1, hx1⟩ : ∃ a, a = ((lim x 1 : Nat) : Int) := ⟨_, rfl⟩
  obtain ⟨x2, hx2⟩ : ∃ a, a = ((lim x 2 : Nat) : Int) := ⟨_, rfl⟩
  obtain ⟨x3, hx3⟩ : ∃ a, a = ((lim x 3 : Nat) : Int) := ⟨_, rfl⟩
  obtain ⟨y0, hy0⟩ : ∃ a, a = ((lim y 0 : Nat) : Int) := ⟨_, rfl⟩
  obtain ⟨y1, hy1⟩ : ∃ a, a = ((lim y 1 : Nat) : Int) := ⟨_, rfl⟩
  obtain ⟨y2, hy2⟩ : ∃ a, a = ((lim y 2 : Nat) : Int) := ⟨_, rfl⟩
  obtain ⟨y3, hy3⟩ : ∃ a, a = ((lim y 3 : Nat) : Int) := ⟨_, rfl⟩
  have HX : Hid (wq x = [.int .u64 x0, .int .u64 x1, .int .u64 x2, .int .u64 x3]) := by show _ = _; rw [wq_cells, hx0, hx1, hx2, hx3]
  have HY : Hid (wq y = [.int .u64 y0, .int .u64 y1, .int .u64 y2, .int .u64 y3]) := by show _ = _; rw [wq_cells, hy0, hy1, hy2, hy3]
  have HXX : Hid (ss[m]? = some x) := hx
  have HYY : Hid (ss[k1]? = some y) := hy
  have HIC : Hid (I = ic ci pi ai ni) := hI
  clear H hss hI hx0 hx1 hx2 hx3 hy0 hy1 hy2 hy3 hx hy hk hk1 hm hcp hn hn1
  go_enter Try.func22, Try.ntmps22
  go_upto_region 1 with (refine wpList_boxG 77 rfl (.tmp 1) rfl I rfl ?_; intro X1 q1 q2 q3; have R1 : Hid (Row X1 w.heap.size I 77) := q1; have HR : Hid (Rn k0 w0 X1 r T gs n pl C h av (.slice (some ⟨g, 0, none⟩) k cp) (ss) l nx an ls ags) := HH.out.keep q2; clear q1 q2 q3; simp only [Act.put, List.setIfInBounds_toArray, List.set_cons_zero, List.set_cons_succ])
  have c6 : X1.cell? ⟨w.heap.size, 6, none⟩ = some (.int .i64 (ni : Int)) := R1.out.cell 6 _ (by rw [HIC.out]; exact ic_6 _ _ _ _)
  have c52 : X1.cell? ⟨r, 52, none⟩ = some (.slice (some ⟨g, 0, none⟩) k cp) := HR.out.row.cell 52 _ (rc_hi HR.out.clen 1)
  obtain ⟨b3, hb3⟩ : ∃ b, b = w.heap.size := ⟨_, rfl⟩
  rw [← hb3] at c6
  rw [← hb3]
  have hst := HR.out.st
  rw [← HK.out] at hst
  have RGx : X1.rangeAt g (m * 4) [.int .u64 x0, .int .u64 x1, .int .u64 x2, .int .u64 x3] := by rw [← HX.out]; exact fw_at (Lw.range hst) m x HXX.out
  have RGy : X1.rangeAt g (k1 * 4) [.int .u64 y0, .int .u64 y1, .int .u64 y2, .int .u64 y3] := by rw [← HY.out]; exact fw_at (Lw.range hst) k1 y HYY.out
  obtain ⟨cur, hRG, hcl, hct⟩ : ∃ cur : List Value, Row X1 g cur 27 ∧ (k ≤ cp ∧ cp ≤ maxLen ∧ cur.length = cp * 4) ∧ cur.take (k * 4) = fw ss := by
    obtain ⟨hl, h2⟩ := hst
    rcases h2 with ⟨h2, _⟩ | ⟨g', cap', cur, hv, hg, hh, hc, hx, hs, ht⟩
    · cases h2
    · simp only [Value.slice.injEq, Option.some.injEq, Addr.mk.injEq] at hv
      obtain ⟨⟨rfl, _, _⟩, _, rfl⟩ := hv
      exact ⟨cur.toList, by unfold Row; simpa using hh, ⟨hc, hx, by simpa using hs⟩, ht⟩
  have RG : Hid (Row X1 g cur 27) := hRG
  have a0 : X1.cell? ⟨g, m * 4, none⟩ = some (.int .u64 x0) := RGx 0 _ rfl
  have af0 : X1.frozen? ⟨g, m * 4, none⟩ = false := RG.out.thaw _
  have a1 : X1.cell? ⟨g, m * 4 + 1, none⟩ = some (.int .u64 x1) := RGx 1 _ rfl
  have af1 : X1.frozen? ⟨g, m * 4 + 1, none⟩ = false := RG.out.thaw _
  have a2 : X1.cell? ⟨g, m * 4 + 2, none⟩ = some (.int .u64 x2) := RGx 2 _ rfl
  have af2 : X1.frozen? ⟨g, m * 4 + 2, none⟩ = false := RG.out.thaw _
  have a3 : X1.cell? ⟨g, m * 4 + 3, none⟩ = some (.int .u64 x3) := RGx 3 _ rfl
  have af3 : X1.frozen? ⟨g, m * 4 + 3, none⟩ = false := RG.out.thaw _
  have p0 : X1.cell? ⟨g, k1 * 4, none⟩ = some (.int .u64 y0) := RGy 0 _ rfl
  have pf0 : X1.frozen? ⟨g, k1 * 4, none⟩ = false := RG.out.thaw _
  have p1 : X1.cell? ⟨g, k1 * 4 + 1, none⟩ = some (.int .u64 y1) := RGy 1 _ rfl
  have pf1 : X1.frozen? ⟨g, k1 * 4 + 1, none⟩ = false := RG.out.thaw _
  have p2 : X1.cell? ⟨g, k1 * 4 + 2, none⟩ = some (.int .u64 y2) := RGy 2 _ rfl
  have pf2 : X1.frozen? ⟨g, k1 * 4 + 2, none⟩ = false := RG.out.thaw _
  have p3 : X1.cell? ⟨g, k1 * 4 + 3, none⟩ = some (.int .u64 y3) := RGy 3 _ rfl
  have pf3 : X1.frozen? ⟨g, k1 * 4 + 3, none⟩ = false := RG.out.thaw _
  have HCUR : Hid ((k ≤ cp ∧ cp ≤ maxLen ∧ cur.length = cp * 4) ∧ cur.take (k * 4) = fw ss) := ⟨hcl, hct⟩
  have hbg : ¬ b3 = g := by rw [hb3]; exact row_ne2 R1.out RG.out (by decide)
  have hgb : ¬ g = b3 := fun e => hbg e.symm
  have hgr : ¬ g = r := row_ne2 RG.out HR.out.row (by decide)
  have hrg : ¬ r = g := fun e => hgr e.symm
  have o00 : ¬ m * 4 = k1 * 4 := by omega
  have u00 : ¬ k1 * 4 = m * 4 := by omega
  have o01 : ¬ m * 4 = k1 * 4 + 1 := by omega
  have u01 : ¬ k1 * 4 + 1 = m * 4 := by omega
  have o02 : ¬ m * 4 = k1 * 4 + 2 := by omega
  have u02 : ¬ k1 * 4 + 2 = m * 4 := by omega
  have o03 : ¬ m * 4 = k1 * 4 + 3 := by omega
  have u03 : ¬ k1 * 4 + 3 = m * 4 := by omega
  have o10 : ¬ m * 4 + 1 = k1 * 4 := by omega
  have u10 : ¬ k1 * 4 = m * 4 + 1 := by omega
  have o11 : ¬ m * 4 + 1 = k1 * 4 + 1 := by omega
  have u11 : ¬ k1 * 4 + 1 = m * 4 + 1 := by omega
  have o12 : ¬ m * 4 + 1 = k1 * 4 + 2 := by omega
  have u12 : ¬ k1 * 4 + 2 = m * 4 + 1 := by omega
  have o13 : ¬ m * 4 + 1 = k1 * 4 + 3 := by omega
  have u13 : ¬ k1 * 4 + 3 = m * 4 + 1 := by omega
  have o20 : ¬ m * 4 + 2 = k1 * 4 := by omega
  have u20 : ¬ k1 * 4 = m * 4 + 2 := by omega
  have o21 : ¬ m * 4 + 2 = k1 * 4 + 1 := by omega
  have u21 : ¬ k1 * 4 + 1 = m * 4 + 2 := by omega
  have o22 : ¬ m * 4 + 2 = k1 * 4 + 2 := by omega
  have u22 : ¬ k1 * 4 + 2 = m * 4 + 2 := by omega
  have o23 : ¬ m * 4 + 2 = k1 * 4 + 3 := by omega
  have u23 : ¬ k1 * 4 + 3 = m * 4 + 2 := by omega
  have o30 : ¬ m * 4 + 3 = k1 * 4 := by omega
  have u30 : ¬ k1 * 4 = m * 4 + 3 := by omega
  have o31 : ¬ m * 4 + 3 = k1 * 4 + 1 := by omega
  have u31 : ¬ k1 * 4 + 1 = m * 4 + 3 := by omega
  have o32 : ¬ m * 4 + 3 = k1 * 4 + 2 := by omega
  have u32 : ¬ k1 * 4 + 2 = m * 4 + 3 := by omega
  have o33 : ¬ m * 4 + 3 = k1 * 4 + 3 := by omega
  have u33 : ¬ k1 * 4 + 3 = m * 4 + 3 := by omega
  clear hb3 RGx RGy R1 HIC hst hRG hcl hct
  go_upto_region 2 with fail
  go_region
  obtain ⟨V, hV⟩ : ∃ V, V = ((((((((X1.setCell ⟨g, k1 * 4, none⟩ (.int .u64 x0)).setCell ⟨g, k1 * 4 + 1, none⟩ (.int .u64 x1)).setCell ⟨g, k1 * 4 + 2, none⟩ (.int .u64 x2)).setCell ⟨g, k1 * 4 + 3, none⟩ (.int .u64 x3)).setCell ⟨g, m * 4, none⟩ (.int .u64 y0)).setCell ⟨g, m * 4 + 1, none⟩ (.int .u64 y1)).setCell ⟨g, m * 4 + 2, none⟩ (.int .u64 y2)).setCell ⟨g, m * 4 + 3, none⟩ (.int .u64 y3)).drew := ⟨_, rfl⟩
  rw [← hV]
  have RV : Row V g ((((((((cur.set (k1 * 4) (.int .u64 x0)).set (k1 * 4 + 1) (.int .u64 x1)).set (k1 * 4 + 2) (.int .u64 x2)).set (k1 * 4 + 3) (.int .u64 x3)).set (m * 4) (.int .u64 y0)).set (m * 4 + 1) (.int .u64 y1)).set (m * 4 + 2) (.int .u64 y2)).set (m * 4 + 3) (.int .u64 y3)) 27 := by rw [hV]; exact ((((((((RG.out.set (k1 * 4) (.int .u64 x0)).set (k1 * 4 + 1) (.int .u64 x1)).set (k1 * 4 + 2) (.int .u64 x2)).set (k1 * 4 + 3) (.int .u64 x3)).set (m * 4) (.int .u64 y0)).set (m * 4 + 1) (.int .u64 y1)).set (m * 4 + 2) (.int .u64 y2)).set (m * 4 + 3) (.int .u64 y3)).drew
  have GV : Gro (· = g) X1 V := by rw [hV]; exact (((((((((Gro.refl (· = g) X1).set g (k1 * 4) (.int .u64 x0) rfl).set g (k1 * 4 + 1) (.int .u64 x1) rfl).set g (k1 * 4 + 2) (.int .u64 x2) rfl).set g (k1 * 4 + 3) (.int .u64 x3) rfl).set g (m * 4) (.int .u64 y0) rfl).set g (m * 4 + 1) (.int .u64 y1) rfl).set g (m * 4 + 2) (.int .u64 y2) rfl).set g (m * 4 + 3) (.int .u64 y3) rfl).below ((Below.refl _ _).drew)
  have hlen : ((ss.set k1 x).set m y).length = k := by rw [List.length_set, List.length_set]; exact HK.out.symm
  have LV : Lw V 27 4 (.slice (some ⟨g, 0, none⟩) k cp) ((ss.set k1 x).set m y).length (fw ((ss.set k1 x).set m y)) := by
    refine ⟨fw_len _, .inr ⟨g, cp, ((((((((cur.set (k1 * 4) (.int .u64 x0)).set (k1 * 4 + 1) (.int .u64 x1)).set (k1 * 4 + 2) (.int .u64 x2)).set (k1 * 4 + 3) (.int .u64 x3)).set (m * 4) (.int .u64 y0)).set (m * 4 + 1) (.int .u64 y1)).set (m * 4 + 2) (.int .u64 y2)).set (m * 4 + 3) (.int .u64 y3)).toArray, by rw [hlen], Nat.zero_le _, RV, by rw [hlen]; exact HCUR.out.1.1, HCUR.out.1.2.1, ?_, ?_⟩⟩
    · simp only [List.size_toArray, List.length_set]
      exact HCUR.out.1.2.2
    · rw [hlen]
      simp only [List.take_set]
      rw [HCUR.out.2, fw_set ss k1 x _ _ _ _ HX.out (by rw [← HK.out]; exact hkk), fw_set (ss.set k1 x) m y _ _ _ _ HY.out (by rw [List.length_set, ← HK.out]; exact hmk2)]
  have HQ : Hid (Rn k0 w0 V r T gs n pl C h av (.slice (some ⟨g, 0, none⟩) k cp) ((ss.set k1 x).set m y) l nx an ls ags) := HR.out.stk GV LV
  clear RV GV LV hV
  go_wp2_with fail
  go_ret
  exact ⟨rfl, _, HQ.out⟩

end Go.Proofs.Ytabcglakdlkdcaa

namespace Go.Proofs.Ytabcglakdlkdcaa
open Go Go.RowKit
open Sha
open Wd
set_option maxRecDepth 100000 in
set_option maxHeartbeats 4000000 in
theorem do_dup (r T gs n : Nat) (pl : Value) (C : List Value) (h av stk : Value) (ss : List Nat) (l nx : Nat) (an : List Value) (ls : List Ins) (ags : List Nat) (I : List Value) (ci pi ai ni x : Nat) (hI : I = ic ci pi ai ni) (hn : ni + 1 ≤ ss.length) (hx : ss[ss.length - 1 - ni]? = some x) (k0 w0 w : World) (H : Rn k0 w0 w r T gs n pl C h av stk (ss) l nx an ls ags) (hss : ss.length ≤ 900) : Calls Try.prog 21 #[.pointer (some ⟨r, 0, none⟩), .agg I.toArray] w fun e w' => e = .returned (.int .i64 0) ∧ ∃ stk', Rn k0 w0 w' r T gs n pl C h av stk' (ss ++ [x]) l nx an ls ags := by
  obtain ⟨g, cp, hsv, hcp⟩ := Lw.open H.st (by omega)
  subst hsv
  have HH : Hid (Rn k0 w0 w r T gs n pl C h av (.slice (some ⟨g, 0, none⟩) ss.length cp) (ss) l nx an ls ags) := H
  obtain ⟨k, hk⟩ : ∃ k, k = ss.length := ⟨_, rfl⟩
  have HK : Hid (k = ss.length) := hk
  obtain ⟨k1, hk1⟩ : ∃ k1, k1 = k - 1 := ⟨_, rfl⟩
  obtain ⟨m, hm⟩ : ∃ m, m = k1 - ni := ⟨_, rfl⟩
  have e1 : (k : Int) - 1 = (k1 : Int) := by omega
  have e2 : (k1 : Int) - (ni : Int) = (m : Int) := by omega
  have hmk : m < k := by omega
  have hkl : k ≤ 900 := by omega
  have hw1 : IntKind.i64.wrap (k1 : Int) = (k1 : Int) := by rw [IntKind.wrap_i64]; omega
  have hw2 : IntKind.i64.wrap (m : Int) = (m : Int) := by rw [IntKind.wrap_i64]; omega
  have hnl : ni ≤ 900 := by omega
  rw [show ss.length - 1 - ni = m by omega] at hx
  obtain ⟨x0, hx0⟩ : ∃ a, a = ((lim x 0 : Nat) : Int) := ⟨_, rfl⟩
  obtain ⟨x1, hx1⟩ : ∃ a, a = ((lim x 1 : Nat) : Int) := ⟨_, rfl⟩
  obtain ⟨x2, hx2⟩ : ∃ a, a = ((lim x 2 : Nat) : Int) := ⟨_, rfl⟩
  obtain ⟨x3, hx3⟩ : ∃ a, a = ((lim x 3 : Nat) : Int) := ⟨_, rfl⟩
  have hX : wq x = [.int .u64 x0, .int .u64 x1, .int .u64 x2, .int .u64 x3] := by rw [wq_cells, hx0, hx1, hx2, hx3]
  have HXX : Hid (ss[m]? = some x) := hx
  have HX : Hid (wq x = [.int .u64 x0, .int .u64 x1, .int .u64 x2, .int .u64 x3]) := hX
  have HIC : Hid (I = ic ci pi ai ni) := hI
  have HLV : Hid (∀ W, Rn k0 w0 W r T gs n pl C h av (.slice (some ⟨g, 0, none⟩) ss.length cp) (ss) l nx an ls ags → Calls Try.prog 49 #[.pointer (some ⟨r, 0, none⟩), .agg #[.int .u64 x0, .int .u64 x1, .int .u64 x2, .int .u64 x3]] W fun e w' => e = .returned (.int .i64 0) ∧ ∃ stk', Rn k0 w0 w' r T gs n pl C h av stk' (ss ++ [x]) l nx an ls ags) := fun W hW => by
    have q := leave_any r T gs n pl C h av _ ss l nx an ls ags x k0 w0 W hW (by omega)
    rw [hX] at q
    exact q
  clear H hss hI hx0 hx1 hx2 hx3 hX hx hk hk1 hm hcp hn
  go_enter Try.func21, Try.ntmps21
  go_upto_region 1 with (refine wpList_boxG 77 rfl (.tmp 1) rfl I rfl ?_; intro X1 q1 q2 q3; have R1 : Hid (Row X1 w.heap.size I 77) := q1; have HR : Hid (Rn k0 w0 X1 r T gs n pl C h av (.slice (some ⟨g, 0, none⟩) ss.length cp) (ss) l nx an ls ags) := HH.out.keep q2; clear q1 q2 q3; simp only [Act.put, List.setIfInBounds_toArray, List.set_cons_zero, List.set_cons_succ])
  have c6 : X1.cell? ⟨w.heap.size, 6, none⟩ = some (.int .i64 (ni : Int)) := R1.out.cell 6 _ (by rw [HIC.out]; exact ic_6 _ _ _ _)
  have c52 : X1.cell? ⟨r, 52, none⟩ = some (.slice (some ⟨g, 0, none⟩) k cp) := by
    rw [HK.out]
    exact HR.out.row.cell 52 _ (rc_hi HR.out.clen 1)
  obtain ⟨b3, hb3⟩ : ∃ b, b = w.heap.size := ⟨_, rfl⟩
  rw [← hb3] at c6
  rw [← hb3]
  have RG : X1.rangeAt g (m * 4) [.int .u64 x0, .int .u64 x1, .int .u64 x2, .int .u64 x3] := by
    rw [← HX.out]
    exact fw_at (Lw.range HR.out.st) m x HXX.out
  have a0 : X1.cell? ⟨g, m * 4, none⟩ = some (.int .u64 x0) := RG 0 _ rfl
  have a1 : X1.cell? ⟨g, m * 4 + 1, none⟩ = some (.int .u64 x1) := RG 1 _ rfl
  have a2 : X1.cell? ⟨g, m * 4 + 2, none⟩ = some (.int .u64 x2) := RG 2 _ rfl
  have a3 : X1.cell? ⟨g, m * 4 + 3, none⟩ = some (.int .u64 x3) := RG 3 _ rfl
  clear hb3 RG R1 HIC
  go_region_law (refine stp_fn rfl 49 rfl #[.pointer (some ⟨r, 0, none⟩), .agg #[.int .u64 x0, .int .u64 x1, .int .u64 x2, .int .u64 x3]] (by go_simp) (Calls.mono (HLV.out _ (HR.out.drewN _)) ?_); rintro e Y ⟨rfl, stk', q⟩; refine ⟨_, rfl, ?_⟩; have HQ : Hid (Rn k0 w0 Y r T gs n pl C h av stk' (ss ++ [x]) l nx an ls ags) := q; clear q)
  all_goals
    clear a0 a1 a2 a3 c6 c52
    go_wp2
    go_ret
    exact ⟨rfl, _, HQ.out⟩

end Go.Proofs.Ytabcglakdlkdcaa

namespace Go.Proofs.Ytabcglakdlkdcaa
open Go Go.RowKit
open Sha
open Wd
set_option maxRecDepth 100000 in
set_option maxHeartbeats 4000000 in
theorem needs_2 (nm f : Value) (g t lv ni : Nat) (ht : t ≤ 100) (hlv : lv ≤ 100) (hn : ni ≤ 1000) (I : List Value) (hI : I[6]? = some (.int .i64 (ni : Int))) (w : World) : Calls Try.prog 68 #[.agg #[nm, .int .i64 2, .int .i64 (g : Int), .int .i64 (t : Int), .int .i64 (lv : Int), f], .agg I.toArray] w fun e w' => e = .returned (.tuple #[.int .i64 ((t + ni : Nat) : Int), .int .i64 ((lv + ni : Nat) : Int)]) ∧ Below w.heap.size w w' := by
  have HI6 : Hid (I[6]? = some (.int .i64 (ni : Int))) := hI
  obtain ⟨s1, hs1⟩ : ∃ s, s = t + ni := ⟨_, rfl⟩
  obtain ⟨s2, hs2⟩ : ∃ s, s = lv + ni := ⟨_, rfl⟩
  have e1 : (t : Int) + (ni : Int) = (s1 : Int) := by omega
  have e2 : (lv : Int) + (ni : Int) = (s2 : Int) := by omega
  have l1 : s1 ≤ 1100 := by omega
  have l2 : s2 ≤ 1100 := by omega
  rw [← hs1, ← hs2]
  clear hI hs1 hs2
  go_enter Try.func68, Try.ntmps68
  go_upto_region 1 with (first
    | (refine wpList_boxG 75 rfl (.tmp 0) rfl [nm, .int .i64 2, .int .i64 (g : Int), .int .i64 (t : Int), .int .i64 (lv : Int), f] rfl ?_; intro X q1 q2 q3; have R1 : Hid (Row X w.heap.size [nm, .int .i64 2, .int .i64 (g : Int), .int .i64 (t : Int), .int .i64 (lv : Int), f] 75) := q1; have B1 : Hid (Below w.heap.size w X) := q2; clear q1 q2 q3; simp only [Act.put, List.setIfInBounds_toArray, List.set_cons_zero, List.set_cons_succ])
    | (refine wpList_boxG 77 rfl (.tmp 1) rfl I rfl ?_; intro Y q1 q2 q3; have B2 : Hid (Below X.heap.size X Y) := q2; have RI : Hid (Row Y X.heap.size I 77) := q1; clear q1 q2 q3; simp only [Act.put, List.setIfInBounds_toArray, List.set_cons_zero, List.set_cons_succ]))
  have R2 := Row.below R1.out B2.out R1.out.lt
  have c1 := R2.cell 1 _ rfl
  have c3 := R2.cell 3 _ rfl
  have c4 := R2.cell 4 _ rfl
  have c6 : Y.cell? ⟨X.heap.size, 6, none⟩ = some (.int .i64 (ni : Int)) := RI.out.cell 6 _ HI6.out
  have BB : Hid (Below w.heap.size w Y) := B1.out.trans (B2.out.mono B1.out.size)
  clear R2 R1 B1 B2 RI
  go_upto_region 4 with fail
  go_quiet (fail)
  go_wp2
  go_ret2
  exact ⟨rfl, below_drewN BB.out _⟩
set_option maxRecDepth 100000 in
set_option maxHeartbeats 4000000 in
theorem needs_3 (nm f : Value) (g t lv ni : Nat) (ht : t ≤ 100) (hlv : lv ≤ 100) (hn : ni ≤ 1000) (I : List Value) (hI : I[6]? = some (.int .i64 (ni : Int))) (w : World) : Calls Try.prog 68 #[.agg #[nm, .int .i64 3, .int .i64 (g : Int), .int .i64 (t : Int), .int .i64 (lv : Int), f], .agg I.toArray] w fun e w' => e = .returned (.tuple #[.int .i64 ((t + ni : Nat) : Int), .int .i64 ((lv + ni : Nat) : Int)]) ∧ Below w.heap.size w w' := by
  have HI6 : Hid (I[6]? = some (.int .i64 (ni : Int))) := hI
  obtain ⟨s1, hs1⟩ : ∃ s, s = t + ni := ⟨_, rfl⟩
  obtain ⟨s2, hs2⟩ : ∃ s, s = lv + ni := ⟨_, rfl⟩
  have e1 : (t : Int) + (ni : Int) = (s1 : Int) := by omega
  have e2 : (lv : Int) + (ni : Int) = (s2 : Int) := by omega
  have l1 : s1 ≤ 1100 := by omega
  have l2 : s2 ≤ 1100 := by omega
  rw [← hs1, ← hs2]
  clear hI hs1 hs2
  go_enter Try.func68, Try.ntmps68
  go_upto_region 1 with (first
    | (refine wpList_boxG 75 rfl (.tmp 0) rfl [nm, .int .i64 3, .int .i64 (g : Int), .int .i64 (t : Int), .int .i64 (lv : Int), f] rfl ?_; intro X q1 q2 q3; have R1 : Hid (Row X w.heap.size [nm, .int .i64 3, .int .i64 (g : Int), .int .i64 (t : Int), .int .i64 (lv : Int), f] 75) := q1; have B1 : Hid (Below w.heap.size w X) := q2; clear q1 q2 q3; simp only [Act.put, List.setIfInBounds_toArray, List.set_cons_zero, List.set_cons_succ])
    | (refine wpList_boxG 77 rfl (.tmp 1) rfl I rfl ?_; intro Y q1 q2 q3; have B2 : Hid (Below X.heap.size X Y) := q2; have RI : Hid (Row Y X.heap.size I 77) := q1; clear q1 q2 q3; simp only [Act.put, List.setIfInBounds_toArray, List.set_cons_zero, List.set_cons_succ]))
  have R2 := Row.below R1.out B2.out R1.out.lt
  have c1 := R2.cell 1 _ rfl
  have c3 := R2.cell 3 _ rfl
  have c4 := R2.cell 4 _ rfl
  have c6 : Y.cell? ⟨X.heap.size, 6, none⟩ = some (.int .i64 (ni : Int)) := RI.out.cell 6 _ HI6.out
  have BB : Hid (Below w.heap.size w Y) := B1.out.trans (B2.out.mono B1.out.size)
  clear R2 R1 B1 B2 RI
  go_upto_region 4 with fail
  go_quiet (fail)
  go_wp2
  go_ret2
  exact ⟨rfl, below_drewN BB.out _⟩

end Go.Proofs.Ytabcglakdlkdcaa

namespace Go.Proofs.Ytabcglakdlkdcaa
open Go Go.RowKit
open Sha
open Wd
theorem cfe_dup (args : Array Value) (W : World) : (callFunc 21 args).run Try.prog W = .ok (.enter 21 args) W := by
  go_simp
theorem rev_get (st : List Nat) (i : Nat) (h : i < st.length) : st.reverse[st.reverse.length - 1 - i]? = some (st.getD i 0) := by
  rw [List.length_reverse, List.getElem?_reverse (by omega), show st.length - 1 - (st.length - 1 - i) = i by omega, List.getElem?_eq_getElem h]
  simp [h]
theorem rev_set (st : List Nat) (i x : Nat) (h : i < st.length) : (st.set i x).reverse = st.reverse.set (st.reverse.length - 1 - i) x := by
  apply List.ext_getElem?
  intro j
  rw [List.length_reverse]
  by_cases hj : j < st.length
  · rw [List.getElem?_reverse (by rw [List.length_set]; exact hj), List.length_set, List.getElem?_set, List.getElem?_set, List.getElem?_reverse hj, List.length_reverse]
    by_cases he : i = st.length - 1 - j
    · rw [if_pos he, if_pos (by omega), if_pos (show st.length - 1 - i = j by omega), if_pos (by omega)]
    · rw [if_neg he, if_neg (by omega)]
  · rw [List.getElem?_eq_none (by rw [List.length_reverse, List.length_set]; omega), List.getElem?_eq_none (by rw [List.length_set, List.length_reverse]; omega)]
theorem sp_dup (r T gs n : Nat) (pl : Value) (C : List Value) (h av stk : Value) (st : List Nat) (l nx : Nat) (an : List Value) (ls : List Ins) (ags : List Nat) (cl : Cl) (pi ai ni : Nat) (hn : ni ≤ 15) (hl : l ≤ 10000) (hsl : st.length ≤ 64) (hnx : nx ≤ 1024) (k0 w0 w : World) (H : Rn k0 w0 w r T gs n pl C h av stk st.reverse l nx an ls ags) : Calls Try.prog 47 #[.pointer (some ⟨r, 0, none⟩), .agg (ic 4 pi ai ni).toArray] w fun e w' => ∃ v, e = .returned (.int .i64 v) ∧ StP k0 w0 w' r T gs n pl C h av l an ls ags 1 (1 + ni) (2 + ni) st (exi cl ags ls 4 ai ni st (l - 1) (nx + 1)) v := by
  refine stp_of r T gs n pl C h av stk st l nx an ls ags 4 pi ai ni _ 2 1 1 2 21 (by decide) rfl (1 + ni) (2 + ni) (fun W => needs_2 _ _ 1 1 2 ni (by decide) (by decide) (by omega) _ (ic_6 _ _ _ _) W) hl (by omega) hsl hnx k0 w0 w H _ cfe_dup ?_
  intro hg ht hm W hW
  refine Calls.mono (do_dup r T gs n pl C h av stk st.reverse _ _ an ls ags _ 4 pi ai ni (st.getD ni 0) rfl (by rw [List.length_reverse]; omega) (rev_get st ni (by omega)) k0 w0 W hW (by rw [List.length_reverse]; omega)) ?_
  rintro e w' ⟨rfl, stk', q⟩
  exact ⟨0, rfl, rfl, stk', by rw [List.reverse_cons]; exact q⟩

end Go.Proofs.Ytabcglakdlkdcaa

namespace Go.Proofs.Ytabcglakdlkdcaa
open Go Go.RowKit
open Sha
open Wd
theorem cfe_swap (args : Array Value) (W : World) : (callFunc 22 args).run Try.prog W = .ok (.enter 22 args) W := by
  go_simp
theorem sp_swap (r T gs n : Nat) (pl : Value) (C : List Value) (h av stk : Value) (st : List Nat) (l nx : Nat) (an : List Value) (ls : List Ins) (ags : List Nat) (cl : Cl) (pi ai ni : Nat) (hn1 : 1 ≤ ni) (hn : ni ≤ 15) (hl : l ≤ 10000) (hsl : st.length ≤ 64) (hnx : nx ≤ 1024) (k0 w0 w : World) (H : Rn k0 w0 w r T gs n pl C h av stk st.reverse l nx an ls ags) : Calls Try.prog 47 #[.pointer (some ⟨r, 0, none⟩), .agg (ic 5 pi ai ni).toArray] w fun e w' => ∃ v, e = .returned (.int .i64 v) ∧ StP k0 w0 w' r T gs n pl C h av l an ls ags 1 (1 + ni) (1 + ni) st (exi cl ags ls 5 ai ni st (l - 1) (nx + 1)) v := by
  refine stp_of r T gs n pl C h av stk st l nx an ls ags 5 pi ai ni _ 3 1 1 1 22 (by decide) rfl (1 + ni) (1 + ni) (fun W => needs_3 _ _ 1 1 1 ni (by decide) (by decide) (by omega) _ (ic_6 _ _ _ _) W) hl (by omega) hsl hnx k0 w0 w H _ cfe_swap ?_
  intro hg ht hm W hW
  refine Calls.mono (do_swap r T gs n pl C h av stk st.reverse _ _ an ls ags _ 5 pi ai ni (st.getD ni 0) (st.getD 0 0) rfl hn1 (by rw [List.length_reverse]; omega) (rev_get st ni (by omega)) (rev_get st 0 (by omega)) k0 w0 W hW (by rw [List.length_reverse]; omega)) ?_
  rintro e w' ⟨rfl, stk', q⟩
  refine ⟨0, rfl, rfl, stk', ?_⟩
  rw [rev_set _ ni _ (by rw [List.length_set]; omega), rev_set st 0 _ (by omega), List.length_set]
  exact q

end Go.Proofs.Ytabcglakdlkdcaa

namespace Go.Proofs.Ytabcglakdlkdcaa
open Go Go.RowKit
open Sha
open Wd

/-- The gas of an instruction; how many numbers it takes and leaves. -/
def gT (c : Nat) : Nat := ([1, 1, 1, 1, 1, 1, 2, 2, 5, 10, 10, 2, 2, 2, 5, 5, 2, 2, 2, 2, 2, 2, 2, 2, 200, 200, 200, 500] : List Nat).getD c 0
def tT (c ni : Nat) : Nat := match c with
  | 4 => 1 + ni
  | 5 => 1 + ni
  | c => ([0, 1, 0, 1, 1, 1, 2, 2, 2, 2, 2, 2, 2, 1, 0, 1, 0, 0, 0, 0, 0, 0, 0, 0, 1, 2, 2, 3] : List Nat).getD c 0
def lT (c ni : Nat) : Nat := match c with
  | 4 => 2 + ni
  | 5 => 1 + ni
  | c => ([0, 0, 1, 0, 2, 1, 1, 1, 1, 1, 1, 1, 1, 1, 0, 0, 1, 1, 1, 1, 1, 1, 1, 1, 1, 0, 1, 0] : List Nat).getD c 0
theorem sp_any (r T gs n : Nat) (pl : Value) (C : List Value) (h av stk : Value) (st : List Nat) (l nx : Nat) (an : List Value) (ls : List Ins) (ags : List Nat) (cl : Cl) (hcl : cl.In C) (c pi ai ni : Nat) (hc : c < 24) (hc1 : c ≠ 1) (h4 : c = 4 → ni ≤ 15) (h5 : c = 5 → 1 ≤ ni ∧ ni ≤ 15) (hj : c = 14 ∨ c = 15 → ni < n ∧ ∃ m, stf ls ni = m + 1 ∧ m ≤ 100000) (h16 : c = 16 → ni ≤ 1000) (h8 : ags.length ≤ 8) (hst : ∀ a ∈ st, a < 2 ^ 256) (hl : l ≤ 10000) (hsl : st.length ≤ 64) (hnx : nx ≤ 1024) (k0 w0 w : World) (H : Rn k0 w0 w r T gs n pl C h av stk st.reverse l nx an ls ags) : Calls Try.prog 47 #[.pointer (some ⟨r, 0, none⟩), .agg (ic c pi ai ni).toArray] w fun e w' => ∃ v, e = .returned (.int .i64 v) ∧ StP k0 w0 w' r T gs n pl C h av l an ls ags (gT c) (tT c ni) (lT c ni) st (exi cl ags ls c ai ni st (l - gT c) (nx + 1)) v := by
  match c, hc with
  | 1, _ => exact absurd rfl hc1
  | 0, _ => exact sp_stop r T gs n pl C h av stk st l nx an ls ags cl pi ai ni hl hsl hnx k0 w0 w H
  | 2, _ => exact sp_push r T gs n pl C h av stk st l nx an ls ags cl pi ai ni hl hsl hnx k0 w0 w H
  | 3, _ => exact sp_pop r T gs n pl C h av stk st l nx an ls ags cl pi ai ni hl hsl hnx k0 w0 w H
  | 4, _ => exact sp_dup r T gs n pl C h av stk st l nx an ls ags cl pi ai ni (h4 rfl) hl hsl hnx k0 w0 w H
  | 5, _ => exact sp_swap r T gs n pl C h av stk st l nx an ls ags cl pi ai ni (h5 rfl).1 (h5 rfl).2 hl hsl hnx k0 w0 w H
  | 6, _ => exact sp_add r T gs n pl C h av stk st l nx an ls ags cl pi ai ni hst hl hsl hnx k0 w0 w H
  | 7, _ => exact sp_sub r T gs n pl C h av stk st l nx an ls ags cl pi ai ni hst hl hsl hnx k0 w0 w H
  | 8, _ => exact sp_mul r T gs n pl C h av stk st l nx an ls ags cl pi ai ni hst hl hsl hnx k0 w0 w H
  | 9, _ => exact sp_div r T gs n pl C h av stk st l nx an ls ags cl pi ai ni hst hl hsl hnx k0 w0 w H
  | 10, _ => exact sp_mod r T gs n pl C h av stk st l nx an ls ags cl pi ai ni hst hl hsl hnx k0 w0 w H
  | 11, _ => exact sp_less r T gs n pl C h av stk st l nx an ls ags cl pi ai ni hst hl hsl hnx k0 w0 w H
  | 12, _ => exact sp_same r T gs n pl C h av stk st l nx an ls ags cl pi ai ni hst hl hsl hnx k0 w0 w H
  | 13, _ => exact sp_not r T gs n pl C h av stk st l nx an ls ags cl pi ai ni hst hl hsl hnx k0 w0 w H
  | 14, _ =>
    obtain ⟨hp, m, hm, hml⟩ := hj (by decide)
    exact sp_jump r T gs n pl C h av stk st l nx an ls ags cl pi ai ni hl hsl hnx m hp hm hml k0 w0 w H
  | 15, _ =>
    obtain ⟨hp, m, hm, hml⟩ := hj (by decide)
    exact sp_when r T gs n pl C h av stk st l nx an ls ags cl pi ai ni hst hl hsl hnx m hp hm hml k0 w0 w H
  | 16, _ => exact sp_arg r T gs n pl C h av stk st l nx an ls ags cl pi ai ni (h16 rfl) h8 hl hsl hnx k0 w0 w H
  | 17, _ => exact sp_args r T gs n pl C h av stk st l nx an ls ags cl pi ai ni hl hsl hnx h8 k0 w0 w H
  | 18, _ => exact sp_caller r T gs n pl C h av stk st l nx an ls ags cl hcl pi ai ni hl hsl hnx k0 w0 w H
  | 19, _ => exact sp_self r T gs n pl C h av stk st l nx an ls ags cl hcl pi ai ni hl hsl hnx k0 w0 w H
  | 20, _ => exact sp_token r T gs n pl C h av stk st l nx an ls ags cl hcl pi ai ni hl hsl hnx k0 w0 w H
  | 21, _ => exact sp_amount r T gs n pl C h av stk st l nx an ls ags cl hcl pi ai ni hl hsl hnx k0 w0 w H
  | 22, _ => exact sp_time r T gs n pl C h av stk st l nx an ls ags cl hcl pi ai ni hl hsl hnx k0 w0 w H
  | 23, _ => exact sp_gas r T gs n pl C h av stk st l nx an ls ags cl pi ai ni hl hsl hnx k0 w0 w H
  | k + 24, hk => exact absurd hk (by omega)

end Go.Proofs.Ytabcglakdlkdcaa

namespace Go.Proofs.Ytabcglakdlkdcaa
open Go Go.RowKit
open Sha
open Wd

/-- A question's cells. -/
def aq (k a b t : Nat) (who : List Value) : List Value := .int .i64 (k : Int) :: (wq a ++ (wq b ++ (.int .i64 (t : Int) :: who)))
theorem aq_len (k a b t : Nat) (who : List Value) (h : who.length = 20) : (aq k a b t who).length = 30 := by
  unfold aq
  simp only [List.length_cons, List.length_append, wq_len, h]
/-- What the host's four do. -/
def exh (rs : List (Nat × Int)) (c : Nat) (st : List Nat) (nx nq : Nat) : Except Int (List Nat × Nat) × List (List Value) :=
  if c = 24 then (if (rs.getD nq (0, 0)).2 = 0 then .ok ((rs.getD nq (0, 0)).1 :: st.drop 1, nx) else .error (rs.getD nq (0, 0)).2, [aq 1 (st.getD 0 0) 0 0 z20])
  else if c = 25 then (if (rs.getD nq (0, 0)).2 = 0 then .ok (st.drop 2, nx) else .error (rs.getD nq (0, 0)).2, [aq 2 (st.getD 1 0) (st.getD 0 0) 0 z20])
  else if c = 26 then (if st.getD 1 0 < 64 then (if (rs.getD nq (0, 0)).2 = 0 then .ok ((rs.getD nq (0, 0)).1 :: st.drop 2, nx) else .error (rs.getD nq (0, 0)).2, [aq 3 0 0 (st.getD 1 0) (adr (st.getD 0 0))]) else (.error 104, []))
  else (if st.getD 2 0 < 64 then (if (rs.getD nq (0, 0)).2 = 0 then .ok (st.drop 3, nx) else .error (rs.getD nq (0, 0)).2, [aq 4 (st.getD 0 0) 0 (st.getD 2 0) (adr (st.getD 1 0))]) else (.error 104, []))
/-- One step: an error, or the stack and which instruction is next; what the host was asked. -/
def stU (cl : Cl) (ags : List Nat) (ls : List Ins) (rs : List (Nat × Int)) (x : Ins) (st : List Nat) (l nx nq : Nat) : Except Int (List Nat × Nat) × List (List Value) :=
  if l < gT x.c then (.error 102, []) else if st.length < tT x.c x.n ∨ 64 < st.length - tT x.c x.n + lT x.c x.n then (.error 103, [])
  else if x.c = 1 then (.ok (st.drop 1, nx + 1), [])
  else if x.c < 24 then (exi cl ags ls x.c x.a x.n st (l - gT x.c) (nx + 1), [])
  else exh rs x.c st (nx + 1) nq
/-- All steps: the error, or the answer and the gas that is left; what the host was asked. -/
def ev2 (cl : Cl) (ags : List Nat) (ls : List Ins) (rs : List (Nat × Int)) : Nat → List Nat → Nat → Nat → Nat → Except Int (Nat × Nat) × List (List Value)
  | 0, _, _, _, _ => (.error 0, [])
  | f + 1, st, l, nx, nq => match ls[nx]? with
    | none => (.error 106, [])
    | some x => match stU cl ags ls rs x st l nx nq with
      | (.error E, q) => (.error E, q)
      | (.ok (st', nx'), q) => if x.c = 1 then (.ok (st.getD 0 0, l - 1), q) else
        ((ev2 cl ags ls rs f st' (l - gT x.c) nx' (nq + q.length)).1, q ++ (ev2 cl ags ls rs f st' (l - gT x.c) nx' (nq + q.length)).2)
section
variable {cl : Cl} {ags : List Nat} {ls : List Ins} {rs rs' : List (Nat × Int)} {x : Ins} {st : List Nat} {l nx nq : Nat}
theorem exh_one (c : Nat) : (exh rs c st nx nq).2 = [] ∨ ∃ a, (exh rs c st nx nq).2 = [a] ∧ a.length = 30 := by
  have hz : z20.length = 20 := by simp
  unfold exh
  split
  · exact .inr ⟨_, rfl, aq_len _ _ _ _ _ hz⟩
  split
  · exact .inr ⟨_, rfl, aq_len _ _ _ _ _ hz⟩
  split
  · split
    · exact .inr ⟨_, rfl, aq_len _ _ _ _ _ (adr_len _)⟩
    · exact .inl rfl
  split
  · exact .inr ⟨_, rfl, aq_len _ _ _ _ _ (adr_len _)⟩
  · exact .inl rfl
theorem stU_one : (stU cl ags ls rs x st l nx nq).2 = [] ∨ ∃ a, (stU cl ags ls rs x st l nx nq).2 = [a] ∧ a.length = 30 := by
  unfold stU
  split
  · exact .inl rfl
  split
  · exact .inl rfl
  split
  · exact .inl rfl
  split
  · exact .inl rfl
  exact exh_one _
theorem stU_gas {y : List Nat × Nat} (h : (stU cl ags ls rs x st l nx nq).1 = .ok y) : gT x.c ≤ l := by
  unfold stU at h
  split at h
  · cases h
  · omega
theorem stU_200 (hc : x.c < 28) (h : (stU cl ags ls rs x st l nx nq).2 ≠ []) : 200 ≤ gT x.c ∧ gT x.c ≤ l := by
  unfold stU at h
  split at h
  · exact (h rfl).elim
  rename_i h1
  split at h
  · exact (h rfl).elim
  split at h
  · exact (h rfl).elim
  split at h
  · exact (h rfl).elim
  rename_i h4
  refine ⟨?_, by omega⟩
  rcases (show x.c = 24 ∨ x.c = 25 ∨ x.c = 26 ∨ x.c = 27 by omega) with h | h | h | h <;> rw [h] <;> decide
end
theorem gT_pos (c : Nat) (hc : c < 28) : 1 ≤ gT c := by
  have : ∀ c : Fin 28, 1 ≤ gT c.1 := by decide
  exact this ⟨c, hc⟩
end Go.Proofs.Ytabcglakdlkdcaa
