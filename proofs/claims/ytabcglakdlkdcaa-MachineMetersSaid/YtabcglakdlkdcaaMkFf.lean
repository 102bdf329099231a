/-
  one step, whatever the instruction.
-/
import Derived.Test.YtabcglakdlkdcaaMkL
import Derived.Test.YtabcglakdlkdcaaMkFe
import Derived.Test.YtabcglakdlkdcaaMkEy

namespace Go.Proofs.Ytabcglakdlkdcaa
open Go Go.RowKit
open Sha
open Wd

/-- The first m blocks of a world. -/
theorem cut_world (w : World) (m : Nat) (hm : m ≤ w.heap.size) : ∃ w1 : World, w1.heap.size = m ∧ Below w1.heap.size w1 w ∧ ∀ i, i < m → w1.heap[i]? = w.heap[i]? := by
  have hs : (w.heap.extract 0 m).size = m := by rw [Array.size_extract]; omega
  have hb : ∀ i, i < m → (w.heap.extract 0 m)[i]? = w.heap[i]? := fun i hi => by
    rw [Array.getElem?_extract]
    simp only [Nat.zero_add]
    rw [if_pos (by omega)]
  refine ⟨{ w with heap := w.heap.extract 0 m }, hs, ?_, hb⟩
  show Below (w.heap.extract 0 m).size _ _
  rw [hs]
  exact ⟨rfl, rfl, rfl, by show (w.heap.extract 0 m).size ≤ _; omega, fun i hi => (hb i hi).symm⟩
end Go.Proofs.Ytabcglakdlkdcaa

namespace Go.Proofs.Ytabcglakdlkdcaa
open Go Go.RowKit
open Sha
open Wd

/-- A run and its host, in memory: below wS the host's row alone may have turned. -/
def Lr (wS : World) (hb r T gs n : Nat) (pl : Value) (C : List Value) (av : Value) (ls : List Ins) (ags : List Nat) (rv iv : Value) (rs : List (Nat × Int)) (inn : List (BitVec 8)) (w : World) (stk : Value) (ss : List Nat) (l nx : Nat) (an : List Value) (qv : Value) (qs : List (List Value)) : Prop :=
  ∃ w1 : World, w1.heap.size = wS.heap.size ∧ Gro (· = hb) wS w1 ∧ Rn w w1 w r T gs n pl C (.iface 48 (.pointer (some ⟨hb, 0, none⟩))) av stk (ss) (l) (nx) an ls ags ∧ Hst w hb rv qv iv rs qs inn ∧ (∀ g, qv.ownBlock = some g → wS.heap.size ≤ g)
/-- Rows of other types stay. -/
def Kr (w w' : World) : Prop := ∀ (b : Nat) (cs : List Value) (t : TypeId), t ≠ 70 → t ≠ 27 → t ≠ tHo → t ≠ tAk → Row w b cs t → Row w' b cs t
theorem kh_ne {t : TypeId} (h : t = tHo ∨ t = tAk ∨ t = tYr ∨ t = 5) : t ≠ 70 ∧ t ≠ 27 := by
  rcases h with h | h | h | h <;> rw [h] <;> exact ⟨by decide, by decide⟩
section
variable {wS : World} {hb r T gs n : Nat} {pl : Value} {C : List Value} {av : Value} {ls : List Ins} {ags : List Nat} {rv iv : Value} {rs : List (Nat × Int)} {inn : List (BitVec 8)} {w0 w W W' : World} {stk : Value} {ss : List Nat} {l nx : Nat} {an : List Value} {qv : Value} {qs : List (List Value)} {q : List Value}
theorem Rn.kh (H : Rn w w0 W r T gs n pl C (.iface 48 (.pointer (some ⟨hb, 0, none⟩))) av stk (ss) (l) (nx) an ls ags) : Kh w W := fun _ _ _ ht rr => H.kp (kh_ne ht).1 (kh_ne ht).2 rr
theorem Rn.host (H : Rn w w0 W r T gs n pl C (.iface 48 (.pointer (some ⟨hb, 0, none⟩))) av stk (ss) (l) (nx) an ls ags) (hH : Hst W hb rv qv iv rs qs inn) (hN : NxP W hb rv qv iv rs qs inn q W') (a1 : w0.heap.size = wS.heap.size) (a2 : Gro (· = hb) wS w0) (a5 : ∀ g, qv.ownBlock = some g → wS.heap.size ≤ g) :
    ∃ w1 : World, w1.heap.size = wS.heap.size ∧ Gro (· = hb) wS w1 ∧ Rn W' w1 W' r T gs n pl C (.iface 48 (.pointer (some ⟨hb, 0, none⟩))) av stk (ss) (l) (nx) an ls ags := by
  have hN2 := hN
  obtain ⟨qv', _, k, _⟩ := hN2
  obtain ⟨w1, h1, h2, h3⟩ := cut_world W' w0.heap.size (Nat.le_trans H.be.size k.size)
  refine ⟨w1, h1.trans a1, ⟨?_, ?_, ?_, ?_, fun i hi hne => ?_⟩, hN.row hH (by decide) (by decide) H.row, H.clen, H.alen, Lw.rows H.st fun b cs r => hN.row hH (by decide) (by decide) r, hN.row hH (by decide) (by decide) H.tab, Lw.rows H.prg fun b cs r => hN.row hH (by decide) (by decide) r, hN.row hH (by decide) (by decide) H.sta, H.cargs, Lw.rows H.arg fun b cs r => hN.row hH (by decide) (by decide) r, H.apart, h2, by rw [h1]; exact H.rlo, by rw [h1]; exact H.slo, fun _ _ q => q⟩
  · exact h2.os.symm.trans (k.os.trans (H.be.os.trans a2.os))
  · exact h2.tape.symm.trans (k.tape.trans (H.be.tape.trans a2.tape))
  · exact h2.output.symm.trans (k.output.trans (H.be.output.trans a2.output))
  · rw [h1, a1]; exact Nat.le_refl _
  · have hi0 : i < w0.heap.size := by rw [a1]; exact hi
    rw [h3 i hi0, k.block i (Nat.lt_of_lt_of_le hi0 H.be.size) (fun e => by
      rcases e with e | e
      · exact hne e
      · have := a5 i e; omega), H.be.block i hi0, a2.block i hi hne]
end
/-- What one step leaves. -/
def UP (wS : World) (hb r T gs n : Nat) (pl : Value) (C : List Value) (av : Value) (ls : List Ins) (ags : List Nat) (rv iv : Value) (rs : List (Nat × Int)) (inn : List (BitVec 8)) (cl : Cl) (x : Ins) (st : List Nat) (l nx : Nat) (an : List Value) (qs : List (List Value)) (v : Int) (w' : World) : Prop :=
  match stU cl ags ls rs x st l nx qs.length with
  | (.error E, q) => v = E ∧ ∃ stk' ss' l' nx' an' qv', Lr wS hb r T gs n pl C av ls ags rv iv rs inn w' stk' (ss') (l') (nx') an' qv' (qs ++ q)
  | (.ok (st', nx'), q) => v = 0 ∧ ∃ stk' qv', Lr wS hb r T gs n pl C av ls ags rv iv rs inn w' stk' (st'.reverse) (l - gT x.c) (nx') (if x.c = 1 then wq (st.getD 0 0) else an) qv' (qs ++ q)
section
variable {wS : World} {hb r T gs n : Nat} {pl : Value} {C : List Value} {av : Value} {ls : List Ins} {ags : List Nat} {rv iv : Value} {rs : List (Nat × Int)} {inn : List (BitVec 8)} {cl : Cl}
theorem kr_of {w w1 w' : World} {stk : Value} {ss : List Nat} {l nx : Nat} {an : List Value} (H : Rn w w1 w' r T gs n pl C (.iface 48 (.pointer (some ⟨hb, 0, none⟩))) av stk (ss) (l) (nx) an ls ags) : Kr w w' := fun _ _ _ h1 h2 _ _ rr => H.kp h1 h2 rr
theorem step_u1 (_hcl : cl.In C) (_h8 : ags.length ≤ 8) (x : Ins) (_h4 : x.c = 4 → x.n ≤ 15) (_h5 : x.c = 5 → 1 ≤ x.n ∧ x.n ≤ 15) (_hj : x.c = 14 ∨ x.c = 15 → x.n < n ∧ ∃ m, stf ls x.n = m + 1 ∧ m ≤ 100000) (_h16 : x.c = 16 → x.n ≤ 1000) (st : List Nat) (l nx : Nat) (an : List Value) (stk qv : Value) (qs : List (List Value)) (_hst : ∀ a ∈ st, a < 2 ^ 256) (hl : l ≤ 10000) (hsl : st.length ≤ 64) (hnx : nx ≤ 1024) (_hq : qs.length ≤ 1000) (w : World) (H : Lr wS hb r T gs n pl C av ls ags rv iv rs inn w stk (st.reverse) (l) (nx) an qv (qs)) (hc1 : x.c = 1) : Calls Try.prog 47 #[.pointer (some ⟨r, 0, none⟩), .agg (ic x.c x.p x.a x.n).toArray] w fun e w' => ∃ v, e = .returned (.int .i64 v) ∧ Kr w w' ∧ UP wS hb r T gs n pl C av ls ags rv iv rs inn cl x st l nx an qs v w' := by
  obtain ⟨w1, a1, a2, a3, a4, a5⟩ := H
  rw [hc1]
  refine Calls.mono (sp_done r T gs n pl C (.iface 48 (.pointer (some ⟨hb, 0, none⟩))) av stk st l nx an ls ags x.p x.a x.n hl hsl hnx w w1 w a3) ?_
  rintro e w' ⟨v, rfl, q⟩
  have eT : tT x.c x.n = 1 := by rw [hc1]; rfl
  have eL : lT x.c x.n = 0 := by rw [hc1]; rfl
  have eG : gT x.c = 1 := by rw [hc1]; rfl
  have eS : stU cl ags ls rs x st l nx qs.length = if l < 1 then (.error 102, []) else if st.length < 1 ∨ 64 < st.length - 1 + 0 then (.error 103, []) else (.ok (st.drop 1, nx + 1), []) := by
    unfold stU
    rw [eG, eT, eL, if_pos hc1]
  split at q
  · rename_i h1
    rw [if_pos h1] at eS
    obtain ⟨rfl, stk', ss', l', nx', q⟩ := q
    refine ⟨102, rfl, kr_of q, ?_⟩
    unfold UP
    rw [eS]
    exact ⟨rfl, stk', ss', l', nx', an, qv, w1, a1, a2, q.rebase, by rw [List.append_nil]; exact a4.kh q.kh, a5⟩
  rename_i h1
  rw [if_neg h1] at eS
  split at q
  · rename_i h2
    rw [if_pos h2] at eS
    obtain ⟨rfl, stk', ss', l', nx', q⟩ := q
    refine ⟨103, rfl, kr_of q, ?_⟩
    unfold UP
    rw [eS]
    exact ⟨rfl, stk', ss', l', nx', an, qv, w1, a1, a2, q.rebase, by rw [List.append_nil]; exact a4.kh q.kh, a5⟩
  rename_i h2
  rw [if_neg h2] at eS
  obtain ⟨rfl, stk', q⟩ := q
  refine ⟨0, rfl, kr_of q, ?_⟩
  unfold UP
  rw [eS]
  refine ⟨rfl, stk', qv, w1, a1, a2, ?_, by rw [List.append_nil]; exact a4.kh q.kh, a5⟩
  rw [if_pos hc1, eG]
  exact q.rebase
theorem step_u23 (hcl : cl.In C) (h8 : ags.length ≤ 8) (x : Ins) (h4 : x.c = 4 → x.n ≤ 15) (h5 : x.c = 5 → 1 ≤ x.n ∧ x.n ≤ 15) (hj : x.c = 14 ∨ x.c = 15 → x.n < n ∧ ∃ m, stf ls x.n = m + 1 ∧ m ≤ 100000) (h16 : x.c = 16 → x.n ≤ 1000) (st : List Nat) (l nx : Nat) (an : List Value) (stk qv : Value) (qs : List (List Value)) (hst : ∀ a ∈ st, a < 2 ^ 256) (hl : l ≤ 10000) (hsl : st.length ≤ 64) (hnx : nx ≤ 1024) (_hq : qs.length ≤ 1000) (w : World) (H : Lr wS hb r T gs n pl C av ls ags rv iv rs inn w stk (st.reverse) (l) (nx) an qv (qs)) (hc : x.c < 24) (hc1 : x.c ≠ 1) : Calls Try.prog 47 #[.pointer (some ⟨r, 0, none⟩), .agg (ic x.c x.p x.a x.n).toArray] w fun e w' => ∃ v, e = .returned (.int .i64 v) ∧ Kr w w' ∧ UP wS hb r T gs n pl C av ls ags rv iv rs inn cl x st l nx an qs v w' := by
  obtain ⟨w1, a1, a2, a3, a4, a5⟩ := H
  refine Calls.mono (sp_any r T gs n pl C (.iface 48 (.pointer (some ⟨hb, 0, none⟩))) av stk st l nx an ls ags cl hcl x.c x.p x.a x.n hc hc1 h4 h5 hj h16 h8 hst hl hsl hnx w w1 w a3) ?_
  rintro e w' ⟨v, rfl, q⟩
  have eS : stU cl ags ls rs x st l nx qs.length = if l < gT x.c then (.error 102, []) else if st.length < tT x.c x.n ∨ 64 < st.length - tT x.c x.n + lT x.c x.n then (.error 103, []) else (exi cl ags ls x.c x.a x.n st (l - gT x.c) (nx + 1), []) := by
    unfold stU
    rw [if_neg hc1, if_pos hc]
  unfold StP at q
  split at q
  · rename_i h1
    rw [if_pos h1] at eS
    obtain ⟨rfl, stk', ss', l', nx', q⟩ := q
    refine ⟨102, rfl, kr_of q, ?_⟩
    unfold UP
    rw [eS]
    exact ⟨rfl, stk', ss', l', nx', an, qv, w1, a1, a2, q.rebase, by rw [List.append_nil]; exact a4.kh q.kh, a5⟩
  rename_i h1
  rw [if_neg h1] at eS
  split at q
  · rename_i h2
    rw [if_pos h2] at eS
    obtain ⟨rfl, stk', ss', l', nx', q⟩ := q
    refine ⟨103, rfl, kr_of q, ?_⟩
    unfold UP
    rw [eS]
    exact ⟨rfl, stk', ss', l', nx', an, qv, w1, a1, a2, q.rebase, by rw [List.append_nil]; exact a4.kh q.kh, a5⟩
  rename_i h2
  rw [if_neg h2] at eS
  cases hx : exi cl ags ls x.c x.a x.n st (l - gT x.c) (nx + 1) with
  | error E =>
    rw [hx] at q eS
    obtain ⟨rfl, stk', ss', nx', q⟩ := q
    refine ⟨v, rfl, kr_of q, ?_⟩
    unfold UP
    rw [eS]
    exact ⟨rfl, stk', ss', _, nx', an, qv, w1, a1, a2, q.rebase, by rw [List.append_nil]; exact a4.kh q.kh, a5⟩
  | ok y =>
    obtain ⟨st', nx'⟩ := y
    rw [hx] at q eS
    obtain ⟨rfl, stk', q⟩ := q
    refine ⟨0, rfl, kr_of q, ?_⟩
    unfold UP
    rw [eS]
    refine ⟨rfl, stk', qv, w1, a1, a2, ?_, by rw [List.append_nil]; exact a4.kh q.kh, a5⟩
    rw [if_neg hc1]
    exact q.rebase
theorem step_h24 (HN : NextOK inn) (_hcl : cl.In C) (_h8 : ags.length ≤ 8) (x : Ins) (_h4 : x.c = 4 → x.n ≤ 15) (_h5 : x.c = 5 → 1 ≤ x.n ∧ x.n ≤ 15) (_hj : x.c = 14 ∨ x.c = 15 → x.n < n ∧ ∃ m, stf ls x.n = m + 1 ∧ m ≤ 100000) (_h16 : x.c = 16 → x.n ≤ 1000) (st : List Nat) (l nx : Nat) (an : List Value) (stk qv : Value) (qs : List (List Value)) (_hst : ∀ a ∈ st, a < 2 ^ 256) (hl : l ≤ 10000) (hsl : st.length ≤ 64) (hnx : nx ≤ 1024) (hq : qs.length ≤ 1000) (w : World) (H : Lr wS hb r T gs n pl C av ls ags rv iv rs inn w stk (st.reverse) (l) (nx) an qv (qs)) (hc : x.c = 24) : Calls Try.prog 47 #[.pointer (some ⟨r, 0, none⟩), .agg (ic x.c x.p x.a x.n).toArray] w fun e w' => ∃ v, e = .returned (.int .i64 v) ∧ Kr w w' ∧ UP wS hb r T gs n pl C av ls ags rv iv rs inn cl x st l nx an qs v w' := by
  obtain ⟨w1, a1, a2, a3, a4, a5⟩ := H
  have eT : tT x.c x.n = 1 := by rw [hc]; rfl
  have eL : lT x.c x.n = 1 := by rw [hc]; rfl
  have eG : gT x.c = 200 := by rw [hc]; rfl
  have hne : ¬ x.c = 1 := by omega
  have eS : stU cl ags ls rs x st l nx qs.length = if l < 200 then (.error 102, []) else if st.length < 1 ∨ 64 < st.length - 1 + 1 then (.error 103, []) else exh rs 24 st (nx + 1) qs.length := by
    unfold stU
    rw [eG, eT, eL, if_neg hne, if_neg (by omega : ¬ x.c < 24), hc]
  rw [hc]
  refine Calls.mono (sp_load r T gs n pl C hb av stk st l nx an ls ags x.p x.a x.n (fun u E X w2 => (u, E) = rs.getD qs.length (0, 0) ∧ w2.heap.size = wS.heap.size ∧ Gro (· = hb) wS w2 ∧ Kr w X ∧ ∃ qv', Hst X hb rv qv' iv rs (qs ++ [aq 1 (st.getD 0 0) 0 0 z20]) inn ∧ (∀ g, qv'.ownBlock = some g → wS.heap.size ≤ g)) hl hsl hnx w w1 w a3 ?_) ?_
  · intro stk' W hW
    have hH := a4.kh hW.kh
    refine Calls.mono (load_n HN hb rv qv iv rs qs (st.getD 0 0) hq W hH) ?_
    rintro e w' ⟨rfl, hN⟩
    obtain ⟨w2, b1, b2, b3⟩ := hW.host hH hN a1 a2 a5
    have hN2 := hN
    obtain ⟨qv', c1, c2, c3⟩ := hN2
    refine ⟨_, _, rfl, w2, ⟨rfl, b1, b2, fun b cs t h1 h2 h3 h4 rr => hN.row hH h3 h4 (hW.kp h1 h2 rr), qv', c1, fun g e => ?_⟩, b3⟩
    rcases c3 g e with z | z
    · exact a5 g z
    · have := hW.be.size; omega
  rintro e w' ⟨v, rfl, q⟩
  split at q
  · rename_i h1
    rw [if_pos h1] at eS
    obtain ⟨rfl, stk', ss', l', nx', q⟩ := q
    refine ⟨102, rfl, kr_of q, ?_⟩
    unfold UP
    rw [eS]
    exact ⟨rfl, stk', ss', l', nx', an, qv, w1, a1, a2, q.rebase, by rw [List.append_nil]; exact a4.kh q.kh, a5⟩
  rename_i h1
  rw [if_neg h1] at eS
  split at q
  · rename_i h2
    rw [if_pos h2] at eS
    obtain ⟨rfl, stk', ss', l', nx', q⟩ := q
    refine ⟨103, rfl, kr_of q, ?_⟩
    unfold UP
    rw [eS]
    exact ⟨rfl, stk', ss', l', nx', an, qv, w1, a1, a2, q.rebase, by rw [List.append_nil]; exact a4.kh q.kh, a5⟩
  rename_i h2
  rw [if_neg h2] at eS
  unfold exh at eS
  rw [if_pos rfl] at eS
  obtain ⟨u, E, X, w2, ⟨p1, p2, p3, p4, qv', p5, p6⟩, q⟩ := q
  rw [← p1] at eS
  have kr : ∀ {ss : List Nat} {stk' : Value}, Rn X w2 w' r T gs n pl C (.iface 48 (.pointer (some ⟨hb, 0, none⟩))) av stk' (ss) (l - 200) (nx + 1) an ls ags → Kr w w' := fun q b cs t h1 h2 h3 h4 rr => q.kp h1 h2 (p4 b cs t h1 h2 h3 h4 rr)
  rcases q with ⟨hE, rfl, stk', q⟩ | ⟨hE, rfl, stk', q⟩
  · simp only [hE, if_true] at eS
    refine ⟨0, rfl, kr q, ?_⟩
    unfold UP
    rw [eS]
    refine ⟨rfl, stk', qv', w2, p2, p3, ?_, p5.kh q.kh, p6⟩
    rw [if_neg hne, eG]
    exact q.rebase
  · simp only [hE, if_false] at eS
    refine ⟨v, rfl, kr q, ?_⟩
    unfold UP
    rw [eS]
    exact ⟨rfl, stk', _, _, _, an, qv', w2, p2, p3, q.rebase, p5.kh q.kh, p6⟩
theorem step_h25 (HN : NextOK inn) (_hcl : cl.In C) (_h8 : ags.length ≤ 8) (x : Ins) (_h4 : x.c = 4 → x.n ≤ 15) (_h5 : x.c = 5 → 1 ≤ x.n ∧ x.n ≤ 15) (_hj : x.c = 14 ∨ x.c = 15 → x.n < n ∧ ∃ m, stf ls x.n = m + 1 ∧ m ≤ 100000) (_h16 : x.c = 16 → x.n ≤ 1000) (st : List Nat) (l nx : Nat) (an : List Value) (stk qv : Value) (qs : List (List Value)) (_hst : ∀ a ∈ st, a < 2 ^ 256) (hl : l ≤ 10000) (hsl : st.length ≤ 64) (hnx : nx ≤ 1024) (hq : qs.length ≤ 1000) (w : World) (H : Lr wS hb r T gs n pl C av ls ags rv iv rs inn w stk (st.reverse) (l) (nx) an qv (qs)) (hc : x.c = 25) : Calls Try.prog 47 #[.pointer (some ⟨r, 0, none⟩), .agg (ic x.c x.p x.a x.n).toArray] w fun e w' => ∃ v, e = .returned (.int .i64 v) ∧ Kr w w' ∧ UP wS hb r T gs n pl C av ls ags rv iv rs inn cl x st l nx an qs v w' := by
  obtain ⟨w1, a1, a2, a3, a4, a5⟩ := H
  have eT : tT x.c x.n = 2 := by rw [hc]; rfl
  have eL : lT x.c x.n = 0 := by rw [hc]; rfl
  have eG : gT x.c = 200 := by rw [hc]; rfl
  have hne : ¬ x.c = 1 := by omega
  have eS : stU cl ags ls rs x st l nx qs.length = if l < 200 then (.error 102, []) else if st.length < 2 ∨ 64 < st.length - 2 + 0 then (.error 103, []) else exh rs 25 st (nx + 1) qs.length := by
    unfold stU
    rw [eG, eT, eL, if_neg hne, if_neg (by omega : ¬ x.c < 24), hc]
  rw [hc]
  refine Calls.mono (sp_save r T gs n pl C hb av stk st l nx an ls ags x.p x.a x.n (fun E X w2 => E = (rs.getD qs.length (0, 0)).2 ∧ w2.heap.size = wS.heap.size ∧ Gro (· = hb) wS w2 ∧ Kr w X ∧ ∃ qv', Hst X hb rv qv' iv rs (qs ++ [aq 2 (st.getD 1 0) (st.getD 0 0) 0 z20]) inn ∧ (∀ g, qv'.ownBlock = some g → wS.heap.size ≤ g)) hl hsl hnx w w1 w a3 ?_) ?_
  · intro stk' W hW
    have hH := a4.kh hW.kh
    refine Calls.mono (save_n HN hb rv qv iv rs qs (st.getD 1 0) (st.getD 0 0) hq W hH) ?_
    rintro e w' ⟨rfl, hN⟩
    obtain ⟨w2, b1, b2, b3⟩ := hW.host hH hN a1 a2 a5
    have hN2 := hN
    obtain ⟨qv', c1, c2, c3⟩ := hN2
    refine ⟨_, rfl, w2, ⟨rfl, b1, b2, fun b cs t h1 h2 h3 h4 rr => hN.row hH h3 h4 (hW.kp h1 h2 rr), qv', c1, fun g e => ?_⟩, b3⟩
    rcases c3 g e with z | z
    · exact a5 g z
    · have := hW.be.size; omega
  rintro e w' ⟨v, rfl, q⟩
  split at q
  · rename_i h1
    rw [if_pos h1] at eS
    obtain ⟨rfl, stk', ss', l', nx', q⟩ := q
    refine ⟨102, rfl, kr_of q, ?_⟩
    unfold UP
    rw [eS]
    exact ⟨rfl, stk', ss', l', nx', an, qv, w1, a1, a2, q.rebase, by rw [List.append_nil]; exact a4.kh q.kh, a5⟩
  rename_i h1
  rw [if_neg h1] at eS
  split at q
  · rename_i h2
    rw [if_pos h2] at eS
    obtain ⟨rfl, stk', ss', l', nx', q⟩ := q
    refine ⟨103, rfl, kr_of q, ?_⟩
    unfold UP
    rw [eS]
    exact ⟨rfl, stk', ss', l', nx', an, qv, w1, a1, a2, q.rebase, by rw [List.append_nil]; exact a4.kh q.kh, a5⟩
  rename_i h2
  rw [if_neg h2] at eS
  unfold exh at eS
  rw [if_neg (by decide), if_pos rfl] at eS
  obtain ⟨w2, ⟨p1, p2, p3, p4, qv', p5, p6⟩, stk', q⟩ := q
  rw [← p1] at eS
  by_cases hE : v = 0
  · subst hE
    simp only [if_true] at eS
    refine ⟨0, rfl, p4, ?_⟩
    unfold UP
    rw [eS]
    refine ⟨rfl, stk', qv', w2, p2, p3, ?_, p5, p6⟩
    rw [if_neg hne, eG]
    exact q
  · simp only [hE, if_false] at eS
    refine ⟨v, rfl, p4, ?_⟩
    unfold UP
    rw [eS]
    exact ⟨rfl, stk', _, _, _, an, qv', w2, p2, p3, q, p5, p6⟩
theorem step_h26 (HN : NextOK inn) (_hcl : cl.In C) (_h8 : ags.length ≤ 8) (x : Ins) (_h4 : x.c = 4 → x.n ≤ 15) (_h5 : x.c = 5 → 1 ≤ x.n ∧ x.n ≤ 15) (_hj : x.c = 14 ∨ x.c = 15 → x.n < n ∧ ∃ m, stf ls x.n = m + 1 ∧ m ≤ 100000) (_h16 : x.c = 16 → x.n ≤ 1000) (st : List Nat) (l nx : Nat) (an : List Value) (stk qv : Value) (qs : List (List Value)) (hst : ∀ a ∈ st, a < 2 ^ 256) (hl : l ≤ 10000) (hsl : st.length ≤ 64) (hnx : nx ≤ 1024) (hq : qs.length ≤ 1000) (w : World) (H : Lr wS hb r T gs n pl C av ls ags rv iv rs inn w stk (st.reverse) (l) (nx) an qv (qs)) (hc : x.c = 26) : Calls Try.prog 47 #[.pointer (some ⟨r, 0, none⟩), .agg (ic x.c x.p x.a x.n).toArray] w fun e w' => ∃ v, e = .returned (.int .i64 v) ∧ Kr w w' ∧ UP wS hb r T gs n pl C av ls ags rv iv rs inn cl x st l nx an qs v w' := by
  obtain ⟨w1, a1, a2, a3, a4, a5⟩ := H
  have eT : tT x.c x.n = 2 := by rw [hc]; rfl
  have eL : lT x.c x.n = 1 := by rw [hc]; rfl
  have eG : gT x.c = 200 := by rw [hc]; rfl
  have hne : ¬ x.c = 1 := by omega
  have eS : stU cl ags ls rs x st l nx qs.length = if l < 200 then (.error 102, []) else if st.length < 2 ∨ 64 < st.length - 2 + 1 then (.error 103, []) else exh rs 26 st (nx + 1) qs.length := by
    unfold stU
    rw [eG, eT, eL, if_neg hne, if_neg (by omega : ¬ x.c < 24), hc]
  rw [hc]
  refine Calls.mono (sp_have r T gs n pl C hb av stk st l nx an ls ags x.p x.a x.n (fun u E X w2 => (u, E) = rs.getD qs.length (0, 0) ∧ w2.heap.size = wS.heap.size ∧ Gro (· = hb) wS w2 ∧ Kr w X ∧ ∃ qv', Hst X hb rv qv' iv rs (qs ++ [aq 3 0 0 (st.getD 1 0) (adr (st.getD 0 0))]) inn ∧ (∀ g, qv'.ownBlock = some g → wS.heap.size ≤ g)) hst hl hsl hnx w w1 w a3 ?_) ?_
  · intro stk' W hW
    have hH := a4.kh hW.kh
    refine Calls.mono (have_n HN hb rv qv iv rs qs (st.getD 1 0) (adr (st.getD 0 0)) (adr_len _) (adr_mem _) hq W hH) ?_
    rintro e w' ⟨rfl, hN⟩
    obtain ⟨w2, b1, b2, b3⟩ := hW.host hH hN a1 a2 a5
    have hN2 := hN
    obtain ⟨qv', c1, c2, c3⟩ := hN2
    refine ⟨_, _, rfl, w2, ⟨rfl, b1, b2, fun b cs t h1 h2 h3 h4 rr => hN.row hH h3 h4 (hW.kp h1 h2 rr), qv', c1, fun g e => ?_⟩, b3⟩
    rcases c3 g e with z | z
    · exact a5 g z
    · have := hW.be.size; omega
  rintro e w' ⟨v, rfl, q⟩
  split at q
  · rename_i h1
    rw [if_pos h1] at eS
    obtain ⟨rfl, stk', ss', l', nx', q⟩ := q
    refine ⟨102, rfl, kr_of q, ?_⟩
    unfold UP
    rw [eS]
    exact ⟨rfl, stk', ss', l', nx', an, qv, w1, a1, a2, q.rebase, by rw [List.append_nil]; exact a4.kh q.kh, a5⟩
  rename_i h1
  rw [if_neg h1] at eS
  split at q
  · rename_i h2
    rw [if_pos h2] at eS
    obtain ⟨rfl, stk', ss', l', nx', q⟩ := q
    refine ⟨103, rfl, kr_of q, ?_⟩
    unfold UP
    rw [eS]
    exact ⟨rfl, stk', ss', l', nx', an, qv, w1, a1, a2, q.rebase, by rw [List.append_nil]; exact a4.kh q.kh, a5⟩
  rename_i h2
  rw [if_neg h2] at eS
  unfold exh at eS
  rw [if_neg (by decide), if_neg (by decide), if_pos rfl] at eS
  rcases q with ⟨h6, rfl, stk', q⟩ | ⟨h6, q⟩
  · rw [if_neg h6] at eS
    refine ⟨104, rfl, kr_of q, ?_⟩
    unfold UP
    rw [eS]
    exact ⟨rfl, stk', _, _, _, an, qv, w1, a1, a2, q.rebase, by rw [List.append_nil]; exact a4.kh q.kh, a5⟩
  rw [if_pos h6] at eS
  obtain ⟨u, E, X, w2, ⟨p1, p2, p3, p4, qv', p5, p6⟩, q⟩ := q
  rw [← p1] at eS
  have kr : ∀ {ss : List Nat} {stk' : Value}, Rn X w2 w' r T gs n pl C (.iface 48 (.pointer (some ⟨hb, 0, none⟩))) av stk' (ss) (l - 200) (nx + 1) an ls ags → Kr w w' := fun q b cs t h1 h2 h3 h4 rr => q.kp h1 h2 (p4 b cs t h1 h2 h3 h4 rr)
  rcases q with ⟨hE, rfl, stk', q⟩ | ⟨hE, rfl, stk', q⟩
  · simp only [hE, if_true] at eS
    refine ⟨0, rfl, kr q, ?_⟩
    unfold UP
    rw [eS]
    refine ⟨rfl, stk', qv', w2, p2, p3, ?_, p5.kh q.kh, p6⟩
    rw [if_neg hne, eG]
    exact q.rebase
  · simp only [hE, if_false] at eS
    refine ⟨v, rfl, kr q, ?_⟩
    unfold UP
    rw [eS]
    exact ⟨rfl, stk', _, _, _, an, qv', w2, p2, p3, q.rebase, p5.kh q.kh, p6⟩
theorem step_h27 (HN : NextOK inn) (_hcl : cl.In C) (_h8 : ags.length ≤ 8) (x : Ins) (_h4 : x.c = 4 → x.n ≤ 15) (_h5 : x.c = 5 → 1 ≤ x.n ∧ x.n ≤ 15) (_hj : x.c = 14 ∨ x.c = 15 → x.n < n ∧ ∃ m, stf ls x.n = m + 1 ∧ m ≤ 100000) (_h16 : x.c = 16 → x.n ≤ 1000) (st : List Nat) (l nx : Nat) (an : List Value) (stk qv : Value) (qs : List (List Value)) (hst : ∀ a ∈ st, a < 2 ^ 256) (hl : l ≤ 10000) (hsl : st.length ≤ 64) (hnx : nx ≤ 1024) (hq : qs.length ≤ 1000) (w : World) (H : Lr wS hb r T gs n pl C av ls ags rv iv rs inn w stk (st.reverse) (l) (nx) an qv (qs)) (hc : x.c = 27) : Calls Try.prog 47 #[.pointer (some ⟨r, 0, none⟩), .agg (ic x.c x.p x.a x.n).toArray] w fun e w' => ∃ v, e = .returned (.int .i64 v) ∧ Kr w w' ∧ UP wS hb r T gs n pl C av ls ags rv iv rs inn cl x st l nx an qs v w' := by
  obtain ⟨w1, a1, a2, a3, a4, a5⟩ := H
  have eT : tT x.c x.n = 3 := by rw [hc]; rfl
  have eL : lT x.c x.n = 0 := by rw [hc]; rfl
  have eG : gT x.c = 500 := by rw [hc]; rfl
  have hne : ¬ x.c = 1 := by omega
  have eS : stU cl ags ls rs x st l nx qs.length = if l < 500 then (.error 102, []) else if st.length < 3 ∨ 64 < st.length - 3 + 0 then (.error 103, []) else exh rs 27 st (nx + 1) qs.length := by
    unfold stU
    rw [eG, eT, eL, if_neg hne, if_neg (by omega : ¬ x.c < 24), hc]
  rw [hc]
  refine Calls.mono (sp_send r T gs n pl C hb av stk st l nx an ls ags x.p x.a x.n (fun E X w2 => E = (rs.getD qs.length (0, 0)).2 ∧ w2.heap.size = wS.heap.size ∧ Gro (· = hb) wS w2 ∧ Kr w X ∧ ∃ qv', Hst X hb rv qv' iv rs (qs ++ [aq 4 (st.getD 0 0) 0 (st.getD 2 0) (adr (st.getD 1 0))]) inn ∧ (∀ g, qv'.ownBlock = some g → wS.heap.size ≤ g)) hst hl hsl hnx w w1 w a3 ?_) ?_
  · intro stk' W hW
    have hH := a4.kh hW.kh
    refine Calls.mono (send_n HN hb rv qv iv rs qs (st.getD 2 0) (st.getD 0 0) (adr (st.getD 1 0)) (adr_len _) (adr_mem _) hq W hH) ?_
    rintro e w' ⟨rfl, hN⟩
    obtain ⟨w2, b1, b2, b3⟩ := hW.host hH hN a1 a2 a5
    have hN2 := hN
    obtain ⟨qv', c1, c2, c3⟩ := hN2
    refine ⟨_, rfl, w2, ⟨rfl, b1, b2, fun b cs t h1 h2 h3 h4 rr => hN.row hH h3 h4 (hW.kp h1 h2 rr), qv', c1, fun g e => ?_⟩, b3⟩
    rcases c3 g e with z | z
    · exact a5 g z
    · have := hW.be.size; omega
  rintro e w' ⟨v, rfl, q⟩
  split at q
  · rename_i h1
    rw [if_pos h1] at eS
    obtain ⟨rfl, stk', ss', l', nx', q⟩ := q
    refine ⟨102, rfl, kr_of q, ?_⟩
    unfold UP
    rw [eS]
    exact ⟨rfl, stk', ss', l', nx', an, qv, w1, a1, a2, q.rebase, by rw [List.append_nil]; exact a4.kh q.kh, a5⟩
  rename_i h1
  rw [if_neg h1] at eS
  split at q
  · rename_i h2
    rw [if_pos h2] at eS
    obtain ⟨rfl, stk', ss', l', nx', q⟩ := q
    refine ⟨103, rfl, kr_of q, ?_⟩
    unfold UP
    rw [eS]
    exact ⟨rfl, stk', ss', l', nx', an, qv, w1, a1, a2, q.rebase, by rw [List.append_nil]; exact a4.kh q.kh, a5⟩
  rename_i h2
  rw [if_neg h2] at eS
  unfold exh at eS
  rw [if_neg (by decide), if_neg (by decide), if_neg (by decide)] at eS
  rcases q with ⟨h6, rfl, stk', q⟩ | ⟨h6, q⟩
  · rw [if_neg h6] at eS
    refine ⟨104, rfl, kr_of q, ?_⟩
    unfold UP
    rw [eS]
    exact ⟨rfl, stk', _, _, _, an, qv, w1, a1, a2, q.rebase, by rw [List.append_nil]; exact a4.kh q.kh, a5⟩
  rw [if_pos h6] at eS
  obtain ⟨w2, ⟨p1, p2, p3, p4, qv', p5, p6⟩, stk', q⟩ := q
  rw [← p1] at eS
  by_cases hE : v = 0
  · subst hE
    simp only [if_true] at eS
    refine ⟨0, rfl, p4, ?_⟩
    unfold UP
    rw [eS]
    refine ⟨rfl, stk', qv', w2, p2, p3, ?_, p5, p6⟩
    rw [if_neg hne, eG]
    exact q
  · simp only [hE, if_false] at eS
    refine ⟨v, rfl, p4, ?_⟩
    unfold UP
    rw [eS]
    exact ⟨rfl, stk', _, _, _, an, qv', w2, p2, p3, q, p5, p6⟩
theorem step_u (HN : NextOK inn) (hcl : cl.In C) (h8 : ags.length ≤ 8) (x : Ins) (h4 : x.c = 4 → x.n ≤ 15) (h5 : x.c = 5 → 1 ≤ x.n ∧ x.n ≤ 15) (hj : x.c = 14 ∨ x.c = 15 → x.n < n ∧ ∃ m, stf ls x.n = m + 1 ∧ m ≤ 100000) (h16 : x.c = 16 → x.n ≤ 1000) (st : List Nat) (l nx : Nat) (an : List Value) (stk qv : Value) (qs : List (List Value)) (hst : ∀ a ∈ st, a < 2 ^ 256) (hl : l ≤ 10000) (hsl : st.length ≤ 64) (hnx : nx ≤ 1024) (hq : qs.length ≤ 1000) (w : World) (H : Lr wS hb r T gs n pl C av ls ags rv iv rs inn w stk (st.reverse) (l) (nx) an qv (qs)) (hc : x.c < 28) : Calls Try.prog 47 #[.pointer (some ⟨r, 0, none⟩), .agg (ic x.c x.p x.a x.n).toArray] w fun e w' => ∃ v, e = .returned (.int .i64 v) ∧ Kr w w' ∧ UP wS hb r T gs n pl C av ls ags rv iv rs inn cl x st l nx an qs v w' := by
  by_cases h1 : x.c = 1
  · exact step_u1 hcl h8 x h4 h5 hj h16 st l nx an stk qv qs hst hl hsl hnx hq w H h1
  by_cases h2 : x.c < 24
  · exact step_u23 hcl h8 x h4 h5 hj h16 st l nx an stk qv qs hst hl hsl hnx hq w H h2 h1
  rcases (show x.c = 24 ∨ x.c = 25 ∨ x.c = 26 ∨ x.c = 27 by omega) with h | h | h | h
  · exact step_h24 HN hcl h8 x h4 h5 hj h16 st l nx an stk qv qs hst hl hsl hnx hq w H h
  · exact step_h25 HN hcl h8 x h4 h5 hj h16 st l nx an stk qv qs hst hl hsl hnx hq w H h
  · exact step_h26 HN hcl h8 x h4 h5 hj h16 st l nx an stk qv qs hst hl hsl hnx hq w H h
  · exact step_h27 HN hcl h8 x h4 h5 hj h16 st l nx an stk qv qs hst hl hsl hnx hq w H h
end

end Go.Proofs.Ytabcglakdlkdcaa
