/-
  LetterEntryBack: what table.read tells of an entry's bytes, of more, of less.
-/
import Derived.Test.YtaaehdlenigomaaGreatLeO
namespace Go.Proofs.YtaaehdlenigomaaGreat
open Go Go.RowKit
open Sha

theorem first1 (bs r : List (BitVec 8)) (hb : bs = [1#8] ++ r) : ((at8 bs 0 : Nat) : Int) = 1 ∧ byE bs 0 = 0 := by
  subst hb
  exact ⟨rfl, rfl⟩
theorem first2 (bs r : List (BitVec 8)) (hb : bs = [2#8] ++ r) : ((at8 bs 0 : Nat) : Int) = 2 ∧ byE bs 0 = 0 := by
  subst hb
  exact ⟨rfl, rfl⟩
theorem HT1_ok (tm tk gs : Int) (sd rc : List (BitVec 8)) (am : List Nat) (q0 : 0 ≤ tm) (q1 : tm < 9223372036854775808) (q2 : 0 ≤ tk) (q3 : tk < 9223372036854775808) (q4 : 0 ≤ gs) (q5 : gs < 9223372036854775808) (q6 : ∀ x ∈ am, x < 18446744073709551616) (h1 : sd.length = 20) (h2 : rc.length = 20) (h3 : am.length = 4) (bs : List (BitVec 8)) (hb : bs = eb1 sd tm tk rc am gs) : ∀ (P : Nat) (A0 : Option Addr) (cap0 T U b : Nat) (w : World), Rg w P A0 cap0 bs 1 → Row w T etab 80 → Row w U [.int .i64 0, .int .i64 1, .int .i64 2, .int .i64 3, .int .i64 4, .int .i64 5] 3 → En w b 1 (List.replicate 20 0#8) 0 0 (List.replicate 20 0#8) (List.replicate 4 0) 0 (.slice none 0 0) → Calls Tryz.prog 20 #[.slice (some ⟨T, 0, none⟩) 7 7, .pointer (some ⟨P, 0, none⟩), .pointer (some ⟨b, 0, none⟩), .slice (some ⟨U, 0, none⟩) 6 6] w fun e w' => ∃ A' c', e = .returned (.bool true) ∧ En w' b 1 sd tm tk rc am gs (.slice A' 0 c') ∧ Bw w' (.slice A' 0 c') [] ∧ Fresh w.heap.size (.slice A' 0 c') ∧ (A' = none → c' = 0) ∧ Gq P b w w' := by
  intro P A0 cap0 T U b w h hT hU hen
  obtain ⟨e0, s0⟩ := at_adr [1#8] _ sd bs 1 (by rw [hb]; simp only [eb1, List.append_assoc] <;> rfl) rfl h1
  obtain ⟨e1, s1, n1⟩ := at_num ([1#8] ++ sd) _ bs tm 21 q0 q1 (by rw [hb]; simp only [eb1, List.append_assoc] <;> rfl) (by simp only [List.length_append, List.length_cons, List.length_nil, h1] <;> omega)
  obtain ⟨e2, s2, n2⟩ := at_num ([1#8] ++ sd ++ nf tm) _ bs tk (21 + (nf tm).length) q2 q3 (by rw [hb]; simp only [eb1, List.append_assoc] <;> rfl) (by simp only [List.length_append, List.length_cons, List.length_nil, h1] <;> omega)
  obtain ⟨e3, s3⟩ := at_adr ([1#8] ++ sd ++ nf tm ++ nf tk) _ rc bs (21 + (nf tm).length + (nf tk).length) (by rw [hb]; simp only [eb1, List.append_assoc] <;> rfl) (by simp only [List.length_append, List.length_cons, List.length_nil, h1] <;> omega) h2
  obtain ⟨e4, s4, n4⟩ := at_wide ([1#8] ++ sd ++ nf tm ++ nf tk ++ rc) _ bs am (21 + (nf tm).length + (nf tk).length + 20) h3 q6 (by rw [hb]; simp only [eb1, List.append_assoc] <;> rfl) (by simp only [List.length_append, List.length_cons, List.length_nil, h1, h2] <;> omega)
  obtain ⟨e5, s5, n5⟩ := at_num ([1#8] ++ sd ++ nf tm ++ nf tk ++ rc ++ wf am) [] bs gs (21 + (nf tm).length + (nf tk).length + 20 + (wf am).length) q4 q5 (by rw [hb]; simp only [eb1, List.append_assoc, List.append_nil] <;> rfl) (by simp only [List.length_append, List.length_cons, List.length_nil, h1, h2] <;> omega)
  have hl : bs.length = 21 + (nf tm).length + (nf tk).length + 20 + (wf am).length + (nf gs).length := by
    rw [hb]
    simp only [eb1, List.length_append, List.length_cons, List.length_nil, h1, h2] <;> omega
  exact (tread1_ok sd rc tm tk am gs bs _ _ _ _ _ _ e0 s0 h1 rfl e1 s1 n1 e2 s2 n2 e3 s3 h2 rfl e4 s4 h3 n4 e5 s5 n5 (by omega) P A0 cap0 T U b w h hT hU hen).mono (fun e w' ⟨he, hw, hg⟩ => ⟨none, 0, he, hw, Bw.nil _, fun g e => by simp [Value.ownBlock] at e, fun _ => rfl, hg⟩)
theorem HT1_more (tm tk gs : Int) (sd rc : List (BitVec 8)) (am : List Nat) (q0 : 0 ≤ tm) (q1 : tm < 9223372036854775808) (q2 : 0 ≤ tk) (q3 : tk < 9223372036854775808) (q4 : 0 ≤ gs) (q5 : gs < 9223372036854775808) (q6 : ∀ x ∈ am, x < 18446744073709551616) (h1 : sd.length = 20) (h2 : rc.length = 20) (h3 : am.length = 4) (bs : List (BitVec 8)) (hb : bs = eb1 sd tm tk rc am gs ++ [0#8]) : ∀ (P : Nat) (A0 : Option Addr) (cap0 T U b : Nat) (w : World), Rg w P A0 cap0 bs 1 → Row w T etab 80 → Row w U [.int .i64 0, .int .i64 1, .int .i64 2, .int .i64 3, .int .i64 4, .int .i64 5] 3 → En w b 1 (List.replicate 20 0#8) 0 0 (List.replicate 20 0#8) (List.replicate 4 0) 0 (.slice none 0 0) → Calls Tryz.prog 20 #[.slice (some ⟨T, 0, none⟩) 7 7, .pointer (some ⟨P, 0, none⟩), .pointer (some ⟨b, 0, none⟩), .slice (some ⟨U, 0, none⟩) 6 6] w fun e w' => e = .returned (.bool false) ∧ Gq P b w w' := by
  intro P A0 cap0 T U b w h hT hU hen
  obtain ⟨e0, s0⟩ := at_adr [1#8] _ sd bs 1 (by rw [hb]; simp only [eb1, List.append_assoc] <;> rfl) rfl h1
  obtain ⟨e1, s1, n1⟩ := at_num ([1#8] ++ sd) _ bs tm 21 q0 q1 (by rw [hb]; simp only [eb1, List.append_assoc] <;> rfl) (by simp only [List.length_append, List.length_cons, List.length_nil, h1] <;> omega)
  obtain ⟨e2, s2, n2⟩ := at_num ([1#8] ++ sd ++ nf tm) _ bs tk (21 + (nf tm).length) q2 q3 (by rw [hb]; simp only [eb1, List.append_assoc] <;> rfl) (by simp only [List.length_append, List.length_cons, List.length_nil, h1] <;> omega)
  obtain ⟨e3, s3⟩ := at_adr ([1#8] ++ sd ++ nf tm ++ nf tk) _ rc bs (21 + (nf tm).length + (nf tk).length) (by rw [hb]; simp only [eb1, List.append_assoc] <;> rfl) (by simp only [List.length_append, List.length_cons, List.length_nil, h1] <;> omega) h2
  obtain ⟨e4, s4, n4⟩ := at_wide ([1#8] ++ sd ++ nf tm ++ nf tk ++ rc) _ bs am (21 + (nf tm).length + (nf tk).length + 20) h3 q6 (by rw [hb]; simp only [eb1, List.append_assoc] <;> rfl) (by simp only [List.length_append, List.length_cons, List.length_nil, h1, h2] <;> omega)
  obtain ⟨e5, s5, n5⟩ := at_num ([1#8] ++ sd ++ nf tm ++ nf tk ++ rc ++ wf am) _ bs gs (21 + (nf tm).length + (nf tk).length + 20 + (wf am).length) q4 q5 (by rw [hb]; simp only [eb1, List.append_assoc] <;> rfl) (by simp only [List.length_append, List.length_cons, List.length_nil, h1, h2] <;> omega)
  have hl : bs.length = 21 + (nf tm).length + (nf tk).length + 20 + (wf am).length + (nf gs).length + 1 := by
    rw [hb]
    simp only [eb1, List.length_append, List.length_cons, List.length_nil, h1, h2] <;> omega
  exact tread1_more sd rc tm tk am gs bs _ _ _ _ _ _ e0 s0 h1 rfl e1 s1 n1 e2 s2 n2 e3 s3 h2 rfl e4 s4 h3 n4 e5 s5 n5 (by omega) P A0 cap0 T U b w h hT hU hen
theorem HT1_cut (tm tk gs : Int) (sd rc : List (BitVec 8)) (am : List Nat) (q0 : 0 ≤ tm) (q1 : tm < 9223372036854775808) (q2 : 0 ≤ tk) (q3 : tk < 9223372036854775808) (_q4 : 0 ≤ gs) (_q5 : gs < 9223372036854775808) (q6 : ∀ x ∈ am, x < 18446744073709551616) (h1 : sd.length = 20) (h2 : rc.length = 20) (h3 : am.length = 4) (bs : List (BitVec 8)) (hb : bs = [1#8] ++ sd ++ nf tm ++ nf tk ++ rc ++ wf am ++ (nf gs).take ((nf gs).length - 1)) : ∀ (P : Nat) (A0 : Option Addr) (cap0 T U b : Nat) (w : World), Rg w P A0 cap0 bs 1 → Row w T etab 80 → Row w U [.int .i64 0, .int .i64 1, .int .i64 2, .int .i64 3, .int .i64 4, .int .i64 5] 3 → En w b 1 (List.replicate 20 0#8) 0 0 (List.replicate 20 0#8) (List.replicate 4 0) 0 (.slice none 0 0) → Calls Tryz.prog 20 #[.slice (some ⟨T, 0, none⟩) 7 7, .pointer (some ⟨P, 0, none⟩), .pointer (some ⟨b, 0, none⟩), .slice (some ⟨U, 0, none⟩) 6 6] w fun e w' => e = .returned (.bool false) ∧ Gq P b w w' := by
  intro P A0 cap0 T U b w h hT hU hen
  obtain ⟨e0, s0⟩ := at_adr [1#8] _ sd bs 1 (by rw [hb]; simp only [List.append_assoc] <;> rfl) rfl h1
  obtain ⟨e1, s1, n1⟩ := at_num ([1#8] ++ sd) _ bs tm 21 q0 q1 (by rw [hb]; simp only [List.append_assoc] <;> rfl) (by simp only [List.length_append, List.length_cons, List.length_nil, h1] <;> omega)
  obtain ⟨e2, s2, n2⟩ := at_num ([1#8] ++ sd ++ nf tm) _ bs tk (21 + (nf tm).length) q2 q3 (by rw [hb]; simp only [List.append_assoc] <;> rfl) (by simp only [List.length_append, List.length_cons, List.length_nil, h1] <;> omega)
  obtain ⟨e3, s3⟩ := at_adr ([1#8] ++ sd ++ nf tm ++ nf tk) _ rc bs (21 + (nf tm).length + (nf tk).length) (by rw [hb]; simp only [List.append_assoc] <;> rfl) (by simp only [List.length_append, List.length_cons, List.length_nil, h1] <;> omega) h2
  obtain ⟨e4, s4, n4⟩ := at_wide ([1#8] ++ sd ++ nf tm ++ nf tk ++ rc) _ bs am (21 + (nf tm).length + (nf tk).length + 20) h3 q6 (by rw [hb]; simp only [List.append_assoc] <;> rfl) (by simp only [List.length_append, List.length_cons, List.length_nil, h1, h2] <;> omega)
  have e5 := cut_num ([1#8] ++ sd ++ nf tm ++ nf tk ++ rc ++ wf am) bs gs (21 + (nf tm).length + (nf tk).length + 20 + (wf am).length) (by rw [hb]) (by simp only [List.length_append, List.length_cons, List.length_nil, h1, h2] <;> omega)
  exact tread1_cut sd rc tm tk am bs _ _ _ _ _ e0 s0 h1 rfl e1 s1 n1 e2 s2 n2 e3 s3 h2 rfl e4 s4 h3 n4 e5 P A0 cap0 T U b w h hT hU hen
theorem HT2_ok (tm : Int) (sd d : List (BitVec 8)) (n : Nat) (q0 : 0 ≤ tm) (q1 : tm < 9223372036854775808) (q7 : d.length = n) (q8 : n ≤ 4096) (h1 : sd.length = 20) (bs : List (BitVec 8)) (hb : bs = eb2 sd tm n d) : ∀ (P : Nat) (A0 : Option Addr) (cap0 T U b : Nat) (w : World), Rg w P A0 cap0 bs 1 → Row w T etab 80 → Row w U [.int .i64 0, .int .i64 1, .int .i64 6] 3 → En w b 2 (List.replicate 20 0#8) 0 0 (List.replicate 20 0#8) (List.replicate 4 0) 0 (.slice none 0 0) → Calls Tryz.prog 20 #[.slice (some ⟨T, 0, none⟩) 7 7, .pointer (some ⟨P, 0, none⟩), .pointer (some ⟨b, 0, none⟩), .slice (some ⟨U, 0, none⟩) 3 3] w fun e w' => ∃ A' c', e = .returned (.bool true) ∧ En w' b 2 sd tm 0 (List.replicate 20 0#8) (List.replicate 4 0) 0 (.slice A' n c') ∧ Bw w' (.slice A' n c') d ∧ Fresh w.heap.size (.slice A' n c') ∧ (A' = none → c' = 0) ∧ Gq P b w w' := by
  intro P A0 cap0 T U b w h hT hU hen
  obtain ⟨e0, s0⟩ := at_adr [2#8] _ sd bs 1 (by rw [hb]; simp only [eb2, List.append_assoc] <;> rfl) rfl h1
  obtain ⟨e1, s1, n1⟩ := at_num ([2#8] ++ sd) _ bs tm 21 q0 q1 (by rw [hb]; simp only [eb2, List.append_assoc] <;> rfl) (by simp only [List.length_append, List.length_cons, List.length_nil, h1] <;> omega)
  obtain ⟨e2, s2, l2, n2⟩ := at_body ([2#8] ++ sd ++ nf tm) [] d bs n (21 + (nf tm).length) q7 q8 (by rw [hb]; simp only [eb2, List.append_assoc, List.append_nil]) (by simp only [List.length_append, List.length_cons, List.length_nil, h1] <;> omega)
  have hl : bs.length = 21 + (nf tm).length + (fm [n, 0, 0, 0] (nb n 0 0 0) ++ d).length := by
    rw [hb]
    simp only [eb2, List.length_append, List.length_cons, List.length_nil, h1] <;> omega
  exact tread2_ok sd d tm n bs _ _ _ e0 s0 h1 rfl e1 s1 n1 e2 s2 l2 n2 (by omega) P A0 cap0 T U b w h hT hU hen
theorem HT2_more (tm : Int) (sd d : List (BitVec 8)) (n : Nat) (q0 : 0 ≤ tm) (q1 : tm < 9223372036854775808) (q7 : d.length = n) (q8 : n ≤ 4096) (h1 : sd.length = 20) (bs : List (BitVec 8)) (hb : bs = eb2 sd tm n d ++ [0#8]) : ∀ (P : Nat) (A0 : Option Addr) (cap0 T U b : Nat) (w : World), Rg w P A0 cap0 bs 1 → Row w T etab 80 → Row w U [.int .i64 0, .int .i64 1, .int .i64 6] 3 → En w b 2 (List.replicate 20 0#8) 0 0 (List.replicate 20 0#8) (List.replicate 4 0) 0 (.slice none 0 0) → Calls Tryz.prog 20 #[.slice (some ⟨T, 0, none⟩) 7 7, .pointer (some ⟨P, 0, none⟩), .pointer (some ⟨b, 0, none⟩), .slice (some ⟨U, 0, none⟩) 3 3] w fun e w' => e = .returned (.bool false) ∧ Gq P b w w' := by
  intro P A0 cap0 T U b w h hT hU hen
  obtain ⟨e0, s0⟩ := at_adr [2#8] _ sd bs 1 (by rw [hb]; simp only [eb2, List.append_assoc] <;> rfl) rfl h1
  obtain ⟨e1, s1, n1⟩ := at_num ([2#8] ++ sd) _ bs tm 21 q0 q1 (by rw [hb]; simp only [eb2, List.append_assoc] <;> rfl) (by simp only [List.length_append, List.length_cons, List.length_nil, h1] <;> omega)
  obtain ⟨e2, s2, l2, n2⟩ := at_body ([2#8] ++ sd ++ nf tm) [0#8] d bs n (21 + (nf tm).length) q7 q8 (by rw [hb]; simp only [eb2, List.append_assoc]) (by simp only [List.length_append, List.length_cons, List.length_nil, h1] <;> omega)
  have hl : bs.length = 21 + (nf tm).length + (fm [n, 0, 0, 0] (nb n 0 0 0) ++ d).length + 1 := by
    rw [hb]
    simp only [eb2, List.length_append, List.length_cons, List.length_nil, h1] <;> omega
  exact tread2_more sd d tm n bs _ _ _ e0 s0 h1 rfl e1 s1 n1 e2 s2 l2 n2 (by omega) P A0 cap0 T U b w h hT hU hen
theorem HT2_cut (tm : Int) (sd d : List (BitVec 8)) (n : Nat) (q0 : 0 ≤ tm) (q1 : tm < 9223372036854775808) (q7 : d.length = n) (q8 : n ≤ 4096) (h1 : sd.length = 20) (bs : List (BitVec 8)) (hb : bs = [2#8] ++ sd ++ nf tm ++ (fm [n, 0, 0, 0] (nb n 0 0 0) ++ d).take ((fm [n, 0, 0, 0] (nb n 0 0 0) ++ d).length - 1)) : ∀ (P : Nat) (A0 : Option Addr) (cap0 T U b : Nat) (w : World), Rg w P A0 cap0 bs 1 → Row w T etab 80 → Row w U [.int .i64 0, .int .i64 1, .int .i64 6] 3 → En w b 2 (List.replicate 20 0#8) 0 0 (List.replicate 20 0#8) (List.replicate 4 0) 0 (.slice none 0 0) → Calls Tryz.prog 20 #[.slice (some ⟨T, 0, none⟩) 7 7, .pointer (some ⟨P, 0, none⟩), .pointer (some ⟨b, 0, none⟩), .slice (some ⟨U, 0, none⟩) 3 3] w fun e w' => e = .returned (.bool false) ∧ Gq P b w w' := by
  intro P A0 cap0 T U b w h hT hU hen
  obtain ⟨e0, s0⟩ := at_adr [2#8] _ sd bs 1 (by rw [hb]; simp only [List.append_assoc] <;> rfl) rfl h1
  obtain ⟨e1, s1, n1⟩ := at_num ([2#8] ++ sd) _ bs tm 21 q0 q1 (by rw [hb]; simp only [List.append_assoc] <;> rfl) (by simp only [List.length_append, List.length_cons, List.length_nil, h1] <;> omega)
  have e2 := cut_body ([2#8] ++ sd ++ nf tm) d bs n (21 + (nf tm).length) q7 q8 (by rw [hb]) (by simp only [List.length_append, List.length_cons, List.length_nil, h1] <;> omega)
  exact tread2_cut sd tm bs _ _ e0 s0 h1 rfl e1 s1 n1 e2 P A0 cap0 T U b w h hT hU hen
theorem take_less (p q : List (BitVec 8)) (h : 1 ≤ q.length) : (p ++ q).take ((p ++ q).length - 1) = p ++ q.take (q.length - 1) := by
  rw [List.take_append, List.length_append, List.take_of_length_le (by omega), show p.length + q.length - 1 - p.length = q.length - 1 by omega]
theorem nf_one (n : Int) : 1 ≤ (nf n).length := by rw [nf_size]; omega
theorem vB_take (d : List (BitVec 8)) (M : Nat) : vB (d.take M) = (vB d).take M := by simp [vB]
theorem sl_cut {w : World} {g o N c : Nat} {d : List (BitVec 8)} (h : Bw w (.slice (some ⟨g, o, none⟩) N c) d) (hd : d ≠ []) (M : Nat) (hM : M ≤ d.length) : SlAt w (.slice (some ⟨g, o, none⟩) M c) (d.take M) := by
  obtain ⟨g', o', e, hn, hc, hr⟩ := bw_at h hd
  cases e
  have hl : (d.take M).length = M := by rw [List.length_take]; omega
  refine .inr ⟨g, o, c, by rw [hl], by omega, fun j v hj => hr j v ?_⟩
  rw [vB_take] at hj
  have hj2 : j < M := by
    have := (List.getElem?_eq_some_iff.1 hj).1
    simp only [List.length_take] at this
    omega
  rwa [List.getElem?_take_of_lt hj2] at hj

end Go.Proofs.YtaaehdlenigomaaGreat
