/-
  table.read of an entry.
-/
import Derived.Test.YtaaehdlenigomaaGreatLeJ
import Derived.Test.YtaaehdlenigomaaGreatLeK
import Derived.Test.YtaaehdlenigomaaGreatXRe
namespace Go.Proofs.YtaaehdlenigomaaGreat
open Go Go.RowKit
open Sha

theorem gq_in {P b k : Nat} {w : World} {cs ds es : List Value} {t : TypeId} (h : Row w k cs t) (h1 : Row w P ds 93) (h2 : Row w b es tEnt) (n1 : t ≠ 93) (n2 : t ≠ tEnt) : ¬ (k = P ∨ k = b) := by
  rintro (q | q)
  · exact row_ne h h1 n1 q
  · exact row_ne h h2 n2 q
theorem gq_trans {P b : Nat} {u v w : World} (h : Gq P b u v) (k : Gq P b v w) : Gq P b u w := Gro.trans h k
theorem Sf.of {w : World} {P a : Nat} {f : Int} (hf : ¬ f = 0) (h : Rf w P a f) : Sf w P := ⟨_, _, f, hf, h⟩

set_option maxRecDepth 100000 in
set_option maxHeartbeats 2000000 in
theorem tread1_ok (sd rc : List (BitVec 8)) (tm tk : Int) (am : List Nat) (gs : Int) (bs : List (BitVec 8)) (p1 p2 p3 p4 p5 p6 : Nat) (e0 : dgE 20 bs 1 = 0) (s0 : sub bs 1 20 = sd) (l0 : sd.length = 20) (n0 : 1 + 20 = p1) (e1 : nuE bs p1 = 0) (s1 : ((nuW bs p1 : Nat) : Int) = tm) (n1 : p1 + 1 + at8 bs p1 = p2) (e2 : nuE bs p2 = 0) (s2 : ((nuW bs p2 : Nat) : Int) = tk) (n2 : p2 + 1 + at8 bs p2 = p3) (e3 : dgE 20 bs p3 = 0) (s3 : sub bs p3 20 = rc) (l3 : rc.length = 20) (n3 : p3 + 20 = p4) (e4 : hiF 32 bs p4 = 0) (s4 : qd bs (p4 + 1 + at8 bs p4) (at8 bs p4) = vQ am) (l4 : am.length = 4) (n4 : p4 + 1 + at8 bs p4 = p5) (e5 : nuE bs p5 = 0) (s5 : ((nuW bs p5 : Nat) : Int) = gs) (n5 : p5 + 1 + at8 bs p5 = p6) (hend : ¬ p6 < bs.length) (P : Nat) (A0 : Option Addr) (cap0 T U b : Nat) (w : World) (h : Rg w P A0 cap0 bs 1) (hT : Row w T etab 80) (hU : Row w U [.int .i64 0, .int .i64 1, .int .i64 2, .int .i64 3, .int .i64 4, .int .i64 5] 3) (hb : En w b 1 (List.replicate 20 0#8) 0 0 (List.replicate 20 0#8) (List.replicate 4 0) 0 (.slice none 0 0)) :
    Calls Tryz.prog 20 #[.slice (some ⟨T, 0, none⟩) 7 7, .pointer (some ⟨P, 0, none⟩), .pointer (some ⟨b, 0, none⟩), .slice (some ⟨U, 0, none⟩) 6 6] w fun e w' => e = .returned (.bool true) ∧ En w' b 1 sd tm tk rc am gs (.slice none 0 0) ∧ Gq P b w w' := by
  have Ke0 : Hid (dgE 20 bs 1 = 0) := e0
  have Ks0 : Hid (sub bs 1 20 = sd) := s0
  have Kl0 : Hid (sd.length = 20) := l0
  have Kn0 : Hid (1 + 20 = p1) := n0
  have Ke1 : Hid (nuE bs p1 = 0) := e1
  have Ks1 : Hid (((nuW bs p1 : Nat) : Int) = tm) := s1
  have Kn1 : Hid (p1 + 1 + at8 bs p1 = p2) := n1
  have Ke2 : Hid (nuE bs p2 = 0) := e2
  have Ks2 : Hid (((nuW bs p2 : Nat) : Int) = tk) := s2
  have Kn2 : Hid (p2 + 1 + at8 bs p2 = p3) := n2
  have Ke3 : Hid (dgE 20 bs p3 = 0) := e3
  have Ks3 : Hid (sub bs p3 20 = rc) := s3
  have Kl3 : Hid (rc.length = 20) := l3
  have Kn3 : Hid (p3 + 20 = p4) := n3
  have Ke4 : Hid (hiF 32 bs p4 = 0) := e4
  have Ks4 : Hid (qd bs (p4 + 1 + at8 bs p4) (at8 bs p4) = vQ am) := s4
  have Kl4 : Hid (am.length = 4) := l4
  have Kn4 : Hid (p4 + 1 + at8 bs p4 = p5) := n4
  have Ke5 : Hid (nuE bs p5 = 0) := e5
  have Ks5 : Hid (((nuW bs p5 : Nat) : Int) = gs) := s5
  have Kn5 : Hid (p5 + 1 + at8 bs p5 = p6) := n5
  have Khend : Hid (¬ p6 < bs.length) := hend
  have HR : Hid (Rg w P A0 cap0 bs 1) := h
  have HT : Hid (Row w T etab 80) := hT
  have HU : Hid (Row w U [.int .i64 0, .int .i64 1, .int .i64 2, .int .i64 3, .int .i64 4, .int .i64 5] 3) := hU
  have HL : Hid (En w b 1 (List.replicate 20 0#8) 0 0 (List.replicate 20 0#8) (List.replicate 4 0) 0 (.slice none 0 0)) := hb
  have HG : Hid (Gq P b w w) := Gro.refl _ _
  clear h hT hU hb e0 s0 l0 n0 e1 s1 n1 e2 s2 n2 e3 s3 l3 n3 e4 s4 l4 n4 e5 s5 n5 hend
  go_enter Tryz.func20, Tryz.ntmps20
  go_wp2_with fail
  refine wp_loop_rounds 7 ?_
  rw [rounds_succ]
  have gu := HU.out.cell 0 _ rfl
  have gt := HT.out.cell 3 _ rfl
  have hx := k_entryFields_3 1 0 0 0 (List.replicate 20 0#8) (List.replicate 20 0#8) (List.replicate 4 0) (.slice none 0 0) P A0 cap0 bs 1 b sd Ks0.out Kl0.out Ke0.out w HR.out HL.out
  rw [Kn0.out] at hx
  have HK : Hid _ := hx
  clear hx
  go_wp2_with fail
  refine Calls.mono HK.out ?_
  rintro e W1 ⟨rfl, hr, hb, hG⟩
  replace HT : Hid (Row W1 T etab 80) := hG.row HT.out (gq_in HT.out HR.out.row HL.out.row (by decide) (by decide))
  replace HU : Hid (Row W1 U [.int .i64 0, .int .i64 1, .int .i64 2, .int .i64 3, .int .i64 4, .int .i64 5] 3) := hG.row HU.out (gq_in HU.out HR.out.row HL.out.row (by decide) (by decide))
  replace HR : Hid (Rg W1 P A0 cap0 bs p1) := hr
  replace HL : Hid (En W1 b 1 sd 0 0 (List.replicate 20 0#8) (List.replicate 4 0) 0 (.slice none 0 0)) := hb
  replace HG : Hid (Gq P b w W1) := gq_trans HG.out hG
  clear hr hb hG HK gu gt
  go_wp2_with fail
  rw [rounds_succ]
  have gu := HU.out.cell 1 _ rfl
  have gt := HT.out.cell 7 _ rfl
  have hx := k_entryFields_7 1 0 0 0 sd (List.replicate 20 0#8) (List.replicate 4 0) (.slice none 0 0) P A0 cap0 bs p1 b Ke1.out W1 HR.out HL.out
  rw [Ks1.out, Kn1.out] at hx
  have HK : Hid _ := hx
  clear hx
  go_wp2_with fail
  refine Calls.mono HK.out ?_
  rintro e W2 ⟨rfl, hr, hb, hG⟩
  replace HT : Hid (Row W2 T etab 80) := hG.row HT.out (gq_in HT.out HR.out.row HL.out.row (by decide) (by decide))
  replace HU : Hid (Row W2 U [.int .i64 0, .int .i64 1, .int .i64 2, .int .i64 3, .int .i64 4, .int .i64 5] 3) := hG.row HU.out (gq_in HU.out HR.out.row HL.out.row (by decide) (by decide))
  replace HR : Hid (Rg W2 P A0 cap0 bs p2) := hr
  replace HL : Hid (En W2 b 1 sd tm 0 (List.replicate 20 0#8) (List.replicate 4 0) 0 (.slice none 0 0)) := hb
  replace HG : Hid (Gq P b w W2) := gq_trans HG.out hG
  clear hr hb hG HK gu gt
  go_wp2_with fail
  rw [rounds_succ]
  have gu := HU.out.cell 2 _ rfl
  have gt := HT.out.cell 11 _ rfl
  have hx := k_entryFields_11 1 tm 0 0 sd (List.replicate 20 0#8) (List.replicate 4 0) (.slice none 0 0) P A0 cap0 bs p2 b Ke2.out W2 HR.out HL.out
  rw [Ks2.out, Kn2.out] at hx
  have HK : Hid _ := hx
  clear hx
  go_wp2_with fail
  refine Calls.mono HK.out ?_
  rintro e W3 ⟨rfl, hr, hb, hG⟩
  replace HT : Hid (Row W3 T etab 80) := hG.row HT.out (gq_in HT.out HR.out.row HL.out.row (by decide) (by decide))
  replace HU : Hid (Row W3 U [.int .i64 0, .int .i64 1, .int .i64 2, .int .i64 3, .int .i64 4, .int .i64 5] 3) := hG.row HU.out (gq_in HU.out HR.out.row HL.out.row (by decide) (by decide))
  replace HR : Hid (Rg W3 P A0 cap0 bs p3) := hr
  replace HL : Hid (En W3 b 1 sd tm tk (List.replicate 20 0#8) (List.replicate 4 0) 0 (.slice none 0 0)) := hb
  replace HG : Hid (Gq P b w W3) := gq_trans HG.out hG
  clear hr hb hG HK gu gt
  go_wp2_with fail
  rw [rounds_succ]
  have gu := HU.out.cell 3 _ rfl
  have gt := HT.out.cell 15 _ rfl
  have hx := k_entryFields_14 1 tm tk 0 sd (List.replicate 20 0#8) (List.replicate 4 0) (.slice none 0 0) P A0 cap0 bs p3 b rc Ks3.out Kl3.out Ke3.out W3 HR.out HL.out
  rw [Kn3.out] at hx
  have HK : Hid _ := hx
  clear hx
  go_wp2_with fail
  refine Calls.mono HK.out ?_
  rintro e W4 ⟨rfl, hr, hb, hG⟩
  replace HT : Hid (Row W4 T etab 80) := hG.row HT.out (gq_in HT.out HR.out.row HL.out.row (by decide) (by decide))
  replace HU : Hid (Row W4 U [.int .i64 0, .int .i64 1, .int .i64 2, .int .i64 3, .int .i64 4, .int .i64 5] 3) := hG.row HU.out (gq_in HU.out HR.out.row HL.out.row (by decide) (by decide))
  replace HR : Hid (Rg W4 P A0 cap0 bs p4) := hr
  replace HL : Hid (En W4 b 1 sd tm tk rc (List.replicate 4 0) 0 (.slice none 0 0)) := hb
  replace HG : Hid (Gq P b w W4) := gq_trans HG.out hG
  clear hr hb hG HK gu gt
  go_wp2_with fail
  rw [rounds_succ]
  have gu := HU.out.cell 4 _ rfl
  have gt := HT.out.cell 19 _ rfl
  have hx := k_entryFields_18 1 tm tk 0 sd rc (List.replicate 4 0) (.slice none 0 0) P A0 cap0 bs p4 b am Ks4.out Kl4.out Ke4.out W4 HR.out HL.out
  rw [Kn4.out] at hx
  have HK : Hid _ := hx
  clear hx
  go_wp2_with fail
  refine Calls.mono HK.out ?_
  rintro e W5 ⟨rfl, hr, hb, hG⟩
  replace HT : Hid (Row W5 T etab 80) := hG.row HT.out (gq_in HT.out HR.out.row HL.out.row (by decide) (by decide))
  replace HU : Hid (Row W5 U [.int .i64 0, .int .i64 1, .int .i64 2, .int .i64 3, .int .i64 4, .int .i64 5] 3) := hG.row HU.out (gq_in HU.out HR.out.row HL.out.row (by decide) (by decide))
  replace HR : Hid (Rg W5 P A0 cap0 bs p5) := hr
  replace HL : Hid (En W5 b 1 sd tm tk rc am 0 (.slice none 0 0)) := hb
  replace HG : Hid (Gq P b w W5) := gq_trans HG.out hG
  clear hr hb hG HK gu gt
  go_wp2_with fail
  rw [rounds_succ]
  have gu := HU.out.cell 5 _ rfl
  have gt := HT.out.cell 23 _ rfl
  have hx := k_entryFields_22 1 tm tk 0 sd rc am (.slice none 0 0) P A0 cap0 bs p5 b Ke5.out W5 HR.out HL.out
  rw [Ks5.out, Kn5.out] at hx
  have HK : Hid _ := hx
  clear hx
  go_wp2_with fail
  refine Calls.mono HK.out ?_
  rintro e W6 ⟨rfl, hr, hb, hG⟩
  replace HT : Hid (Row W6 T etab 80) := hG.row HT.out (gq_in HT.out HR.out.row HL.out.row (by decide) (by decide))
  replace HU : Hid (Row W6 U [.int .i64 0, .int .i64 1, .int .i64 2, .int .i64 3, .int .i64 4, .int .i64 5] 3) := hG.row HU.out (gq_in HU.out HR.out.row HL.out.row (by decide) (by decide))
  replace HR : Hid (Rg W6 P A0 cap0 bs p6) := hr
  replace HL : Hid (En W6 b 1 sd tm tk rc am gs (.slice none 0 0)) := hb
  replace HG : Hid (Gq P b w W6) := gq_trans HG.out hG
  clear hr hb hG HK gu gt
  go_wp2_with fail
  rw [rounds_succ]
  go_wp2_with fail
  refine Calls.mono (end_rest P A0 cap0 bs p6 W6 HR.out) ?_
  rintro e V ⟨rfl, m, rfl⟩
  rw [if_neg Khend.out]
  go_wp2_with fail
  go_ret
  exact ⟨rfl, ⟨HL.out.row, HL.out.ls, HL.out.lt, HL.out.la⟩, HG.out.drewN m⟩

set_option maxRecDepth 100000 in
set_option maxHeartbeats 2000000 in
theorem tread1_more (sd rc : List (BitVec 8)) (tm tk : Int) (am : List Nat) (gs : Int) (bs : List (BitVec 8)) (p1 p2 p3 p4 p5 p6 : Nat) (e0 : dgE 20 bs 1 = 0) (s0 : sub bs 1 20 = sd) (l0 : sd.length = 20) (n0 : 1 + 20 = p1) (e1 : nuE bs p1 = 0) (s1 : ((nuW bs p1 : Nat) : Int) = tm) (n1 : p1 + 1 + at8 bs p1 = p2) (e2 : nuE bs p2 = 0) (s2 : ((nuW bs p2 : Nat) : Int) = tk) (n2 : p2 + 1 + at8 bs p2 = p3) (e3 : dgE 20 bs p3 = 0) (s3 : sub bs p3 20 = rc) (l3 : rc.length = 20) (n3 : p3 + 20 = p4) (e4 : hiF 32 bs p4 = 0) (s4 : qd bs (p4 + 1 + at8 bs p4) (at8 bs p4) = vQ am) (l4 : am.length = 4) (n4 : p4 + 1 + at8 bs p4 = p5) (e5 : nuE bs p5 = 0) (s5 : ((nuW bs p5 : Nat) : Int) = gs) (n5 : p5 + 1 + at8 bs p5 = p6) (hend : p6 < bs.length) (P : Nat) (A0 : Option Addr) (cap0 T U b : Nat) (w : World) (h : Rg w P A0 cap0 bs 1) (hT : Row w T etab 80) (hU : Row w U [.int .i64 0, .int .i64 1, .int .i64 2, .int .i64 3, .int .i64 4, .int .i64 5] 3) (hb : En w b 1 (List.replicate 20 0#8) 0 0 (List.replicate 20 0#8) (List.replicate 4 0) 0 (.slice none 0 0)) :
    Calls Tryz.prog 20 #[.slice (some ⟨T, 0, none⟩) 7 7, .pointer (some ⟨P, 0, none⟩), .pointer (some ⟨b, 0, none⟩), .slice (some ⟨U, 0, none⟩) 6 6] w fun e w' => e = .returned (.bool false) ∧ Gq P b w w' := by
  have Ke0 : Hid (dgE 20 bs 1 = 0) := e0
  have Ks0 : Hid (sub bs 1 20 = sd) := s0
  have Kl0 : Hid (sd.length = 20) := l0
  have Kn0 : Hid (1 + 20 = p1) := n0
  have Ke1 : Hid (nuE bs p1 = 0) := e1
  have Ks1 : Hid (((nuW bs p1 : Nat) : Int) = tm) := s1
  have Kn1 : Hid (p1 + 1 + at8 bs p1 = p2) := n1
  have Ke2 : Hid (nuE bs p2 = 0) := e2
  have Ks2 : Hid (((nuW bs p2 : Nat) : Int) = tk) := s2
  have Kn2 : Hid (p2 + 1 + at8 bs p2 = p3) := n2
  have Ke3 : Hid (dgE 20 bs p3 = 0) := e3
  have Ks3 : Hid (sub bs p3 20 = rc) := s3
  have Kl3 : Hid (rc.length = 20) := l3
  have Kn3 : Hid (p3 + 20 = p4) := n3
  have Ke4 : Hid (hiF 32 bs p4 = 0) := e4
  have Ks4 : Hid (qd bs (p4 + 1 + at8 bs p4) (at8 bs p4) = vQ am) := s4
  have Kl4 : Hid (am.length = 4) := l4
  have Kn4 : Hid (p4 + 1 + at8 bs p4 = p5) := n4
  have Ke5 : Hid (nuE bs p5 = 0) := e5
  have Ks5 : Hid (((nuW bs p5 : Nat) : Int) = gs) := s5
  have Kn5 : Hid (p5 + 1 + at8 bs p5 = p6) := n5
  have Khend : Hid (p6 < bs.length) := hend
  have HR : Hid (Rg w P A0 cap0 bs 1) := h
  have HT : Hid (Row w T etab 80) := hT
  have HU : Hid (Row w U [.int .i64 0, .int .i64 1, .int .i64 2, .int .i64 3, .int .i64 4, .int .i64 5] 3) := hU
  have HL : Hid (En w b 1 (List.replicate 20 0#8) 0 0 (List.replicate 20 0#8) (List.replicate 4 0) 0 (.slice none 0 0)) := hb
  have HG : Hid (Gq P b w w) := Gro.refl _ _
  clear h hT hU hb e0 s0 l0 n0 e1 s1 n1 e2 s2 n2 e3 s3 l3 n3 e4 s4 l4 n4 e5 s5 n5 hend
  go_enter Tryz.func20, Tryz.ntmps20
  go_wp2_with fail
  refine wp_loop_rounds 7 ?_
  rw [rounds_succ]
  have gu := HU.out.cell 0 _ rfl
  have gt := HT.out.cell 3 _ rfl
  have hx := k_entryFields_3 1 0 0 0 (List.replicate 20 0#8) (List.replicate 20 0#8) (List.replicate 4 0) (.slice none 0 0) P A0 cap0 bs 1 b sd Ks0.out Kl0.out Ke0.out w HR.out HL.out
  rw [Kn0.out] at hx
  have HK : Hid _ := hx
  clear hx
  go_wp2_with fail
  refine Calls.mono HK.out ?_
  rintro e W1 ⟨rfl, hr, hb, hG⟩
  replace HT : Hid (Row W1 T etab 80) := hG.row HT.out (gq_in HT.out HR.out.row HL.out.row (by decide) (by decide))
  replace HU : Hid (Row W1 U [.int .i64 0, .int .i64 1, .int .i64 2, .int .i64 3, .int .i64 4, .int .i64 5] 3) := hG.row HU.out (gq_in HU.out HR.out.row HL.out.row (by decide) (by decide))
  replace HR : Hid (Rg W1 P A0 cap0 bs p1) := hr
  replace HL : Hid (En W1 b 1 sd 0 0 (List.replicate 20 0#8) (List.replicate 4 0) 0 (.slice none 0 0)) := hb
  replace HG : Hid (Gq P b w W1) := gq_trans HG.out hG
  clear hr hb hG HK gu gt
  go_wp2_with fail
  rw [rounds_succ]
  have gu := HU.out.cell 1 _ rfl
  have gt := HT.out.cell 7 _ rfl
  have hx := k_entryFields_7 1 0 0 0 sd (List.replicate 20 0#8) (List.replicate 4 0) (.slice none 0 0) P A0 cap0 bs p1 b Ke1.out W1 HR.out HL.out
  rw [Ks1.out, Kn1.out] at hx
  have HK : Hid _ := hx
  clear hx
  go_wp2_with fail
  refine Calls.mono HK.out ?_
  rintro e W2 ⟨rfl, hr, hb, hG⟩
  replace HT : Hid (Row W2 T etab 80) := hG.row HT.out (gq_in HT.out HR.out.row HL.out.row (by decide) (by decide))
  replace HU : Hid (Row W2 U [.int .i64 0, .int .i64 1, .int .i64 2, .int .i64 3, .int .i64 4, .int .i64 5] 3) := hG.row HU.out (gq_in HU.out HR.out.row HL.out.row (by decide) (by decide))
  replace HR : Hid (Rg W2 P A0 cap0 bs p2) := hr
  replace HL : Hid (En W2 b 1 sd tm 0 (List.replicate 20 0#8) (List.replicate 4 0) 0 (.slice none 0 0)) := hb
  replace HG : Hid (Gq P b w W2) := gq_trans HG.out hG
  clear hr hb hG HK gu gt
  go_wp2_with fail
  rw [rounds_succ]
  have gu := HU.out.cell 2 _ rfl
  have gt := HT.out.cell 11 _ rfl
  have hx := k_entryFields_11 1 tm 0 0 sd (List.replicate 20 0#8) (List.replicate 4 0) (.slice none 0 0) P A0 cap0 bs p2 b Ke2.out W2 HR.out HL.out
  rw [Ks2.out, Kn2.out] at hx
  have HK : Hid _ := hx
  clear hx
  go_wp2_with fail
  refine Calls.mono HK.out ?_
  rintro e W3 ⟨rfl, hr, hb, hG⟩
  replace HT : Hid (Row W3 T etab 80) := hG.row HT.out (gq_in HT.out HR.out.row HL.out.row (by decide) (by decide))
  replace HU : Hid (Row W3 U [.int .i64 0, .int .i64 1, .int .i64 2, .int .i64 3, .int .i64 4, .int .i64 5] 3) := hG.row HU.out (gq_in HU.out HR.out.row HL.out.row (by decide) (by decide))
  replace HR : Hid (Rg W3 P A0 cap0 bs p3) := hr
  replace HL : Hid (En W3 b 1 sd tm tk (List.replicate 20 0#8) (List.replicate 4 0) 0 (.slice none 0 0)) := hb
  replace HG : Hid (Gq P b w W3) := gq_trans HG.out hG
  clear hr hb hG HK gu gt
  go_wp2_with fail
  rw [rounds_succ]
  have gu := HU.out.cell 3 _ rfl
  have gt := HT.out.cell 15 _ rfl
  have hx := k_entryFields_14 1 tm tk 0 sd (List.replicate 20 0#8) (List.replicate 4 0) (.slice none 0 0) P A0 cap0 bs p3 b rc Ks3.out Kl3.out Ke3.out W3 HR.out HL.out
  rw [Kn3.out] at hx
  have HK : Hid _ := hx
  clear hx
  go_wp2_with fail
  refine Calls.mono HK.out ?_
  rintro e W4 ⟨rfl, hr, hb, hG⟩
  replace HT : Hid (Row W4 T etab 80) := hG.row HT.out (gq_in HT.out HR.out.row HL.out.row (by decide) (by decide))
  replace HU : Hid (Row W4 U [.int .i64 0, .int .i64 1, .int .i64 2, .int .i64 3, .int .i64 4, .int .i64 5] 3) := hG.row HU.out (gq_in HU.out HR.out.row HL.out.row (by decide) (by decide))
  replace HR : Hid (Rg W4 P A0 cap0 bs p4) := hr
  replace HL : Hid (En W4 b 1 sd tm tk rc (List.replicate 4 0) 0 (.slice none 0 0)) := hb
  replace HG : Hid (Gq P b w W4) := gq_trans HG.out hG
  clear hr hb hG HK gu gt
  go_wp2_with fail
  rw [rounds_succ]
  have gu := HU.out.cell 4 _ rfl
  have gt := HT.out.cell 19 _ rfl
  have hx := k_entryFields_18 1 tm tk 0 sd rc (List.replicate 4 0) (.slice none 0 0) P A0 cap0 bs p4 b am Ks4.out Kl4.out Ke4.out W4 HR.out HL.out
  rw [Kn4.out] at hx
  have HK : Hid _ := hx
  clear hx
  go_wp2_with fail
  refine Calls.mono HK.out ?_
  rintro e W5 ⟨rfl, hr, hb, hG⟩
  replace HT : Hid (Row W5 T etab 80) := hG.row HT.out (gq_in HT.out HR.out.row HL.out.row (by decide) (by decide))
  replace HU : Hid (Row W5 U [.int .i64 0, .int .i64 1, .int .i64 2, .int .i64 3, .int .i64 4, .int .i64 5] 3) := hG.row HU.out (gq_in HU.out HR.out.row HL.out.row (by decide) (by decide))
  replace HR : Hid (Rg W5 P A0 cap0 bs p5) := hr
  replace HL : Hid (En W5 b 1 sd tm tk rc am 0 (.slice none 0 0)) := hb
  replace HG : Hid (Gq P b w W5) := gq_trans HG.out hG
  clear hr hb hG HK gu gt
  go_wp2_with fail
  rw [rounds_succ]
  have gu := HU.out.cell 5 _ rfl
  have gt := HT.out.cell 23 _ rfl
  have hx := k_entryFields_22 1 tm tk 0 sd rc am (.slice none 0 0) P A0 cap0 bs p5 b Ke5.out W5 HR.out HL.out
  rw [Ks5.out, Kn5.out] at hx
  have HK : Hid _ := hx
  clear hx
  go_wp2_with fail
  refine Calls.mono HK.out ?_
  rintro e W6 ⟨rfl, hr, hb, hG⟩
  replace HT : Hid (Row W6 T etab 80) := hG.row HT.out (gq_in HT.out HR.out.row HL.out.row (by decide) (by decide))
  replace HU : Hid (Row W6 U [.int .i64 0, .int .i64 1, .int .i64 2, .int .i64 3, .int .i64 4, .int .i64 5] 3) := hG.row HU.out (gq_in HU.out HR.out.row HL.out.row (by decide) (by decide))
  replace HR : Hid (Rg W6 P A0 cap0 bs p6) := hr
  replace HL : Hid (En W6 b 1 sd tm tk rc am gs (.slice none 0 0)) := hb
  replace HG : Hid (Gq P b w W6) := gq_trans HG.out hG
  clear hr hb hG HK gu gt
  go_wp2_with fail
  rw [rounds_succ]
  go_wp2_with fail
  refine Calls.mono (end_rest P A0 cap0 bs p6 W6 HR.out) ?_
  rintro e V ⟨rfl, m, rfl⟩
  rw [if_pos Khend.out]
  go_wp2_with fail
  go_ret
  exact ⟨rfl, HG.out.drewN m⟩

set_option maxRecDepth 100000 in
set_option maxHeartbeats 2000000 in
theorem tread1_cut (sd rc : List (BitVec 8)) (tm tk : Int) (am : List Nat) (bs : List (BitVec 8)) (p1 p2 p3 p4 p5 : Nat) (e0 : dgE 20 bs 1 = 0) (s0 : sub bs 1 20 = sd) (l0 : sd.length = 20) (n0 : 1 + 20 = p1) (e1 : nuE bs p1 = 0) (s1 : ((nuW bs p1 : Nat) : Int) = tm) (n1 : p1 + 1 + at8 bs p1 = p2) (e2 : nuE bs p2 = 0) (s2 : ((nuW bs p2 : Nat) : Int) = tk) (n2 : p2 + 1 + at8 bs p2 = p3) (e3 : dgE 20 bs p3 = 0) (s3 : sub bs p3 20 = rc) (l3 : rc.length = 20) (n3 : p3 + 20 = p4) (e4 : hiF 32 bs p4 = 0) (s4 : qd bs (p4 + 1 + at8 bs p4) (at8 bs p4) = vQ am) (l4 : am.length = 4) (n4 : p4 + 1 + at8 bs p4 = p5) (e5 : ¬ nuE bs p5 = 0) (P : Nat) (A0 : Option Addr) (cap0 T U b : Nat) (w : World) (h : Rg w P A0 cap0 bs 1) (hT : Row w T etab 80) (hU : Row w U [.int .i64 0, .int .i64 1, .int .i64 2, .int .i64 3, .int .i64 4, .int .i64 5] 3) (hb : En w b 1 (List.replicate 20 0#8) 0 0 (List.replicate 20 0#8) (List.replicate 4 0) 0 (.slice none 0 0)) :
    Calls Tryz.prog 20 #[.slice (some ⟨T, 0, none⟩) 7 7, .pointer (some ⟨P, 0, none⟩), .pointer (some ⟨b, 0, none⟩), .slice (some ⟨U, 0, none⟩) 6 6] w fun e w' => e = .returned (.bool false) ∧ Gq P b w w' := by
  have Ke0 : Hid (dgE 20 bs 1 = 0) := e0
  have Ks0 : Hid (sub bs 1 20 = sd) := s0
  have Kl0 : Hid (sd.length = 20) := l0
  have Kn0 : Hid (1 + 20 = p1) := n0
  have Ke1 : Hid (nuE bs p1 = 0) := e1
  have Ks1 : Hid (((nuW bs p1 : Nat) : Int) = tm) := s1
  have Kn1 : Hid (p1 + 1 + at8 bs p1 = p2) := n1
  have Ke2 : Hid (nuE bs p2 = 0) := e2
  have Ks2 : Hid (((nuW bs p2 : Nat) : Int) = tk) := s2
  have Kn2 : Hid (p2 + 1 + at8 bs p2 = p3) := n2
  have Ke3 : Hid (dgE 20 bs p3 = 0) := e3
  have Ks3 : Hid (sub bs p3 20 = rc) := s3
  have Kl3 : Hid (rc.length = 20) := l3
  have Kn3 : Hid (p3 + 20 = p4) := n3
  have Ke4 : Hid (hiF 32 bs p4 = 0) := e4
  have Ks4 : Hid (qd bs (p4 + 1 + at8 bs p4) (at8 bs p4) = vQ am) := s4
  have Kl4 : Hid (am.length = 4) := l4
  have Kn4 : Hid (p4 + 1 + at8 bs p4 = p5) := n4
  have Ke5 : Hid (¬ nuE bs p5 = 0) := e5
  have HR : Hid (Rg w P A0 cap0 bs 1) := h
  have HT : Hid (Row w T etab 80) := hT
  have HU : Hid (Row w U [.int .i64 0, .int .i64 1, .int .i64 2, .int .i64 3, .int .i64 4, .int .i64 5] 3) := hU
  have HL : Hid (En w b 1 (List.replicate 20 0#8) 0 0 (List.replicate 20 0#8) (List.replicate 4 0) 0 (.slice none 0 0)) := hb
  have HG : Hid (Gq P b w w) := Gro.refl _ _
  clear h hT hU hb e0 s0 l0 n0 e1 s1 n1 e2 s2 n2 e3 s3 l3 n3 e4 s4 l4 n4 e5
  go_enter Tryz.func20, Tryz.ntmps20
  go_wp2_with fail
  refine wp_loop_rounds 7 ?_
  rw [rounds_succ]
  have gu := HU.out.cell 0 _ rfl
  have gt := HT.out.cell 3 _ rfl
  have hx := k_entryFields_3 1 0 0 0 (List.replicate 20 0#8) (List.replicate 20 0#8) (List.replicate 4 0) (.slice none 0 0) P A0 cap0 bs 1 b sd Ks0.out Kl0.out Ke0.out w HR.out HL.out
  rw [Kn0.out] at hx
  have HK : Hid _ := hx
  clear hx
  go_wp2_with fail
  refine Calls.mono HK.out ?_
  rintro e W1 ⟨rfl, hr, hb, hG⟩
  replace HT : Hid (Row W1 T etab 80) := hG.row HT.out (gq_in HT.out HR.out.row HL.out.row (by decide) (by decide))
  replace HU : Hid (Row W1 U [.int .i64 0, .int .i64 1, .int .i64 2, .int .i64 3, .int .i64 4, .int .i64 5] 3) := hG.row HU.out (gq_in HU.out HR.out.row HL.out.row (by decide) (by decide))
  replace HR : Hid (Rg W1 P A0 cap0 bs p1) := hr
  replace HL : Hid (En W1 b 1 sd 0 0 (List.replicate 20 0#8) (List.replicate 4 0) 0 (.slice none 0 0)) := hb
  replace HG : Hid (Gq P b w W1) := gq_trans HG.out hG
  clear hr hb hG HK gu gt
  go_wp2_with fail
  rw [rounds_succ]
  have gu := HU.out.cell 1 _ rfl
  have gt := HT.out.cell 7 _ rfl
  have hx := k_entryFields_7 1 0 0 0 sd (List.replicate 20 0#8) (List.replicate 4 0) (.slice none 0 0) P A0 cap0 bs p1 b Ke1.out W1 HR.out HL.out
  rw [Ks1.out, Kn1.out] at hx
  have HK : Hid _ := hx
  clear hx
  go_wp2_with fail
  refine Calls.mono HK.out ?_
  rintro e W2 ⟨rfl, hr, hb, hG⟩
  replace HT : Hid (Row W2 T etab 80) := hG.row HT.out (gq_in HT.out HR.out.row HL.out.row (by decide) (by decide))
  replace HU : Hid (Row W2 U [.int .i64 0, .int .i64 1, .int .i64 2, .int .i64 3, .int .i64 4, .int .i64 5] 3) := hG.row HU.out (gq_in HU.out HR.out.row HL.out.row (by decide) (by decide))
  replace HR : Hid (Rg W2 P A0 cap0 bs p2) := hr
  replace HL : Hid (En W2 b 1 sd tm 0 (List.replicate 20 0#8) (List.replicate 4 0) 0 (.slice none 0 0)) := hb
  replace HG : Hid (Gq P b w W2) := gq_trans HG.out hG
  clear hr hb hG HK gu gt
  go_wp2_with fail
  rw [rounds_succ]
  have gu := HU.out.cell 2 _ rfl
  have gt := HT.out.cell 11 _ rfl
  have hx := k_entryFields_11 1 tm 0 0 sd (List.replicate 20 0#8) (List.replicate 4 0) (.slice none 0 0) P A0 cap0 bs p2 b Ke2.out W2 HR.out HL.out
  rw [Ks2.out, Kn2.out] at hx
  have HK : Hid _ := hx
  clear hx
  go_wp2_with fail
  refine Calls.mono HK.out ?_
  rintro e W3 ⟨rfl, hr, hb, hG⟩
  replace HT : Hid (Row W3 T etab 80) := hG.row HT.out (gq_in HT.out HR.out.row HL.out.row (by decide) (by decide))
  replace HU : Hid (Row W3 U [.int .i64 0, .int .i64 1, .int .i64 2, .int .i64 3, .int .i64 4, .int .i64 5] 3) := hG.row HU.out (gq_in HU.out HR.out.row HL.out.row (by decide) (by decide))
  replace HR : Hid (Rg W3 P A0 cap0 bs p3) := hr
  replace HL : Hid (En W3 b 1 sd tm tk (List.replicate 20 0#8) (List.replicate 4 0) 0 (.slice none 0 0)) := hb
  replace HG : Hid (Gq P b w W3) := gq_trans HG.out hG
  clear hr hb hG HK gu gt
  go_wp2_with fail
  rw [rounds_succ]
  have gu := HU.out.cell 3 _ rfl
  have gt := HT.out.cell 15 _ rfl
  have hx := k_entryFields_14 1 tm tk 0 sd (List.replicate 20 0#8) (List.replicate 4 0) (.slice none 0 0) P A0 cap0 bs p3 b rc Ks3.out Kl3.out Ke3.out W3 HR.out HL.out
  rw [Kn3.out] at hx
  have HK : Hid _ := hx
  clear hx
  go_wp2_with fail
  refine Calls.mono HK.out ?_
  rintro e W4 ⟨rfl, hr, hb, hG⟩
  replace HT : Hid (Row W4 T etab 80) := hG.row HT.out (gq_in HT.out HR.out.row HL.out.row (by decide) (by decide))
  replace HU : Hid (Row W4 U [.int .i64 0, .int .i64 1, .int .i64 2, .int .i64 3, .int .i64 4, .int .i64 5] 3) := hG.row HU.out (gq_in HU.out HR.out.row HL.out.row (by decide) (by decide))
  replace HR : Hid (Rg W4 P A0 cap0 bs p4) := hr
  replace HL : Hid (En W4 b 1 sd tm tk rc (List.replicate 4 0) 0 (.slice none 0 0)) := hb
  replace HG : Hid (Gq P b w W4) := gq_trans HG.out hG
  clear hr hb hG HK gu gt
  go_wp2_with fail
  rw [rounds_succ]
  have gu := HU.out.cell 4 _ rfl
  have gt := HT.out.cell 19 _ rfl
  have hx := k_entryFields_18 1 tm tk 0 sd rc (List.replicate 4 0) (.slice none 0 0) P A0 cap0 bs p4 b am Ks4.out Kl4.out Ke4.out W4 HR.out HL.out
  rw [Kn4.out] at hx
  have HK : Hid _ := hx
  clear hx
  go_wp2_with fail
  refine Calls.mono HK.out ?_
  rintro e W5 ⟨rfl, hr, hb, hG⟩
  replace HT : Hid (Row W5 T etab 80) := hG.row HT.out (gq_in HT.out HR.out.row HL.out.row (by decide) (by decide))
  replace HU : Hid (Row W5 U [.int .i64 0, .int .i64 1, .int .i64 2, .int .i64 3, .int .i64 4, .int .i64 5] 3) := hG.row HU.out (gq_in HU.out HR.out.row HL.out.row (by decide) (by decide))
  replace HR : Hid (Rg W5 P A0 cap0 bs p5) := hr
  replace HL : Hid (En W5 b 1 sd tm tk rc am 0 (.slice none 0 0)) := hb
  replace HG : Hid (Gq P b w W5) := gq_trans HG.out hG
  clear hr hb hG HK gu gt
  go_wp2_with fail
  rw [rounds_succ]
  have gu := HU.out.cell 5 _ rfl
  have gt := HT.out.cell 23 _ rfl
  have hx := x_entryFields_22 1 tm tk 0 sd rc am (.slice none 0 0) P b W5 (fun e => row_ne HL.out.row HR.out.row (by decide) e.symm) (Calls.mono (face_number P A0 cap0 bs p5 W5 HR.out) (fun e W hq => ⟨(hq.2.1 Ke5.out).1, Sf.of Ke5.out (hq.2.1 Ke5.out).2, hq.2.2⟩)) HL.out
  have HK : Hid _ := hx
  clear hx
  go_wp2_with fail
  refine Calls.mono HK.out ?_
  rintro e W6 ⟨rfl, hr, hb, hG⟩
  obtain ⟨vz, az, fz, hfz, hrz⟩ := hr
  have HE : Hid _ := end_shut P vz az fz hfz W6 hrz
  have HNZ : Hid (¬ fz = 0) := hfz
  have hnz : (fz == 0) = false := by simpa using hfz
  have HQ : Hid (Gq P b w W6) := gq_trans HG.out hG
  clear hrz hfz hb hG HK gu gt HT HU HR HL HG
  go_wp2_with fail
  rw [rounds_succ]
  go_wp2_with fail
  refine Calls.mono HE.out ?_
  rintro e V ⟨rfl, hqq⟩
  obtain rfl := hqq.symm
  go_wp2_with fail
  go_ret
  exact ⟨rfl, HQ.out⟩

set_option maxRecDepth 100000 in
set_option maxHeartbeats 2000000 in
theorem tread2_ok (sd d : List (BitVec 8)) (tm : Int) (n : Nat) (bs : List (BitVec 8)) (p1 p2 p3 : Nat) (e0 : dgE 20 bs 1 = 0) (s0 : sub bs 1 20 = sd) (l0 : sd.length = 20) (n0 : 1 + 20 = p1) (e1 : nuE bs p1 = 0) (s1 : ((nuW bs p1 : Nat) : Int) = tm) (n1 : p1 + 1 + at8 bs p1 = p2) (e2 : cnE bs p2 4096 = 0) (s2 : nuW bs p2 = n) (l2 : sub bs (p2 + 1 + at8 bs p2) n = d) (n2 : p2 + 1 + at8 bs p2 + n = p3) (hend : ¬ p3 < bs.length) (P : Nat) (A0 : Option Addr) (cap0 T U b : Nat) (w : World) (h : Rg w P A0 cap0 bs 1) (hT : Row w T etab 80) (hU : Row w U [.int .i64 0, .int .i64 1, .int .i64 6] 3) (hb : En w b 2 (List.replicate 20 0#8) 0 0 (List.replicate 20 0#8) (List.replicate 4 0) 0 (.slice none 0 0)) :
    Calls Tryz.prog 20 #[.slice (some ⟨T, 0, none⟩) 7 7, .pointer (some ⟨P, 0, none⟩), .pointer (some ⟨b, 0, none⟩), .slice (some ⟨U, 0, none⟩) 3 3] w fun e w' => ∃ A' c', e = .returned (.bool true) ∧ En w' b 2 sd tm 0 (List.replicate 20 0#8) (List.replicate 4 0) 0 (.slice A' n c') ∧ Bw w' (.slice A' n c') d ∧ Fresh w.heap.size (.slice A' n c') ∧ (A' = none → c' = 0) ∧ Gq P b w w' := by
  have Ke0 : Hid (dgE 20 bs 1 = 0) := e0
  have Ks0 : Hid (sub bs 1 20 = sd) := s0
  have Kl0 : Hid (sd.length = 20) := l0
  have Kn0 : Hid (1 + 20 = p1) := n0
  have Ke1 : Hid (nuE bs p1 = 0) := e1
  have Ks1 : Hid (((nuW bs p1 : Nat) : Int) = tm) := s1
  have Kn1 : Hid (p1 + 1 + at8 bs p1 = p2) := n1
  have Ke2 : Hid (cnE bs p2 4096 = 0) := e2
  have Ks2 : Hid (nuW bs p2 = n) := s2
  have Kl2 : Hid (sub bs (p2 + 1 + at8 bs p2) n = d) := l2
  have Kn2 : Hid (p2 + 1 + at8 bs p2 + n = p3) := n2
  have Khend : Hid (¬ p3 < bs.length) := hend
  have HR : Hid (Rg w P A0 cap0 bs 1) := h
  have HT : Hid (Row w T etab 80) := hT
  have HU : Hid (Row w U [.int .i64 0, .int .i64 1, .int .i64 6] 3) := hU
  have HL : Hid (En w b 2 (List.replicate 20 0#8) 0 0 (List.replicate 20 0#8) (List.replicate 4 0) 0 (.slice none 0 0)) := hb
  have HG : Hid (Gq P b w w) := Gro.refl _ _
  clear h hT hU hb e0 s0 l0 n0 e1 s1 n1 e2 s2 l2 n2 hend
  go_enter Tryz.func20, Tryz.ntmps20
  go_wp2_with fail
  refine wp_loop_rounds 4 ?_
  rw [rounds_succ]
  have gu := HU.out.cell 0 _ rfl
  have gt := HT.out.cell 3 _ rfl
  have hx := k_entryFields_3 2 0 0 0 (List.replicate 20 0#8) (List.replicate 20 0#8) (List.replicate 4 0) (.slice none 0 0) P A0 cap0 bs 1 b sd Ks0.out Kl0.out Ke0.out w HR.out HL.out
  rw [Kn0.out] at hx
  have HK : Hid _ := hx
  clear hx
  go_wp2_with fail
  refine Calls.mono HK.out ?_
  rintro e W1 ⟨rfl, hr, hb, hG⟩
  replace HT : Hid (Row W1 T etab 80) := hG.row HT.out (gq_in HT.out HR.out.row HL.out.row (by decide) (by decide))
  replace HU : Hid (Row W1 U [.int .i64 0, .int .i64 1, .int .i64 6] 3) := hG.row HU.out (gq_in HU.out HR.out.row HL.out.row (by decide) (by decide))
  replace HR : Hid (Rg W1 P A0 cap0 bs p1) := hr
  replace HL : Hid (En W1 b 2 sd 0 0 (List.replicate 20 0#8) (List.replicate 4 0) 0 (.slice none 0 0)) := hb
  replace HG : Hid (Gq P b w W1) := gq_trans HG.out hG
  clear hr hb hG HK gu gt
  go_wp2_with fail
  rw [rounds_succ]
  have gu := HU.out.cell 1 _ rfl
  have gt := HT.out.cell 7 _ rfl
  have hx := k_entryFields_7 2 0 0 0 sd (List.replicate 20 0#8) (List.replicate 4 0) (.slice none 0 0) P A0 cap0 bs p1 b Ke1.out W1 HR.out HL.out
  rw [Ks1.out, Kn1.out] at hx
  have HK : Hid _ := hx
  clear hx
  go_wp2_with fail
  refine Calls.mono HK.out ?_
  rintro e W2 ⟨rfl, hr, hb, hG⟩
  replace HT : Hid (Row W2 T etab 80) := hG.row HT.out (gq_in HT.out HR.out.row HL.out.row (by decide) (by decide))
  replace HU : Hid (Row W2 U [.int .i64 0, .int .i64 1, .int .i64 6] 3) := hG.row HU.out (gq_in HU.out HR.out.row HL.out.row (by decide) (by decide))
  replace HR : Hid (Rg W2 P A0 cap0 bs p2) := hr
  replace HL : Hid (En W2 b 2 sd tm 0 (List.replicate 20 0#8) (List.replicate 4 0) 0 (.slice none 0 0)) := hb
  replace HG : Hid (Gq P b w W2) := gq_trans HG.out hG
  clear hr hb hG HK gu gt
  go_wp2_with fail
  rw [rounds_succ]
  have gu := HU.out.cell 2 _ rfl
  have gt := HT.out.cell 27 _ rfl
  have hx := k_entryFields_26 2 tm 0 0 sd (List.replicate 20 0#8) (List.replicate 4 0) (.slice none 0 0) P A0 cap0 bs p2 b n d Ks2.out Kl2.out Ke2.out W2 HR.out HL.out
  rw [Kn2.out] at hx
  have HK : Hid _ := hx
  clear hx
  go_wp2_with fail
  refine Calls.mono HK.out ?_
  rintro e W3 ⟨A', c', rfl, hr, hb, hbw, hfr, hni, hG⟩
  replace HT : Hid (Row W3 T etab 80) := hG.row HT.out (gq_in HT.out HR.out.row HL.out.row (by decide) (by decide))
  replace HU : Hid (Row W3 U [.int .i64 0, .int .i64 1, .int .i64 6] 3) := hG.row HU.out (gq_in HU.out HR.out.row HL.out.row (by decide) (by decide))
  replace HR : Hid (Rg W3 P A0 cap0 bs p3) := hr
  replace HL : Hid (En W3 b 2 sd tm 0 (List.replicate 20 0#8) (List.replicate 4 0) 0 (.slice A' n c')) := hb
  have HBW : Hid (Bw W3 (.slice A' n c') d ∧ Fresh w.heap.size (.slice A' n c') ∧ (A' = none → c' = 0)) := ⟨hbw, fun g e => Nat.le_trans HG.out.size (hfr g e), hni⟩
  replace HG : Hid (Gq P b w W3) := gq_trans HG.out hG
  clear hr hb hG HK gu gt hbw hfr hni
  go_wp2_with fail
  rw [rounds_succ]
  go_wp2_with fail
  refine Calls.mono (end_rest P A0 cap0 bs p3 W3 HR.out) ?_
  rintro e V ⟨rfl, m, rfl⟩
  rw [if_neg Khend.out]
  go_wp2_with fail
  go_ret
  exact ⟨A', c', rfl, ⟨HL.out.row, HL.out.ls, HL.out.lt, HL.out.la⟩, HBW.out.1, HBW.out.2.1, HBW.out.2.2, HG.out.drewN m⟩

set_option maxRecDepth 100000 in
set_option maxHeartbeats 2000000 in
theorem tread2_more (sd d : List (BitVec 8)) (tm : Int) (n : Nat) (bs : List (BitVec 8)) (p1 p2 p3 : Nat) (e0 : dgE 20 bs 1 = 0) (s0 : sub bs 1 20 = sd) (l0 : sd.length = 20) (n0 : 1 + 20 = p1) (e1 : nuE bs p1 = 0) (s1 : ((nuW bs p1 : Nat) : Int) = tm) (n1 : p1 + 1 + at8 bs p1 = p2) (e2 : cnE bs p2 4096 = 0) (s2 : nuW bs p2 = n) (l2 : sub bs (p2 + 1 + at8 bs p2) n = d) (n2 : p2 + 1 + at8 bs p2 + n = p3) (hend : p3 < bs.length) (P : Nat) (A0 : Option Addr) (cap0 T U b : Nat) (w : World) (h : Rg w P A0 cap0 bs 1) (hT : Row w T etab 80) (hU : Row w U [.int .i64 0, .int .i64 1, .int .i64 6] 3) (hb : En w b 2 (List.replicate 20 0#8) 0 0 (List.replicate 20 0#8) (List.replicate 4 0) 0 (.slice none 0 0)) :
    Calls Tryz.prog 20 #[.slice (some ⟨T, 0, none⟩) 7 7, .pointer (some ⟨P, 0, none⟩), .pointer (some ⟨b, 0, none⟩), .slice (some ⟨U, 0, none⟩) 3 3] w fun e w' => e = .returned (.bool false) ∧ Gq P b w w' := by
  have Ke0 : Hid (dgE 20 bs 1 = 0) := e0
  have Ks0 : Hid (sub bs 1 20 = sd) := s0
  have Kl0 : Hid (sd.length = 20) := l0
  have Kn0 : Hid (1 + 20 = p1) := n0
  have Ke1 : Hid (nuE bs p1 = 0) := e1
  have Ks1 : Hid (((nuW bs p1 : Nat) : Int) = tm) := s1
  have Kn1 : Hid (p1 + 1 + at8 bs p1 = p2) := n1
  have Ke2 : Hid (cnE bs p2 4096 = 0) := e2
  have Ks2 : Hid (nuW bs p2 = n) := s2
  have Kl2 : Hid (sub bs (p2 + 1 + at8 bs p2) n = d) := l2
  have Kn2 : Hid (p2 + 1 + at8 bs p2 + n = p3) := n2
  have Khend : Hid (p3 < bs.length) := hend
  have HR : Hid (Rg w P A0 cap0 bs 1) := h
  have HT : Hid (Row w T etab 80) := hT
  have HU : Hid (Row w U [.int .i64 0, .int .i64 1, .int .i64 6] 3) := hU
  have HL : Hid (En w b 2 (List.replicate 20 0#8) 0 0 (List.replicate 20 0#8) (List.replicate 4 0) 0 (.slice none 0 0)) := hb
  have HG : Hid (Gq P b w w) := Gro.refl _ _
  clear h hT hU hb e0 s0 l0 n0 e1 s1 n1 e2 s2 l2 n2 hend
  go_enter Tryz.func20, Tryz.ntmps20
  go_wp2_with fail
  refine wp_loop_rounds 4 ?_
  rw [rounds_succ]
  have gu := HU.out.cell 0 _ rfl
  have gt := HT.out.cell 3 _ rfl
  have hx := k_entryFields_3 2 0 0 0 (List.replicate 20 0#8) (List.replicate 20 0#8) (List.replicate 4 0) (.slice none 0 0) P A0 cap0 bs 1 b sd Ks0.out Kl0.out Ke0.out w HR.out HL.out
  rw [Kn0.out] at hx
  have HK : Hid _ := hx
  clear hx
  go_wp2_with fail
  refine Calls.mono HK.out ?_
  rintro e W1 ⟨rfl, hr, hb, hG⟩
  replace HT : Hid (Row W1 T etab 80) := hG.row HT.out (gq_in HT.out HR.out.row HL.out.row (by decide) (by decide))
  replace HU : Hid (Row W1 U [.int .i64 0, .int .i64 1, .int .i64 6] 3) := hG.row HU.out (gq_in HU.out HR.out.row HL.out.row (by decide) (by decide))
  replace HR : Hid (Rg W1 P A0 cap0 bs p1) := hr
  replace HL : Hid (En W1 b 2 sd 0 0 (List.replicate 20 0#8) (List.replicate 4 0) 0 (.slice none 0 0)) := hb
  replace HG : Hid (Gq P b w W1) := gq_trans HG.out hG
  clear hr hb hG HK gu gt
  go_wp2_with fail
  rw [rounds_succ]
  have gu := HU.out.cell 1 _ rfl
  have gt := HT.out.cell 7 _ rfl
  have hx := k_entryFields_7 2 0 0 0 sd (List.replicate 20 0#8) (List.replicate 4 0) (.slice none 0 0) P A0 cap0 bs p1 b Ke1.out W1 HR.out HL.out
  rw [Ks1.out, Kn1.out] at hx
  have HK : Hid _ := hx
  clear hx
  go_wp2_with fail
  refine Calls.mono HK.out ?_
  rintro e W2 ⟨rfl, hr, hb, hG⟩
  replace HT : Hid (Row W2 T etab 80) := hG.row HT.out (gq_in HT.out HR.out.row HL.out.row (by decide) (by decide))
  replace HU : Hid (Row W2 U [.int .i64 0, .int .i64 1, .int .i64 6] 3) := hG.row HU.out (gq_in HU.out HR.out.row HL.out.row (by decide) (by decide))
  replace HR : Hid (Rg W2 P A0 cap0 bs p2) := hr
  replace HL : Hid (En W2 b 2 sd tm 0 (List.replicate 20 0#8) (List.replicate 4 0) 0 (.slice none 0 0)) := hb
  replace HG : Hid (Gq P b w W2) := gq_trans HG.out hG
  clear hr hb hG HK gu gt
  go_wp2_with fail
  rw [rounds_succ]
  have gu := HU.out.cell 2 _ rfl
  have gt := HT.out.cell 27 _ rfl
  have hx := k_entryFields_26 2 tm 0 0 sd (List.replicate 20 0#8) (List.replicate 4 0) (.slice none 0 0) P A0 cap0 bs p2 b n d Ks2.out Kl2.out Ke2.out W2 HR.out HL.out
  rw [Kn2.out] at hx
  have HK : Hid _ := hx
  clear hx
  go_wp2_with fail
  refine Calls.mono HK.out ?_
  rintro e W3 ⟨A', c', rfl, hr, hb, hbw, hfr, hni, hG⟩
  replace HT : Hid (Row W3 T etab 80) := hG.row HT.out (gq_in HT.out HR.out.row HL.out.row (by decide) (by decide))
  replace HU : Hid (Row W3 U [.int .i64 0, .int .i64 1, .int .i64 6] 3) := hG.row HU.out (gq_in HU.out HR.out.row HL.out.row (by decide) (by decide))
  replace HR : Hid (Rg W3 P A0 cap0 bs p3) := hr
  replace HL : Hid (En W3 b 2 sd tm 0 (List.replicate 20 0#8) (List.replicate 4 0) 0 (.slice A' n c')) := hb
  have HBW : Hid (Bw W3 (.slice A' n c') d ∧ Fresh w.heap.size (.slice A' n c') ∧ (A' = none → c' = 0)) := ⟨hbw, fun g e => Nat.le_trans HG.out.size (hfr g e), hni⟩
  replace HG : Hid (Gq P b w W3) := gq_trans HG.out hG
  clear hr hb hG HK gu gt hbw hfr hni
  go_wp2_with fail
  rw [rounds_succ]
  go_wp2_with fail
  refine Calls.mono (end_rest P A0 cap0 bs p3 W3 HR.out) ?_
  rintro e V ⟨rfl, m, rfl⟩
  rw [if_pos Khend.out]
  go_wp2_with fail
  go_ret
  exact ⟨rfl, HG.out.drewN m⟩

set_option maxRecDepth 100000 in
set_option maxHeartbeats 2000000 in
theorem tread2_cut (sd : List (BitVec 8)) (tm : Int) (bs : List (BitVec 8)) (p1 p2 : Nat) (e0 : dgE 20 bs 1 = 0) (s0 : sub bs 1 20 = sd) (l0 : sd.length = 20) (n0 : 1 + 20 = p1) (e1 : nuE bs p1 = 0) (s1 : ((nuW bs p1 : Nat) : Int) = tm) (n1 : p1 + 1 + at8 bs p1 = p2) (e2 : ¬ cnE bs p2 4096 = 0) (P : Nat) (A0 : Option Addr) (cap0 T U b : Nat) (w : World) (h : Rg w P A0 cap0 bs 1) (hT : Row w T etab 80) (hU : Row w U [.int .i64 0, .int .i64 1, .int .i64 6] 3) (hb : En w b 2 (List.replicate 20 0#8) 0 0 (List.replicate 20 0#8) (List.replicate 4 0) 0 (.slice none 0 0)) :
    Calls Tryz.prog 20 #[.slice (some ⟨T, 0, none⟩) 7 7, .pointer (some ⟨P, 0, none⟩), .pointer (some ⟨b, 0, none⟩), .slice (some ⟨U, 0, none⟩) 3 3] w fun e w' => e = .returned (.bool false) ∧ Gq P b w w' := by
  have Ke0 : Hid (dgE 20 bs 1 = 0) := e0
  have Ks0 : Hid (sub bs 1 20 = sd) := s0
  have Kl0 : Hid (sd.length = 20) := l0
  have Kn0 : Hid (1 + 20 = p1) := n0
  have Ke1 : Hid (nuE bs p1 = 0) := e1
  have Ks1 : Hid (((nuW bs p1 : Nat) : Int) = tm) := s1
  have Kn1 : Hid (p1 + 1 + at8 bs p1 = p2) := n1
  have Ke2 : Hid (¬ cnE bs p2 4096 = 0) := e2
  have HR : Hid (Rg w P A0 cap0 bs 1) := h
  have HT : Hid (Row w T etab 80) := hT
  have HU : Hid (Row w U [.int .i64 0, .int .i64 1, .int .i64 6] 3) := hU
  have HL : Hid (En w b 2 (List.replicate 20 0#8) 0 0 (List.replicate 20 0#8) (List.replicate 4 0) 0 (.slice none 0 0)) := hb
  have HG : Hid (Gq P b w w) := Gro.refl _ _
  clear h hT hU hb e0 s0 l0 n0 e1 s1 n1 e2
  go_enter Tryz.func20, Tryz.ntmps20
  go_wp2_with fail
  refine wp_loop_rounds 4 ?_
  rw [rounds_succ]
  have gu := HU.out.cell 0 _ rfl
  have gt := HT.out.cell 3 _ rfl
  have hx := k_entryFields_3 2 0 0 0 (List.replicate 20 0#8) (List.replicate 20 0#8) (List.replicate 4 0) (.slice none 0 0) P A0 cap0 bs 1 b sd Ks0.out Kl0.out Ke0.out w HR.out HL.out
  rw [Kn0.out] at hx
  have HK : Hid _ := hx
  clear hx
  go_wp2_with fail
  refine Calls.mono HK.out ?_
  rintro e W1 ⟨rfl, hr, hb, hG⟩
  replace HT : Hid (Row W1 T etab 80) := hG.row HT.out (gq_in HT.out HR.out.row HL.out.row (by decide) (by decide))
  replace HU : Hid (Row W1 U [.int .i64 0, .int .i64 1, .int .i64 6] 3) := hG.row HU.out (gq_in HU.out HR.out.row HL.out.row (by decide) (by decide))
  replace HR : Hid (Rg W1 P A0 cap0 bs p1) := hr
  replace HL : Hid (En W1 b 2 sd 0 0 (List.replicate 20 0#8) (List.replicate 4 0) 0 (.slice none 0 0)) := hb
  replace HG : Hid (Gq P b w W1) := gq_trans HG.out hG
  clear hr hb hG HK gu gt
  go_wp2_with fail
  rw [rounds_succ]
  have gu := HU.out.cell 1 _ rfl
  have gt := HT.out.cell 7 _ rfl
  have hx := k_entryFields_7 2 0 0 0 sd (List.replicate 20 0#8) (List.replicate 4 0) (.slice none 0 0) P A0 cap0 bs p1 b Ke1.out W1 HR.out HL.out
  rw [Ks1.out, Kn1.out] at hx
  have HK : Hid _ := hx
  clear hx
  go_wp2_with fail
  refine Calls.mono HK.out ?_
  rintro e W2 ⟨rfl, hr, hb, hG⟩
  replace HT : Hid (Row W2 T etab 80) := hG.row HT.out (gq_in HT.out HR.out.row HL.out.row (by decide) (by decide))
  replace HU : Hid (Row W2 U [.int .i64 0, .int .i64 1, .int .i64 6] 3) := hG.row HU.out (gq_in HU.out HR.out.row HL.out.row (by decide) (by decide))
  replace HR : Hid (Rg W2 P A0 cap0 bs p2) := hr
  replace HL : Hid (En W2 b 2 sd tm 0 (List.replicate 20 0#8) (List.replicate 4 0) 0 (.slice none 0 0)) := hb
  replace HG : Hid (Gq P b w W2) := gq_trans HG.out hG
  clear hr hb hG HK gu gt
  go_wp2_with fail
  rw [rounds_succ]
  have gu := HU.out.cell 2 _ rfl
  have gt := HT.out.cell 27 _ rfl
  have hx := x_entryFields_26 2 tm 0 0 sd (List.replicate 20 0#8) (List.replicate 4 0) (.slice none 0 0) P b W2 (fun e => row_ne HL.out.row HR.out.row (by decide) e.symm) (Calls.mono (face_bytes P A0 cap0 bs p2 4096 W2 HR.out) (fun e W hq => ⟨(hq.2.1 Ke2.out).1, Sf.of Ke2.out (hq.2.1 Ke2.out).2, hq.2.2⟩)) HL.out
  have HK : Hid _ := hx
  clear hx
  go_wp2_with fail
  refine Calls.mono HK.out ?_
  rintro e W3 ⟨rfl, hr, hb, hG⟩
  obtain ⟨vz, az, fz, hfz, hrz⟩ := hr
  have HE : Hid _ := end_shut P vz az fz hfz W3 hrz
  have HNZ : Hid (¬ fz = 0) := hfz
  have hnz : (fz == 0) = false := by simpa using hfz
  have HQ : Hid (Gq P b w W3) := gq_trans HG.out hG
  clear hrz hfz hb hG HK gu gt HT HU HR HL HG
  go_wp2_with fail
  rw [rounds_succ]
  go_wp2_with fail
  refine Calls.mono HE.out ?_
  rintro e V ⟨rfl, hqq⟩
  obtain rfl := hqq.symm
  go_wp2_with fail
  go_ret
  exact ⟨rfl, HQ.out⟩

end Go.Proofs.YtaaehdlenigomaaGreat
