/-
  entries of any values: table.write, CheckEntry, EntryBytes.
-/
import Derived.Test.YtaaehdlenigomaaGreatLeC
import Derived.Test.YtaaehdlenigomaaGreatLtF
import Derived.Test.YtaaehdlenigomaaGreatXStp
import Derived.Deep.CutRange
import Derived.Deep.RegionLaw
namespace Go.Proofs.YtaaehdlenigomaaGreat
open Go Go.RowKit
open Sha

/-- A deposit's bytes. -/
def eb1 (sd : List (BitVec 8)) (tm tk : Int) (rc : List (BitVec 8)) (am : List Nat) (gs : Int) : List (BitVec 8) := [1#8] ++ sd ++ nf tm ++ nf tk ++ rc ++ wf am ++ nf gs
/-- A call's bytes. -/
def eb2 (sd : List (BitVec 8)) (tm : Int) (n : Nat) (d : List (BitVec 8)) : List (BitVec 8) := [2#8] ++ sd ++ nf tm ++ (fm [n, 0, 0, 0] (nb n 0 0 0) ++ d)

set_option maxRecDepth 100000 in
set_option maxHeartbeats 2000000 in
theorem writeE_1 (tm tk gs : Int) (sd rc : List (BitVec 8)) (am : List Nat) (A : Option Addr) (n cap : Nat) (q0 : 0 ≤ tm) (q1 : tm < 9223372036854775808) (q2 : 0 ≤ tk) (q3 : tk < 9223372036854775808) (q4 : 0 ≤ gs) (q5 : gs < 9223372036854775808) (q6 : ∀ x ∈ am, x < 18446744073709551616) (L : Nat) (hL : (eb1 sd tm tk rc am gs).length = L) (T U b : Nat) (w : World) (hT : Row w T etab 80) (hU : Row w U [.int .i64 0, .int .i64 1, .int .i64 2, .int .i64 3, .int .i64 4, .int .i64 5] 3) (hb : En w b 1 sd tm tk rc am gs (.slice A n cap)) :
    Calls Tryz.prog 16 #[.slice (some ⟨T, 0, none⟩) 7 7, .int .i64 1, .pointer (some ⟨b, 0, none⟩), .slice (some ⟨U, 0, none⟩) 6 6] w fun e w' => ∃ A' c', e = .returned (.slice A' L c') ∧ Bw w' (.slice A' L c') (eb1 sd tm tk rc am gs) ∧ Fresh w.heap.size (.slice A' L c') ∧ Below w.heap.size w w' := by
  have h_s := hb.ls
  have h_t := hb.lt
  have N0 : Hid (([1#8] : List (BitVec 8)).length ≤ 1000000) := by show _ ≤ _; decide
  have N1 : Hid (([1#8] ++ sd).length ≤ 1000000) := by
    show _ ≤ _
    have := nf_len tm
    have := nf_len tk
    have := nf_len gs
    have := wf_len am
    simp only [List.length_append, List.length_cons, List.length_nil]
    omega
  have N2 : Hid (([1#8] ++ sd ++ nf tm).length ≤ 1000000) := by
    show _ ≤ _
    have := nf_len tm
    have := nf_len tk
    have := nf_len gs
    have := wf_len am
    simp only [List.length_append, List.length_cons, List.length_nil]
    omega
  have N3 : Hid (([1#8] ++ sd ++ nf tm ++ nf tk).length ≤ 1000000) := by
    show _ ≤ _
    have := nf_len tm
    have := nf_len tk
    have := nf_len gs
    have := wf_len am
    simp only [List.length_append, List.length_cons, List.length_nil]
    omega
  have N4 : Hid (([1#8] ++ sd ++ nf tm ++ nf tk ++ rc).length ≤ 1000000) := by
    show _ ≤ _
    have := nf_len tm
    have := nf_len tk
    have := nf_len gs
    have := wf_len am
    simp only [List.length_append, List.length_cons, List.length_nil]
    omega
  have N5 : Hid (([1#8] ++ sd ++ nf tm ++ nf tk ++ rc ++ wf am).length ≤ 1000000) := by
    show _ ≤ _
    have := nf_len tm
    have := nf_len tk
    have := nf_len gs
    have := wf_len am
    simp only [List.length_append, List.length_cons, List.length_nil]
    omega
  have NL : Hid ((eb1 sd tm tk rc am gs).length = L) := hL
  have NZ : Hid ((eb1 sd tm tk rc am gs).length ≤ 140737488355328) := by
    show _ ≤ _
    have := nf_len tm
    have := nf_len tk
    have := nf_len gs
    have := wf_len am
    skip
    unfold eb1
    simp only [List.length_append, List.length_cons, List.length_nil]
    omega
  have HT : Hid (Row w T etab 80) := hT
  have HU : Hid (Row w U [.int .i64 0, .int .i64 1, .int .i64 2, .int .i64 3, .int .i64 4, .int .i64 5] 3) := hU
  have HL : Hid (En w b 1 sd tm tk rc am gs (.slice A n cap)) := hb
  have Kq0 : Hid (0 ≤ tm) := q0
  have Kq1 : Hid (tm < 9223372036854775808) := q1
  have Kq2 : Hid (0 ≤ tk) := q2
  have Kq3 : Hid (tk < 9223372036854775808) := q3
  have Kq4 : Hid (0 ≤ gs) := q4
  have Kq5 : Hid (gs < 9223372036854775808) := q5
  have Kq6 : Hid (∀ x ∈ am, x < 18446744073709551616) := q6
  clear hT hU hb h_s h_t hL q0 q1 q2 q3 q4 q5 q6
  go_enter Tryz.func16, Tryz.ntmps16
  go_wp2_with fail
  refine Calls.mono (newWriter_any _) ?_
  rintro e W1 ⟨rfl, hw1, hB1⟩
  have HW1 : Hid (Wr W1 w.heap.size none 0 [] 0) := hw1
  have HB1 : Hid (Below w.heap.size w W1) := hB1
  clear hw1 hB1
  go_wp2_with fail
  refine Calls.mono (byte_any w.heap.size none 0 [] 0 (by decide) 1#8 1 (by decide +kernel) W1 HW1.out) ?_
  rintro e W2 ⟨rfl, hq⟩
  have M0 : Hid (Wm w W2 w.heap.size [1#8]) := Wm.lays (fun g e => by first | cases e | simp [Value.ownBlock] at e) (Nat.le_refl _) HB1.out hq (by decide +kernel) (by decide +kernel)
  clear hq
  go_wp2_with fail
  refine wp_loop_rounds 7 ?_
  rw [rounds_succ]
  have gu := (Row.below HU.out M0.out.below HU.out.lt).cell 0 _ rfl
  have gt := (Row.below HT.out M0.out.below HT.out.lt).cell 2 _ rfl
  go_wp2_with fail
  refine Calls.mono (l_entryFields_2 1 tm tk gs sd rc am (.slice A n cap) ([1#8]) N0.out w w.heap.size b W2 M0.out (HL.out.below M0.out.below)) ?_
  rintro e W3 ⟨rfl, hq⟩
  have M1 : Hid (Wm w W3 w.heap.size ([1#8] ++ sd)) := hq
  clear hq gu gt
  go_wp2_with fail
  rw [rounds_succ]
  have gu := (Row.below HU.out M1.out.below HU.out.lt).cell 1 _ rfl
  have gt := (Row.below HT.out M1.out.below HT.out.lt).cell 6 _ rfl
  go_wp2_with fail
  refine Calls.mono (l_entryFields_6 1 tm tk gs sd rc am (.slice A n cap) ([1#8] ++ sd) N1.out Kq0.out Kq1.out w w.heap.size b W3 M1.out (HL.out.below M1.out.below)) ?_
  rintro e W4 ⟨rfl, hq⟩
  have M2 : Hid (Wm w W4 w.heap.size ([1#8] ++ sd ++ nf tm)) := hq
  clear hq gu gt
  go_wp2_with fail
  rw [rounds_succ]
  have gu := (Row.below HU.out M2.out.below HU.out.lt).cell 2 _ rfl
  have gt := (Row.below HT.out M2.out.below HT.out.lt).cell 10 _ rfl
  go_wp2_with fail
  refine Calls.mono (l_entryFields_10 1 tm tk gs sd rc am (.slice A n cap) ([1#8] ++ sd ++ nf tm) N2.out Kq2.out Kq3.out w w.heap.size b W4 M2.out (HL.out.below M2.out.below)) ?_
  rintro e W5 ⟨rfl, hq⟩
  have M3 : Hid (Wm w W5 w.heap.size ([1#8] ++ sd ++ nf tm ++ nf tk)) := hq
  clear hq gu gt
  go_wp2_with fail
  rw [rounds_succ]
  have gu := (Row.below HU.out M3.out.below HU.out.lt).cell 3 _ rfl
  have gt := (Row.below HT.out M3.out.below HT.out.lt).cell 14 _ rfl
  go_wp2_with fail
  refine Calls.mono (l_entryFields_13 1 tm tk gs sd rc am (.slice A n cap) ([1#8] ++ sd ++ nf tm ++ nf tk) N3.out w w.heap.size b W5 M3.out (HL.out.below M3.out.below)) ?_
  rintro e W6 ⟨rfl, hq⟩
  have M4 : Hid (Wm w W6 w.heap.size ([1#8] ++ sd ++ nf tm ++ nf tk ++ rc)) := hq
  clear hq gu gt
  go_wp2_with fail
  rw [rounds_succ]
  have gu := (Row.below HU.out M4.out.below HU.out.lt).cell 4 _ rfl
  have gt := (Row.below HT.out M4.out.below HT.out.lt).cell 18 _ rfl
  go_wp2_with fail
  refine Calls.mono (l_entryFields_17 1 tm tk gs sd rc am (.slice A n cap) ([1#8] ++ sd ++ nf tm ++ nf tk ++ rc) N4.out Kq6.out w w.heap.size b W6 M4.out (HL.out.below M4.out.below)) ?_
  rintro e W7 ⟨rfl, hq⟩
  have M5 : Hid (Wm w W7 w.heap.size ([1#8] ++ sd ++ nf tm ++ nf tk ++ rc ++ wf am)) := hq
  clear hq gu gt
  go_wp2_with fail
  rw [rounds_succ]
  have gu := (Row.below HU.out M5.out.below HU.out.lt).cell 5 _ rfl
  have gt := (Row.below HT.out M5.out.below HT.out.lt).cell 22 _ rfl
  go_wp2_with fail
  refine Calls.mono (l_entryFields_21 1 tm tk gs sd rc am (.slice A n cap) ([1#8] ++ sd ++ nf tm ++ nf tk ++ rc ++ wf am) N5.out Kq4.out Kq5.out w w.heap.size b W7 M5.out (HL.out.below M5.out.below)) ?_
  rintro e W8 ⟨rfl, hq⟩
  have M6 : Hid (Wm w W8 w.heap.size ([1#8] ++ sd ++ nf tm ++ nf tk ++ rc ++ wf am ++ nf gs)) := hq
  clear hq gu gt
  go_wp2_with fail
  rw [rounds_succ]
  go_wp2_with fail
  obtain ⟨A9, cap9, hw, hf, hP, hB⟩ : Wm w W8 w.heap.size (eb1 sd tm tk rc am gs) := M6.out
  have HD := done_ok w.heap.size A9 cap9 (eb1 sd tm tk rc am gs) NZ.out W8 hw
  rw [NL.out] at HD
  refine Calls.mono HD ?_
  rintro e W9 ⟨A', c', rfl, hbw, hfr, hbe⟩
  have HQ : Hid (Bw W9 (.slice A' L c') (eb1 sd tm tk rc am gs) ∧ Fresh w.heap.size (.slice A' L c') ∧ Below w.heap.size w W9) := ⟨hbw, fun g e => Nat.le_trans hB.size (hfr g e), hB.trans (hbe.mono hB.size)⟩
  clear hbw hfr hbe hw hf hB HD
  go_wp2_with fail
  go_ret
  exact ⟨A', c', rfl, HQ.out⟩

set_option maxRecDepth 100000 in
set_option maxHeartbeats 2000000 in
theorem writeE_2 (tm tk gs : Int) (sd rc : List (BitVec 8)) (am : List Nat) (A : Option Addr) (n cap : Nat) (d : List (BitVec 8)) (q0 : 0 ≤ tm) (q1 : tm < 9223372036854775808) (q7 : d.length = n) (q8 : n ≤ 1000000) (q9 : A = none → cap = 0) (L : Nat) (hL : (eb2 sd tm n d).length = L) (T U b : Nat) (w : World) (hS : ∀ W, Below w.heap.size w W → SlAt W (.slice A n cap) d) (hT : Row w T etab 80) (hU : Row w U [.int .i64 0, .int .i64 1, .int .i64 6] 3) (hb : En w b 2 sd tm tk rc am gs (.slice A n cap)) :
    Calls Tryz.prog 16 #[.slice (some ⟨T, 0, none⟩) 7 7, .int .i64 2, .pointer (some ⟨b, 0, none⟩), .slice (some ⟨U, 0, none⟩) 3 3] w fun e w' => ∃ A' c', e = .returned (.slice A' L c') ∧ Bw w' (.slice A' L c') (eb2 sd tm n d) ∧ Fresh w.heap.size (.slice A' L c') ∧ Below w.heap.size w w' := by
  have h_s := hb.ls
  have h_t := hb.lt
  have N0 : Hid (([2#8] : List (BitVec 8)).length ≤ 1000000) := by show _ ≤ _; decide
  have N1 : Hid (([2#8] ++ sd).length ≤ 1000000) := by
    show _ ≤ _
    have := nf_len tm
    have := nf_len tk
    have := nf_len gs
    have := wf_len am
    simp only [List.length_append, List.length_cons, List.length_nil]
    omega
  have N2 : Hid (([2#8] ++ sd ++ nf tm).length ≤ 1000000) := by
    show _ ≤ _
    have := nf_len tm
    have := nf_len tk
    have := nf_len gs
    have := wf_len am
    simp only [List.length_append, List.length_cons, List.length_nil]
    omega
  have NL : Hid ((eb2 sd tm n d).length = L) := hL
  have NZ : Hid ((eb2 sd tm n d).length ≤ 140737488355328) := by
    show _ ≤ _
    have := nf_len tm
    have := nf_len tk
    have := nf_len gs
    have := wf_len am
    have := nb_le n 0 0 0
    unfold eb2
    simp only [List.length_append, List.length_cons, List.length_nil, fm_len]
    omega
  have HT : Hid (Row w T etab 80) := hT
  have HU : Hid (Row w U [.int .i64 0, .int .i64 1, .int .i64 6] 3) := hU
  have HL : Hid (En w b 2 sd tm tk rc am gs (.slice A n cap)) := hb
  have Kq0 : Hid (0 ≤ tm) := q0
  have Kq1 : Hid (tm < 9223372036854775808) := q1
  have Kq7 : Hid (d.length = n) := q7
  have Kq8 : Hid (n ≤ 1000000) := q8
  have Kq9 : Hid (A = none → cap = 0) := q9
  have KhS : Hid (∀ W, Below w.heap.size w W → SlAt W (.slice A n cap) d) := hS
  clear hT hU hb h_s h_t hL q0 q1 q7 q8 q9 hS
  go_enter Tryz.func16, Tryz.ntmps16
  go_wp2_with fail
  refine Calls.mono (newWriter_any _) ?_
  rintro e W1 ⟨rfl, hw1, hB1⟩
  have HW1 : Hid (Wr W1 w.heap.size none 0 [] 0) := hw1
  have HB1 : Hid (Below w.heap.size w W1) := hB1
  clear hw1 hB1
  go_wp2_with fail
  refine Calls.mono (byte_any w.heap.size none 0 [] 0 (by decide) 2#8 2 (by decide +kernel) W1 HW1.out) ?_
  rintro e W2 ⟨rfl, hq⟩
  have M0 : Hid (Wm w W2 w.heap.size [2#8]) := Wm.lays (fun g e => by first | cases e | simp [Value.ownBlock] at e) (Nat.le_refl _) HB1.out hq (by decide +kernel) (by decide +kernel)
  clear hq
  go_wp2_with fail
  refine wp_loop_rounds 4 ?_
  rw [rounds_succ]
  have gu := (Row.below HU.out M0.out.below HU.out.lt).cell 0 _ rfl
  have gt := (Row.below HT.out M0.out.below HT.out.lt).cell 2 _ rfl
  go_wp2_with fail
  refine Calls.mono (l_entryFields_2 2 tm tk gs sd rc am (.slice A n cap) ([2#8]) N0.out w w.heap.size b W2 M0.out (HL.out.below M0.out.below)) ?_
  rintro e W3 ⟨rfl, hq⟩
  have M1 : Hid (Wm w W3 w.heap.size ([2#8] ++ sd)) := hq
  clear hq gu gt
  go_wp2_with fail
  rw [rounds_succ]
  have gu := (Row.below HU.out M1.out.below HU.out.lt).cell 1 _ rfl
  have gt := (Row.below HT.out M1.out.below HT.out.lt).cell 6 _ rfl
  go_wp2_with fail
  refine Calls.mono (l_entryFields_6 2 tm tk gs sd rc am (.slice A n cap) ([2#8] ++ sd) N1.out Kq0.out Kq1.out w w.heap.size b W3 M1.out (HL.out.below M1.out.below)) ?_
  rintro e W4 ⟨rfl, hq⟩
  have M2 : Hid (Wm w W4 w.heap.size ([2#8] ++ sd ++ nf tm)) := hq
  clear hq gu gt
  go_wp2_with fail
  rw [rounds_succ]
  have gu := (Row.below HU.out M2.out.below HU.out.lt).cell 2 _ rfl
  have gt := (Row.below HT.out M2.out.below HT.out.lt).cell 26 _ rfl
  go_wp2_with fail
  refine Calls.mono (l_entryFields_25 2 tm tk gs sd rc am A n cap ([2#8] ++ sd ++ nf tm) N2.out d Kq7.out Kq8.out Kq9.out w w.heap.size b W4 KhS.out M2.out (HL.out.below M2.out.below)) ?_
  rintro e W5 ⟨rfl, hq⟩
  have M3 : Hid (Wm w W5 w.heap.size ([2#8] ++ sd ++ nf tm ++ (fm [n, 0, 0, 0] (nb n 0 0 0) ++ d))) := hq
  clear hq gu gt
  go_wp2_with fail
  rw [rounds_succ]
  go_wp2_with fail
  obtain ⟨A9, cap9, hw, hf, hP, hB⟩ : Wm w W5 w.heap.size (eb2 sd tm n d) := M3.out
  have HD := done_ok w.heap.size A9 cap9 (eb2 sd tm n d) NZ.out W5 hw
  rw [NL.out] at HD
  refine Calls.mono HD ?_
  rintro e W9 ⟨A', c', rfl, hbw, hfr, hbe⟩
  have HQ : Hid (Bw W9 (.slice A' L c') (eb2 sd tm n d) ∧ Fresh w.heap.size (.slice A' L c') ∧ Below w.heap.size w W9) := ⟨hbw, fun g e => Nat.le_trans hB.size (hfr g e), hB.trans (hbe.mono hB.size)⟩
  clear hbw hfr hbe hw hf hB HD
  go_wp2_with fail
  go_ret
  exact ⟨A', c', rfl, HQ.out⟩

end Go.Proofs.YtaaehdlenigomaaGreat
