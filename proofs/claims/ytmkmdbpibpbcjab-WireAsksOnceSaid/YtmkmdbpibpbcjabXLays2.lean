/-
  The law WireLaysOnce: sameInts, Done; its walk.
-/
import Derived.Test.YtmkmdbpibpbcjabXLays
namespace Go.Proofs.Ytmkmdbpibpbcjab
open Go Go.RowKit
open Sha

set_option maxRecDepth 100000 in
set_option maxHeartbeats 2000000 in
theorem sameInts_true (l : List Int) (n : Nat) (hn : l.length = n) (hs : n ≤ 400000) (A B : Option Addr) (ca cb : Nat) (w : World) (h1 : InAt w A l) (h2 : InAt w B l) :
    Calls Try.prog 33 #[.slice A n ca, .slice B n cb] w fun e w' => e = .returned (.bool true) ∧ ∃ m, w' = w.drewN m := by
  have HN : Hid (l.length = n) := hn
  have H1 : Hid (InAt w A l) := h1
  have H2 : Hid (InAt w B l) := h2
  clear hn h1 h2
  go_enter Try.func33, Try.ntmps33
  go_wp2
  go_loopw [5] (fun i wr => ∃ t : Nat, t ≤ n ∧ i = .int .i64 (t : Int) ∧ ∃ m, wr = w.drewN m) (fun i _ => n - (intOf i).toNat)
  case atStart => exact ⟨0, Nat.zero_le _, rfl, 0, rfl⟩
  case round =>
    obtain ⟨t, ht, rfl, m, hm⟩ := hrel
    by_cases hlt : t < n
    · obtain ⟨b1, o1, rfl, c1⟩ := InAt.at H1.out t (by rw [HN.out]; exact hlt)
      obtain ⟨b2, o2, rfl, c2⟩ := InAt.at H2.out t (by rw [HN.out]; exact hlt)
      have c1' : wr.cell? ⟨b1, o1 + t, none⟩ = some (.int .i64 (l.getD t 0)) := by rw [hm]; exact c1
      have c2' : wr.cell? ⟨b2, o2 + t, none⟩ = some (.int .i64 (l.getD t 0)) := by rw [hm]; exact c2
      generalize l.getD t 0 = x at *
      have HM : Hid _ := hm
      clear c1 c2 hm
      go_wp2
      go_region
      all_goals
        go_wp2
        exact ⟨⟨t + 1, hlt, by go_num, m + 1, by rw [HM.out]; rfl⟩, by simp [intOf]; omega⟩
    · obtain rfl : t = n := by omega
      have HM : Hid _ := hm
      clear hm
      go_wp2
      go_ret
      exact ⟨rfl, m, HM.out⟩

set_option maxRecDepth 100000 in
set_option maxHeartbeats 1000000 in
theorem done_shut (P : Nat) (v : Value) (f : Int) (hf : ¬ f = 0) (w : World) (h : Row w P [v, .int .i64 f] 77) :
    Calls Try.prog 21 #[.pointer (some ⟨P, 0, none⟩)] w fun e w' => e = .returned (.tuple #[.slice none 0 0, .int .i64 f]) ∧ ∃ m, w' = w.drewN m := by
  have g1 := h.cell 1 _ rfl
  have hb : (f == 0) = false := by simp [hf]
  clear h
  go_enter Try.func21, Try.ntmps21
  go_wp2
  go_region
  all_goals
    go_wp2
    go_ret2
    exact ⟨rfl, 1, rfl⟩
theorem drew_below (w : World) (m : Nat) : Below w.heap.size w (w.drewN m) := ⟨rfl, rfl, rfl, Nat.le_refl _, fun _ _ => rfl⟩
theorem done_any (P : Nat) (A : Option Addr) (cap : Nat) (bs : List (BitVec 8)) (f : Int) (hl : bs.length ≤ 4194304) (w : World) (hw : Wr w P A cap bs f) :
    Calls Try.prog 21 #[.pointer (some ⟨P, 0, none⟩)] w fun e w' => (∃ A' n c, e = .returned (.tuple #[.slice A' n c, .int .i64 f])) ∧ Below w.heap.size w w' := by
  by_cases hf : f = 0
  · subst hf
    refine (done_ok P A cap bs (by omega) w hw).mono ?_
    rintro e w' ⟨A', c', rfl, _, _, hb⟩
    exact ⟨⟨_, _, _, rfl⟩, hb⟩
  · refine (done_shut P _ f hf w hw.1).mono ?_
    rintro e w' ⟨rfl, m, rfl⟩
    exact ⟨⟨_, _, _, rfl⟩, drew_below w m⟩

/-- A writer in memory made behind w0. -/
structure Wk (w0 w : World) (P : Nat) (A : Option Addr) (cap : Nat) (s : List (BitVec 8) × Int) : Prop where
  wr : Wr w P A cap s.1 s.2
  fw : Fresh w0.heap.size (.slice A s.1.length cap)
  hP : w0.heap.size ≤ P
  len : s.1.length ≤ 4194304
  below : Below w0.heap.size w0 w
theorem Wk.be {w0 w w' : World} {P : Nat} {A : Option Addr} {cap : Nat} {s : List (BitVec 8) × Int} (h : Wk w0 w P A cap s) (k : Below w.heap.size w w') : Wk w0 w' P A cap s := ⟨h.wr.be k, h.fw, h.hP, h.len, h.below.trans (k.mono h.below.size)⟩
theorem Wk.num {w0 w w' : World} {P : Nat} {A A' : Option Addr} {cap cap' : Nat} {s : List (BitVec 8) × Int} {n : Int} (h : Wk w0 w P A cap s)
    (hw : Wr w' P A' cap' (nuB s.1 s.2 n) (nuF s.1 s.2 n)) (hf : Frm (.slice A s.1.length cap) w.heap.size (.slice A' (nuB s.1 s.2 n).length cap')) (hG : Gro (fun g => g = P ∨ (Value.slice A s.1.length cap).ownBlock = some g) w w') :
    Wk w0 w' P A' cap' (nuB s.1 s.2 n, nuF s.1 s.2 n) where
  wr := hw
  fw := fun g e => by
    rcases hf g e with q | q
    · exact h.fw g q
    · exact Nat.le_trans h.below.size q
  hP := h.hP
  len := nu_len _ _ _ h.len
  below := h.below.trans (hG.to_below h.below.size (fun k q => by
    rcases q with q | q
    · rw [q]; exact h.hP
    · exact h.fw k q))
theorem Wk.st {w0 w : World} {P : Nat} {A : Option Addr} {cap : Nat} {s : List (BitVec 8) × Int} (h : Wk w0 w P A cap s) : St w0 (w.alloc (Obj.cells #[.slice none 0 0] 26)) P w.heap.size A cap s none 0 [] := by
  have b : Below w.heap.size w (w.alloc (Obj.cells #[.slice none 0 0] 26)) := (Below.refl _ _).alloc (Nat.le_refl _) _
  exact ⟨h.wr.be b, Row.new' rfl rfl, Iw.nil _, h.fw, fun g e => by simp [Value.ownBlock] at e, h.hP, h.below.size, h.len, h.below.trans (b.mono h.below.size)⟩
theorem St.be {w0 w w' : World} {P S : Nat} {A : Option Addr} {cap : Nat} {s : List (BitVec 8) × Int} {Av : Option Addr} {cv : Nat} {ns : List Int} (h : St w0 w P S A cap s Av cv ns) (k : Below w.heap.size w w') : St w0 w' P S A cap s Av cv ns :=
  ⟨h.wr.be k, Row.below h.row k h.row.lt, Iw.be h.own k, h.fw, h.fv, h.hP, h.hS, h.len, h.below.trans (k.mono h.below.size)⟩
/-- The fault behind the first j. -/
def ff (ah l : List Int) (j : Nat) : Bool := fg ah || fg (l.take j)
theorem ff_run (ah l : List Int) (n j : Nat) (hn : l.length = n) (hs : n + ah.length ≤ 400000) (hj : j ≤ n) : (run (run ([], 0) (ah ++ [(n : Int)])) (l.take j)).2 = if ff ah l j = true then 32 else 0 := by
  rw [← run_append, run_small _ [] 0 (.inl rfl) (by simp; omega)]
  unfold ff
  have e : fg ((ah ++ [(n : Int)]) ++ l.take j) = (fg ah || fg (l.take j)) := by
    rw [fg_append, fg_snoc, show decide ((n : Int) < 0) = false by simp, Bool.or_false]
  rw [e]
  simp
/-- Not yet. -/
def Not' (ah l : List Int) (u : Nat) : Prop := ∀ j, j < u → ff ah l j = false

theorem Iw.in' {w : World} {A : Option Addr} {c : Nat} {d : List Int} (h : Iw w (.slice A d.length c) d) : InAt w A d := by
  obtain ⟨A', c', e, q⟩ := Iw.in h
  simp only [Value.slice.injEq] at e
  rw [e.1]; exact q
/-- Both ways end at the same place. -/
theorem ends_same (ah l : List Int) (n T u : Nat) (hn : l.length = n) (hs : n + ah.length ≤ 400000) (hT : T ≤ n) (hu : u ≤ n) (h1 : T = n ∨ ¬ (run (run ([], 0) (ah ++ [(n : Int)])) (l.take T)).2 = 0) (h2 : ∀ j, j < T → (run (run ([], 0) (ah ++ [(n : Int)])) (l.take j)).2 = 0) (h3 : u = n ∨ ff ah l u = true) (h4 : Not' ah l u) : T = u := by
  rcases Nat.lt_trichotomy T u with h | h | h
  · rcases h1 with q | q
    · omega
    · exact absurd (by rw [ff_run ah l n T hn hs hT, h4 T h]; rfl) q
  · exact h
  · rcases h3 with q | q
    · omega
    · have := h2 u h
      rw [ff_run ah l n u hn hs hu, q] at this
      simp at this

set_option maxRecDepth 100000 in
set_option maxHeartbeats 8000000 in
theorem lays_walk (l ah : List Int) (n m : Nat) (hn : l.length = n) (hm : ah.length = m) (bn : (n + 1) * 8 ≤ 140737488355328) (bm : (m + 1) * 8 ≤ 140737488355328) (rl : ∀ i, i < n → l.getD i 0 < 9223372036854775808) (ra : ∀ i, i < m → ah.getD i 0 < 9223372036854775808) (A0 A1 : Option Addr) (c0 c1 : Nat) (w : World) (i0 : InAt w A0 l) (i1 : InAt w A1 ah) :
    Calls Try.prog 6 #[.slice A0 n c0, .slice A1 m c1] w fun e w' => e = .returned (.bool true) ∧ Below w.heap.size w w' := by
  have hmf : ∀ (fn : Fn) (first cap : Array Value) (w : World), (Instr.makeFunc fn first cap).run Try.prog w = .ok (.func fn first cap) w := fun _ _ _ _ => rfl
  have HN : Hid (l.length = n) := hn
  have HM : Hid (ah.length = m) := hm
  have RL : Hid (∀ i, i < n → l.getD i 0 < 9223372036854775808) := rl
  have RA : Hid (∀ i, i < m → ah.getD i 0 < 9223372036854775808) := ra
  have I0 : Hid (InAt w A0 l) := i0
  have I1 : Hid (InAt w A1 ah) := i1
  have BN : Hid ((n + 1) * 8 ≤ 140737488355328) := bn
  have hn2 : n ≤ 17592186044416 := by omega
  have hm2 : m ≤ 17592186044416 := by omega
  clear hn hm rl ra i0 i1 bn bm
  go_enter Try.func6, Try.ntmps6
  go_wp2_with fail
  refine (newWriter_any w).mono ?_
  rintro e V0 ⟨rfl, hw, hb⟩
  have K0 : Hid (Wk w V0 w.heap.size none 0 ([], 0)) := ⟨hw, fun g e => by simp [Value.ownBlock] at e, Nat.le_refl _, Nat.zero_le _, hb⟩
  clear hw hb
  go_wp2_with fail
  refine (known_any V0).mono ?_
  rintro e V1 ⟨rfl, hb⟩
  have K1 : Hid (Wk w V1 w.heap.size none 0 ([], 0)) := K0.out.be hb
  clear hb K0
  go_wp2_with fail
  go_loopw [6, 7] (fun b i wr => ∃ (t : Nat) (A : Option Addr) (cap : Nat), t ≤ m ∧ i = .int .i64 (t : Int) ∧ b = .bool (fg (ah.take t)) ∧ Wk w wr w.heap.size A cap (run ([], 0) (ah.take t))) (fun _ i _ => m - (intOf i).toNat)
  case atStart => exact ⟨0, none, 0, Nat.zero_le _, rfl, rfl, K1.out⟩
  case round =>
    clear K1
    obtain ⟨t, A, cap, ht, rfl, rfl, hK⟩ := hrel
    have K : Hid (Wk _ _ _ _ _ _) := hK
    clear hK
    by_cases hlt : t < m
    · obtain ⟨b, o, rfl, hc⟩ := InAt.at (InAt.be I1.out K.out.below) t (by rw [HM.out]; exact hlt)
      have ET : Hid (ah.take (t + 1) = ah.take t ++ [ah.getD t 0]) := take_more ah t (by rw [HM.out]; exact hlt)
      have HX : Hid (ah.getD t 0 < 9223372036854775808) := RA.out t hlt
      have HC2 : Hid (∀ W, Below wr.heap.size wr W ∨ True → _) := fun W _ => hc
      have IB : Hid (∀ W, Below w.heap.size w W → W.cell? ⟨b, o + t, none⟩ = some (.int .i64 (ah.getD t 0))) := fun W hB => by
        obtain ⟨b', o', e', hc'⟩ := InAt.at (InAt.be I1.out hB) t (by rw [HM.out]; exact hlt)
        simp only [Option.some.injEq, Addr.mk.injEq] at e'
        rw [e'.1, e'.2.1]; exact hc'
      clear HC2
      generalize ah.getD t 0 = x at *
      have HNUM : Hid _ := number_any w.heap.size A cap (run ([], 0) (ah.take t)).1 (run ([], 0) (ah.take t)).2 x HX.out K.out.len wr _ rfl K.out.wr
      go_wp2_with fail
      refine Calls.mono HNUM.out ?_
      rintro e w2 ⟨rfl, ⟨A2, cap2, hw2, hf2⟩, hG2⟩
      have K2 : Hid (Wk w w2 w.heap.size A2 cap2 (run ([], 0) (ah.take (t + 1)))) := by rw [ET.out, run_snoc]; exact K.out.num hw2 hf2 hG2
      have hc2 := IB.out w2 K2.out.below
      have EF : Hid (fg (ah.take (t + 1)) = (fg (ah.take t) || decide (x < 0))) := by rw [ET.out, fg_snoc]; rfl
      clear hw2 hf2 hG2 HNUM K hc
      cases hfl : fg (ah.take t) with
      | true =>
        rw [hfl] at EF
        have EF2 : Hid (fg (ah.take (t + 1)) = true) := by rw [EF.out]; rfl
        clear hfl EF
        go_wp2
        exact ⟨⟨t + 1, A2, cap2, hlt, by go_num, by rw [EF2.out], K2.out⟩, by simp [intOf]; omega⟩
      | false =>
        rw [hfl] at EF
        have EF2 : Hid (fg (ah.take (t + 1)) = decide (x < 0)) := by rw [EF.out]; rfl
        clear hfl EF
        go_wp2
        exact ⟨⟨t + 1, A2, cap2, hlt, by go_num, by rw [EF2.out], K2.out⟩, by simp [intOf]; omega⟩
    · obtain rfl : t = m := by omega
      have EA : Hid (ah.take t = ah) := List.take_of_length_le (by rw [HM.out]; exact Nat.le_refl _)
      rw [EA.out] at K
      have hfa : fg (ah.take t) = fg ah := by rw [EA.out]
      rw [hfa]
      clear hfa hlt
      have KS : Hid (St _ _ _ _ _ _ _ _ _ _) := K.out.st
      go_wp2_with fail
      refine (lay_ints w w.heap.size wr.heap.size A cap (run ([], 0) ah) none 0 l n HN.out BN.out RL.out A0 c0 _ I0.out KS.out (run ([], 0) (ah ++ [(n : Int)])) (run_snoc _ _ _)).mono ?_
      rintro e W3 ⟨rfl, hL⟩
      obtain ⟨T, A3, cap3, Av, cv, hT, hSt, hE, hSo⟩ := hL
      have S3 : Hid (St _ _ _ _ _ _ _ _ _ _) := hSt
      have HT : Hid (T ≤ n) := by rw [← HN.out]; exact hT
      have HE : Hid (T = n ∨ ¬ (run (run ([], 0) (ah ++ [(n : Int)])) (l.take T)).2 = 0) := by rw [← HN.out] at *; exact hE
      have HSo : Hid (∀ j, j < T → (run (run ([], 0) (ah ++ [(n : Int)])) (l.take j)).2 = 0) := hSo
      clear hT hSt hE hSo KS K
      go_wp2
      go_loopw [6, 9, 10] (fun b v i wr => ∃ u : Nat, u ≤ n ∧ i = .int .i64 (u : Int) ∧ b = .bool (ff ah l u) ∧ Iw wr v (l.take u) ∧ Fresh W3.heap.size v ∧ Below W3.heap.size W3 wr ∧ Not' ah l u) (fun _ _ i _ => n - (intOf i).toNat)
      case atStart => exact ⟨0, Nat.zero_le _, rfl, by unfold ff; simp [fg], Iw.nil _, fun g e => by simp [Value.ownBlock] at e, Below.refl _ _, fun j hj => by omega⟩
      case round =>
        obtain ⟨u, hu, rfl, rfl, hI, hF, hB, hNt⟩ := hrel
        obtain ⟨Av2, cv2, ev, _⟩ := Iw.form hI
        subst ev
        have II : Hid (Iw _ _ _) := hI
        have IF : Hid (Fresh _ _) := hF
        have IB : Hid (Below W3.heap.size W3 wr) := hB
        have INT : Hid (Not' ah l u) := hNt
        clear hI hF hB hNt
        by_cases hlt : u < n
        · cases hff : ff ah l u with
          | false =>
            have C0 : Hid (∀ W, Below w.heap.size w W → ∃ b o, A0 = some ⟨b, o, none⟩ ∧ W.cell? ⟨b, o + u, none⟩ = some (.int .i64 (l.getD u 0))) := fun W hB => InAt.at (InAt.be I0.out hB) u (by rw [HN.out]; exact hlt)
            have BW : Hid (Below w.heap.size w wr) := S3.out.below.trans (IB.out.mono S3.out.below.size)
            obtain ⟨b, o, rfl, hc⟩ := C0.out wr BW.out
            have C1 : Hid (∀ W, Below w.heap.size w W → W.cell? ⟨b, o + u, none⟩ = some (.int .i64 (l.getD u 0))) := fun W hB => by
              obtain ⟨b', o', e', hc'⟩ := C0.out W hB
              simp only [Option.some.injEq, Addr.mk.injEq] at e'
              rw [e'.1, e'.2.1]; exact hc'
            have ET : Hid (l.take (u + 1) = l.take u ++ [l.getD u 0]) := take_more l u (by rw [HN.out]; exact hlt)
            have EF : Hid (ff ah l (u + 1) = decide (l.getD u 0 < 0)) := by
              show _ = _
              unfold ff at hff ⊢
              rw [ET.out, fg_snoc]
              rw [Bool.or_eq_false_iff] at hff
              rw [hff.1, hff.2]; rfl
            have HFF : Hid (ff ah l u = false) := hff
            clear hff C0
            generalize l.getD u 0 = x at *
            have b1 : Below wr.heap.size wr (wr.alloc (Obj.cells #[.int .i64 x] 3)) := (Below.refl _ _).alloc (Nat.le_refl _) _
            have R1 : Hid (Row (wr.alloc (Obj.cells #[.int .i64 x] 3)) wr.heap.size [.int .i64 x] 3) := Row.new' rfl rfl
            have I1' : Hid (Iw _ _ _) := Iw.be II.out b1
            have IB1 : Hid (Below W3.heap.size W3 (wr.alloc (Obj.cells #[.int .i64 x] 3))) := IB.out.alloc IB.out.size _
            have HL : Hid (((l.take u).length + 1) * 8 ≤ 140737488355328) := by have := BN.out; show _ ≤ _; rw [List.length_take, HN.out]; omega
            clear b1
            go_wp2_with (refine wpList_appi rfl (.tmp 54) (.tmp 59) rfl _ (l.take u) rfl I1'.out wr.heap.size x rfl R1.out HL.out ?_; intro v' w' q1 q2 q3; obtain ⟨Ax, cx, ex, _⟩ := Iw.form q1; subst ex; have QB : Hid (Below W3.heap.size W3 w') := IB1.out.grown q2 IB1.out.size IF.out; have hc2 := C1.out w' (S3.out.below.trans (QB.out.mono S3.out.below.size)); have Q1 : Hid _ := q1; have Q3 : Hid _ := q3; clear q1 q2 q3; simp only [Act.put, List.setIfInBounds_toArray, List.set_cons_zero, List.set_cons_succ])
            refine ⟨⟨u + 1, hlt, by go_num, by rw [EF.out], by rw [ET.out]; exact Q1.out, ?_, QB.out, ?_⟩, by simp [intOf]; omega⟩
            · intro g e
              rcases Q3.out with q | q
              · exact IF.out g (q.symm.trans e)
              · have e2 := q.symm.trans e
                simp only [Option.some.injEq] at e2
                rw [← e2]; exact IB1.out.size
            · intro j hj
              by_cases e : j < u
              · exact INT.out j e
              · obtain rfl : j = u := by omega
                exact HFF.out
          | true =>
            have HFF : Hid (ff ah l u = true) := hff
            have H3 : Hid (u = n ∨ ff ah l u = true) := .inr hff
            clear hff
            by_cases hbig : n + t ≤ 400000
            · have nb1 : ¬ ((400000 : Int) < (n : Int) + (t : Int)) := by omega
              obtain rfl : T = u := ends_same ah l n T u HN.out (by rw [HM.out]; exact hbig) HT.out hu HE.out HSo.out H3.out INT.out
              have ER : Hid ((run (run ([], 0) (ah ++ [(n : Int)])) (l.take T)).2 = 32) := by
                show _ = _
                rw [ff_run ah l n T HN.out (by rw [HM.out]; exact hbig) HT.out, HFF.out]; rfl
              have S4 : Hid (St _ _ _ _ _ _ _ _ _ _) := S3.out.be IB.out
              have hwr : Wr wr w.heap.size A3 cap3 (run (run ([], 0) (ah ++ [(n : Int)])) (l.take T)).1 32 := by have := S4.out.wr; rw [ER.out] at this; exact this
              have HWR : Hid (Wr _ _ _ _ _ _) := hwr
              clear hwr
              go_wp2_with fail
              refine (done_any w.heap.size A3 cap3 _ 32 S4.out.len wr HWR.out).mono ?_
              rintro e W5 ⟨⟨A5, n5, c5, rfl⟩, hb5⟩
              have S5 : Hid (St _ _ _ _ _ _ _ _ _ _) := S4.out.be hb5
              have gS := S5.out.row.cell 0 _ rfl
              have V5 : Hid (Iw _ _ _) := Iw.be II.out hb5
              clear hb5 HWR S4
              go_wp2_with fail
              refine (sameInts_true (l.take T) (min T l.length) List.length_take (by rw [HN.out]; omega) Av Av2 cv cv2 W5 (Iw.in' S5.out.own) (Iw.in' V5.out)).mono ?_
              rintro e W6 ⟨rfl, q, hq⟩
              have B6 : Hid (Below w.heap.size w W6) := by rw [hq]; exact S5.out.below.trans ((drew_below W5 q).mono S5.out.below.size)
              clear hq gS
              go_wp2_with fail
              go_ret
              exact ⟨rfl, B6.out⟩
            · have nb1 : (400000 : Int) < (n : Int) + (t : Int) := by omega
              have B6 : Hid (Below w.heap.size w wr) := S3.out.below.trans (IB.out.mono S3.out.below.size)
              go_wp2
              go_ret
              exact ⟨rfl, B6.out⟩
        · obtain rfl : u = n := by omega
          clear hlt
          cases hff : ff ah l u with
          | false =>
            have HFF : Hid (ff ah l u = false) := hff
            have H3 : Hid (u = u ∨ ff ah l u = true) := .inl rfl
            clear hff
            by_cases hbig : u + t ≤ 400000
            · have nb1 : ¬ ((400000 : Int) < (u : Int) + (t : Int)) := by omega
              obtain rfl : T = u := ends_same ah l u T u HN.out (by rw [HM.out]; exact hbig) HT.out hu HE.out HSo.out H3.out INT.out
              have ER : Hid ((run (run ([], 0) (ah ++ [(T : Int)])) (l.take T)).2 = 0) := by
                show _ = _
                rw [ff_run ah l T T HN.out (by rw [HM.out]; exact hbig) HT.out, HFF.out]; rfl
              have S4 : Hid (St _ _ _ _ _ _ _ _ _ _) := S3.out.be IB.out
              have hwr : Wr wr w.heap.size A3 cap3 (run (run ([], 0) (ah ++ [(T : Int)])) (l.take T)).1 0 := by have := S4.out.wr; rw [ER.out] at this; exact this
              have HWR : Hid (Wr _ _ _ _ _ _) := hwr
              clear hwr
              go_wp2_with fail
              refine (done_any w.heap.size A3 cap3 _ 0 S4.out.len wr HWR.out).mono ?_
              rintro e W5 ⟨⟨A5, n5, c5, rfl⟩, hb5⟩
              have S5 : Hid (St _ _ _ _ _ _ _ _ _ _) := S4.out.be hb5
              have gS := S5.out.row.cell 0 _ rfl
              have V5 : Hid (Iw _ _ _) := Iw.be II.out hb5
              clear hb5 HWR S4
              go_wp2_with fail
              refine (sameInts_true (l.take T) (min T l.length) List.length_take (by rw [HN.out]; omega) Av Av2 cv cv2 W5 (Iw.in' S5.out.own) (Iw.in' V5.out)).mono ?_
              rintro e W6 ⟨rfl, q, hq⟩
              have B6 : Hid (Below w.heap.size w W6) := by rw [hq]; exact S5.out.below.trans ((drew_below W5 q).mono S5.out.below.size)
              clear hq gS
              go_wp2_with fail
              go_ret
              exact ⟨rfl, B6.out⟩
            · have nb1 : (400000 : Int) < (u : Int) + (t : Int) := by omega
              have B6 : Hid (Below w.heap.size w wr) := S3.out.below.trans (IB.out.mono S3.out.below.size)
              go_wp2
              go_ret
              exact ⟨rfl, B6.out⟩
          | true =>
            have HFF : Hid (ff ah l u = true) := hff
            have H3 : Hid (u = u ∨ ff ah l u = true) := .inl rfl
            clear hff
            by_cases hbig : u + t ≤ 400000
            · have nb1 : ¬ ((400000 : Int) < (u : Int) + (t : Int)) := by omega
              obtain rfl : T = u := ends_same ah l u T u HN.out (by rw [HM.out]; exact hbig) HT.out hu HE.out HSo.out H3.out INT.out
              have ER : Hid ((run (run ([], 0) (ah ++ [(T : Int)])) (l.take T)).2 = 32) := by
                show _ = _
                rw [ff_run ah l T T HN.out (by rw [HM.out]; exact hbig) HT.out, HFF.out]; rfl
              have S4 : Hid (St _ _ _ _ _ _ _ _ _ _) := S3.out.be IB.out
              have hwr : Wr wr w.heap.size A3 cap3 (run (run ([], 0) (ah ++ [(T : Int)])) (l.take T)).1 32 := by have := S4.out.wr; rw [ER.out] at this; exact this
              have HWR : Hid (Wr _ _ _ _ _ _) := hwr
              clear hwr
              go_wp2_with fail
              refine (done_any w.heap.size A3 cap3 _ 32 S4.out.len wr HWR.out).mono ?_
              rintro e W5 ⟨⟨A5, n5, c5, rfl⟩, hb5⟩
              have S5 : Hid (St _ _ _ _ _ _ _ _ _ _) := S4.out.be hb5
              have gS := S5.out.row.cell 0 _ rfl
              have V5 : Hid (Iw _ _ _) := Iw.be II.out hb5
              clear hb5 HWR S4
              go_wp2_with fail
              refine (sameInts_true (l.take T) (min T l.length) List.length_take (by rw [HN.out]; omega) Av Av2 cv cv2 W5 (Iw.in' S5.out.own) (Iw.in' V5.out)).mono ?_
              rintro e W6 ⟨rfl, q, hq⟩
              have B6 : Hid (Below w.heap.size w W6) := by rw [hq]; exact S5.out.below.trans ((drew_below W5 q).mono S5.out.below.size)
              clear hq gS
              go_wp2_with fail
              go_ret
              exact ⟨rfl, B6.out⟩
            · have nb1 : (400000 : Int) < (u : Int) + (t : Int) := by omega
              have B6 : Hid (Below w.heap.size w wr) := S3.out.below.trans (IB.out.mono S3.out.below.size)
              go_wp2
              go_ret
              exact ⟨rfl, B6.out⟩

end Go.Proofs.Ytmkmdbpibpbcjab
