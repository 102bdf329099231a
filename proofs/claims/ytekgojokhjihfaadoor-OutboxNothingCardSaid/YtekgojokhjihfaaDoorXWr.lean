/-
  wire.Writer: NewWriter, open, lay.
-/
import Derived.Test.YtekgojokhjihfaaDoorXForm
namespace Go.Proofs.YtekgojokhjihfaaDoor
open Go Go.RowKit
open Sha

theorem info_w2 : (Tryd.prog.info? 99).map (·.size) = some 2 := by kernel_rfl
theorem info_slb : (Tryd.prog.info? 48).map (·.size) = some 1 := by kernel_rfl
/-- A writer that has laid bytes. -/
def Wr (w : World) (P : Nat) (A : Option Addr) (cap : Nat) (bs : List (BitVec 8)) (f : Int) : Prop := Row w P [.slice A bs.length cap, .int .i64 f] 99 ∧ Bw w (.slice A bs.length cap) bs
def Nl (v : Value) : Prop := ∀ A n c, v = .slice A n c → A = none → c = 0
/-- The parts of one value. -/
def Ls (w : World) (b : Nat) (vs : List Value) (ps : List (List (BitVec 8))) : Prop := Row w b vs 48 ∧ vs.length = ps.length ∧ ∀ i, i < ps.length → SlAt w (vs.getD i undef) (ps.getD i []) ∧ Nl (vs.getD i undef)
theorem Ls.at {w : World} {b : Nat} {vs : List Value} {ps : List (List (BitVec 8))} (h : Ls w b vs ps) (i : Nat) (hi : i < ps.length) : ∃ A c, w.cell? ⟨b, i, none⟩ = some (.slice A (ps.getD i []).length c) ∧ SlAt w (.slice A (ps.getD i []).length c) (ps.getD i []) ∧ (A = none → c = 0) := by
  obtain ⟨h1, h2, h3⟩ := h
  obtain ⟨h4, h5⟩ := h3 i hi
  have hc := h1.cell i (vs.getD i undef) (by rw [List.getD_eq_getElem?_getD, List.getElem?_eq_getElem (by omega)]; rfl)
  obtain ⟨A, c, e⟩ : ∃ A c, vs.getD i undef = .slice A (ps.getD i []).length c := by
    rcases h4 with ⟨q1, A, c, q2⟩ | ⟨b', o', c, q2, _⟩
    · exact ⟨A, c, by rw [q2, q1]; rfl⟩
    · exact ⟨_, c, q2⟩
  rw [e] at hc h4
  exact ⟨A, c, hc, h4, h5 A _ c e⟩
/-- In the list's own block, or in a new one. -/
def Frm (a : Value) (N : Nat) (v : Value) : Prop := ∀ g, v.ownBlock = some g → a.ownBlock = some g ∨ N ≤ g
theorem Frm.refl (a : Value) (N : Nat) : Frm a N a := fun _ e => .inl e
/-- How many bytes the first have. -/
def sums (ps : List (List (BitVec 8))) (t : Nat) : Nat := (ps.take t).flatten.length
theorem sums_succ (ps : List (List (BitVec 8))) (t : Nat) (h : t < ps.length) : sums ps (t + 1) = sums ps t + (ps.getD t []).length := by
  unfold sums
  rw [List.take_succ_eq_append_getElem h, List.flatten_append, List.length_append]
  simp [h]
theorem flat_succ (ps : List (List (BitVec 8))) (t : Nat) (h : t < ps.length) : (ps.take (t + 1)).flatten = (ps.take t).flatten ++ ps.getD t [] := by
  rw [List.take_succ_eq_append_getElem h, List.flatten_append]
  simp [h]
theorem sums_le (ps : List (List (BitVec 8))) (t : Nat) : sums ps t ≤ ps.flatten.length := by
  unfold sums
  have e : ps.flatten = (ps.take t).flatten ++ (ps.drop t).flatten := by rw [← List.flatten_append, List.take_append_drop]
  rw [e, List.length_append]; omega

set_option maxRecDepth 100000 in
theorem newWriter_any (w : World) :
    Calls Tryd.prog 27 #[] w fun e w' => e = .returned (.pointer (some ⟨w.heap.size, 0, none⟩)) ∧ Wr w' w.heap.size none 0 [] 0 ∧ Below w.heap.size w w' := by
  go_enter Tryd.func27, Tryd.ntmps27
  go_wp2
  go_ret
  exact ⟨rfl, ⟨Row.new' rfl rfl, Bw.nil _⟩, (Below.refl _ _).alloc (Nat.le_refl _) _⟩

set_option maxRecDepth 100000 in
theorem open_ok (P : Nat) (v : Value) (w : World) (h : Row w P [v, .int .i64 0] 99) :
    Calls Tryd.prog 83 #[.pointer (some ⟨P, 0, none⟩)] w fun e w' => e = .returned (.bool true) ∧ w' = w := by
  have g1 := h.cell 1 _ rfl
  clear h
  go_enter Tryd.func83, Tryd.ntmps83
  go_wp2
  go_ret
  exact ⟨rfl, rfl⟩

set_option maxRecDepth 100000 in
set_option maxHeartbeats 4000000 in
theorem lay_ok (P : Nat) (A : Option Addr) (cap : Nat) (bs : List (BitVec 8)) (b : Nat) (vs : List Value) (ps : List (List (BitVec 8))) (n : Nat) (hn : ps.length = n) (hn2 : n ≤ 1000000) (hT : bs.length + ps.flatten.length ≤ 4194304) (w : World) (R : Nat → Prop) (hR : R = fun g => g = P ∨ (Value.slice A bs.length cap).ownBlock = some g)
    (hw : Wr w P A cap bs 0) (hS : ∀ W, Gro R w W → Ls W b vs ps) :
    Calls Tryd.prog 52 #[.pointer (some ⟨P, 0, none⟩), .slice (some ⟨b, 0, none⟩) n n] w fun e w' => e = .returned (.tuple #[]) ∧ (∃ A' cap', Wr w' P A' cap' (bs ++ ps.flatten) 0 ∧ ∀ g, (Value.slice A' (bs ++ ps.flatten).length cap').ownBlock = some g → (Value.slice A bs.length cap).ownBlock = some g ∨ w.heap.size ≤ g) ∧ Gro R w w' := by
  have HO : Hid (∀ v w, Row w P [v, .int .i64 0] 99 → _) := fun v w h => open_ok P v w h
  have HS : Hid (∀ W, _ → _) := hS
  have HN : Hid (ps.length = n) := hn
  have HT : Hid (bs.length + ps.flatten.length ≤ 4194304) := hT
  have RP : Hid (R P) := by rw [hR]; exact .inl rfl
  have RV : Hid (∀ g, (Value.slice A bs.length cap).ownBlock = some g → R g) := fun g e => by rw [hR]; exact .inr e
  clear hS hn hR
  obtain ⟨L, hL⟩ : ∃ L, L = bs.length := ⟨_, rfl⟩
  obtain ⟨T, hTT⟩ : ∃ T, T = ps.flatten.length := ⟨_, rfl⟩
  have hLT : L + T ≤ 4194304 := by rw [hL, hTT]; exact hT
  clear hT
  have g0 := hw.1.cell 0 _ rfl
  have HW : Hid (Wr w P A cap bs 0) := hw
  have WV : Hid (∀ g, (Value.slice A bs.length cap).ownBlock = some g → g < w.heap.size) := Bw.lt hw.2
  clear hw
  rw [← hL] at g0
  have HL : Hid (L = bs.length) := hL
  have HTT : Hid (T = ps.flatten.length) := hTT
  clear hL hTT
  go_enter Tryd.func52, Tryd.ntmps52
  go_wp2_with (refine (HO.out _ _ HW.out.1).mono ?_; rintro e w2 ⟨rfl, rfl⟩)
  go_loopw [4, 6, 14] (fun s _ i wr => ∃ t : Nat, t ≤ n ∧ i = .int .i64 (t : Int) ∧ s = .int .i64 ((sums ps t : Nat) : Int) ∧ wr = w2) (fun _ _ i _ => n - (intOf i).toNat)
  case atStart => exact ⟨0, Nat.zero_le _, rfl, rfl, rfl⟩
  case round =>
    obtain ⟨t, ht, rfl, rfl, hwr⟩ := hrel
    replace hwr := hwr.symm
    subst hwr
    have hst : sums ps t ≤ T := by rw [HTT.out]; exact sums_le ps t
    by_cases hlt : t < n
    · have hst2 : sums ps (t + 1) ≤ T := by rw [HTT.out]; exact sums_le ps (t + 1)
      rw [sums_succ ps t (by rw [HN.out]; exact hlt)] at hst2
      obtain ⟨Ap, cp, hc, _, _⟩ := Ls.at (HS.out _ (Gro.refl _ _)) t (by rw [HN.out]; exact hlt)
      have E : Hid (sums ps (t + 1) = sums ps t + (ps.getD t []).length) := sums_succ ps t (by rw [HN.out]; exact hlt)
      generalize (ps.getD t []).length = m at *
      generalize hs0 : sums ps t = s0 at *
      clear hs0
      go_wp2
      exact ⟨⟨t + 1, hlt, by go_num, by rw [E.out]; go_num, trivial⟩, by simp [intOf]; omega⟩
    · obtain rfl : t = n := by omega
      have es : sums ps t = T := by rw [HTT.out]; unfold sums; rw [List.take_of_length_le (by rw [HN.out]; exact Nat.le_refl _)]
      rw [es]
      have hno : ¬ (4194304 - (L : Int) < (T : Int)) := by omega
      clear hst es hlt
      go_wp2
      go_loopw [8, 35] (fun _ i wr => ∃ (s : Nat) (A' : Option Addr) (cap' : Nat), s ≤ t ∧ i = .int .i64 (s : Int) ∧ Wr wr P A' cap' (bs ++ (ps.take s).flatten) 0 ∧ Frm (.slice A bs.length cap) w2.heap.size (.slice A' (bs ++ (ps.take s).flatten).length cap') ∧ Gro R w2 wr) (fun _ i _ => t - (intOf i).toNat)
      case atStart => exact ⟨0, A, cap, Nat.zero_le _, rfl, by simpa using HW.out, by simpa using Frm.refl _ _, Gro.refl _ _⟩
      case round =>
        clear g0 HW
        obtain ⟨s, A', cap', hs, rfl, hw, hf, hG⟩ := hrel
        have HWR : Hid _ := hw
        have HF : Hid _ := hf
        have HG : Hid _ := hG
        by_cases hlt : s < t
        · obtain ⟨Ap, cp, hc, hsl, hnil⟩ := Ls.at (HS.out _ hG) s (by rw [HN.out]; exact hlt)
          have hst2 : sums ps (s + 1) ≤ T := by rw [HTT.out]; exact sums_le ps (s + 1)
          rw [sums_succ ps s (by rw [HN.out]; exact hlt)] at hst2
          have g0 := hw.1.cell 0 _ rfl
          have hbw := hw.2
          have rP := hw.1
          have hbound : (bs ++ (ps.take s).flatten).length + (ps.getD s []).length ≤ 140737488355328 := by
            rw [List.length_append, ← HL.out]
            unfold sums at hst2
            omega
          have EF : Hid ((ps.take (s + 1)).flatten = (ps.take s).flatten ++ ps.getD s []) := flat_succ ps s (by rw [HN.out]; exact hlt)
          generalize ps.getD s [] = d at *
          generalize hl : bs ++ (ps.take s).flatten = l at *
          have HBW : Hid _ := hbw
          have HBO : Hid _ := hbound
          have HRP : Hid _ := rP
          have HSL : Hid _ := hsl
          have HNL : Hid _ := hnil
          have HLE : Hid (bs ++ (ps.take s).flatten = l) := hl
          clear hbw hw hf hG hbound hsl hnil rP hst2 hl
          go_wp2_with (refine wpList_app rfl (.tmp 43) (.tmp 44) rfl _ l d rfl HBW.out Ap d.length cp rfl rfl HSL.out HNL.out HBO.out ?_; intro v' w' q1 q2 q3; obtain ⟨Ax, cx, ex, _⟩ := Bw.form q1; subst ex; have rP' := Gro.row (Gro.grown (Gro.refl _ _) q2 (fun g e => .inl e)) HRP.out (fun e => Bw.ne HBW.out HRP.out (by decide) _ e rfl); have gP := Row.cell rP' 0 _ rfl; have fP := Row.thaw rP' 0; have rQ := Row.set rP' 0 (.slice Ax (l ++ d).length cx); have RP' : Hid _ := rP'; clear rP'; have Q1 : Hid _ := q1; have Q2 : Hid _ := q2; have Q3 : Hid _ := q3; have RQ : Hid _ := rQ; clear q1 q2 q3 rQ; simp only [Act.put, List.setIfInBounds_toArray, List.set_cons_zero, List.set_cons_succ])
          have e : bs ++ (ps.take (s + 1)).flatten = l ++ d := by rw [EF.out, ← HLE.out, List.append_assoc]
          refine ⟨⟨s + 1, Ax, cx, hlt, by go_num, ?_, ?_, ?_⟩, by simp [intOf]; omega⟩
          · rw [e, ← List.length_append]
            exact ⟨RQ.out, Bw.set_other Q1.out (Bw.ne Q1.out RP'.out (by decide))⟩
          · intro g eg
            rw [e] at eg
            rcases Q3.out with q | q
            · exact HF.out g (q.symm.trans eg)
            · have e2 : some wr.heap.size = some g := q.symm.trans eg
              simp only [Option.some.injEq] at e2
              exact .inr (by rw [← e2]; exact HG.out.size)
          · refine (HG.out.grown Q2.out (fun g eg => ?_)).set P 0 _ RP.out
            rcases HF.out g eg with q | q
            · exact .inl (RV.out g q)
            · exact .inr q
        · obtain rfl : s = t := by omega
          go_wp2
          go_end0
          have e : bs ++ (ps.take s).flatten = bs ++ ps.flatten := by rw [List.take_of_length_le (by rw [HN.out]; exact Nat.le_refl _)]
          rw [← e]
          exact ⟨rfl, ⟨A', cap', HWR.out, HF.out⟩, HG.out⟩

end Go.Proofs.YtekgojokhjihfaaDoor
