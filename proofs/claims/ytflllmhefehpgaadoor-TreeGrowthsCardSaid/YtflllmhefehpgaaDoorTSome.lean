/-
  The law's some: at most so many leaves.
-/
import Derived.Test.YtflllmhefehpgaaDoorTWrite
import Derived.Test.YtflllmhefehpgaaDoorTStr
import Derived.Deep.QuietTactic
import Derived.BigQuiet

namespace Go.Proofs.YtflllmhefehpgaaDoor
open Go Go.RowKit
open Sha

theorem stp_fcall {P : Program} {ops : Array Oper} {o : Oper} {a : Act} {w : World} {K : Act → World → Prop} {Q : Exit → Act → World → Prop} {E : Prop} (hg : o.guard = none) (f : FuncId) (args : Array Value) (h : (execOp a.eval o).run P w = .ok (.enter f args) w)
    (hc : Calls P f args w fun e w' => ∃ v, e = .returned v ∧ K (a.put o.dst v) w') : if Region.wanted o (yielded ops a.tmps) = true then Oper.wp P o a w K Q else E := by
  have hw : Region.wanted o (yielded ops a.tmps) = true := by simp [Region.wanted, hg]
  rw [if_pos hw]
  unfold Oper.wp
  rw [h]
  exact hc.mono (fun e w' hk => by obtain ⟨v, he, hk⟩ := hk; subst he; exact hk)
theorem blw_drewN {B : Nat} {a w : World} (h : Below B a w) (n : Nat) : Below B a (w.drewN n) := ⟨h.os, h.tape, h.output, h.size, h.block⟩
theorem str_mark : str mark4 = ⟨#[109, 97, 114, 107]⟩ := by kernel_rfl
/-- An owner's value in the list of owners. -/
theorem Loan.owner {w : World} {G n m f co : Nat} {Ao : Option Addr} {L : List Value} {B : Nat → Nat} {ps qs : List (List (BitVec 8))} (h : Loan w G (.slice Ao n co) L B ps qs n n f m) (t : Nat) (hlt : t < n) : ∃ g1, Ao = some ⟨g1, 0, none⟩ ∧ w.cell? ⟨g1, t, none⟩ = some (Value.slice (some ⟨B t, 0, none⟩) ((ps.getD t []).length + 70) ((ps.getD t []).length + 70)) := by
  rcases h.own.2 with ⟨_, h0⟩ | ⟨g1, cap, cur, hv, _, hh, _, _, _, hta⟩
  · omega
  · simp only [Value.slice.injEq] at hv
    refine ⟨g1, hv.1, ?_⟩
    have q : Row w g1 cur.toList 22 := by unfold Row; rw [hh]
    refine q.cell t _ ?_
    have e : (owv B ps n)[t]? = some (Value.slice (some ⟨B t, 0, none⟩) ((ps.getD t []).length + 70) ((ps.getD t []).length + 70)) := by simp [owv, hlt]
    rw [← hta, List.getElem?_take_of_lt (by omega)] at e
    exact e

set_option maxRecDepth 100000 in
set_option maxHeartbeats 1000000 in
theorem kept_q (d : List (BitVec 8)) (n : Nat) (hdn : d.length = n) (hd : n ≤ 140737488351232) (g : Nat) (A : Option Addr) (cap : Nat) (w : World) (hr : Row w g (vB (d ++ marks70)) 5) (hv : SlAt w (.slice A n cap) d) :
    Calls Tryd.prog 12 #[.slice (some ⟨g, 0, none⟩) (n + 70) (n + 70), .slice A n cap] w fun e w' => e = .returned (.bool true) ∧ ∃ m, w' = w.drewN m := by
  subst hdn
  have HV : Hid _ := hv
  have hs : SlAt w (.slice (some ⟨g, 0, none⟩) d.length (d.length + 70)) d := .inr ⟨g, 0, d.length + 70, rfl, by omega, fun j v hj => hr.all j v (by rw [vB_append, List.getElem?_append_left (List.getElem?_eq_some_iff.1 hj).1]; exact hj)⟩
  have HS : Hid _ := hs
  clear hv hs
  go_enter Tryd.func12, Tryd.ntmps12
  go_wp2
  go_loopw [5] (fun i wr => ∃ t : Nat, t ≤ 70 ∧ i = .int .i64 ((d.length : Int) + t) ∧ wr = w)
    (fun i _ => d.length + 70 - (intOf i).toNat)
  case atStart => exact ⟨0, by omega, by simp, rfl⟩
  case round =>
    obtain ⟨t, ht, rfl, rfl⟩ := hrel
    by_cases hlt : t < 70
    · have g0 := hr.cell (d.length + t) _ (vB_get _ (d.length + t) (by simp [marks70]; omega))
      rw [kept_get d t hlt, show c 201#8 = 201 from rfl] at g0
      clear hr
      go_wp2
      exact ⟨⟨t + 1, by omega, by go_num, trivial⟩, by simp [intOf]; omega⟩
    · obtain rfl : t = 70 := by omega
      clear hr
      have k1 := fun (W : World) (h : SlAt W (.slice A d.length cap) d) => run_convert_sl (P := Tryd.prog) W 22 5 9 Tryd.underlying22 Tryd.underlying5 Tryd.underlying9 _ d h
      have k2 := run_convert_sl (P := Tryd.prog) wr.drew 22 5 9 Tryd.underlying22 Tryd.underlying5 Tryd.underlying9 _ d HS.out
      replace k1 := k1 wr.drew HV.out
      have hst : ((str d).toList == (str d).toList) = true := by simp
      generalize str d = s at k1 k2 hst
      go_wp2_with fail
      go_region
      go_wp2
      go_ret
      exact ⟨rfl, 1, rfl⟩

set_option maxRecDepth 100000 in
set_option maxHeartbeats 4000000 in
theorem back_any (ps : List (List (BitVec 8))) (n : Nat) (hn : ps.length = n) (hs : n ≤ 1048576) (hl : ∀ i, i < n → (ps.getD i []).length ≤ 140737488351232) (G : Nat) (ov : Value) (L : List Value) (B : Nat → Nat) (A : Option Addr) (cap : Nat) (w : World) (h : Loan w G ov L B ps ps n n n 9) (hv : Lv w A ps) :
    Calls Tryd.prog 17 #[.agg (lo (.slice (some ⟨G, 0, none⟩) (n + 9) (n + 9)) ov n).toArray, .slice A n cap] w fun e w' => e = .returned (.bool true) ∧ Below w.heap.size w w' := by
  obtain ⟨Ao, co, eo⟩ := own_form h.own
  subst eo
  have hB0 : Below w.heap.size w (w.alloc (.cells (lo (.slice (some ⟨G, 0, none⟩) (n + 9) (n + 9)) (.slice Ao n co) n).toArray 35)) := (Below.refl _ _).alloc (Nat.le_refl _) _
  have rS : Row (w.alloc (.cells (lo (.slice (some ⟨G, 0, none⟩) (n + 9) (n + 9)) (.slice Ao n co) n).toArray 35)) w.heap.size (lo (.slice (some ⟨G, 0, none⟩) (n + 9) (n + 9)) (.slice Ao n co) n) 35 := Row.new' rfl rfl
  replace h := h.below hB0
  replace hv := hv.below hB0
  obtain ⟨X, hX⟩ : ∃ X, X = w.alloc (.cells (lo (.slice (some ⟨G, 0, none⟩) (n + 9) (n + 9)) (.slice Ao n co) n).toArray 35) := ⟨_, rfl⟩
  rw [← hX] at rS h hv hB0
  have HL : Hid (∀ i, i < n → (ps.getD i []).length ≤ 140737488351232) := hl
  have HLO : Hid (Loan X _ _ _ _ _ _ _ _ _ _) := h
  have HV : Hid (Lv X A ps) := hv
  have HRS : Hid (Row X _ _ _) := rS
  have HN : Hid (ps.length = n) := hn
  have HB0 : Hid (Below w.heap.size w X) := hB0
  clear hl h hv rS hn hB0
  go_enter Tryd.func17, Tryd.ntmps17
  go_wp2_with fail
  rw [← hX]
  clear hX
  go_loopw [5] (fun i wr => ∃ t : Nat, t ≤ n ∧ i = .int .i64 (t : Int) ∧ Below X.heap.size X wr) (fun i _ => n - (intOf i).toNat)
  case atStart => exact ⟨0, by omega, rfl, Below.refl _ _⟩
  case round =>
    obtain ⟨t, ht, rfl, hb⟩ := hrel
    by_cases hlt : t < n
    · rcases HV.out with h0 | ⟨b, o, rfl, vs, h1, h2, h3⟩
      · have := HN.out; rw [h0] at this; simp at this; omega
      have h3t := (h3 t (by rw [HN.out]; exact hlt)).1
      have hct : X.cell? ⟨b, o + t, none⟩ = some (vs.getD t undef) := h2 t _ (by rw [List.getD_eq_getElem?_getD, List.getElem?_eq_getElem (show t < vs.length by rw [h1, HN.out]; exact hlt)]; rfl)
      have hdl := HL.out t hlt
      obtain ⟨g1, eA, gO⟩ := HLO.out.owner t hlt
      subst eA
      have gL := HLO.out.row.cell t (Value.slice (some ⟨B t, 0, none⟩) (ps.getD t []).length ((ps.getD t []).length + 70)) (by
        have hlen := HLO.out.len
        have e := HLO.out.front t hlt
        rw [List.getD_eq_getElem?_getD, List.getElem?_eq_getElem (show t < L.length by omega)] at e
        rw [List.getElem?_eq_getElem (show t < L.length by omega)]
        exact congrArg some e)
      have rB := (HLO.out.each t hlt).2
      generalize vs.getD t undef = v at *
      clear h1 h2 h3
      generalize ps.getD t [] = d at *
      generalize B t = bb at *
      obtain ⟨A', c', hev⟩ : ∃ A c, v = .slice A d.length c := by
        rcases h3t with ⟨h1, A, c, h2⟩ | ⟨b', o', c, h2, _⟩
        · exact ⟨A, c, by rw [h2, h1]; rfl⟩
        · exact ⟨_, c, h2⟩
      subst hev
      have g1c := cell_be hct hb
      have gOc := cell_be gO hb
      have gSc := cell_be (HRS.out.cell 1 _ rfl) hb
      have RB : Hid (∀ W, Below X.heap.size X W → Row W bb (vB (d ++ marks70)) 5) := fun W k => Row.below rB k rB.lt
      have SV : Hid (∀ W, Below X.heap.size X W → SlAt W (.slice A' d.length c') d) := fun W k => h3t.below k (Nat.le_refl _)
      have SL : Hid (∀ W, Below X.heap.size X W → SlAt W (.slice (some ⟨bb, 0, none⟩) d.length (d.length + 70)) d) := fun W k => .inr ⟨bb, 0, d.length + 70, rfl, by omega, fun j v hj => (Row.below rB k rB.lt).all j v (by rw [vB_append, List.getElem?_append_left (List.getElem?_eq_some_iff.1 hj).1]; exact hj)⟩
      have C1 : Hid (∀ W, Below X.heap.size X W → W.cell? ⟨b, o + t, none⟩ = some (.slice A' d.length c')) := fun W k => cell_be hct k
      have C2 : Hid (∀ W, Below X.heap.size X W → W.cell? ⟨G, t, none⟩ = some (.slice (some ⟨bb, 0, none⟩) d.length (d.length + 70))) := fun W k => cell_be gL k
      have C3 : Hid (∀ W, Below X.heap.size X W → W.cell? ⟨w.heap.size, 0, none⟩ = some (.slice (some ⟨G, 0, none⟩) (n + 9) (n + 9))) := fun W k => cell_be (HRS.out.cell 0 _ rfl) k
      have HDL : Hid (d.length ≤ 140737488351232) := hdl
      clear hct gO gL rB h3t
      go_wp2_with fail
      go_quiet ((go_at_call 12; exact Calls.quiet_of (kept_q d _ rfl HDL.out bb A' c' _ (RB.out wr hb) (SV.out wr hb))))
      clear g1c gOc gSc
      generalize hW : wr.drewN nq = W at *
      have hb2 : Below X.heap.size X W := by rw [← hW]; exact blw_drewN hb nq
      clear hW hb
      have kA : ∀ m, (convert 22 9 (.slice A' d.length c')).run Tryd.prog (W.drewN m) = .ok (.string (str d)) (W.drewN m) := fun m => run_convert_sl (P := Tryd.prog) (W.drewN m) 22 5 9 Tryd.underlying22 Tryd.underlying5 Tryd.underlying9 _ d (SV.out W hb2)
      have kB : ∀ m, (convert 22 9 (.slice (some ⟨bb, 0, none⟩) d.length (d.length + 70))).run Tryd.prog (W.drewN m) = .ok (.string (str d)) (W.drewN m) := fun m => run_convert_sl (P := Tryd.prog) (W.drewN m) 22 5 9 Tryd.underlying22 Tryd.underlying5 Tryd.underlying9 _ d (SL.out W hb2)
      have hst : ((str d).toList == (str d).toList) = true := by simp
      generalize str d = s at kA kB hst
      have c1 := C1.out W hb2
      have c2 := C2.out W hb2
      have c3 := C3.out W hb2
      go_wp2_with fail
      go_quiet (fail)
      go_wp2
      exact ⟨⟨t + 1, hlt, by go_num, blw_drewN hb2 _⟩, by simp [intOf]; omega⟩
    · obtain rfl : t = n := by omega
      go_wp2_with fail
      go_loopw [7] (fun j wq => ∃ m : Nat, m ≤ 9 ∧ j = .int .i64 ((t : Int) + m) ∧ Below X.heap.size X wq) (fun j _ => t + 9 - (intOf j).toNat)
      case atStart => exact ⟨0, by omega, by simp, hb⟩
      case round =>
        clear hb
        obtain ⟨m, hm, rfl, hb⟩ := hrel
        have c3 := cell_be (HRS.out.cell 0 _ rfl) hb
        by_cases hlt : m < 9
        · obtain ⟨M, e1, e2, _⟩ := HLO.out.mark (t + m) (by omega) (by omega)
          have gM := cell_be (HLO.out.row.cell (t + m) (Value.slice (some ⟨M, 0, none⟩) 4 4) (by
            have hlen := HLO.out.len
            rw [List.getD_eq_getElem?_getD, List.getElem?_eq_getElem (show t + m < L.length by omega)] at e1
            rw [List.getElem?_eq_getElem (show t + m < L.length by omega)]
            exact congrArg some e1)) hb
          have kM := run_convert_sl (P := Tryd.prog) wr 22 5 9 Tryd.underlying22 Tryd.underlying5 Tryd.underlying9 _ mark4 (e2.at.below hb (Nat.le_refl _))
          rw [str_mark] at kM
          clear e1 e2
          go_wp2
          exact ⟨⟨m + 1, hlt, by go_num, hb⟩, by simp [intOf]; omega⟩
        · obtain rfl : m = 9 := by omega
          go_wp2
          go_ret
          exact ⟨rfl, HB0.out.trans (hb.mono HB0.out.size)⟩

end Go.Proofs.YtflllmhefehpgaaDoor

namespace Go.Proofs.YtflllmhefehpgaaDoor
open Go Go.RowKit
open Sha

theorem some_few (n : Nat) (hn : n ≤ 1048576) (A : Option Addr) (cap : Nat) (w : World) :
    Calls Tryd.prog 14 #[.slice A n cap, .int .i64 1048576] w fun e w' => e = .returned (.slice A n cap) ∧ w' = w := by
  have h1 : ¬ (1048576 : Int) < (n : Int) := by omega
  have h2 : (n : Int) ≤ 1048576 := by omega
  have h3 : decide ((1048576 : Int) < (n : Int)) = false := decide_eq_false h1
  go_enter Tryd.func14, Tryd.ntmps14
  go_wp2
  go_ret
  exact ⟨rfl, rfl⟩
theorem some_many (n : Nat) (hn : 1048576 < n) (b o cap : Nat) (hc : n ≤ cap) (w : World) :
    Calls Tryd.prog 14 #[.slice (some ⟨b, o, none⟩) n cap, .int .i64 1048576] w fun e w' => e = .returned (.slice (some ⟨b, o, none⟩) 1048576 cap) ∧ w' = w := by
  have h1 : (1048576 : Int) < (n : Int) := by omega
  have h2 : ¬ (n : Int) ≤ 1048576 := by omega
  have h3 : decide ((1048576 : Int) < (n : Int)) = true := decide_eq_true h1
  have HC : Hid (1048576 ≤ cap) := by show _ ≤ _; omega
  clear hc hn
  go_enter Tryd.func14, Tryd.ntmps14
  go_wp2_with (refine wpList_slice_to rfl 25 22 (.tmp 9) (.tmp 10) b o n cap 1048576 rfl rfl rfl HC.out Tryd.underlying25 info_slb ?_; simp only [Act.put, List.setIfInBounds_toArray, List.set_cons_zero, List.set_cons_succ])
  go_ret
  exact ⟨rfl, rfl⟩
/-- The leaves that are looked at. -/
def few (ps : List (List (BitVec 8))) : List (List (BitVec 8)) := ps.take 1048576
theorem few_len (ps : List (List (BitVec 8))) : (few ps).length ≤ 1048576 := by unfold few; rw [List.length_take]; omega
theorem some_any (ps : List (List (BitVec 8))) (n : Nat) (hn : ps.length = n) (A : Option Addr) (cap : Nat) (hc : n ≤ cap) (w : World) (hv : Lv w A ps) :
    Calls Tryd.prog 14 #[.slice A n cap, .int .i64 1048576] w fun e w' => e = .returned (.slice A (few ps).length cap) ∧ w' = w := by
  by_cases h : n ≤ 1048576
  · rw [show (few ps).length = n by unfold few; rw [List.length_take]; omega]
    exact some_few n h A cap w
  · rcases hv with h0 | ⟨b, o, rfl, _⟩
    · subst h0; simp at hn; omega
    · rw [show (few ps).length = 1048576 by unfold few; rw [List.length_take]; omega]
      exact some_many n (by omega) b o cap hc w
theorem Lv.few {w : World} {A : Option Addr} {ps : List (List (BitVec 8))} (h : Lv w A ps) : Lv w A (few ps) := by
  rcases h with h | ⟨b, o, h1, h2⟩
  · exact .inl (by subst h; rfl)
  · exact .inr ⟨b, o, h1, h2.take _⟩
/-- The document's root of a list that came in. -/
theorem rroot_lv (ps : List (List (BitVec 8))) (n : Nat) (hn : ps.length = n) (hs : n ≤ 1048576) (hl : ∀ i, i < n → (ps.getD i []).length ≤ 140737488351232) (dd : List (BitVec 8)) (hd : dd = rt ps) (A : Option Addr) (cap : Nat) (hc : n ≤ cap) (w : World) (fG : Given w) (hv : Lv w A ps) :
    Calls Tryd.prog 22 #[.slice A n cap] w fun e w' => e = .returned (.agg (vB dd).toArray) ∧ Below w.heap.size w w' := by
  rcases hv with h0 | ⟨b, o, rfl, h⟩
  · subst h0
    subst hn
    exact rroot_nil A cap dd (by rw [hd, rt_nil [] rfl]) w fG
  · exact rroot_any n ps hn (by omega) (fun i hi => by have := hl i (by omega); omega) dd hd b o cap hc w fG h
/-- Leaves in memory of their own are leaves of a caller. -/
theorem Tw.ln {w : World} {g : Nat} {ps : List (List (BitVec 8))} {n : Nat} (h : Tw w g ps n n) (hn : ps.length = n) : LnAt w g 0 ps := by
  have hr := h.row
  rw [Nat.sub_self, List.replicate_zero, List.append_nil] at hr
  refine ⟨twv (g + 1) ps n, by rw [twv_len, hn], hr.all, fun i hi => ?_⟩
  have e : (twv (g + 1) ps n).getD i undef = Value.slice (some ⟨g + 1 + i, 0, none⟩) (ps.getD i []).length (ps.getD i []).length := by
    rw [List.getD_eq_getElem?_getD, twv_get _ _ _ _ (by omega)]; rfl
  rw [e]
  refine ⟨.inr ⟨g + 1 + i, 0, (ps.getD i []).length, rfl, Nat.le_refl _, (h.each i (by omega)).all⟩, fun A' n' c' he hA => ?_⟩
  simp only [Value.slice.injEq] at he
  rw [← he.1] at hA; cases hA
/-- The lent leaves, as a list. -/
theorem Loan.ls {w : World} {G : Nat} {ov : Value} {L : List Value} {B : Nat → Nat} {ps qs : List (List (BitVec 8))} {n : Nat} (h : Loan w G ov L B ps qs n n n 9) (hq : qs.length = n) (hl : ∀ i, i < n → (qs.getD i []).length = (ps.getD i []).length) : LsAt w G 0 qs := by
  have hlen := h.len
  refine ⟨L.take n, by rw [List.length_take, hq]; omega, fun j v hj => ?_, fun i hi => ?_⟩
  · have hjn : j < n := by have := (List.getElem?_eq_some_iff.1 hj).1; rw [List.length_take] at this; omega
    rw [List.getElem?_take_of_lt hjn] at hj
    exact h.row.all j v hj
  · rw [hq] at hi
    have e : (L.take n).getD i undef = L.getD i undef := by simp [List.getD_eq_getElem?_getD, hi]
    rw [e, h.front i hi, ← hl i hi]
    exact .inr ⟨B i, 0, _, rfl, by omega, fun j v hj => (h.each i hi).2.all j v (by rw [vB_append, List.getElem?_append_left (List.getElem?_eq_some_iff.1 hj).1]; exact hj)⟩

end Go.Proofs.YtflllmhefehpgaaDoor
