/-
  List of bytes, by the law's takeBytes: the walk.
-/
import Derived.Test.YtmkmdbpibpbcjaaXLb2
namespace Go.Proofs.Ytmkmdbpibpbcjaa
open Go Go.RowKit
open Sha

theorem sapp_form {w' : World} {v' : Value} {vs : List Value} {y : Value} {t : Nat} (q1 : Sw w' v' (vs ++ [y])) (hd : vs.length = t) : ∃ Ax cx, v' = .slice Ax (t + 1) cx := by
  obtain ⟨Ax, cx, ex, _⟩ := Sw.form q1
  exact ⟨Ax, cx, by rw [ex]; simp [hd]⟩

set_option maxRecDepth 100000 in
set_option maxHeartbeats 4000000 in
theorem list_bytes (P : Nat) (Ar : Option Addr) (capr : Nat) (bs : List (BitVec 8)) (a : Nat) (most : Int) (w : World) (h : Rg w P Ar capr bs a) :
    Calls Try.prog 83 #[.pointer (some ⟨P, 0, none⟩), .int .i64 most, .func (.func 88) #[] #[]] w fun e w' => Lp w w' e P Ar capr bs a most ∧ Gp P w w' := by
  have hmf : ∀ (fn : Fn) (first cap : Array Value) (w : World), (Instr.makeFunc fn first cap).run Try.prog w = .ok (.func fn first cap) w := fun _ _ _ _ => rfl
  have hfn := fun w => bfunc_nil (.func 88) #[] #[] w
  have b0 : Below w.heap.size w (w.alloc (Obj.cells #[.int .i64 most] 3)) := (Below.refl _ _).alloc (Nat.le_refl _) _
  have rm : Row (w.alloc (Obj.cells #[.int .i64 most] 3)) w.heap.size [.int .i64 most] 3 := Row.new' rfl rfl
  have HT : Hid _ := take_bcount P Ar capr bs a most w.heap.size (cnE bs a most) (.int .i64 ((nuW bs a : Nat) : Int)) (a + 1 + at8 bs a) _ (h.be b0) rm (fun h0 W hr hq => seeBl_any P Ar capr bs a most w.heap.size h0 W hr hq) (fun h0 W hr hq => seeBl_no P Ar capr bs a most w.heap.size h0 W hr hq)
  have HB0 : Hid _ := b0
  have HLP : Hid (P < w.heap.size) := h.row.lt
  have HLE : Hid (a ≤ bs.length) := h.le
  have HLEN : Hid (bs.length ≤ 4194304) := h.len
  clear h b0 rm
  go_enter Try.func83, Try.ntmps83
  go_wp2_with fail
  refine Calls.mono HT.out ?_
  rintro e V ⟨hok, hno, hg⟩
  have HGV : Hid (Gp P w V) := (Gro.of_below HB0.out).trans hg
  by_cases hz : cnE bs a most = 0
  · obtain ⟨rfl, hr⟩ := hok hz
    have HZ : Hid (cnE bs a most = 0) := hz
    obtain ⟨_, _, q3⟩ := cnE_ok hz
    have hn4 : nuW bs a ≤ 4194304 := by have := HLEN.out; omega
    have HA1 : Hid (a + 1 + at8 bs a ≤ bs.length) := by show _ ≤ _; omega
    have HRG : Hid (Rg V P Ar capr bs (a + 1 + at8 bs a)) := hr
    obtain ⟨n, hn⟩ : ∃ n, n = nuW bs a := ⟨_, rfl⟩
    obtain ⟨a1, ha1⟩ : ∃ a1, a1 = a + 1 + at8 bs a := ⟨_, rfl⟩
    have HAA : Hid (a ≤ a1) := by show _ ≤ _; omega
    have HNN : Hid (n = nuW bs a) := hn
    have HA1E : Hid (a1 = a + 1 + at8 bs a) := ha1
    rw [← hn]
    rw [← hn] at hn4
    rw [← ha1] at HA1 HRG
    clear hok hno hg hr HT HB0 hfn hz q3 hn ha1
    go_wp2
    go_loopw [8] (fun l wr => ∃ (t : Nat) (Av : Option Addr) (cv : Nat), t ≤ n ∧ l = .slice Av t cv ∧ Rx wr P Ar capr bs (rb bs a1 0 t).1 (rb bs a1 0 t).2 ∧ ((rb bs a1 0 t).2 = 0 → ∃ vs, Ly w.heap.size wr (.slice Av t cv) vs (pcs bs a1 t)) ∧ Gp P w wr) (fun l _ => n - (match l with | .slice _ k _ => k | _ => 0))
    case atStart => exact ⟨0, none, 0, Nat.zero_le _, rfl, .inl ⟨rfl, HRG.out⟩, (fun _ => ⟨[], Sw.nil _, (fun g e => by simp [Value.ownBlock] at e), rfl, (fun i hi => by simp [pcs] at hi)⟩), HGV.out⟩
    case round =>
      clear HRG HGV
      obtain ⟨t, Av, cv, ht, rfl, hrx, hly, hgg⟩ := hrel
      have HRX : Hid (Rx _ _ _ _ _ _ _) := hrx
      have HGG : Hid (Gp P w wr) := hgg
      obtain ⟨v0, hrow⟩ := hrx.row
      have g2 := hrow.cell 2 _ rfl
      have hge := rb_ge bs a1 HA1.out t
      by_cases hf : (rb bs a1 0 t).2 = 0
      · rw [hf] at g2
        obtain ⟨vs, hLy⟩ := hly hf
        have LY : Hid (Ly _ _ _ _ _) := hLy
        have HF : Hid ((rb bs a1 0 t).2 = 0) := hf
        have hrg : Rg wr P Ar capr bs (rb bs a1 0 t).1 := by
          rcases hrx with ⟨_, q⟩ | ⟨q, _⟩
          · exact q
          · exact absurd hf q
        have HRG : Hid (Rg _ _ _ _ _ _) := hrg
        by_cases hlt : t < n
        · have HTB : Hid _ := takeBytes_any P Ar capr bs (rb bs a1 0 t).1 wr hrg
          clear hrx hly hgg hrow hf hLy hrg hge
          go_wp2_with fail
          refine Calls.mono HTB.out ?_
          rintro e W1 ⟨hok, hno, hg1⟩
          have LY1 : Hid (Ly w.heap.size W1 (.slice Av t cv) vs (pcs bs a1 t)) := LY.out.gro hg1 (fun g e q => by have := LY.out.fv g e; have := HLP.out; omega) (fun g hg _ q => by have := HLP.out; omega)
          have HG1 : Hid (Gp P w W1) := HGG.out.trans hg1
          have hvl : vs.length = t := by rw [LY.out.len, pcs_len]
          have HVL : Hid (vs.length = t) := hvl
          have HL : Hid ((vs.length + 1) * 24 ≤ 140737488355328) := by show _ ≤ _; omega
          by_cases hz : cnE bs (rb bs a1 0 t).1 5 = 0
          · obtain ⟨v, rfl, hbo, hr1⟩ := hok hz
            have hrb : rb bs a1 0 (t + 1) = ((rb bs a1 0 t).1 + 1 + at8 bs (rb bs a1 0 t).1 + nuW bs (rb bs a1 0 t).1, 0) := by
              show (if (rb bs a1 0 t).2 = 0 then _ else _) = _
              rw [if_pos HF.out, if_pos hz]
            have HRB : Hid (Rx W1 P Ar capr bs (rb bs a1 0 (t + 1)).1 (rb bs a1 0 (t + 1)).2) := by rw [hrb]; exact .inl ⟨rfl, hr1⟩
            obtain ⟨A5, c5, rfl, hb5, hf5, hn5⟩ := hbo
            have hbo2 : Bo w.heap.size (pb bs a1 t) (pb bs a1 t).length W1 (.slice A5 (nuW bs (rb bs a1 0 t).1) c5) := by
              have e6 : (pb bs a1 t).length = nuW bs (rb bs a1 0 t).1 := sub_len _ _ _ (by have := cnE_ok hz; omega)
              rw [e6]
              exact ⟨A5, c5, rfl, hb5, fun g e => Nat.le_trans HGG.out.size (hf5 g e), hn5⟩
            generalize nuW bs (rb bs a1 0 t).1 = n5 at hbo2 ⊢
            have HBO : Hid (Bo _ _ _ _ _) := hbo2
            clear hok hno hg1 hr1 hbo2 hrb hvl hb5 hf5 hn5 hz
            have b1 : Below W1.heap.size W1 (W1.alloc (Obj.cells #[.slice A5 n5 c5] 27)) := (Below.refl _ _).alloc (Nat.le_refl _) _
            have R1 : Hid (Row (W1.alloc (Obj.cells #[.slice A5 n5 c5] 27)) W1.heap.size [.slice A5 n5 c5] 27) := Row.new' rfl rfl
            have LY2 : Hid (Ly w.heap.size (W1.alloc (Obj.cells #[.slice A5 n5 c5] 27)) (.slice Av t cv) vs (pcs bs a1 t)) := LY1.out.gro (Gro.of_below (R := fun _ => False) b1) (fun _ _ q => q) (fun _ _ _ q => q)
            have BO2 : Hid (Bo w.heap.size (pb bs a1 t) (pb bs a1 t).length (W1.alloc (Obj.cells #[.slice A5 n5 c5] 27)) (.slice A5 n5 c5)) := HBO.out.gro (Gro.of_below (R := fun _ => False) b1) (fun _ _ _ q => q)
            have B1 : Hid _ := b1
            clear b1
            go_wp2_with (refine wpList_apps rfl (.tmp 29) (.tmp 33) rfl (.slice Av t cv) vs rfl LY2.out.own W1.heap.size (.slice A5 n5 c5) rfl rfl R1.out HL.out ?_; intro v' w' q1 q2 q3; obtain ⟨Ax, cx, ex⟩ := sapp_form q1 HVL.out; subst ex; have Q1 : Hid _ := q1; have Q2 : Hid _ := q2; have Q3 : Hid _ := q3; clear q1 q2 q3; simp only [Act.put, List.setIfInBounds_toArray, List.set_cons_zero, List.set_cons_succ])
            have HLY := Ly.app LY2.out BO2.out B1.out HG1.out.size Q1.out Q2.out Q3.out
            rw [← pcs_succ] at HLY
            have G3 : Gro (fun g => (Value.slice Av t cv).ownBlock = some g) (W1.alloc (Obj.cells #[.slice A5 n5 c5] 27)) w' := (Gro.refl _ _).grown Q2.out (fun g e => .inl e)
            refine ⟨⟨t + 1, Ax, cx, hlt, rfl, ?_, fun _ => ⟨_, HLY⟩, ?_⟩, by simp only; omega⟩
            · exact (HRB.out.be B1.out).gro G3 (fun e => by have := LY2.out.fv _ e; have := HLP.out; omega) (fun h0 g e q => by
                obtain ⟨cs, r⟩ := Sw.row LY2.out.own g q
                rcases HRB.out.be B1.out with ⟨_, h3⟩ | ⟨h3, _⟩
                · exact Bw.ne h3.bw r (by decide) g e rfl
                · exact absurd h0 h3)
            · exact (HG1.out.below B1.out).grown Q2.out (fun g e => .inr (LY2.out.fv g e))
          · obtain ⟨rfl, hr1⟩ := hno hz
            have hrb : rb bs a1 0 (t + 1) = ((rb bs a1 0 t).1, cnE bs (rb bs a1 0 t).1 5) := by
              show (if (rb bs a1 0 t).2 = 0 then _ else _) = _
              rw [if_pos HF.out, if_neg hz]
            have HRB : Hid (Rx W1 P Ar capr bs (rb bs a1 0 (t + 1)).1 (rb bs a1 0 (t + 1)).2) := by rw [hrb]; exact .inr ⟨hz, hr1⟩
            have HNZ : Hid (¬ (rb bs a1 0 (t + 1)).2 = 0) := by rw [hrb]; exact hz
            clear hok hno hg1 hr1 hrb hvl hz
            have b1 : Below W1.heap.size W1 (W1.alloc (Obj.cells #[.slice none 0 0] 27)) := (Below.refl _ _).alloc (Nat.le_refl _) _
            have R1 : Hid (Row (W1.alloc (Obj.cells #[.slice none 0 0] 27)) W1.heap.size [.slice none 0 0] 27) := Row.new' rfl rfl
            have LY2 : Hid (Ly w.heap.size (W1.alloc (Obj.cells #[.slice none 0 0] 27)) (.slice Av t cv) vs (pcs bs a1 t)) := LY1.out.gro (Gro.of_below (R := fun _ => False) b1) (fun _ _ q => q) (fun _ _ _ q => q)
            have B1 : Hid _ := b1
            clear b1
            go_wp2_with (refine wpList_apps rfl (.tmp 29) (.tmp 33) rfl (.slice Av t cv) vs rfl LY2.out.own W1.heap.size (.slice none 0 0) rfl rfl R1.out HL.out ?_; intro v' w' q1 q2 q3; obtain ⟨Ax, cx, ex⟩ := sapp_form q1 HVL.out; subst ex; have Q1 : Hid _ := q1; have Q2 : Hid _ := q2; have Q3 : Hid _ := q3; clear q1 q2 q3; simp only [Act.put, List.setIfInBounds_toArray, List.set_cons_zero, List.set_cons_succ])
            have G3 : Gro (fun g => (Value.slice Av t cv).ownBlock = some g) (W1.alloc (Obj.cells #[.slice none 0 0] 27)) w' := (Gro.refl _ _).grown Q2.out (fun g e => .inl e)
            refine ⟨⟨t + 1, Ax, cx, hlt, rfl, ?_, fun q => absurd q HNZ.out, ?_⟩, by simp only; omega⟩
            · exact (HRB.out.be B1.out).gro G3 (fun e => by have := LY2.out.fv _ e; have := HLP.out; omega) (fun h0 g e q => absurd h0 HNZ.out)
            · exact (HG1.out.below B1.out).grown Q2.out (fun g e => .inr (LY2.out.fv g e))
        · obtain rfl : t = n := by omega
          clear hrx hly hgg hrow hf hLy hrg hge
          go_wp2
          go_ret
          refine ⟨?_, HGG.out⟩
          unfold Lp
          rw [← HNN.out, ← HA1E.out]
          exact .inl ⟨HZ.out, HF.out, Av, cv, vs, rfl, LY.out, HRG.out⟩
      · have HNZ : Hid (¬ (rb bs a1 0 t).2 = 0) := hf
        have HRF : Hid (Rf wr P (rb bs a1 0 t).1 (rb bs a1 0 t).2) := by
          rcases hrx with ⟨q, _⟩ | ⟨_, q⟩
          · exact absurd q hf
          · exact q
        have HGE : Hid (a ≤ (rb bs a1 0 t).1 ∧ (rb bs a1 0 t).1 ≤ bs.length) := ⟨by have := HAA.out; omega, hge.2⟩
        have hb0 : ((rb bs a1 0 t).2 == 0) = false := by simp [hf]
        clear hrx hly hgg hrow hge
        by_cases hlt : t < n
        · go_wp2
          go_ret
          exact ⟨.inr ⟨_, _, HNZ.out, HGE.out.1, HGE.out.2, rfl, HRF.out⟩, HGG.out⟩
        · obtain rfl : t = n := by omega
          go_wp2
          go_ret
          exact ⟨.inr ⟨_, _, HNZ.out, HGE.out.1, HGE.out.2, rfl, HRF.out⟩, HGG.out⟩
  · obtain ⟨rfl, hr⟩ := hno hz
    have HRF : Hid (Rf V P a (cnE bs a most)) := hr
    have HNZ : Hid (¬ cnE bs a most = 0) := hz
    have hb0 : (cnE bs a most == 0) = false := by simp [hz]
    have g2 := Row.cell hr 2 _ rfl
    clear hok hno hg hr HT HB0 hfn
    go_wp2
    go_loopw [8] (fun l wr => l = .slice none 0 0 ∧ wr = V) (fun _ _ => 0)
    case atStart => exact ⟨rfl, rfl⟩
    case round =>
      obtain ⟨rfl, rfl⟩ := hrel
      go_wp2
      go_ret
      exact ⟨.inr ⟨a, _, HNZ.out, Nat.le_refl _, HLE.out, rfl, HRF.out⟩, HGV.out⟩

end Go.Proofs.Ytmkmdbpibpbcjaa
