/-
  List of bytes, by the law's takePiece.
-/
import Derived.Test.YtmkmdbpibpbcjaaXLb2
namespace Go.Proofs.Ytmkmdbpibpbcjaa
open Go Go.RowKit
open Sha

/-- Place and fault behind t lists of at most nine bytes. -/
def rn (bs : List (BitVec 8)) (a : Nat) (f : Int) : Nat → Nat × Int
  | 0 => (a, f)
  | t + 1 => if (rn bs a f t).2 = 0 then (if cnE bs (rn bs a f t).1 9 = 0 then ((rn bs a f t).1 + 1 + at8 bs (rn bs a f t).1 + nuW bs (rn bs a f t).1, 0) else ((rn bs a f t).1, cnE bs (rn bs a f t).1 9)) else rn bs a f t
/-- The t-th of them. -/
def pn (bs : List (BitVec 8)) (a : Nat) (t : Nat) : List (BitVec 8) := sub bs ((rn bs a 0 t).1 + 1 + at8 bs (rn bs a 0 t).1) (nuW bs (rn bs a 0 t).1)

set_option maxRecDepth 100000 in
theorem takePiece_any (P : Nat) (A : Option Addr) (cap : Nat) (bs : List (BitVec 8)) (a : Nat) (w : World) (h : Rg w P A cap bs a) :
    Calls Try.prog 84 #[.pointer (some ⟨P, 0, none⟩)] w fun e w' => (cnE bs a 9 = 0 → ∃ v, e = .returned v ∧ Bo w.heap.size (sub bs (a + 1 + at8 bs a) (nuW bs a)) (nuW bs a) w' v ∧ Rg w' P A cap bs (a + 1 + at8 bs a + nuW bs a)) ∧ (¬ cnE bs a 9 = 0 → e = .returned (.slice none 0 0) ∧ Rf w' P a (cnE bs a 9)) ∧ Gp P w w' := by
  have HF : Hid _ := face_bytes P A cap bs a 9 w h
  clear h
  generalize cnE bs a 9 = f at *
  generalize Bo w.heap.size (sub bs (a + 1 + at8 bs a) (nuW bs a)) (nuW bs a) = Qv at *
  generalize a + 1 + at8 bs a + nuW bs a = a' at *
  go_enter Try.func84, Try.ntmps84
  go_wp2_with fail
  refine Calls.mono HF.out ?_
  rintro e V ⟨h1, h2, hg⟩
  have HG : Hid (Gro _ _ _) := hg
  by_cases hz : f = 0
  · obtain ⟨v, rfl, hq, hr⟩ := h1 hz
    have HQ : Hid (Qv V v) := hq
    have HR : Hid (Rg _ _ _ _ _ _) := hr
    clear h1 h2 hg HF hr hq
    go_wp2_with fail
    go_ret
    exact ⟨fun _ => ⟨v, rfl, HQ.out, HR.out⟩, fun q => absurd hz q, HG.out⟩
  · obtain ⟨rfl, hr⟩ := h2 hz
    have HR : Hid (Rf _ _ _ _) := hr
    clear h1 h2 hg HF hr
    go_wp2_with fail
    go_ret
    exact ⟨fun q => absurd q hz, fun _ => ⟨rfl, HR.out⟩, HG.out⟩

def pns (bs : List (BitVec 8)) (a t : Nat) : List (List (BitVec 8)) := (List.range t).map (pn bs a)
theorem pns_len (bs : List (BitVec 8)) (a t : Nat) : (pns bs a t).length = t := by simp [pns]
theorem pns_succ (bs : List (BitVec 8)) (a t : Nat) : pns bs a (t + 1) = pns bs a t ++ [pn bs a t] := by simp [pns, List.range_succ]
theorem rn_ge (bs : List (BitVec 8)) (a : Nat) (ha : a ≤ bs.length) : ∀ t, a ≤ (rn bs a 0 t).1 ∧ (rn bs a 0 t).1 ≤ bs.length
  | 0 => ⟨Nat.le_refl _, ha⟩
  | t + 1 => by
    have ih := rn_ge bs a ha t
    simp only [rn]
    by_cases h : (rn bs a 0 t).2 = 0
    · rw [if_pos h]
      by_cases h2 : cnE bs (rn bs a 0 t).1 9 = 0
      · rw [if_pos h2]
        have := cnE_ok h2
        exact ⟨by simp only; omega, by simp only; omega⟩
      · rw [if_neg h2]; exact ih
    · rw [if_neg h]; exact ih
theorem rn_pre (bs : List (BitVec 8)) (a : Nat) (t : Nat) (h : (rn bs a 0 (t + 1)).2 = 0) : (rn bs a 0 t).2 = 0 ∧ cnE bs (rn bs a 0 t).1 9 = 0 := by
  simp only [rn] at h
  by_cases h1 : (rn bs a 0 t).2 = 0
  · rw [if_pos h1] at h
    by_cases h2 : cnE bs (rn bs a 0 t).1 9 = 0
    · exact ⟨h1, h2⟩
    · rw [if_neg h2] at h; exact absurd h h2
  · rw [if_neg h1] at h; exact absurd h h1
theorem rn_stay (bs : List (BitVec 8)) (a : Nat) (t : Nat) (h : ¬ (rn bs a 0 t).2 = 0) : ∀ d, rn bs a 0 (t + d) = rn bs a 0 t
  | 0 => rfl
  | d + 1 => by
    have ih := rn_stay bs a t h d
    show (if (rn bs a 0 (t + d)).2 = 0 then _ else rn bs a 0 (t + d)) = _
    rw [ih, if_neg h]

/-- What List leaves. -/
def Lpn (w w' : World) (e : Ending) (P : Nat) (Ar : Option Addr) (capr : Nat) (bs : List (BitVec 8)) (a : Nat) : Prop :=
  ∃ Av cv vs, e = .returned (.slice Av (nuW bs a) cv) ∧ Ly w.heap.size w' (.slice Av (nuW bs a) cv) vs (pns bs (a + 1 + at8 bs a) (nuW bs a)) ∧ Rg w' P Ar capr bs (rn bs (a + 1 + at8 bs a) 0 (nuW bs a)).1

theorem sapp_formn {w' : World} {v' : Value} {vs : List Value} {y : Value} {t : Nat} (q1 : Sw w' v' (vs ++ [y])) (hd : vs.length = t) : ∃ Ax cx, v' = .slice Ax (t + 1) cx := by
  obtain ⟨Ax, cx, ex, _⟩ := Sw.form q1
  exact ⟨Ax, cx, by rw [ex]; simp [hd]⟩

set_option maxRecDepth 100000 in
set_option maxHeartbeats 4000000 in
theorem list_pieces (P : Nat) (Ar : Option Addr) (capr : Nat) (bs : List (BitVec 8)) (a : Nat) (most : Int) (w : World) (h : Rg w P Ar capr bs a) (hE : cnE bs a most = 0) (hR : ∀ t, t ≤ nuW bs a → (rn bs (a + 1 + at8 bs a) 0 t).2 = 0) :
    Calls Try.prog 83 #[.pointer (some ⟨P, 0, none⟩), .int .i64 most, .func (.func 84) #[] #[]] w fun e w' => Lpn w w' e P Ar capr bs a ∧ Gp P w w' := by
  have hmf : ∀ (fn : Fn) (first cap : Array Value) (w : World), (Instr.makeFunc fn first cap).run Try.prog w = .ok (.func fn first cap) w := fun _ _ _ _ => rfl
  have hfn := fun w => bfunc_nil (.func 84) #[] #[] w
  have b0 : Below w.heap.size w (w.alloc (Obj.cells #[.int .i64 most] 3)) := (Below.refl _ _).alloc (Nat.le_refl _) _
  have rm : Row (w.alloc (Obj.cells #[.int .i64 most] 3)) w.heap.size [.int .i64 most] 3 := Row.new' rfl rfl
  have HT : Hid _ := take_bcount P Ar capr bs a most w.heap.size (cnE bs a most) (.int .i64 ((nuW bs a : Nat) : Int)) (a + 1 + at8 bs a) _ (h.be b0) rm (fun h0 W hr hq => seeBl_any P Ar capr bs a most w.heap.size h0 W hr hq) (fun h0 W hr hq => seeBl_no P Ar capr bs a most w.heap.size h0 W hr hq)
  have HE : Hid (cnE bs a most = 0) := hE
  have HRR : Hid (∀ t, t ≤ nuW bs a → (rn bs (a + 1 + at8 bs a) 0 t).2 = 0) := hR
  clear hE hR
  have HB0 : Hid _ := b0
  have HLP : Hid (P < w.heap.size) := h.row.lt
  have HLE : Hid (a ≤ bs.length) := h.le
  have HLEN : Hid (bs.length ≤ 4194304) := h.len
  clear h b0 rm
  go_enter Try.func83, Try.ntmps83
  go_wp2_with fail
  refine Calls.mono HT.out ?_
  rintro e V ⟨hok, hno, hg⟩
  have HGV : Hid (Gp P w V) := (Gro.of_below HB0.out).trans hg
  by_cases hz : cnE bs a most = 0
  · obtain ⟨rfl, hr⟩ := hok hz
    have HZ : Hid (cnE bs a most = 0) := hz
    obtain ⟨_, _, q3⟩ := cnE_ok hz
    have hn4 : nuW bs a ≤ 4194304 := by have := HLEN.out; omega
    have HA1 : Hid (a + 1 + at8 bs a ≤ bs.length) := by show _ ≤ _; omega
    have HRG : Hid (Rg V P Ar capr bs (a + 1 + at8 bs a)) := hr
    obtain ⟨n, hn⟩ : ∃ n, n = nuW bs a := ⟨_, rfl⟩
    obtain ⟨a1, ha1⟩ : ∃ a1, a1 = a + 1 + at8 bs a := ⟨_, rfl⟩
    have HAA : Hid (a ≤ a1) := by show _ ≤ _; omega
    have HNN : Hid (n = nuW bs a) := hn
    have HA1E : Hid (a1 = a + 1 + at8 bs a) := ha1
    rw [← hn]
    rw [← hn] at hn4
    rw [← ha1] at HA1 HRG HRR
    rw [← hn] at HRR
    clear hok hno hg hr HT HB0 hfn hz q3 hn ha1
    go_wp2
    go_loopw [8] (fun l wr => ∃ (t : Nat) (Av : Option Addr) (cv : Nat), t ≤ n ∧ l = .slice Av t cv ∧ Rx wr P Ar capr bs (rn bs a1 0 t).1 (rn bs a1 0 t).2 ∧ ((rn bs a1 0 t).2 = 0 → ∃ vs, Ly w.heap.size wr (.slice Av t cv) vs (pns bs a1 t)) ∧ Gp P w wr) (fun l _ => n - (match l with | .slice _ k _ => k | _ => 0))
    case atStart => exact ⟨0, none, 0, Nat.zero_le _, rfl, .inl ⟨rfl, HRG.out⟩, (fun _ => ⟨[], Sw.nil _, (fun g e => by simp [Value.ownBlock] at e), rfl, (fun i hi => by simp [pns] at hi)⟩), HGV.out⟩
    case round =>
      clear HRG HGV
      obtain ⟨t, Av, cv, ht, rfl, hrx, hly, hgg⟩ := hrel
      have HRX : Hid (Rx _ _ _ _ _ _ _) := hrx
      have HGG : Hid (Gp P w wr) := hgg
      obtain ⟨v0, hrow⟩ := hrx.row
      have g2 := hrow.cell 2 _ rfl
      have hge := rn_ge bs a1 HA1.out t
      by_cases hf : (rn bs a1 0 t).2 = 0
      · rw [hf] at g2
        obtain ⟨vs, hLy⟩ := hly hf
        have LY : Hid (Ly _ _ _ _ _) := hLy
        have HF : Hid ((rn bs a1 0 t).2 = 0) := hf
        have hrg : Rg wr P Ar capr bs (rn bs a1 0 t).1 := by
          rcases hrx with ⟨_, q⟩ | ⟨q, _⟩
          · exact q
          · exact absurd hf q
        have HRG : Hid (Rg _ _ _ _ _ _) := hrg
        by_cases hlt : t < n
        · have HTB : Hid _ := takePiece_any P Ar capr bs (rn bs a1 0 t).1 wr hrg
          clear hrx hly hgg hrow hf hLy hrg hge
          go_wp2_with fail
          refine Calls.mono HTB.out ?_
          rintro e W1 ⟨hok, hno, hg1⟩
          have LY1 : Hid (Ly w.heap.size W1 (.slice Av t cv) vs (pns bs a1 t)) := LY.out.gro hg1 (fun g e q => by have := LY.out.fv g e; have := HLP.out; omega) (fun g hg _ q => by have := HLP.out; omega)
          have HG1 : Hid (Gp P w W1) := HGG.out.trans hg1
          have hvl : vs.length = t := by rw [LY.out.len, pns_len]
          have HVL : Hid (vs.length = t) := hvl
          have HL : Hid ((vs.length + 1) * 24 ≤ 140737488355328) := by show _ ≤ _; omega
          by_cases hz : cnE bs (rn bs a1 0 t).1 9 = 0
          · obtain ⟨v, rfl, hbo, hr1⟩ := hok hz
            have hrb : rn bs a1 0 (t + 1) = ((rn bs a1 0 t).1 + 1 + at8 bs (rn bs a1 0 t).1 + nuW bs (rn bs a1 0 t).1, 0) := by
              show (if (rn bs a1 0 t).2 = 0 then _ else _) = _
              rw [if_pos HF.out, if_pos hz]
            have HRB : Hid (Rx W1 P Ar capr bs (rn bs a1 0 (t + 1)).1 (rn bs a1 0 (t + 1)).2) := by rw [hrb]; exact .inl ⟨rfl, hr1⟩
            obtain ⟨A5, c5, rfl, hb5, hf5, hn5⟩ := hbo
            have hbo2 : Bo w.heap.size (pn bs a1 t) (pn bs a1 t).length W1 (.slice A5 (nuW bs (rn bs a1 0 t).1) c5) := by
              have e6 : (pn bs a1 t).length = nuW bs (rn bs a1 0 t).1 := sub_len _ _ _ (by have := cnE_ok hz; omega)
              rw [e6]
              exact ⟨A5, c5, rfl, hb5, fun g e => Nat.le_trans HGG.out.size (hf5 g e), hn5⟩
            generalize nuW bs (rn bs a1 0 t).1 = n5 at hbo2 ⊢
            have HBO : Hid (Bo _ _ _ _ _) := hbo2
            clear hok hno hg1 hr1 hbo2 hrb hvl hb5 hf5 hn5 hz
            have b1 : Below W1.heap.size W1 (W1.alloc (Obj.cells #[.slice A5 n5 c5] 27)) := (Below.refl _ _).alloc (Nat.le_refl _) _
            have R1 : Hid (Row (W1.alloc (Obj.cells #[.slice A5 n5 c5] 27)) W1.heap.size [.slice A5 n5 c5] 27) := Row.new' rfl rfl
            have LY2 : Hid (Ly w.heap.size (W1.alloc (Obj.cells #[.slice A5 n5 c5] 27)) (.slice Av t cv) vs (pns bs a1 t)) := LY1.out.gro (Gro.of_below (R := fun _ => False) b1) (fun _ _ q => q) (fun _ _ _ q => q)
            have BO2 : Hid (Bo w.heap.size (pn bs a1 t) (pn bs a1 t).length (W1.alloc (Obj.cells #[.slice A5 n5 c5] 27)) (.slice A5 n5 c5)) := HBO.out.gro (Gro.of_below (R := fun _ => False) b1) (fun _ _ _ q => q)
            have B1 : Hid _ := b1
            clear b1
            go_wp2_with (refine wpList_apps rfl (.tmp 29) (.tmp 33) rfl (.slice Av t cv) vs rfl LY2.out.own W1.heap.size (.slice A5 n5 c5) rfl rfl R1.out HL.out ?_; intro v' w' q1 q2 q3; obtain ⟨Ax, cx, ex⟩ := sapp_formn q1 HVL.out; subst ex; have Q1 : Hid _ := q1; have Q2 : Hid _ := q2; have Q3 : Hid _ := q3; clear q1 q2 q3; simp only [Act.put, List.setIfInBounds_toArray, List.set_cons_zero, List.set_cons_succ])
            have HLY := Ly.app LY2.out BO2.out B1.out HG1.out.size Q1.out Q2.out Q3.out
            rw [← pns_succ] at HLY
            have G3 : Gro (fun g => (Value.slice Av t cv).ownBlock = some g) (W1.alloc (Obj.cells #[.slice A5 n5 c5] 27)) w' := (Gro.refl _ _).grown Q2.out (fun g e => .inl e)
            refine ⟨⟨t + 1, Ax, cx, hlt, rfl, ?_, fun _ => ⟨_, HLY⟩, ?_⟩, by simp only; omega⟩
            · exact (HRB.out.be B1.out).gro G3 (fun e => by have := LY2.out.fv _ e; have := HLP.out; omega) (fun h0 g e q => by
                obtain ⟨cs, r⟩ := Sw.row LY2.out.own g q
                rcases HRB.out.be B1.out with ⟨_, h3⟩ | ⟨h3, _⟩
                · exact Bw.ne h3.bw r (by decide) g e rfl
                · exact absurd h0 h3)
            · exact (HG1.out.below B1.out).grown Q2.out (fun g e => .inr (LY2.out.fv g e))
          · exact absurd (rn_pre bs a1 t (HRR.out (t + 1) hlt)).2 hz
        · obtain rfl : t = n := by omega
          clear hrx hly hgg hrow hf hLy hrg hge
          go_wp2
          go_ret
          refine ⟨?_, HGG.out⟩
          unfold Lpn
          rw [← HNN.out, ← HA1E.out]
          exact ⟨Av, cv, vs, rfl, LY.out, HRG.out⟩
      · exact absurd (HRR.out t ht) hf
  · exact absurd HE.out hz

end Go.Proofs.Ytmkmdbpibpbcjaa
