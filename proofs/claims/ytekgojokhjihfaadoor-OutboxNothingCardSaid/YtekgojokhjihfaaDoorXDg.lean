/-
  wire.Reader.seeDigits, whatever the bytes.
-/
import Derived.Test.YtekgojokhjihfaaDoorXRg
namespace Go.Proofs.YtekgojokhjihfaaDoor
open Go Go.RowKit
open Sha

/-- The reader's own block alone turns. -/
abbrev Gp (P : Nat) : World → World → Prop := Gro (fun k => k = P)
/-- A look gave up. -/
def Gave (w w' : World) (P : Nat) (A : Option Addr) (cap : Nat) (bs : List (BitVec 8)) : Prop := (∃ b, Rg w' P A cap bs b) ∧ Gp P w w'
theorem c_at8 (bs : List (BitVec 8)) (i : Nat) : c (bs.getD i 0) = (at8 bs i : Int) := rfl
def qd (bs : List (BitVec 8)) (e t : Nat) : List Value := q4 (lb bs e 0 t) (lb bs e 1 t) (lb bs e 2 t) (lb bs e 3 t)
theorem qd_get (bs : List (BitVec 8)) (e t j : Nat) (h : j < 4) : (qd bs e t)[j]? = some (.int .u64 ((lb bs e j t : Nat) : Int)) := by
  rcases (show j = 0 ∨ j = 1 ∨ j = 2 ∨ j = 3 by omega) with rfl | rfl | rfl | rfl <;> rfl
theorem lb_other (bs : List (BitVec 8)) (e t j : Nat) (h : ¬ t / 8 = j) : lb bs e j (t + 1) = lb bs e j t := by simp only [lb]; rw [if_neg h]
theorem qd_step (bs : List (BitVec 8)) (e t : Nat) (h : t / 8 < 4) : (qd bs e t).set (t / 8) (.int .u64 ((lb bs e (t / 8) (t + 1) : Nat) : Int)) = qd bs e (t + 1) := by
  generalize hj : t / 8 = j at *
  rcases (show j = 0 ∨ j = 1 ∨ j = 2 ∨ j = 3 by omega) with rfl | rfl | rfl | rfl
  · unfold qd; rw [lb_other bs e t 1 (by omega), lb_other bs e t 2 (by omega), lb_other bs e t 3 (by omega)]; rfl
  · unfold qd; rw [lb_other bs e t 0 (by omega), lb_other bs e t 2 (by omega), lb_other bs e t 3 (by omega)]; rfl
  · unfold qd; rw [lb_other bs e t 0 (by omega), lb_other bs e t 1 (by omega), lb_other bs e t 3 (by omega)]; rfl
  · unfold qd; rw [lb_other bs e t 0 (by omega), lb_other bs e t 1 (by omega), lb_other bs e t 2 (by omega)]; rfl
theorem qd_one (bs : List (BitVec 8)) (e t : Nat) : ∀ v ∈ qd bs e t, v.oneCell' = true := q4_one _ _ _ _
theorem Gp.set {w W : World} {P : Nat} (h : Gp P w W) (o : Nat) (v : Value) : Gp P w (W.setCell ⟨P, o, none⟩ v) := Gro.set h P o v rfl

set_option maxRecDepth 100000 in
set_option maxHeartbeats 4000000 in
theorem seeDigits_no (P : Nat) (A : Option Addr) (cap : Nat) (bs : List (BitVec 8)) (a most : Nat) (f : Int) (hf : hiF most bs a = f) (h0 : ¬ f = 0) (w : World) (h : Rg w P A cap bs a) :
    Calls Tryd.prog 110 #[.pointer (some ⟨P, 0, none⟩), .int .i64 (most : Int)] w fun e w' => e = .panicked (gu f) ∧ Gave w w' P A cap bs := by
  have b0 : Below w.heap.size w (w.alloc (Obj.cells q4z.toArray 30)) := (Below.refl _ _).alloc (Nat.le_refl _) _
  replace h := h.be b0
  have hg : Gp P w (w.alloc (Obj.cells q4z.toArray 30)) := Gro.of_below b0
  clear b0
  generalize hX : w.alloc (Obj.cells q4z.toArray 30) = X at *
  unfold hiF at hf
  by_cases h1 : bs.length ≤ a
  · rw [if_pos h1] at hf
    subst hf
    have HN : Hid _ := seeByte_no P A cap bs a h1 X h
    have H : Hid (Rg X P A cap bs a) := h
    have HG : Hid (Gro _ _ _) := hg
    clear h hg h1
    go_enter Tryd.func110, Tryd.ntmps110
    go_wp2_with fail
    rw [show w.alloc (Obj.cells #[Value.int IntKind.u64 0, Value.int IntKind.u64 0, Value.int IntKind.u64 0, Value.int IntKind.u64 0] 30) = X from hX]
    refine Calls.mono HN.out ?_
    rintro e w1 ⟨rfl, m, hw⟩
    have HW : Hid _ := hw
    clear hw
    go_wp2_with fail
    exact ⟨rfl, rfl, by rw [HW.out]; exact ⟨⟨a, Rg.drewN H.out m⟩, Gro.drewN HG.out m⟩⟩
  rw [if_neg h1] at hf
  have HN : Hid _ := seeByte_any P A cap bs a (by omega) X h
  have hk : at8 bs a < 256 := at8_lt bs a
  rw [c_at8] at HN
  have HM : Hid (∀ m, Rg ((X.setCell ⟨P, 1, none⟩ (.int .i64 ((a + 1 : Nat) : Int))).drewN m) P A cap bs (a + 1) ∧ Gp P w ((X.setCell ⟨P, 1, none⟩ (.int .i64 ((a + 1 : Nat) : Int))).drewN m)) := fun m => ⟨(h.move (a + 1) (by omega)).drewN m, (Gp.set hg 1 _).drewN m⟩
  generalize hkk : at8 bs a = k at *
  clear h hg h1
  by_cases h2 : most < k
  · rw [if_pos h2] at hf
    subst hf
    have c1 : (most : Int) < (k : Int) := by omega

    go_enter Tryd.func110, Tryd.ntmps110
    go_wp2_with fail
    rw [show w.alloc (Obj.cells #[Value.int IntKind.u64 0, Value.int IntKind.u64 0, Value.int IntKind.u64 0, Value.int IntKind.u64 0] 30) = X from hX]
    refine Calls.mono HN.out ?_
    rintro e w1 ⟨rfl, m, hw⟩
    have H1 : Hid (Rg w1 P A cap bs (a + 1) ∧ Gp P w w1) := by rw [hw]; exact HM.out m
    clear hw HM HN
    go_wp2_with fail
    exact ⟨rfl, rfl, ⟨_, H1.out.1⟩, H1.out.2⟩
  rw [if_neg h2] at hf
  have c1 : ¬ (most : Int) < (k : Int) := by omega
  by_cases h3 : bs.length < a + 1 + k
  · rw [if_pos h3] at hf
    subst hf
    have H3 : Hid (bs.length < a + 1 + k) := h3
    clear h3
    go_enter Tryd.func110, Tryd.ntmps110
    go_wp2_with fail
    rw [show w.alloc (Obj.cells #[Value.int IntKind.u64 0, Value.int IntKind.u64 0, Value.int IntKind.u64 0, Value.int IntKind.u64 0] 30) = X from hX]
    refine Calls.mono HN.out ?_
    rintro e w1 ⟨rfl, m, hw⟩
    have H1 : Hid (Rg w1 P A cap bs (a + 1) ∧ Gp P w w1) := by rw [hw]; exact HM.out m
    clear hw HM HN
    go_wp2_with fail
    refine Calls.mono (next_no P A cap bs (a + 1) k H3.out w1 H1.out.1) ?_
    rintro e w2 ⟨rfl, m2, hw⟩
    have HW : Hid _ := hw
    clear hw
    go_wp2_with fail
    exact ⟨rfl, rfl, by rw [HW.out]; exact ⟨⟨a + 1, Rg.drewN H1.out.1 m2⟩, Gro.drewN H1.out.2 m2⟩⟩
  rw [if_neg h3] at hf
  by_cases h4 : 0 < k ∧ at8 bs (a + 1) = 0
  · rw [if_pos h4] at hf
    subst hf
    obtain ⟨h5, h6⟩ := h4
    have H3 : Hid (a + 1 + k ≤ bs.length) := by show _ ≤ _; omega
    have H6 : Hid (at8 bs (a + 1) = 0) := h6
    have c5 : (0 : Int) < (k : Int) := by omega
    clear h3 h6
    go_enter Tryd.func110, Tryd.ntmps110
    go_wp2_with fail
    rw [show w.alloc (Obj.cells #[Value.int IntKind.u64 0, Value.int IntKind.u64 0, Value.int IntKind.u64 0, Value.int IntKind.u64 0] 30) = X from hX]
    refine Calls.mono HN.out ?_
    rintro e w1 ⟨rfl, m, hw⟩
    have H1 : Hid (Rg w1 P A cap bs (a + 1) ∧ Gp P w w1) := by rw [hw]; exact HM.out m
    clear hw HM HN
    go_wp2_with fail
    refine Calls.mono (next_any P A cap bs (a + 1) k H3.out w1 H1.out.1) ?_
    rintro e w2 ⟨A', c', rfl, hc', _, hA', m2, hw⟩
    obtain ⟨g, rfl, rfl⟩ := hA' h5
    have HQ : Hid (Rg w2 P (some ⟨g, 0, none⟩) cap bs (a + 1 + k) ∧ Gp P w w2) := by rw [hw]; exact ⟨(H1.out.1.move _ H3.out).drewN m2, (Gp.set H1.out.2 1 _).drewN m2⟩
    obtain ⟨g', e1, gb⟩ := HQ.out.1.byte (a + 1) (by have := H3.out; omega)
    simp only [Option.some.injEq, Addr.mk.injEq] at e1
    obtain ⟨rfl, _⟩ := e1
    rw [c_at8, H6.out] at gb
    clear hw H1 hA'
    go_wp2
    exact ⟨rfl, rfl, ⟨_, HQ.out.1⟩, HQ.out.2⟩
  · rw [if_neg h4] at hf
    exact absurd hf.symm h0

end Go.Proofs.YtekgojokhjihfaaDoor
