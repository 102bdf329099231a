/-
  wire.Reader: the faces Byte, Flag, Bytes, Wide, Digest, Address, with or without a fault.
-/
import Derived.Test.YtekgojokhjihfaaDoorXTk
import Derived.Test.YtekgojokhjihfaaDoorXTkB
import Derived.Test.YtekgojokhjihfaaDoorXSeeB
import Derived.Test.YtekgojokhjihfaaDoorXTa
import Derived.Test.YtekgojokhjihfaaDoorXAx

namespace Go.Proofs.YtekgojokhjihfaaDoor
open Go Go.RowKit
open Sha

end Go.Proofs.YtekgojokhjihfaaDoor

namespace Go.Proofs.YtekgojokhjihfaaDoor
open Go Go.RowKit
open Sha

set_option maxRecDepth 100000 in
set_option maxHeartbeats 2000000 in
theorem take_byte (P : Nat) (A : Option Addr) (cap : Nat) (bs : List (BitVec 8)) (a : Nat) (f : Int) (v : Value) (a' : Nat) (w : World) (h : Rg w P A cap bs a)
    (hok : f = 0 → ∀ W, Rg W P A cap bs a → Calls Tryd.prog 86 #[.pointer (some ⟨P, 0, none⟩)] W fun e w' => e = .returned v ∧ Rg w' P A cap bs a' ∧ Gp P W w')
    (hno : ¬ f = 0 → ∀ W, Rg W P A cap bs a → Calls Tryd.prog 86 #[.pointer (some ⟨P, 0, none⟩)] W fun e w' => e = .panicked (gu f) ∧ Gave W w' P A cap bs) :
    Calls Tryd.prog 85 #[.pointer (some ⟨P, 0, none⟩), .func (.func 86) #[] #[]] w fun e w' => (f = 0 → e = .returned v ∧ Rg w' P A cap bs a') ∧ (¬ f = 0 → e = .returned (.int .u8 0) ∧ Rf w' P a f) ∧ Gp P w w' := by
  have hmf : ∀ (fn : Fn) (first cap : Array Value) (w : World), (Instr.makeFunc fn first cap).run Tryd.prog w = .ok (.func fn first cap) w := fun _ _ _ _ => rfl
  have b0 : Below w.heap.size w (w.alloc (Obj.cells #[.pointer (some ⟨P, 0, none⟩)] 106)) := (Below.refl _ _).alloc (Nat.le_refl _) _
  have b1 := b0.alloc b0.size (Obj.cells #[.int .i64 (a : Int)] 3)
  have HR0 : Hid (Rg (w.alloc (Obj.cells #[.pointer (some ⟨P, 0, none⟩)] 106)) P A cap bs a) := h.be b0
  have HE : Hid _ := err_ok P _ a 0 _ HR0.out.row
  have g1 := HR0.out.row.cell 1 _ rfl
  have HR1 : Hid (Rg ((w.alloc (Obj.cells #[.pointer (some ⟨P, 0, none⟩)] 106)).alloc (Obj.cells #[.int .i64 (a : Int)] 3)) P A cap bs a) := HR0.out.be ((Below.refl _ _).alloc (Nat.le_refl _) _)
  have RA : Hid (Row ((w.alloc (Obj.cells #[.pointer (some ⟨P, 0, none⟩)] 106)).alloc (Obj.cells #[.int .i64 (a : Int)] 3)) (w.heap.size + 1) [.int .i64 (a : Int)] 3) := Row.new' (by simp) rfl
  have RR : Hid (Row ((w.alloc (Obj.cells #[.pointer (some ⟨P, 0, none⟩)] 106)).alloc (Obj.cells #[.int .i64 (a : Int)] 3)) w.heap.size [.pointer (some ⟨P, 0, none⟩)] 106) := (Row.new' rfl rfl).alloc _
  have HB1 : Hid _ := b1
  have HP : Hid (P < w.heap.size) := h.row.lt
  clear h b0 b1
  by_cases hf : f = 0
  · have HK : Hid _ := hok hf _ HR1.out
    clear hok hno
    go_enter_defers Tryd.func85, Tryd.ntmps85
    go_wp2_with (go_at_call 93; refine Calls.mono HE.out ?_; rintro e w2 ⟨rfl, rfl⟩)
    refine Calls.mono HK.out ?_
    rintro e V ⟨rfl, hr, hg⟩
    have HR : Hid (Rg _ _ _ _ _ _) := hr
    have HG : Hid (Gro (fun k => k = P) w V) := (Gro.of_below HB1.out).trans hg
    clear hr hg HK
    go_wp2
    refine leaves_cons (f := 107) (args := #[.pointer (some ⟨w.heap.size + 1, 0, none⟩), .pointer (some ⟨w.heap.size, 0, none⟩)]) (by simp) (by simp [go_sem]) ?_
    refine (idle_byte ⟨w.heap.size + 1, 0, none⟩ ⟨w.heap.size, 0, none⟩ _).mono ?_
    rintro e u' w'' ⟨rfl, rfl, rfl⟩
    exact ⟨_, results_tmp rfl _ _ _, fun _ => ⟨rfl, HR.out⟩, fun q => absurd hf q, HG.out⟩
  · have HK : Hid _ := hno hf _ HR1.out
    clear hok hno
    go_enter_defers Tryd.func85, Tryd.ntmps85
    go_wp2_with (go_at_call 93; refine Calls.mono HE.out ?_; rintro e w2 ⟨rfl, rfl⟩)
    refine Calls.mono HK.out ?_
    rintro e V ⟨rfl, ⟨b, hr⟩, hg⟩
    have ra : Row V (w.heap.size + 1) [.int .i64 (a : Int)] 3 := hg.row RA.out (by have := HP.out; omega)
    have rr : Row V w.heap.size [.pointer (some ⟨P, 0, none⟩)] 106 := hg.row RR.out (by have := HP.out; omega)
    have HC : Hid _ := catch_byte (w.heap.size + 1) w.heap.size P a f _ (b : Int) V ra rr hr.row
    have HG : Hid (Gro (fun k => k = P) w V) := (Gro.of_below HB1.out).trans hg
    clear hr hg HK ra rr
    go_wp2
    refine leaves_cons (f := 107) (args := #[.pointer (some ⟨w.heap.size + 1, 0, none⟩), .pointer (some ⟨w.heap.size, 0, none⟩)]) (by simp) (by simp [go_sem]) ?_
    refine CallsD.mono HC.out ?_
    rintro e u' w'' ⟨rfl, rfl, hrf, hgf⟩
    have HRF : Hid (Rf _ _ _ _) := hrf
    have HGF : Hid (Gro (fun k => k = P) w w'') := HG.out.trans hgf
    clear hrf hgf
    simp [Leaves, settle, results, Tryd.results85, go_sem]
    exact ⟨fun q => absurd q hf, fun _ => HRF.out, HGF.out⟩

end Go.Proofs.YtekgojokhjihfaaDoor

namespace Go.Proofs.YtekgojokhjihfaaDoor
open Go Go.RowKit
open Sha

end Go.Proofs.YtekgojokhjihfaaDoor

namespace Go.Proofs.YtekgojokhjihfaaDoor
open Go Go.RowKit
open Sha

end Go.Proofs.YtekgojokhjihfaaDoor

namespace Go.Proofs.YtekgojokhjihfaaDoor
open Go Go.RowKit
open Sha

theorem sub_sl {w : World} {P : Nat} {A : Option Addr} {cap : Nat} {bs : List (BitVec 8)} {a n b c' : Nat} {A' : Option Addr} (h : Rg w P A cap bs b) (hl : a + n ≤ bs.length) (hc : n ≤ c') (hA : 0 < n → ∃ g, A = some ⟨g, 0, none⟩ ∧ A' = some ⟨g, a, none⟩) : SlAt w (.slice A' n c') (sub bs a n) := by
  by_cases h0 : n = 0
  · subst h0
    exact .inl ⟨by unfold sub; simp, A', c', rfl⟩
  · obtain ⟨g, eA, eA'⟩ := hA (by omega)
    have e := sub_len bs a n hl
    refine .inr ⟨g, a, c', by rw [e, eA'], by rw [e]; exact hc, fun j v hj => ?_⟩
    have hjl : j < n := by have := (List.getElem?_eq_some_iff.1 hj).1; rw [vB_length, e] at this; exact this
    obtain ⟨g', e1, gb⟩ := h.byte (a + j) (by omega)
    rw [eA] at e1
    simp only [Option.some.injEq, Addr.mk.injEq] at e1
    obtain ⟨rfl, _⟩ := e1
    rw [gb, ← hj]
    unfold vB
    rw [List.getElem?_map, sub_get bs a n j hjl, List.getElem?_eq_getElem (show a + j < bs.length by omega)]
    simp [List.getElem?_eq_getElem (show a + j < bs.length by omega)]

/-- Bytes that came out. -/
def Bo (N : Nat) (d : List (BitVec 8)) (n : Nat) (W : World) (v : Value) : Prop := ∃ A c, v = .slice A n c ∧ Bw W (.slice A n c) d ∧ Fresh N (.slice A n c) ∧ (A = none → c = 0)

theorem seeByte_x0 (P : Nat) (A : Option Addr) (cap : Nat) (bs : List (BitVec 8)) (a : Nat) (hf : byE bs a = 0) (w : World) (h : Rg w P A cap bs a) :
    Calls Tryd.prog 86 #[.pointer (some ⟨P, 0, none⟩)] w fun e w' => e = .returned (.int .u8 ((at8 bs a : Nat) : Int)) ∧ Rg w' P A cap bs (a + 1) ∧ Gp P w w' := by
  unfold byE at hf
  have h1 : ¬ bs.length ≤ a := fun h1 => by rw [if_pos h1] at hf; cases hf
  refine (seeByte_any P A cap bs a (by omega) w h).mono ?_
  rintro e w' ⟨rfl, m, rfl⟩
  exact ⟨rfl, (h.move (a + 1) (by omega)).drewN m, Gro.drewN (Gp.set (Gro.refl _ _) 1 _) m⟩
theorem seeByte_x1 (P : Nat) (A : Option Addr) (cap : Nat) (bs : List (BitVec 8)) (a : Nat) (hf : ¬ byE bs a = 0) (w : World) (h : Rg w P A cap bs a) :
    Calls Tryd.prog 86 #[.pointer (some ⟨P, 0, none⟩)] w fun e w' => e = .panicked (gu (byE bs a)) ∧ Gave w w' P A cap bs := by
  unfold byE at hf ⊢
  by_cases h1 : bs.length ≤ a
  · rw [if_pos h1]
    refine (seeByte_no P A cap bs a h1 w h).mono ?_
    rintro e w' ⟨rfl, m, rfl⟩
    exact ⟨rfl, Gave.of (h.drewN m) (Gro.drewN (Gro.refl _ _) m)⟩
  · rw [if_neg h1] at hf
    exact absurd rfl hf

end Go.Proofs.YtekgojokhjihfaaDoor
