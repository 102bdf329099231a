/-
  A reader with or without a fault: numbers; the same of the document's.
-/
import Derived.Test.YtdicgenhfmhklaaGreatDoorXTk
import Derived.Test.YtdicgenhfmhklaaGreatDoorXRr
import Derived.Test.YtdicgenhfmhklaaGreatDoorXShut

namespace Go.Proofs.YtdicgenhfmhklaaGreatDoor
open Go Go.RowKit
open Sha

set_option maxRecDepth 100000 in
set_option maxHeartbeats 2000000 in
theorem take_number (P : Nat) (A : Option Addr) (cap : Nat) (bs : List (BitVec 8)) (a : Nat) (f : Int) (v : Value) (a' : Nat) (w : World) (h : Rg w P A cap bs a)
    (hok : f = 0 → ∀ W, Rg W P A cap bs a → Calls Tryz.prog 77 #[.pointer (some ⟨P, 0, none⟩)] W fun e w' => e = .returned v ∧ Rg w' P A cap bs a' ∧ Gp P W w')
    (hno : ¬ f = 0 → ∀ W, Rg W P A cap bs a → Calls Tryz.prog 77 #[.pointer (some ⟨P, 0, none⟩)] W fun e w' => e = .panicked (gu f) ∧ Gave W w' P A cap bs) :
    Calls Tryz.prog 76 #[.pointer (some ⟨P, 0, none⟩), .func (.func 77) #[] #[]] w fun e w' => (f = 0 → e = .returned v ∧ Rg w' P A cap bs a') ∧ (¬ f = 0 → e = .returned (.int .i64 0) ∧ Rf w' P a f) ∧ Gp P w w' := by
  have hmf : ∀ (fn : Fn) (first cap : Array Value) (w : World), (Instr.makeFunc fn first cap).run Tryz.prog w = .ok (.func fn first cap) w := fun _ _ _ _ => rfl
  have b0 : Below w.heap.size w (w.alloc (Obj.cells #[.pointer (some ⟨P, 0, none⟩)] 102)) := (Below.refl _ _).alloc (Nat.le_refl _) _
  have b1 := b0.alloc b0.size (Obj.cells #[.int .i64 (a : Int)] 3)
  have HR0 : Hid (Rg (w.alloc (Obj.cells #[.pointer (some ⟨P, 0, none⟩)] 102)) P A cap bs a) := h.be b0
  have HE : Hid _ := err_ok P _ a 0 _ HR0.out.row
  have g1 := HR0.out.row.cell 1 _ rfl
  have HR1 : Hid (Rg ((w.alloc (Obj.cells #[.pointer (some ⟨P, 0, none⟩)] 102)).alloc (Obj.cells #[.int .i64 (a : Int)] 3)) P A cap bs a) := HR0.out.be ((Below.refl _ _).alloc (Nat.le_refl _) _)
  have RA : Hid (Row ((w.alloc (Obj.cells #[.pointer (some ⟨P, 0, none⟩)] 102)).alloc (Obj.cells #[.int .i64 (a : Int)] 3)) (w.heap.size + 1) [.int .i64 (a : Int)] 3) := Row.new' (by simp) rfl
  have RR : Hid (Row ((w.alloc (Obj.cells #[.pointer (some ⟨P, 0, none⟩)] 102)).alloc (Obj.cells #[.int .i64 (a : Int)] 3)) w.heap.size [.pointer (some ⟨P, 0, none⟩)] 102) := (Row.new' rfl rfl).alloc _
  have HB1 : Hid _ := b1
  have HP : Hid (P < w.heap.size) := h.row.lt
  clear h b0 b1
  by_cases hf : f = 0
  · have HK : Hid _ := hok hf _ HR1.out
    clear hok hno
    go_enter_defers Tryz.func76, Tryz.ntmps76
    go_wp2_with (go_at_call 82; refine Calls.mono HE.out ?_; rintro e w2 ⟨rfl, rfl⟩)
    refine Calls.mono HK.out ?_
    rintro e V ⟨rfl, hr, hg⟩
    have HR : Hid (Rg _ _ _ _ _ _) := hr
    have HG : Hid (Gro (fun k => k = P) w V) := (Gro.of_below HB1.out).trans hg
    clear hr hg HK
    go_wp2
    refine leaves_cons (f := 96) (args := #[.pointer (some ⟨w.heap.size + 1, 0, none⟩), .pointer (some ⟨w.heap.size, 0, none⟩)]) (by simp) (by simp [go_sem]) ?_
    refine (idle_int ⟨w.heap.size + 1, 0, none⟩ ⟨w.heap.size, 0, none⟩ _).mono ?_
    rintro e u' w'' ⟨rfl, rfl, rfl⟩
    exact ⟨_, results_tmp rfl _ _ _, fun _ => ⟨rfl, HR.out⟩, fun q => absurd hf q, HG.out⟩
  · have HK : Hid _ := hno hf _ HR1.out
    clear hok hno
    go_enter_defers Tryz.func76, Tryz.ntmps76
    go_wp2_with (go_at_call 82; refine Calls.mono HE.out ?_; rintro e w2 ⟨rfl, rfl⟩)
    refine Calls.mono HK.out ?_
    rintro e V ⟨rfl, ⟨b, hr⟩, hg⟩
    have ra : Row V (w.heap.size + 1) [.int .i64 (a : Int)] 3 := hg.row RA.out (by have := HP.out; omega)
    have rr : Row V w.heap.size [.pointer (some ⟨P, 0, none⟩)] 102 := hg.row RR.out (by have := HP.out; omega)
    have HC : Hid _ := catch_int (w.heap.size + 1) w.heap.size P a f _ (b : Int) V ra rr hr.row
    have HG : Hid (Gro (fun k => k = P) w V) := (Gro.of_below HB1.out).trans hg
    clear hr hg HK ra rr
    go_wp2
    refine leaves_cons (f := 96) (args := #[.pointer (some ⟨w.heap.size + 1, 0, none⟩), .pointer (some ⟨w.heap.size, 0, none⟩)]) (by simp) (by simp [go_sem]) ?_
    refine CallsD.mono HC.out ?_
    rintro e u' w'' ⟨rfl, rfl, hrf, hgf⟩
    have HRF : Hid (Rf _ _ _ _) := hrf
    have HGF : Hid (Gro (fun k => k = P) w w'') := HG.out.trans hgf
    clear hrf hgf
    simp [Leaves, settle, results, Tryz.results76, go_sem]
    exact ⟨fun q => absurd q hf, fun _ => HRF.out, HGF.out⟩

end Go.Proofs.YtdicgenhfmhklaaGreatDoor

namespace Go.Proofs.YtdicgenhfmhklaaGreatDoor
open Go Go.RowKit
open Sha

end Go.Proofs.YtdicgenhfmhklaaGreatDoor

namespace Go.Proofs.YtdicgenhfmhklaaGreatDoor
open Go Go.RowKit
open Sha

theorem hv_lt (bs : List (BitVec 8)) (s : Nat) : ∀ i, hv bs s i < 256 ^ i
  | 0 => by simp [hv]
  | i + 1 => by
    have ih := hv_lt bs s i
    have := at8_lt bs (s + i)
    show 256 * hv bs s i + at8 bs (s + i) < 256 ^ (i + 1)
    rw [Nat.pow_succ]
    omega
theorem hv_mono (bs : List (BitVec 8)) (s : Nat) : ∀ d i, hv bs s i ≤ hv bs s (i + d)
  | 0, _ => Nat.le_refl _
  | d + 1, i => by
    have ih := hv_mono bs s d i
    show _ ≤ 256 * hv bs s (i + d) + at8 bs (s + (i + d))
    omega

end Go.Proofs.YtdicgenhfmhklaaGreatDoor

namespace Go.Proofs.YtdicgenhfmhklaaGreatDoor
open Go Go.RowKit
open Sha

end Go.Proofs.YtdicgenhfmhklaaGreatDoor

namespace Go.Proofs.YtdicgenhfmhklaaGreatDoor
open Go Go.RowKit
open Sha

/-- A reader, with or without a fault. -/
def Rx (w : World) (P : Nat) (A : Option Addr) (cap : Nat) (bs : List (BitVec 8)) (a : Nat) (f : Int) : Prop := (f = 0 ∧ Rg w P A cap bs a) ∨ (¬ f = 0 ∧ Rf w P a f)
section
variable {w w' : World} {P cap a : Nat} {A : Option Addr} {bs : List (BitVec 8)} {f : Int}
theorem Rx.be (h : Rx w P A cap bs a f) (k : Below w.heap.size w w') : Rx w' P A cap bs a f := by
  rcases h with ⟨h1, h2⟩ | ⟨h1, h2⟩
  · exact .inl ⟨h1, h2.be k⟩
  · exact .inr ⟨h1, Row.below h2 k (Row.lt h2)⟩
theorem Rx.row (h : Rx w P A cap bs a f) : ∃ v, Rs w P v (a : Int) f := by
  rcases h with ⟨rfl, h2⟩ | ⟨_, h2⟩
  · exact ⟨_, h2.row⟩
  · exact ⟨_, h2⟩
theorem Rx.gro {R : Nat → Prop} (h : Rx w P A cap bs a f) (k : Gro R w w') (h1 : ¬ R P) (h2 : f = 0 → ∀ g, (Value.slice A bs.length cap).ownBlock = some g → ¬ R g) : Rx w' P A cap bs a f := by
  rcases h with ⟨h0, h3⟩ | ⟨h0, h3⟩
  · exact .inl ⟨h0, k.row h3.row h1, Bw.gro h3.bw k (h2 h0), h3.le, h3.len⟩
  · exact .inr ⟨h0, k.row h3 h1⟩
end
def nV (bs : List (BitVec 8)) (a : Nat) (f : Int) : Nat := if f = 0 then (if nuE bs a = 0 then nuW bs a else 0) else 0
def nA (bs : List (BitVec 8)) (a : Nat) (f : Int) : Nat := if f = 0 then (if nuE bs a = 0 then a + 1 + at8 bs a else a) else a
def nF (bs : List (BitVec 8)) (a : Nat) (f : Int) : Int := if f = 0 then nuE bs a else f
def cV (bs : List (BitVec 8)) (a : Nat) (f most : Int) : Nat := if f = 0 then (if cnE bs a most = 0 then nuW bs a else 0) else 0
def cA (bs : List (BitVec 8)) (a : Nat) (f most : Int) : Nat := if f = 0 then (if cnE bs a most = 0 then a + 1 + at8 bs a else a) else a
def cF (bs : List (BitVec 8)) (a : Nat) (f most : Int) : Int := if f = 0 then cnE bs a most else f
theorem cV_le (bs : List (BitVec 8)) (a : Nat) (f most : Int) : cV bs a f most ≤ bs.length := by
  unfold cV
  split
  · split
    · rename_i h1 h2; have := cnE_ok h2; omega
    · omega
  · omega

set_option maxRecDepth 100000 in
theorem number_x (P : Nat) (A : Option Addr) (cap : Nat) (bs : List (BitVec 8)) (a : Nat) (f : Int) (w : World) (h : Rx w P A cap bs a f) :
    Calls Tryz.prog 57 #[.pointer (some ⟨P, 0, none⟩)] w fun e w' => e = .returned (.int .i64 ((nV bs a f : Nat) : Int)) ∧ Rx w' P A cap bs (nA bs a f) (nF bs a f) ∧ Gp P w w' := by
  rcases h with ⟨rfl, h⟩ | ⟨hf, h⟩
  · have HT : Hid _ := take_number P A cap bs a (nuE bs a) (.int .i64 ((nuW bs a : Nat) : Int)) (a + 1 + at8 bs a) w h (fun h0 W hr => seeNumber_any P A cap bs a h0 W hr) (fun h0 W hr => seeNumber_no P A cap bs a _ rfl h0 W hr)
    clear h
    go_enter Tryz.func57, Tryz.ntmps57
    go_wp2_with fail
    refine Calls.mono HT.out ?_
    rintro e V ⟨h1, h2, hg⟩
    have HG : Hid (Gro _ _ _) := hg
    by_cases hz : nuE bs a = 0
    · obtain ⟨rfl, hr⟩ := h1 hz
      have HR : Hid (Rx V P A cap bs (nA bs a 0) (nF bs a 0)) := .inl ⟨by unfold nF; rw [if_pos rfl]; exact hz, by unfold nA; rw [if_pos rfl, if_pos hz]; exact hr⟩
      have EV : Hid (nV bs a 0 = nuW bs a) := by show _ = _; unfold nV; rw [if_pos rfl, if_pos hz]
      clear h1 h2 hg HT hr
      go_wp2_with fail
      go_ret
      exact ⟨by rw [EV.out]; rfl, HR.out, HG.out⟩
    · obtain ⟨rfl, hr⟩ := h2 hz
      have HR : Hid (Rx V P A cap bs (nA bs a 0) (nF bs a 0)) := .inr ⟨by unfold nF; rw [if_pos rfl]; exact hz, by unfold nA nF; rw [if_pos rfl, if_neg hz, if_pos rfl]; exact hr⟩
      have EV : Hid (nV bs a 0 = 0) := by show _ = _; unfold nV; rw [if_pos rfl, if_neg hz]
      clear h1 h2 hg HT hr
      go_wp2_with fail
      go_ret
      exact ⟨by rw [EV.out]; rfl, HR.out, HG.out⟩
  · refine (none_int P _ (a : Int) f hf w h).mono ?_
    rintro e V ⟨rfl, hb⟩
    refine ⟨by unfold nV; rw [if_neg hf]; rfl, ?_, Gro.of_below hb⟩
    unfold nA nF
    rw [if_neg hf, if_neg hf]
    exact .inr ⟨hf, Row.below h hb (Row.lt h)⟩

end Go.Proofs.YtdicgenhfmhklaaGreatDoor
