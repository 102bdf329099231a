/-
  A reader with or without a fault: numbers; the same of the document's.
-/
import Derived.Test.YthjiekfjgfhchaaGreatXRr
import Derived.Test.YthjiekfjgfhchaaGreatXTi
import Derived.Test.YthjiekfjgfhchaaGreatXShut

namespace Go.Proofs.YthjiekfjgfhchaaGreat
open Go Go.RowKit
open Sha

end Go.Proofs.YthjiekfjgfhchaaGreat

namespace Go.Proofs.YthjiekfjgfhchaaGreat
open Go Go.RowKit
open Sha

theorem hv_lt (bs : List (BitVec 8)) (s : Nat) : ∀ i, hv bs s i < 256 ^ i
  | 0 => by simp [hv]
  | i + 1 => by
    have ih := hv_lt bs s i
    have := at8_lt bs (s + i)
    show 256 * hv bs s i + at8 bs (s + i) < 256 ^ (i + 1)
    rw [Nat.pow_succ]
    omega
theorem hv_mono (bs : List (BitVec 8)) (s : Nat) : ∀ d i, hv bs s i ≤ hv bs s (i + d)
  | 0, _ => Nat.le_refl _
  | d + 1, i => by
    have ih := hv_mono bs s d i
    show _ ≤ 256 * hv bs s (i + d) + at8 bs (s + (i + d))
    omega

end Go.Proofs.YthjiekfjgfhchaaGreat

namespace Go.Proofs.YthjiekfjgfhchaaGreat
open Go Go.RowKit
open Sha

end Go.Proofs.YthjiekfjgfhchaaGreat

namespace Go.Proofs.YthjiekfjgfhchaaGreat
open Go Go.RowKit
open Sha

/-- A reader, with or without a fault. -/
def Rx (w : World) (P : Nat) (A : Option Addr) (cap : Nat) (bs : List (BitVec 8)) (a : Nat) (f : Int) : Prop := (f = 0 ∧ Rg w P A cap bs a) ∨ (¬ f = 0 ∧ Rf w P a f)
section
variable {w w' : World} {P cap a : Nat} {A : Option Addr} {bs : List (BitVec 8)} {f : Int}
theorem Rx.be (h : Rx w P A cap bs a f) (k : Below w.heap.size w w') : Rx w' P A cap bs a f := by
  rcases h with ⟨h1, h2⟩ | ⟨h1, h2⟩
  · exact .inl ⟨h1, h2.be k⟩
  · exact .inr ⟨h1, Row.below h2 k (Row.lt h2)⟩
theorem Rx.row (h : Rx w P A cap bs a f) : ∃ v, Rs w P v (a : Int) f := by
  rcases h with ⟨rfl, h2⟩ | ⟨_, h2⟩
  · exact ⟨_, h2.row⟩
  · exact ⟨_, h2⟩
theorem Rx.gro {R : Nat → Prop} (h : Rx w P A cap bs a f) (k : Gro R w w') (h1 : ¬ R P) (h2 : f = 0 → ∀ g, (Value.slice A bs.length cap).ownBlock = some g → ¬ R g) : Rx w' P A cap bs a f := by
  rcases h with ⟨h0, h3⟩ | ⟨h0, h3⟩
  · exact .inl ⟨h0, k.row h3.row h1, Bw.gro h3.bw k (h2 h0), h3.le, h3.len⟩
  · exact .inr ⟨h0, k.row h3 h1⟩
end
def nV (bs : List (BitVec 8)) (a : Nat) (f : Int) : Nat := if f = 0 then (if nuE bs a = 0 then nuW bs a else 0) else 0
def nA (bs : List (BitVec 8)) (a : Nat) (f : Int) : Nat := if f = 0 then (if nuE bs a = 0 then a + 1 + at8 bs a else a) else a
def nF (bs : List (BitVec 8)) (a : Nat) (f : Int) : Int := if f = 0 then nuE bs a else f
def cV (bs : List (BitVec 8)) (a : Nat) (f most : Int) : Nat := if f = 0 then (if cnE bs a most = 0 then nuW bs a else 0) else 0
def cA (bs : List (BitVec 8)) (a : Nat) (f most : Int) : Nat := if f = 0 then (if cnE bs a most = 0 then a + 1 + at8 bs a else a) else a
def cF (bs : List (BitVec 8)) (a : Nat) (f most : Int) : Int := if f = 0 then cnE bs a most else f
theorem cV_le (bs : List (BitVec 8)) (a : Nat) (f most : Int) : cV bs a f most ≤ bs.length := by
  unfold cV
  split
  · split
    · rename_i h1 h2; have := cnE_ok h2; omega
    · omega
  · omega

set_option maxRecDepth 100000 in
theorem number_x (P : Nat) (A : Option Addr) (cap : Nat) (bs : List (BitVec 8)) (a : Nat) (f : Int) (w : World) (h : Rx w P A cap bs a f) :
    Calls Tryz.prog 30 #[.pointer (some ⟨P, 0, none⟩)] w fun e w' => e = .returned (.int .i64 ((nV bs a f : Nat) : Int)) ∧ Rx w' P A cap bs (nA bs a f) (nF bs a f) ∧ Gp P w w' := by
  rcases h with ⟨rfl, h⟩ | ⟨hf, h⟩
  · have HT : Hid _ := take_number P A cap bs a (nuE bs a) (.int .i64 ((nuW bs a : Nat) : Int)) (a + 1 + at8 bs a) w h (fun h0 W hr => seeNumber_any P A cap bs a h0 W hr) (fun h0 W hr => seeNumber_no P A cap bs a _ rfl h0 W hr)
    clear h
    go_enter Tryz.func30, Tryz.ntmps30
    go_wp2_with fail
    refine Calls.mono HT.out ?_
    rintro e V ⟨h1, h2, hg⟩
    have HG : Hid (Gro _ _ _) := hg
    by_cases hz : nuE bs a = 0
    · obtain ⟨rfl, hr⟩ := h1 hz
      have HR : Hid (Rx V P A cap bs (nA bs a 0) (nF bs a 0)) := .inl ⟨by unfold nF; rw [if_pos rfl]; exact hz, by unfold nA; rw [if_pos rfl, if_pos hz]; exact hr⟩
      have EV : Hid (nV bs a 0 = nuW bs a) := by show _ = _; unfold nV; rw [if_pos rfl, if_pos hz]
      clear h1 h2 hg HT hr
      go_wp2_with fail
      go_ret
      exact ⟨by rw [EV.out]; rfl, HR.out, HG.out⟩
    · obtain ⟨rfl, hr⟩ := h2 hz
      have HR : Hid (Rx V P A cap bs (nA bs a 0) (nF bs a 0)) := .inr ⟨by unfold nF; rw [if_pos rfl]; exact hz, by unfold nA nF; rw [if_pos rfl, if_neg hz, if_pos rfl]; exact hr⟩
      have EV : Hid (nV bs a 0 = 0) := by show _ = _; unfold nV; rw [if_pos rfl, if_neg hz]
      clear h1 h2 hg HT hr
      go_wp2_with fail
      go_ret
      exact ⟨by rw [EV.out]; rfl, HR.out, HG.out⟩
  · refine (none_int P _ (a : Int) f hf w h).mono ?_
    rintro e V ⟨rfl, hb⟩
    refine ⟨by unfold nV; rw [if_neg hf]; rfl, ?_, Gro.of_below hb⟩
    unfold nA nF
    rw [if_neg hf, if_neg hf]
    exact .inr ⟨hf, Row.below h hb (Row.lt h)⟩

end Go.Proofs.YthjiekfjgfhchaaGreat
