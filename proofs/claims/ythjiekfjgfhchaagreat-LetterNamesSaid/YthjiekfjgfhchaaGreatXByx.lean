/-
  wire.Reader: the faces Byte, Flag, Bytes, Wide, Digest, Address, with or without a fault.
-/
import Derived.Test.YthjiekfjgfhchaaGreatXSeeB
import Derived.Test.YthjiekfjgfhchaaGreatXTj
import Derived.Test.YthjiekfjgfhchaaGreatXTs
import Derived.Test.YthjiekfjgfhchaaGreatXTa
import Derived.Test.YthjiekfjgfhchaaGreatXAx
namespace Go.Proofs.YthjiekfjgfhchaaGreat
open Go Go.RowKit
open Sha

theorem sub_sl {w : World} {P : Nat} {A : Option Addr} {cap : Nat} {bs : List (BitVec 8)} {a n b c' : Nat} {A' : Option Addr} (h : Rg w P A cap bs b) (hl : a + n ≤ bs.length) (hc : n ≤ c') (hA : 0 < n → ∃ g, A = some ⟨g, 0, none⟩ ∧ A' = some ⟨g, a, none⟩) : SlAt w (.slice A' n c') (sub bs a n) := by
  by_cases h0 : n = 0
  · subst h0
    exact .inl ⟨by unfold sub; simp, A', c', rfl⟩
  · obtain ⟨g, eA, eA'⟩ := hA (by omega)
    have e := sub_len bs a n hl
    refine .inr ⟨g, a, c', by rw [e, eA'], by rw [e]; exact hc, fun j v hj => ?_⟩
    have hjl : j < n := by have := (List.getElem?_eq_some_iff.1 hj).1; rw [vB_length, e] at this; exact this
    obtain ⟨g', e1, gb⟩ := h.byte (a + j) (by omega)
    rw [eA] at e1
    simp only [Option.some.injEq, Addr.mk.injEq] at e1
    obtain ⟨rfl, _⟩ := e1
    rw [gb, ← hj]
    unfold vB
    rw [List.getElem?_map, sub_get bs a n j hjl, List.getElem?_eq_getElem (show a + j < bs.length by omega)]
    simp [List.getElem?_eq_getElem (show a + j < bs.length by omega)]

set_option maxRecDepth 100000 in
theorem seeBytes_no (P : Nat) (A : Option Addr) (cap : Nat) (bs : List (BitVec 8)) (a : Nat) (most : Int) (qm : Nat) (hf : ¬ cnE bs a most = 0) (w : World) (h : Rg w P A cap bs a) (hm : Row w qm [.int .i64 most] 3) :
    Calls Tryz.prog 125 #[.pointer (some ⟨P, 0, none⟩), .pointer (some ⟨qm, 0, none⟩)] w fun e w' => e = .panicked (gu (cnE bs a most)) ∧ Gave w w' P A cap bs := by
  have HC : Hid _ := seeCount_no P A cap bs a most _ rfl hf w h
  have cm := hm.cell 0 _ rfl
  clear h hm
  go_enter Tryz.func125, Tryz.ntmps125
  go_wp2_with fail
  refine Calls.mono HC.out ?_
  rintro e V ⟨rfl, hr⟩
  have HR : Hid (Gave _ _ _ _ _ _) := hr
  clear hr HC cm
  go_wp2_with fail
  exact ⟨rfl, rfl, HR.out⟩

/-- Bytes that came out. -/
def Bo (N : Nat) (d : List (BitVec 8)) (n : Nat) (W : World) (v : Value) : Prop := ∃ A c, v = .slice A n c ∧ Bw W (.slice A n c) d ∧ Fresh N (.slice A n c) ∧ (A = none → c = 0)

set_option maxRecDepth 100000 in
set_option maxHeartbeats 1000000 in
theorem seeBytes_any (P : Nat) (A : Option Addr) (cap : Nat) (bs : List (BitVec 8)) (a : Nat) (most : Int) (qm : Nat) (hf : cnE bs a most = 0) (N : Nat) (w : World) (hN : N ≤ w.heap.size) (h : Rg w P A cap bs a) (hm : Row w qm [.int .i64 most] 3) :
    Calls Tryz.prog 125 #[.pointer (some ⟨P, 0, none⟩), .pointer (some ⟨qm, 0, none⟩)] w fun e w' => ∃ v, e = .returned v ∧ Bo N (sub bs (a + 1 + at8 bs a) (nuW bs a)) (nuW bs a) w' v ∧ Rg w' P A cap bs (a + 1 + at8 bs a + nuW bs a) ∧ Gp P w w' := by
  have HC : Hid _ := seeCount_any P A cap bs a most hf w h
  obtain ⟨h1, h2, h3⟩ := cnE_ok hf
  have hlen := h.len
  have cm := hm.cell 0 _ rfl
  have HLE : Hid (a + 1 + at8 bs a + nuW bs a ≤ bs.length) := h3
  have hn4 : nuW bs a ≤ 4194304 := by omega
  have HN0 : Hid (N ≤ w.heap.size) := hN
  clear h hm h1 h2 h3 hf hlen hN
  generalize nuW bs a = n at *
  generalize a + 1 + at8 bs a = a1 at *
  obtain ⟨d, hd⟩ : ∃ d, d = sub bs a1 n := ⟨_, rfl⟩
  have HD : Hid (d = sub bs a1 n) := hd
  have HDL : Hid (d.length = n) := by show _ = _; rw [hd, sub_len bs a1 n HLE.out]
  rw [← hd]
  clear hd
  go_enter Tryz.func125, Tryz.ntmps125
  go_wp2_with fail
  refine Calls.mono HC.out ?_
  rintro e V ⟨rfl, hr, hg⟩
  have HR : Hid (Rg _ _ _ _ _ _) := hr
  have HG : Hid (Gro _ _ _) := hg
  clear hr hg HC cm
  go_wp2_with fail
  refine Calls.mono (next_any P A cap bs a1 n HLE.out V HR.out) ?_
  rintro e V2 ⟨A', c', rfl, hc', hnil, hA', m, hw⟩
  have HR2 : Hid (Rg V2 P A cap bs (a1 + n)) := by rw [hw]; exact (HR.out.move _ HLE.out).drewN m
  have HG2 : Hid (Gp P w V2) := by rw [hw]; exact (Gp.set HG.out 1 _).drewN m
  have HV : Hid (SlAt V2 (.slice A' n c') d) := by rw [HD.out]; exact sub_sl HR2.out HLE.out hc' hA'
  have HNL : Hid (A' = none → c' = 0) := hnil
  have HL : Hid (([] : List (BitVec 8)).length + n ≤ 140737488355328) := by show 0 + _ ≤ _; omega
  clear hw hA' HR HG hc' hnil
  go_wp2_with (refine wpList_app rfl _ (.tmp 8) rfl (.slice none 0 0) [] d rfl (Bw.nil V2) A' n c' HDL.out rfl HV.out HNL.out HL.out ?_; intro v' w' q1 q2 q3; have Q1 : Hid _ := q1; have Q2 : Hid _ := q2; have Q3 : Hid _ := q3; clear q1 q2 q3; simp only [Act.put, List.setIfInBounds_toArray, List.set_cons_zero, List.set_cons_succ])
  go_ret
  obtain ⟨Ax, cx, ex, _, hxn⟩ := Bw.form Q1.out
  have q1 := Q1.out
  rw [ex] at q1
  rw [List.nil_append] at ex q1
  have bB : Below V2.heap.size V2 w' := (Below.refl _ _).grown Q2.out (Nat.le_refl _) (fun k hk => by simp [Value.ownBlock] at hk)
  refine ⟨_, rfl, ⟨Ax, cx, by show v' = _; rw [ex, HDL.out], by rw [← HDL.out]; exact q1, fun g e => ?_, hxn⟩, HR2.out.be bB, HG2.out.below bB⟩
  have e' : v'.ownBlock = some g := by rw [ex, HDL.out]; exact e
  rcases Q3.out with q | q
  · rw [e'] at q; simp [Value.ownBlock] at q
  · rw [e'] at q
    simp only [Option.some.injEq] at q
    have := HN0.out
    have := HG2.out.size
    omega

theorem seeByte_x0 (P : Nat) (A : Option Addr) (cap : Nat) (bs : List (BitVec 8)) (a : Nat) (hf : byE bs a = 0) (w : World) (h : Rg w P A cap bs a) :
    Calls Tryz.prog 23 #[.pointer (some ⟨P, 0, none⟩)] w fun e w' => e = .returned (.int .u8 ((at8 bs a : Nat) : Int)) ∧ Rg w' P A cap bs (a + 1) ∧ Gp P w w' := by
  unfold byE at hf
  have h1 : ¬ bs.length ≤ a := fun h1 => by rw [if_pos h1] at hf; cases hf
  refine (seeByte_any P A cap bs a (by omega) w h).mono ?_
  rintro e w' ⟨rfl, m, rfl⟩
  exact ⟨rfl, (h.move (a + 1) (by omega)).drewN m, Gro.drewN (Gp.set (Gro.refl _ _) 1 _) m⟩
theorem seeByte_x1 (P : Nat) (A : Option Addr) (cap : Nat) (bs : List (BitVec 8)) (a : Nat) (hf : ¬ byE bs a = 0) (w : World) (h : Rg w P A cap bs a) :
    Calls Tryz.prog 23 #[.pointer (some ⟨P, 0, none⟩)] w fun e w' => e = .panicked (gu (byE bs a)) ∧ Gave w w' P A cap bs := by
  unfold byE at hf ⊢
  by_cases h1 : bs.length ≤ a
  · rw [if_pos h1]
    refine (seeByte_no P A cap bs a h1 w h).mono ?_
    rintro e w' ⟨rfl, m, rfl⟩
    exact ⟨rfl, Gave.of (h.drewN m) (Gro.drewN (Gro.refl _ _) m)⟩
  · rw [if_neg h1] at hf
    exact absurd rfl hf

end Go.Proofs.YthjiekfjgfhchaaGreat
