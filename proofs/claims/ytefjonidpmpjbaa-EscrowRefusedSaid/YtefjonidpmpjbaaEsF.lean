/-
  The vault's calls, over its state.
-/
import Derived.Test.YtefjonidpmpjbaaEsE
namespace Go.Proofs.Ytefjonidpmpjbaa
open Go Go.RowKit Go.Maps
open Wd

theorem fnd_cases {T : Int → Option (Bool × Nat)} {x : Int} {s1 : Bool} {h1 : Nat} {E : Int} (h : fnd T x = (s1, h1, E)) : (E = 0 ∧ 0 ≤ x ∧ x < 64 ∧ T x = some (s1, h1)) ∨ (E = 141 ∧ s1 = false ∧ h1 = 0 ∧ 0 ≤ x ∧ x < 64 ∧ T x = none) ∨ (E = 140 ∧ s1 = false ∧ h1 = 0) := by
  unfold fnd at h
  split at h
  · simp only [Prod.mk.injEq] at h
    exact .inr (.inr ⟨h.2.2.symm, h.1.symm, h.2.1.symm⟩)
  · split at h
    · simp only [Prod.mk.injEq] at h
      exact .inr (.inl ⟨h.2.2.symm, h.1.symm, h.2.1.symm, by omega, by omega, by assumption⟩)
    · rename_i q hq
      simp only [Prod.mk.injEq] at h
      exact .inl ⟨h.2.2.symm, by omega, by omega, by rw [hq, ← h.1, ← h.2.1]⟩
theorem fnd_lt {s : St} (hs : s.Ok) {x : Int} {s1 : Bool} {h1 : Nat} {E : Int} (h : fnd s.T x = (s1, h1, E)) : h1 < 2 ^ 256 := by
  rcases fnd_cases h with ⟨_, _, _, h⟩ | ⟨_, _, h, _⟩ | ⟨_, _, h⟩
  · exact hs.t x _ h
  · rw [h]; decide
  · rw [h]; decide
/-! ### what each call does to the state, and answers -/
def sList (s : St) (x : Int) : St × Int :=
  if (fnd s.T x).2.2 = 0 then (s, 142) else if (fnd s.T x).2.2 = 141 then ({ s with T := upd s.T x (some (false, 0)) }, 0) else (s, (fnd s.T x).2.2)
def sStop (s : St) (x : Int) (b : Bool) : St × Int :=
  if (fnd s.T x).2.2 ≠ 0 then (s, (fnd s.T x).2.2) else if (fnd s.T x).1 = b then (s, 143) else ({ s with T := upd s.T x (some (b, (fnd s.T x).2.1)) }, 0)
def sDep (s : St) (x : Int) (m : Nat) : St × Int :=
  if (fnd s.T x).2.2 ≠ 0 then (s, (fnd s.T x).2.2) else if (fnd s.T x).1 = true then (s, 143) else if m = 0 then (s, 144) else if addE (fnd s.T x).2.1 m ≠ 0 then (s, 145) else ({ s with T := upd s.T x (some ((fnd s.T x).1, addR (fnd s.T x).2.1 m)) }, 0)
def sPay (s : St) (i x : Int) (m : Nat) : St × Int :=
  if i < 0 ∨ 1099511627776 ≤ i then (s, 148) else if (fnd s.T x).2.2 ≠ 0 then (s, (fnd s.T x).2.2) else if paid s.U i = true then (s, 147) else if subE (fnd s.T x).2.1 m ≠ 0 then (s, 146) else ({ s with T := upd s.T x (some ((fnd s.T x).1, subR (fnd s.T x).2.1 m)), U := puts s.U i }, 0)
def sLock (s : St) (m : Nat) : St × Int := if addE s.L m ≠ 0 then (s, 145) else ({ s with L := addR s.L m }, 0)
def sFree (s : St) (m : Nat) : St × Int := if subE s.L m ≠ 0 then (s, 149) else ({ s with L := subR s.L m }, 0)

/-- Behind a call: its answer, the state it leaves, what stays. -/
def VtC (w : World) (p c : Nat) (m1 m2 : Value) (r : St × Int) (e : Ending) (w' : World) : Prop :=
  e = .returned (.int .i64 r.2) ∧ ∃ m1' m2', Vt w' p (c + 2) m1' m2' r.1 ∧ Nw w m1 m1' ∧ Nw w m2 m2' ∧ Gro (Vb p m1 m2) w w'
section
variable {w X : World} {p c : Nat} {m1 m2 : Value} {s s' : St} {E : Int}
theorem VtC.same (hV : Vt w p c m1 m2 s) (hB : Below w.heap.size w X) : VtC w p c m1 m2 (s, E) (.returned (.int .i64 E)) X :=
  ⟨rfl, m1, m2, (hV.be hB).mono (by omega), .inl rfl, .inl rfl, Gro.of_below hB⟩
theorem Nw.be {m m' : Value} (h : Nw X m m') (hs : w.heap.size ≤ X.heap.size) : Nw w m m' := by
  rcases h with h | h
  · exact .inl h
  · exact .inr fun g hg => Nat.le_trans hs (h g hg)
theorem VtC.laid {Y : World} {m1' : Value} (hB : Below w.heap.size w X) (hV : Vt Y p (c + 1) m1' m2 s') (hN : Nw X m1 m1') (hG : Gro (Vb p m1 m2) X Y) : VtC w p c m1 m2 (s', 0) (.returned (.int .i64 0)) Y :=
  ⟨rfl, m1', m2, hV.mono (by omega), hN.be hB.size, .inl rfl, (Gro.of_below hB).trans hG⟩
theorem VtC.put {Y Z : World} {m1' m2' : Value} (hB : Below w.heap.size w X) (hN : Nw X m1 m1') (hG : Gro (Vb p m1 m2) X Y) (hV : Vt Z p (c + 1 + 1) m1' m2' s') (hN2 : Nw Y m2 m2') (hG2 : Gro (Vb p m1' m2) Y Z) : VtC w p c m1 m2 (s', 0) (.returned (.int .i64 0)) Z :=
  ⟨rfl, m1', m2', hV.mono (by omega), hN.be hB.size, hN2.be (Nat.le_trans hB.size hG.size), ((Gro.of_below hB).trans hG).then hG2 fun g hg => by
    rcases hg with h | h | h
    · exact .inl (.inl h)
    · rcases hN with q | q
      · rw [q] at h; exact .inl (.inr (.inl h))
      · exact .inr (Nat.le_trans hB.size (q g h))
    · exact .inl (.inr (.inr h))⟩
end
theorem hcs_put {cc : List Value} {r : Nat} (h : Wc cc r) (s : Bool) (m : Nat) : (hcs s m).take 1 ++ cc ++ (hcs s m).drop (1 + cc.length) = hcs s r := by
  rw [h.len, h]
  rfl
theorem hcs_rng {w : World} {b : Nat} {s : Bool} {m : Nat} {t : TypeId} {cc : List Value} (h : Row w b (hcs s m) t) (hc : Wc cc m) : w.rangeAt b 1 cc := by
  rw [hc]
  exact h.range 1 _ (fun j v hv => by rw [Nat.add_comm]; exact hv)
theorem isz_c {ca : List Value} {a : Nat} (Ha : Wc ca a) (ha : a < 2 ^ 256) {B : Bool} (hB : decide (a = 0) = B) (w : World) : Calls Try.prog 50 #[.agg ca.toArray] w fun e w' => e = .returned (.bool B) ∧ Below w.heap.size w w' := by
  subst hB; rw [Ha]
  exact isZero_any a ha w
theorem addR_lt' (a b : Nat) : addR a b < 2 ^ 256 := by unfold addR; split <;> omega
theorem subR_lt' (a b : Nat) (h : a < 2 ^ 256) : subR a b < 2 ^ 256 := by unfold subR; split <;> omega
theorem addE_cases (a b : Nat) : addE a b = 0 ∨ addE a b = 22 := by unfold addE; split <;> simp
theorem subE_cases (a b : Nat) : subE a b = 0 ∨ subE a b = 23 := by unfold subE; split <;> simp

set_option maxRecDepth 100000 in
set_option maxHeartbeats 4000000 in
theorem list_any {w : World} {p c : Nat} {m1 m2 : Value} {s : St} (hV : Vt w p c m1 m2 s) (hc : c + 1 < maxLen) (x : Int) :
    Calls Try.prog 23 #[.pointer (some ⟨p, 0, none⟩), .int .i64 x] w (VtC w p c m1 m2 (sList s x)) := by
  have HV : Hid (Vt w p c m1 m2 s) := hV
  have HC : Hid (c + 1 < maxLen) := hc
  obtain ⟨s1, h1, E, hf⟩ : ∃ s1 h1 E, fnd s.T x = (s1, h1, E) := ⟨_, _, _, rfl⟩
  have HF : Hid (fnd s.T x = (s1, h1, E)) := hf
  have hE := fnd_cases hf
  unfold sList
  rw [hf]
  clear hV hc hf
  go_enter Try.func23, Try.ntmps23
  go_upto_region 2 with (first
    | (go_at_call 47; refine Calls.mono (find_any HV.out x s1 h1 E HF.out) ?_; rintro e X2 ⟨rfl, q⟩; have B2 : Hid (Below w.heap.size w X2) := q; clear q)
    | (refine wpList_allocH rfl rfl ?_; intro X3 q1 q2; have R3 : Hid (Row X3 X2.heap.size (hcs false 0) tH) := q1; have B3 : Hid (Below w.heap.size w X3) := B2.out.trans (q2.mono B2.out.size); clear q1 q2)
    | (refine wpList_storeL rfl tH (.tmp 5) (.tmp 11) rfl X2.heap.size (hcs s1 h1) (hcs false 0) tH rfl rfl R3.out ((hcs_len _ _).trans (hcs_len _ _).symm) (hcs_info _ _) (hcs_all _ _) ?_; intro X4 q1 q2; have R4 : Hid (Row X4 X2.heap.size (hcs s1 h1) tH) := q1; have B4 : Hid (Below w.heap.size w X4) := gro_new B3.out B2.out.size q2; clear q1 q2))
  obtain ⟨bh, hbh⟩ : ∃ b, b = X2.heap.size := ⟨_, rfl⟩
  rw [← hbh] at R4 ⊢
  have HBbh : Hid (w.heap.size ≤ bh) := by show _ ≤ _; rw [hbh]; exact B2.out.size
  clear hbh B2 B3 R3
  rcases hE with ⟨rfl, _⟩ | ⟨rfl, _, _, hx0, hx1, _⟩ | ⟨rfl, _⟩
  · go_wp2_with fail
    go_ret
    exact VtC.same HV.out B4.out
  · have HX : Hid (I64 x) := (i64_iff x).2 (by omega)
    have V4 : Hid (Vt X4 p c m1 m2 s) := HV.out.be B4.out
    clear hx0 hx1
    go_wp2_with (go_at_call 49; refine Calls.mono (lay_any V4.out (by have := HC.out; omega) x HX.out false 0 (by decide)) ?_; rintro e X5 ⟨m1', rfl, v5, n5, g5⟩; have V5 : Hid (Vt X5 p (c + 1) m1' m2 { s with T := upd s.T x (some (false, 0)) }) := v5; have N5 : Hid (Nw X4 m1 m1') := n5; have G5 : Hid (Gro (Vb p m1 m2) X4 X5) := g5; clear v5 n5 g5)
    go_ret
    exact VtC.laid B4.out V5.out N5.out G5.out
  · go_wp2_with fail
    go_ret
    exact VtC.same HV.out B4.out


end Go.Proofs.Ytefjonidpmpjbaa
