/-
  List of bytes, by the law's takeBytes.
-/
import Derived.Test.YtmkmdbpibpbcjaaXSeeB
import Derived.Test.YtmkmdbpibpbcjaaXFm
import Derived.Test.YtmkmdbpibpbcjaaXFaces
import Derived.Test.YtmkmdbpibpbcjaaXLaysG
import Derived.Test.YtmkmdbpibpbcjaaXOwn

namespace Go.Proofs.Ytmkmdbpibpbcjaa
open Go Go.RowKit
open Sha

theorem bl_of (x m : Nat) (h1 : 1 ≤ m) (h8 : m ≤ 8) (hl : 256 ^ (m - 1) ≤ x) (hu : x < 256 ^ m) : bl x = m := by
  have e1 : (256 : Nat) ^ (m - 1) = 2 ^ (8 * (m - 1)) := by rw [Nat.pow_mul]
  have h64 : x < 2 ^ 64 := by
    have : (256 : Nat) ^ m ≤ 256 ^ 8 := Nat.pow_le_pow_right (by decide) h8
    have e8 : (256 : Nat) ^ 8 = 2 ^ 64 := by decide
    omega
  have hs := Lib.bitLen_shift (8 * (m - 1)) x (by rw [← e1]; exact hl) h64
  have hq : x / 2 ^ (8 * (m - 1)) < 256 := by
    rw [← e1]
    apply Nat.div_lt_of_lt_mul
    have : (256 : Nat) ^ m = 256 ^ (m - 1) * 256 := by rw [← Nat.pow_succ]; congr 1; omega
    rw [← this]; exact hu
  have hp : 1 ≤ x / 2 ^ (8 * (m - 1)) := by
    rw [← e1]
    exact (Nat.le_div_iff_mul_le (Nat.pow_pos (by decide))).2 (by omega)
  generalize x / 2 ^ (8 * (m - 1)) = q at *
  have h9 := Lib.bitLen_le8 ⟨q, hq⟩
  simp only at h9
  have h10 := Lib.bitLen_half q (by omega) (by omega)
  unfold bl
  omega
theorem lb_digit (bs : List (BitVec 8)) (e j i : Nat) (hi : 8 * j ≤ i) (hi8 : i < 8 * j + 8) : ∀ t, i < t → t ≤ 8 * j + 8 → lb bs e j t / 256 ^ (i - 8 * j) % 256 = at8 bs (e - 1 - i)
  | 0, h, _ => by omega
  | t + 1, h, h8 => by
    have e1 : lb bs e j (t + 1) = lb bs e j t + at8 bs (e - 1 - t) * 256 ^ (t - 8 * j) := by
      show (if t / 8 = j then _ else _) = _
      rw [if_pos (by omega), show t % 8 = t - 8 * j by omega]
    rw [e1]
    have hd := at8_lt bs (e - 1 - t)
    by_cases q : i = t
    · subst q
      have hl := lb_lt bs e j i (by omega) (by omega)
      rw [Nat.add_mul_div_right _ _ (Nat.pow_pos (by decide)), Nat.div_eq_of_lt hl, Nat.zero_add]
      exact Nat.mod_eq_of_lt hd
    · have ih := lb_digit bs e j i hi hi8 t (by omega) (by omega)
      have e2 : (256 : Nat) ^ (t - 8 * j) = 256 ^ (t - i - 1) * 256 * 256 ^ (i - 8 * j) := by
        rw [← Nat.pow_succ, ← Nat.pow_add]; congr 1; omega
      rw [e2, ← Nat.mul_assoc, Nat.add_mul_div_right _ _ (Nat.pow_pos (by decide)), ← Nat.mul_assoc, Nat.add_mul_mod_self_right]
      exact ih
theorem lb_dig (bs : List (BitVec 8)) (e k i : Nat) (hi : i < k) : lb bs e (i / 8) k / 2 ^ (i % 8 * 8) % 256 = at8 bs (e - 1 - i) := by
  have e1 : (2 : Nat) ^ (i % 8 * 8) = 256 ^ (i - 8 * (i / 8)) := by rw [Nat.mul_comm, Nat.pow_mul]; congr 1; omega
  rw [e1]
  by_cases h : k ≤ 8 * (i / 8) + 8
  · exact lb_digit bs e (i / 8) i (by omega) (by omega) k hi h
  · rw [lb_stay bs e (i / 8) k (by omega)]
    exact lb_digit bs e (i / 8) i (by omega) (by omega) (8 * (i / 8) + 8) (by omega) (Nat.le_refl _)
theorem lb_bl (bs : List (BitVec 8)) (e k j : Nat) (h1 : 8 * j < k) (h2 : k ≤ 8 * j + 8) (ht : at8 bs (e - 1 - (k - 1)) ≠ 0) : lb bs e j k ≠ 0 ∧ bl (lb bs e j k) = k - 8 * j := by
  have hu := lb_lt bs e j k (by omega) h2
  have e1 : lb bs e j k = lb bs e j (k - 1) + at8 bs (e - 1 - (k - 1)) * 256 ^ (k - 1 - 8 * j) := by
    obtain ⟨t, rfl⟩ : ∃ t, k = t + 1 := ⟨k - 1, by omega⟩
    show (if t / 8 = j then _ else _) = _
    rw [if_pos (by omega), show t % 8 = t - 8 * j by omega]
    rfl
  have hl : 256 ^ (k - 8 * j - 1) ≤ lb bs e j k := by
    rw [e1, show k - 8 * j - 1 = k - 1 - 8 * j by omega]
    have : 1 * 256 ^ (k - 1 - 8 * j) ≤ at8 bs (e - 1 - (k - 1)) * 256 ^ (k - 1 - 8 * j) := Nat.mul_le_mul_right _ (by omega)
    omega
  refine ⟨?_, bl_of _ _ (by omega) (by omega) hl hu⟩
  have : 0 < (256 : Nat) ^ (k - 8 * j - 1) := Nat.pow_pos (by decide)
  omega
theorem lb_nb (bs : List (BitVec 8)) (e k : Nat) (hk : k ≤ 32) (ht : 0 < k → at8 bs (e - 1 - (k - 1)) ≠ 0) : nb (lb bs e 0 k) (lb bs e 1 k) (lb bs e 2 k) (lb bs e 3 k) = k := by
  unfold nb
  by_cases c3 : 24 < k
  · obtain ⟨n3, b3⟩ := lb_bl bs e k 3 (by omega) (by omega) (ht (by omega))
    rw [if_pos n3, b3]; omega
  rw [lb_none bs e 3 k (by omega), if_neg (by simp)]
  by_cases c2 : 16 < k
  · obtain ⟨n2, b2⟩ := lb_bl bs e k 2 (by omega) (by omega) (ht (by omega))
    rw [if_pos n2, b2]; omega
  rw [lb_none bs e 2 k (by omega), if_neg (by simp)]
  by_cases c1 : 8 < k
  · obtain ⟨n1, b1⟩ := lb_bl bs e k 1 (by omega) (by omega) (ht (by omega))
    rw [if_pos n1, b1]; omega
  rw [lb_none bs e 1 k (by omega), if_neg (by simp)]
  by_cases c0 : 0 < k
  · obtain ⟨n0, b0⟩ := lb_bl bs e k 0 (by omega) (by omega) (ht (by omega))
    rw [if_pos n0, b0]; omega
  · obtain rfl : k = 0 := by omega
    simp [lb]
/-- What was read off is the form of what was read. -/
theorem form_read {most : Nat} {bs : List (BitVec 8)} {a : Nat} (hm : most ≤ 32) (h : hiF most bs a = 0) (k : Nat) (hk : at8 bs a = k) :
    nb (lb bs (a + 1 + k) 0 k) (lb bs (a + 1 + k) 1 k) (lb bs (a + 1 + k) 2 k) (lb bs (a + 1 + k) 3 k) = k ∧ fm [lb bs (a + 1 + k) 0 k, lb bs (a + 1 + k) 1 k, lb bs (a + 1 + k) 2 k, lb bs (a + 1 + k) 3 k] k = sub bs a (1 + k) := by
  obtain ⟨h1, h2, h3, h4⟩ := hiF_ok h
  rw [hk] at h2 h3 h4
  refine ⟨lb_nb bs _ k (by omega) (fun h0 => by rw [show a + 1 + k - 1 - (k - 1) = a + 1 by omega]; exact h4 h0), ?_⟩
  have hsl := sub_len bs a (1 + k) (by omega)
  apply List.ext_getElem (by rw [fm_len, hsl]; omega)
  intro p hp1 hp2
  rw [hsl] at hp2
  have e2 : (sub bs a (1 + k))[p]'(by rw [hsl]; exact hp2) = bs[a + p]'(by omega) := by
    have := sub_get bs a (1 + k) p hp2
    rw [List.getElem?_eq_getElem (by rw [hsl]; exact hp2), List.getElem?_eq_getElem (by omega)] at this
    exact Option.some.inj this
  rw [e2]
  have hb : ∀ i (hi : i < bs.length), (bs[i]'hi).toNat = at8 bs i := fun i hi => by unfold at8; rw [List.getD_eq_getElem?_getD, List.getElem?_eq_getElem hi]; rfl
  apply BitVec.eq_of_toNat_eq
  rw [hb]
  cases p with
  | zero =>
    simp only [fm, List.getElem_cons_zero, BitVec.toNat_ofNat, Nat.add_zero]
    rw [hk]
    exact Nat.mod_eq_of_lt (by omega)
  | succ q =>
    simp only [fm, List.getElem_cons_succ, List.getElem_map, List.getElem_range, fb, BitVec.toNat_ofNat]
    have hq : q < k := by omega
    have hi : k - 1 - q < k := by omega
    have ed : [lb bs (a + 1 + k) 0 k, lb bs (a + 1 + k) 1 k, lb bs (a + 1 + k) 2 k, lb bs (a + 1 + k) 3 k].getD ((k - 1 - q) / 8) 0 = lb bs (a + 1 + k) ((k - 1 - q) / 8) k := by
      have : (k - 1 - q) / 8 < 4 := by omega
      generalize (k - 1 - q) / 8 = j at *
      rcases (show j = 0 ∨ j = 1 ∨ j = 2 ∨ j = 3 by omega) with rfl | rfl | rfl | rfl <;> rfl
    rw [ed, show (2 : Nat) ^ 8 = 256 from rfl, lb_dig bs (a + 1 + k) k (k - 1 - q) hi]
    congr 1
    omega
theorem lb_high (bs : List (BitVec 8)) (e k : Nat) (hk : k ≤ 8) : lb bs e 1 k = 0 ∧ lb bs e 2 k = 0 ∧ lb bs e 3 k = 0 := ⟨lb_none bs e 1 k (by omega), lb_none bs e 2 k (by omega), lb_none bs e 3 k (by omega)⟩
/-- Of a number. -/
theorem form_num {bs : List (BitVec 8)} {a : Nat} (h : nuE bs a = 0) : nb (nuW bs a) 0 0 0 = at8 bs a ∧ fm [nuW bs a, 0, 0, 0] (at8 bs a) = sub bs a (1 + at8 bs a) := by
  obtain ⟨h1, _⟩ := nuE_ok h
  obtain ⟨_, h2, _, _⟩ := hiF_ok h1
  obtain ⟨q1, q2⟩ := form_read (by decide) h1 _ rfl
  obtain ⟨e1, e2, e3⟩ := lb_high bs (a + 1 + at8 bs a) (at8 bs a) h2
  rw [e1, e2, e3] at q1 q2
  exact ⟨q1, q2⟩
theorem sub_add (bs : List (BitVec 8)) (a m n : Nat) : sub bs a m ++ sub bs (a + m) n = sub bs a (m + n) := by
  unfold sub
  rw [List.take_add, List.drop_drop]
theorem take_sub (bs : List (BitVec 8)) (a n : Nat) : bs.take a ++ sub bs a n = bs.take (a + n) := by
  unfold sub
  rw [List.take_add]

end Go.Proofs.Ytmkmdbpibpbcjaa

namespace Go.Proofs.Ytmkmdbpibpbcjaa
open Go Go.RowKit
open Sha

abbrev Gn (N P : Nat) : World → World → Prop := Gro (fun k => k = P ∨ N ≤ k)
theorem Gn.of_gp {N P : Nat} {w w' : World} (h : Gp P w w') : Gn N P w w' := h.mono (fun _ q => .inl q)
theorem Gn.of_below {N P : Nat} {w w' : World} (h : Below w.heap.size w w') : Gn N P w w' := Gro.of_below h
theorem Gn.setNew {N P : Nat} {w W : World} (h : Gn N P w W) {b : Nat} (hb : N ≤ b) (o : Nat) (v : Value) : Gn N P w (W.setCell ⟨b, o, none⟩ v) := h.set b o v (.inr hb)
theorem Wr.set_other {w : World} {P : Nat} {A : Option Addr} {cap : Nat} {bs : List (BitVec 8)} {f : Int} (h : Wr w P A cap bs f) {b : Nat} {cs : List Value} {t : TypeId} (r : Row w b cs t) (h1 : t ≠ 101) (h2 : t ≠ 5) (o : Nat) (v : Value) : Wr (w.setCell ⟨b, o, none⟩ v) P A cap bs f :=
  ⟨h.1.set_other b o v (row_ne h.1 r (Ne.symm h1)), Bw.set_other h.2 (Bw.ne h.2 r h2)⟩
theorem Wr.sets_other {w : World} {P : Nat} {A : Option Addr} {cap : Nat} {bs : List (BitVec 8)} {f : Int} (h : Wr w P A cap bs f) {b : Nat} {cs : List Value} {t : TypeId} (r : Row w b cs t) (h1 : t ≠ 101) (h2 : t ≠ 5) (o : Nat) (vs : List Value) : Wr (w.setCells b o vs) P A cap bs f :=
  ⟨Row.setCells_other h.1 _ _ _ (row_ne h.1 r (Ne.symm h1)), Bw.block h.2 fun k e => heap_sets w b o _ k (Bw.ne h.2 r h2 k e)⟩
theorem Wr.gro {R : Nat → Prop} {w w' : World} {P : Nat} {A : Option Addr} {cap : Nat} {bs : List (BitVec 8)} {f : Int} (h : Wr w P A cap bs f) (k : Gro R w w') (h1 : ¬ R P) (h2 : ∀ g, (Value.slice A bs.length cap).ownBlock = some g → ¬ R g) : Wr w' P A cap bs f := ⟨k.row h.1 h1, Bw.gro h.2 k h2⟩
/-- A reader and a writer side by side. -/
structure Cp (N : Nat) (w : World) (P : Nat) (Ar : Option Addr) (capr : Nat) (bs : List (BitVec 8)) (a : Nat) (f : Int) (Q : Nat) (A : Option Addr) (cap : Nat) (xs : List (BitVec 8)) : Prop where
  rx : Rx w P Ar capr bs a f
  wr : Wr w Q A cap xs 0
  fw : Fresh N (.slice A xs.length cap)
  hQ : N ≤ Q
  hP : P < N
  hg : f = 0 → ∀ g, (Value.slice Ar bs.length capr).ownBlock = some g → g < N
  hN : N ≤ w.heap.size
section
variable {N : Nat} {w w' : World} {P : Nat} {Ar : Option Addr} {capr : Nat} {bs : List (BitVec 8)} {a : Nat} {f : Int} {Q : Nat} {A : Option Addr} {cap : Nat} {xs : List (BitVec 8)}
theorem Cp.be (h : Cp N w P Ar capr bs a f Q A cap xs) (k : Below w.heap.size w w') : Cp N w' P Ar capr bs a f Q A cap xs :=
  ⟨h.rx.be k, h.wr.be k, h.fw, h.hQ, h.hP, h.hg, Nat.le_trans h.hN k.size⟩
/-- A cell of a block of another kind is written. -/
theorem Cp.set (h : Cp N w P Ar capr bs a f Q A cap xs) {b : Nat} {cs : List Value} {t : TypeId} (r : Row w b cs t) (h1 : t ≠ 101) (h2 : t ≠ 5) (h3 : t ≠ 99) (o : Nat) (v : Value) : Cp N (w.setCell ⟨b, o, none⟩ v) P Ar capr bs a f Q A cap xs := by
  refine ⟨?_, h.wr.set_other r h1 h2 o v, h.fw, h.hQ, h.hP, h.hg, ?_⟩
  · rcases h.rx with ⟨h0, h4⟩ | ⟨h0, h4⟩
    · exact .inl ⟨h0, h4.setNew b o v r h3 h2⟩
    · exact .inr ⟨h0, Row.set_other h4 b o v (row_ne h4 r (Ne.symm h3))⟩
  · have := (Below.refl 0 w).setCell (p := ⟨b, o, none⟩) (Nat.zero_le _) v
    exact Nat.le_trans h.hN this.size
theorem Cp.sets (h : Cp N w P Ar capr bs a f Q A cap xs) {b : Nat} {cs : List Value} {t : TypeId} (r : Row w b cs t) (h1 : t ≠ 101) (h2 : t ≠ 5) (h3 : t ≠ 99) (o : Nat) (vs : List Value) : Cp N (w.setCells b o vs) P Ar capr bs a f Q A cap xs := by
  refine ⟨?_, h.wr.sets_other r h1 h2 o vs, h.fw, h.hQ, h.hP, h.hg, ?_⟩
  · rcases h.rx with ⟨h0, h4⟩ | ⟨h0, h4⟩
    · exact .inl ⟨h0, h4.setsNew b o vs r h3 h2⟩
    · exact .inr ⟨h0, Row.setCells_other h4 _ _ _ (row_ne h4 r (Ne.symm h3))⟩
  · have := below_setCells (Below.refl 0 w) (b := b) (o := o) (Nat.zero_le _) vs
    exact Nat.le_trans h.hN this.size
/-- The reader has read. -/
theorem Cp.read (h : Cp N w P Ar capr bs a f Q A cap xs) (k : Gp P w w') {a' : Nat} {f' : Int} (hr : Rx w' P Ar capr bs a' f') (hf : f' = 0 → f = 0) : Cp N w' P Ar capr bs a' f' Q A cap xs :=
  ⟨hr, h.wr.gro k (fun e => by have := h.hQ; have := h.hP; omega) (fun g e q => by have := h.fw g e; have := h.hP; omega), h.fw, h.hQ, h.hP, fun h0 => h.hg (hf h0), Nat.le_trans h.hN k.size⟩
/-- The writer has laid. -/
theorem Cp.laid (h : Cp N w P Ar capr bs a f Q A cap xs) {d : List (BitVec 8)} (k : Beh w w' Q A cap xs 0 d) (hl : xs.length + d.length ≤ 4194304) : ∃ A' cap', Cp N w' P Ar capr bs a f Q A' cap' (xs ++ d) ∧ Gn N P w w' := by
  obtain ⟨⟨A', cap', hw, hf⟩, hG⟩ := k
  have e1 : wrB xs 0 d = xs ++ d := by unfold wrB; rw [if_pos rfl, if_pos hl]
  have e2 : wrF xs 0 d = 0 := by unfold wrF; rw [if_pos rfl, if_pos hl]
  rw [e1] at hw hf
  rw [e2] at hw
  have hR : ∀ k, Rw Q A cap xs k → N ≤ k := fun k q => by
    rcases q with q | q
    · rw [q]; exact h.hQ
    · exact h.fw k q
  refine ⟨A', cap', ⟨h.rx.gro hG (fun q => by have := hR _ q; have := h.hP; omega) (fun h0 g e q => by have := h.hg h0 g e; have := hR _ q; omega), hw, fun g e => ?_, h.hQ, h.hP, h.hg, Nat.le_trans h.hN hG.size⟩, hG.mono (fun k q => .inr (hR k q))⟩
  rcases hf g e with q | q
  · exact h.fw g q
  · exact Nat.le_trans h.hN q
end
/-- What copies leaves. -/
def Cd (N : Nat) (w w' : World) (P : Nat) (Ar : Option Addr) (capr : Nat) (bs : List (BitVec 8)) (a : Nat) (Q : Nat) : Prop :=
  ∃ a' f' A' cap' xs', Cp N w' P Ar capr bs a' f' Q A' cap' xs' ∧ (f' = 0 → xs' = bs.take a' ∧ a ≤ a' ∧ a' ≤ bs.length) ∧ (¬ f' = 0 → xs' = bs.take a ∧ a ≤ a' ∧ a' ≤ bs.length) ∧ Gn N P w w'
theorem take_len (bs : List (BitVec 8)) (a n : Nat) (h : a + n ≤ bs.length) (hl : bs.length ≤ 4194304) : (bs.take a).length + (sub bs a n).length ≤ 4194304 := by
  rw [sub_len bs a n h, List.length_take]; omega
abbrev zst : List Value := sc 0 0 (.slice none 0 0) 0 0 0 0 (.slice none 0 0)

end Go.Proofs.Ytmkmdbpibpbcjaa

namespace Go.Proofs.Ytmkmdbpibpbcjaa
open Go Go.RowKit
open Sha

theorem info_sall : (Try.prog.info? 27).map (fun i => (i.size, i.bytes)) = some (1, 24) := by kernel_rfl
theorem info_szero : ((Try.prog.info? 27).bind (·.zero)).map (·.cells.size) = some 1 := by kernel_rfl
theorem info_sopen : ∃ ie z, Try.prog.info? 27 = some ie ∧ ie.zero = some z ∧ ie.size = 1 ∧ ie.bytes = 24 ∧ z.cells.size = 1 := by
  have i1 := info_sall
  have i2 := info_szero
  cases hi : Try.prog.info? 27 with
  | none => rw [hi] at i1; cases i1
  | some ie =>
    rw [hi] at i1 i2
    cases hz : ie.zero with
    | none => simp [hz] at i2
    | some z =>
      have i3 : ie.size = 1 ∧ ie.bytes = 24 := by simpa using i1
      exact ⟨ie, z, rfl, hz, i3.1, i3.2, by simpa [hz] using i2⟩
/-- A list of lists that is owned. -/
abbrev Sw (w : World) (v : Value) (vs : List Value) : Prop := w.ownsRow 0 27 1 v vs.length vs
section
variable {w w' : World} {v : Value} {vs : List Value}
theorem Sw.lt (h : Sw w v vs) : ∀ g, v.ownBlock = some g → g < w.heap.size := fun g e => (World.ownsRow.lt h g e).2
theorem Sw.block (h : Sw w v vs) (k : ∀ g, v.ownBlock = some g → w'.heap[g]? = w.heap[g]?) : Sw w' v vs := by
  obtain ⟨h1, h2⟩ := h
  refine ⟨h1, ?_⟩
  rcases h2 with h2 | ⟨g, cap, cur, hv, hg, hh, r⟩
  · exact .inl h2
  · exact .inr ⟨g, cap, cur, hv, hg, (k g (by rw [hv]; rfl)).trans hh, r⟩
theorem Sw.be (h : Sw w v vs) (k : Below w.heap.size w w') : Sw w' v vs := Sw.block h fun g e => k.block g (Sw.lt h g e)
theorem Sw.gro {R : Nat → Prop} (h : Sw w v vs) (k : Gro R w w') (hR : ∀ g, v.ownBlock = some g → ¬ R g) : Sw w' v vs := Sw.block h fun g e => k.block g (Sw.lt h g e) (hR g e)
theorem Sw.form (h : Sw w v vs) : ∃ A cap, v = .slice A vs.length cap ∧ vs.length ≤ cap ∧ (A = none → cap = 0) := by
  rcases h.2 with ⟨h1, h2⟩ | ⟨g, cap, cur, hv, _, _, hc, _⟩
  · exact ⟨none, 0, by rw [h1, h2], by omega, fun _ => rfl⟩
  · exact ⟨_, cap, hv, hc, fun e => by cases e⟩
theorem Sw.nil (w : World) : Sw w (.slice none 0 0) [] := ⟨rfl, .inl ⟨rfl, rfl⟩⟩
theorem Sw.row (h : Sw w v vs) : ∀ g, v.ownBlock = some g → ∃ cs, Row w g cs 27 := fun g e => by
  rcases h.2 with ⟨h1, _⟩ | ⟨g', cap, cur, hv, _, hh, _⟩
  · rw [h1] at e; simp [Value.ownBlock] at e
  · rw [hv] at e
    simp only [Value.ownBlock, Option.some.injEq] at e
    subst e
    exact ⟨cur.toList, by unfold Row; rw [hh]⟩
theorem Sw.at (h : Sw w v vs) (i : Nat) (hi : i < vs.length) : ∃ g, v.ownBlock = some g ∧ (∃ cap, v = .slice (some ⟨g, 0, none⟩) vs.length cap ∧ vs.length ≤ cap) ∧ w.cell? ⟨g, i, none⟩ = some (vs.getD i undef) := by
  rcases h.2 with ⟨h1, h2⟩ | ⟨g, cap, cur, hv, hg, hh, hc, hm, hs, ht⟩
  · omega
  · have hr : Row w g cur.toList 27 := by unfold Row; rw [hh]
    refine ⟨g, by rw [hv]; rfl, ⟨cap, hv, hc⟩, hr.cell i _ ?_⟩
    have e1 : vs[i]? = some (vs.getD i undef) := by rw [List.getD_eq_getElem?_getD, List.getElem?_eq_getElem hi]; rfl
    rw [← ht] at e1
    rw [List.getElem?_take_of_lt (by omega)] at e1
    rw [ht] at e1
    exact e1
end
section
variable {ops : Array Oper} {rest : List Oper} {o : Oper} {a : Act} {w : World} {Q : Exit → Act → World → Prop}
theorem wpList_apps (hgd : o.guard = none) (s x : Operand) (ho : o.op = .call { callee := .builtin .append, args := #[s, x], argTypes := #[65, 65] }) (v : Value) (vs : List Value) (hs : a.eval s = v) (hown : Sw w v vs)
    (N : Nat) (y : Value) (hy : y.oneCell' = true) (hx : a.eval x = .slice (some ⟨N, 0, none⟩) 1 1) (hN : Row w N [y] 27) (hk : (vs.length + 1) * 24 ≤ 140737488355328)
    (h : ∀ v' w', Sw w' v' (vs ++ [y]) → w.grownBy w' v.ownBlock → (v'.ownBlock = v.ownBlock ∨ v'.ownBlock = some w.heap.size) → wpList Try.prog ops Q rest (a.put o.dst v') w') : wpList Try.prog ops Q (o :: rest) a w := by
  obtain ⟨ie, z, h1, h2, h3, h5, h4⟩ := info_sopen
  have hcell := hN.all
  obtain ⟨v', w', hr, q2, q3, _, q5⟩ := run_append_own_at (P := Try.prog) w 0 65 o.type 27 ie z 1 24 Try.underlying65 h1 h2 h3 h5 h4 (by decide) v vs.length vs hown ⟨N, 0, none⟩ 1 1 [y] rfl
    (fun j u hj => by rw [Addr.add_mid]; exact hcell j u hj) (fun u hu => by obtain rfl := List.mem_singleton.1 hu; exact hy) (by unfold maxLen; omega) hk (Nat.zero_le _)
  refine wpList_plain hgd fun K hK => ?_
  unfold Oper.wp execOp
  simp only [ho, resolve, invoke, builtin, Sem.run_bind, Sem.run_pure, Result.andThen_ok, List.map_toArray, List.map_cons, List.map_nil, hs, hx, hr]
  refine hK _ _ (h v' w' ?_ q3 q5)
  unfold Sw
  rw [List.length_append]; exact q2
end

/-- Place and fault behind t lists of at most five bytes. -/
def rb (bs : List (BitVec 8)) (a : Nat) (f : Int) : Nat → Nat × Int
  | 0 => (a, f)
  | t + 1 => if (rb bs a f t).2 = 0 then (if cnE bs (rb bs a f t).1 5 = 0 then ((rb bs a f t).1 + 1 + at8 bs (rb bs a f t).1 + nuW bs (rb bs a f t).1, 0) else ((rb bs a f t).1, cnE bs (rb bs a f t).1 5)) else rb bs a f t
/-- The t-th of them. -/
def pb (bs : List (BitVec 8)) (a : Nat) (t : Nat) : List (BitVec 8) := sub bs ((rb bs a 0 t).1 + 1 + at8 bs (rb bs a 0 t).1) (nuW bs (rb bs a 0 t).1)

/-- A list of bytes that came out, each one's own. -/
structure Ly (N : Nat) (w : World) (v : Value) (vs : List Value) (ps : List (List (BitVec 8))) : Prop where
  own : Sw w v vs
  fv : Fresh N v
  len : vs.length = ps.length
  each : ∀ i, i < ps.length → Bo N (ps.getD i []) (ps.getD i []).length w (vs.getD i undef)
theorem Bo.gro {R : Nat → Prop} {N : Nat} {d : List (BitVec 8)} {n : Nat} {w w' : World} {v : Value} (h : Bo N d n w v) (k : Gro R w w') (hR : ∀ g, N ≤ g → (∃ cs, Row w g cs 5) → ¬ R g) : Bo N d n w' v := by
  obtain ⟨A, c, e, hb, hf, hn⟩ := h
  refine ⟨A, c, e, Bw.gro hb k (fun g eg => hR g (hf g eg) ?_), hf, hn⟩
  rcases hb.2 with ⟨h1, _⟩ | ⟨g', cap, cur, hv, _, hh, _⟩
  · rw [h1] at eg; simp [Value.ownBlock] at eg
  · rw [hv] at eg
    simp only [Value.ownBlock, Option.some.injEq] at eg
    subst eg
    exact ⟨cur.toList, by unfold Row; rw [hh]⟩
theorem Ly.gro {R : Nat → Prop} {N : Nat} {w w' : World} {v : Value} {vs : List Value} {ps : List (List (BitVec 8))} (h : Ly N w v vs ps) (k : Gro R w w') (h1 : ∀ g, v.ownBlock = some g → ¬ R g) (h2 : ∀ g, N ≤ g → (∃ cs, Row w g cs 5) → ¬ R g) : Ly N w' v vs ps :=
  ⟨Sw.gro h.own k h1, h.fv, h.len, fun i hi => (h.each i hi).gro k h2⟩

set_option maxRecDepth 100000 in
theorem takeBytes_any (P : Nat) (A : Option Addr) (cap : Nat) (bs : List (BitVec 8)) (a : Nat) (w : World) (h : Rg w P A cap bs a) :
    Calls Try.prog 88 #[.pointer (some ⟨P, 0, none⟩)] w fun e w' => (cnE bs a 5 = 0 → ∃ v, e = .returned v ∧ Bo w.heap.size (sub bs (a + 1 + at8 bs a) (nuW bs a)) (nuW bs a) w' v ∧ Rg w' P A cap bs (a + 1 + at8 bs a + nuW bs a)) ∧ (¬ cnE bs a 5 = 0 → e = .returned (.slice none 0 0) ∧ Rf w' P a (cnE bs a 5)) ∧ Gp P w w' := by
  have HF : Hid _ := face_bytes P A cap bs a 5 w h
  clear h
  generalize cnE bs a 5 = f at *
  generalize Bo w.heap.size (sub bs (a + 1 + at8 bs a) (nuW bs a)) (nuW bs a) = Qv at *
  generalize a + 1 + at8 bs a + nuW bs a = a' at *
  go_enter Try.func88, Try.ntmps88
  go_wp2_with fail
  refine Calls.mono HF.out ?_
  rintro e V ⟨h1, h2, hg⟩
  have HG : Hid (Gro _ _ _) := hg
  by_cases hz : f = 0
  · obtain ⟨v, rfl, hq, hr⟩ := h1 hz
    have HQ : Hid (Qv V v) := hq
    have HR : Hid (Rg _ _ _ _ _ _) := hr
    clear h1 h2 hg HF hr hq
    go_wp2_with fail
    go_ret
    exact ⟨fun _ => ⟨v, rfl, HQ.out, HR.out⟩, fun q => absurd hz q, HG.out⟩
  · obtain ⟨rfl, hr⟩ := h2 hz
    have HR : Hid (Rf _ _ _ _) := hr
    clear h1 h2 hg HF hr
    go_wp2_with fail
    go_ret
    exact ⟨fun q => absurd q hz, fun _ => ⟨rfl, HR.out⟩, HG.out⟩

end Go.Proofs.Ytmkmdbpibpbcjaa
