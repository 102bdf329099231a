/-
  LadderBytes: what is read of any bytes, by both sides.
-/
import Derived.Test.YtfommclhnfcioaaXSeeB
import Derived.Test.YtfommclhnfcioaaXFm
import Derived.Test.YtfommclhnfcioaaLbR

namespace Go.Proofs.Ytfommclhnfcioaa
open Go Go.RowKit
open Sha

theorem bl_of (x m : Nat) (h1 : 1 ≤ m) (h8 : m ≤ 8) (hl : 256 ^ (m - 1) ≤ x) (hu : x < 256 ^ m) : bl x = m := by
  have e1 : (256 : Nat) ^ (m - 1) = 2 ^ (8 * (m - 1)) := by rw [Nat.pow_mul]
  have h64 : x < 2 ^ 64 := by
    have : (256 : Nat) ^ m ≤ 256 ^ 8 := Nat.pow_le_pow_right (by decide) h8
    have e8 : (256 : Nat) ^ 8 = 2 ^ 64 := by decide
    omega
  have hs := Lib.bitLen_shift (8 * (m - 1)) x (by rw [← e1]; exact hl) h64
  have hq : x / 2 ^ (8 * (m - 1)) < 256 := by
    rw [← e1]
    apply Nat.div_lt_of_lt_mul
    have : (256 : Nat) ^ m = 256 ^ (m - 1) * 256 := by rw [← Nat.pow_succ]; congr 1; omega
    rw [← this]; exact hu
  have hp : 1 ≤ x / 2 ^ (8 * (m - 1)) := by
    rw [← e1]
    exact (Nat.le_div_iff_mul_le (Nat.pow_pos (by decide))).2 (by omega)
  generalize x / 2 ^ (8 * (m - 1)) = q at *
  have h9 := Lib.bitLen_le8 ⟨q, hq⟩
  simp only at h9
  have h10 := Lib.bitLen_half q (by omega) (by omega)
  unfold bl
  omega
theorem lb_digit (bs : List (BitVec 8)) (e j i : Nat) (hi : 8 * j ≤ i) (hi8 : i < 8 * j + 8) : ∀ t, i < t → t ≤ 8 * j + 8 → lb bs e j t / 256 ^ (i - 8 * j) % 256 = at8 bs (e - 1 - i)
  | 0, h, _ => by omega
  | t + 1, h, h8 => by
    have e1 : lb bs e j (t + 1) = lb bs e j t + at8 bs (e - 1 - t) * 256 ^ (t - 8 * j) := by
      show (if t / 8 = j then _ else _) = _
      rw [if_pos (by omega), show t % 8 = t - 8 * j by omega]
    rw [e1]
    have hd := at8_lt bs (e - 1 - t)
    by_cases q : i = t
    · subst q
      have hl := lb_lt bs e j i (by omega) (by omega)
      rw [Nat.add_mul_div_right _ _ (Nat.pow_pos (by decide)), Nat.div_eq_of_lt hl, Nat.zero_add]
      exact Nat.mod_eq_of_lt hd
    · have ih := lb_digit bs e j i hi hi8 t (by omega) (by omega)
      have e2 : (256 : Nat) ^ (t - 8 * j) = 256 ^ (t - i - 1) * 256 * 256 ^ (i - 8 * j) := by
        rw [← Nat.pow_succ, ← Nat.pow_add]; congr 1; omega
      rw [e2, ← Nat.mul_assoc, Nat.add_mul_div_right _ _ (Nat.pow_pos (by decide)), ← Nat.mul_assoc, Nat.add_mul_mod_self_right]
      exact ih
theorem lb_dig (bs : List (BitVec 8)) (e k i : Nat) (hi : i < k) : lb bs e (i / 8) k / 2 ^ (i % 8 * 8) % 256 = at8 bs (e - 1 - i) := by
  have e1 : (2 : Nat) ^ (i % 8 * 8) = 256 ^ (i - 8 * (i / 8)) := by rw [Nat.mul_comm, Nat.pow_mul]; congr 1; omega
  rw [e1]
  by_cases h : k ≤ 8 * (i / 8) + 8
  · exact lb_digit bs e (i / 8) i (by omega) (by omega) k hi h
  · rw [lb_stay bs e (i / 8) k (by omega)]
    exact lb_digit bs e (i / 8) i (by omega) (by omega) (8 * (i / 8) + 8) (by omega) (Nat.le_refl _)
theorem lb_bl (bs : List (BitVec 8)) (e k j : Nat) (h1 : 8 * j < k) (h2 : k ≤ 8 * j + 8) (ht : at8 bs (e - 1 - (k - 1)) ≠ 0) : lb bs e j k ≠ 0 ∧ bl (lb bs e j k) = k - 8 * j := by
  have hu := lb_lt bs e j k (by omega) h2
  have e1 : lb bs e j k = lb bs e j (k - 1) + at8 bs (e - 1 - (k - 1)) * 256 ^ (k - 1 - 8 * j) := by
    obtain ⟨t, rfl⟩ : ∃ t, k = t + 1 := ⟨k - 1, by omega⟩
    show (if t / 8 = j then _ else _) = _
    rw [if_pos (by omega), show t % 8 = t - 8 * j by omega]
    rfl
  have hl : 256 ^ (k - 8 * j - 1) ≤ lb bs e j k := by
    rw [e1, show k - 8 * j - 1 = k - 1 - 8 * j by omega]
    have : 1 * 256 ^ (k - 1 - 8 * j) ≤ at8 bs (e - 1 - (k - 1)) * 256 ^ (k - 1 - 8 * j) := Nat.mul_le_mul_right _ (by omega)
    omega
  refine ⟨?_, bl_of _ _ (by omega) (by omega) hl hu⟩
  have : 0 < (256 : Nat) ^ (k - 8 * j - 1) := Nat.pow_pos (by decide)
  omega
theorem lb_nb (bs : List (BitVec 8)) (e k : Nat) (hk : k ≤ 32) (ht : 0 < k → at8 bs (e - 1 - (k - 1)) ≠ 0) : nb (lb bs e 0 k) (lb bs e 1 k) (lb bs e 2 k) (lb bs e 3 k) = k := by
  unfold nb
  by_cases c3 : 24 < k
  · obtain ⟨n3, b3⟩ := lb_bl bs e k 3 (by omega) (by omega) (ht (by omega))
    rw [if_pos n3, b3]; omega
  rw [lb_none bs e 3 k (by omega), if_neg (by simp)]
  by_cases c2 : 16 < k
  · obtain ⟨n2, b2⟩ := lb_bl bs e k 2 (by omega) (by omega) (ht (by omega))
    rw [if_pos n2, b2]; omega
  rw [lb_none bs e 2 k (by omega), if_neg (by simp)]
  by_cases c1 : 8 < k
  · obtain ⟨n1, b1⟩ := lb_bl bs e k 1 (by omega) (by omega) (ht (by omega))
    rw [if_pos n1, b1]; omega
  rw [lb_none bs e 1 k (by omega), if_neg (by simp)]
  by_cases c0 : 0 < k
  · obtain ⟨n0, b0⟩ := lb_bl bs e k 0 (by omega) (by omega) (ht (by omega))
    rw [if_pos n0, b0]; omega
  · obtain rfl : k = 0 := by omega
    simp [lb]
/-- What was read off is the form of what was read. -/
theorem form_read {most : Nat} {bs : List (BitVec 8)} {a : Nat} (hm : most ≤ 32) (h : hiF most bs a = 0) (k : Nat) (hk : at8 bs a = k) :
    nb (lb bs (a + 1 + k) 0 k) (lb bs (a + 1 + k) 1 k) (lb bs (a + 1 + k) 2 k) (lb bs (a + 1 + k) 3 k) = k ∧ fm [lb bs (a + 1 + k) 0 k, lb bs (a + 1 + k) 1 k, lb bs (a + 1 + k) 2 k, lb bs (a + 1 + k) 3 k] k = sub bs a (1 + k) := by
  obtain ⟨h1, h2, h3, h4⟩ := hiF_ok h
  rw [hk] at h2 h3 h4
  refine ⟨lb_nb bs _ k (by omega) (fun h0 => by rw [show a + 1 + k - 1 - (k - 1) = a + 1 by omega]; exact h4 h0), ?_⟩
  have hsl := sub_len bs a (1 + k) (by omega)
  apply List.ext_getElem (by rw [fm_len, hsl]; omega)
  intro p hp1 hp2
  rw [hsl] at hp2
  have e2 : (sub bs a (1 + k))[p]'(by rw [hsl]; exact hp2) = bs[a + p]'(by omega) := by
    have := sub_get bs a (1 + k) p hp2
    rw [List.getElem?_eq_getElem (by rw [hsl]; exact hp2), List.getElem?_eq_getElem (by omega)] at this
    exact Option.some.inj this
  rw [e2]
  have hb : ∀ i (hi : i < bs.length), (bs[i]'hi).toNat = at8 bs i := fun i hi => by unfold at8; rw [List.getD_eq_getElem?_getD, List.getElem?_eq_getElem hi]; rfl
  apply BitVec.eq_of_toNat_eq
  rw [hb]
  cases p with
  | zero =>
    simp only [fm, List.getElem_cons_zero, BitVec.toNat_ofNat, Nat.add_zero]
    rw [hk]
    exact Nat.mod_eq_of_lt (by omega)
  | succ q =>
    simp only [fm, List.getElem_cons_succ, List.getElem_map, List.getElem_range, fb, BitVec.toNat_ofNat]
    have hq : q < k := by omega
    have hi : k - 1 - q < k := by omega
    have ed : [lb bs (a + 1 + k) 0 k, lb bs (a + 1 + k) 1 k, lb bs (a + 1 + k) 2 k, lb bs (a + 1 + k) 3 k].getD ((k - 1 - q) / 8) 0 = lb bs (a + 1 + k) ((k - 1 - q) / 8) k := by
      have : (k - 1 - q) / 8 < 4 := by omega
      generalize (k - 1 - q) / 8 = j at *
      rcases (show j = 0 ∨ j = 1 ∨ j = 2 ∨ j = 3 by omega) with rfl | rfl | rfl | rfl <;> rfl
    rw [ed, show (2 : Nat) ^ 8 = 256 from rfl, lb_dig bs (a + 1 + k) k (k - 1 - q) hi]
    congr 1
    omega
theorem lb_high (bs : List (BitVec 8)) (e k : Nat) (hk : k ≤ 8) : lb bs e 1 k = 0 ∧ lb bs e 2 k = 0 ∧ lb bs e 3 k = 0 := ⟨lb_none bs e 1 k (by omega), lb_none bs e 2 k (by omega), lb_none bs e 3 k (by omega)⟩
/-- Of a number. -/
theorem form_num {bs : List (BitVec 8)} {a : Nat} (h : nuE bs a = 0) : nb (nuW bs a) 0 0 0 = at8 bs a ∧ fm [nuW bs a, 0, 0, 0] (at8 bs a) = sub bs a (1 + at8 bs a) := by
  obtain ⟨h1, _⟩ := nuE_ok h
  obtain ⟨_, h2, _, _⟩ := hiF_ok h1
  obtain ⟨q1, q2⟩ := form_read (by decide) h1 _ rfl
  obtain ⟨e1, e2, e3⟩ := lb_high bs (a + 1 + at8 bs a) (at8 bs a) h2
  rw [e1, e2, e3] at q1 q2
  exact ⟨q1, q2⟩
theorem sub_add (bs : List (BitVec 8)) (a m n : Nat) : sub bs a m ++ sub bs (a + m) n = sub bs a (m + n) := by
  unfold sub
  rw [List.take_add, List.drop_drop]
theorem take_sub (bs : List (BitVec 8)) (a n : Nat) : bs.take a ++ sub bs a n = bs.take (a + n) := by
  unfold sub
  rw [List.take_add]

end Go.Proofs.Ytfommclhnfcioaa

namespace Go.Proofs.Ytfommclhnfcioaa
open Go Go.RowKit
open Sha

theorem bF_0 {bs : List (BitVec 8)} {a : Nat} {f : Int} (h : bF bs a f = 0) : f = 0 ∧ byE bs a = 0 := by
  unfold bF at h
  by_cases hf : f = 0
  · rw [if_pos hf] at h; exact ⟨hf, h⟩
  · rw [if_neg hf] at h; exact absurd h hf
theorem nF_0 {bs : List (BitVec 8)} {a : Nat} {f : Int} (h : nF bs a f = 0) : f = 0 ∧ nuE bs a = 0 := by
  unfold nF at h
  by_cases hf : f = 0
  · rw [if_pos hf] at h; exact ⟨hf, h⟩
  · rw [if_neg hf] at h; exact absurd h hf
theorem dF_0 {bs : List (BitVec 8)} {a : Nat} {f : Int} (h : dF bs a f = 0) : f = 0 ∧ dgE 32 bs a = 0 := by
  unfold dF at h
  by_cases hf : f = 0
  · rw [if_pos hf] at h; exact ⟨hf, h⟩
  · rw [if_neg hf] at h; exact absurd h hf
/-- A number that is taken stands there in its form. -/
theorem took_num {bs : List (BitVec 8)} {a : Nat} (h : nuE bs a = 0) : bs.take a ++ nf ((nuW bs a : Nat) : Int) = bs.take (a + 1 + at8 bs a) := by
  obtain ⟨h1, h2⟩ := form_num h
  have e : nf ((nuW bs a : Nat) : Int) = sub bs a (1 + at8 bs a) := by
    unfold nf
    rw [Int.toNat_natCast, h1]
    exact h2
  rw [e, take_sub, Nat.add_assoc]
theorem at_dgs (p r x bs : List (BitVec 8)) (a : Nat) (hb : bs = p ++ (x ++ r)) (ha : p.length = a) (hx : x.length = 32) : dgE 32 bs a = 0 ∧ sub bs a 32 = x := by
  obtain ⟨h1, h2⟩ := sub_mid p x r bs a 32 hb ha hx
  exact ⟨by unfold dgE; rw [if_neg (by omega)], h1⟩
theorem byE_at {bs : List (BitVec 8)} {x : BitVec 8} {r : List (BitVec 8)} (h : bs = x :: r) : byE bs 0 = 0 ∧ at8 bs 0 = x.toNat := by
  subst h
  exact ⟨by unfold byE; rw [if_neg (by simp)], rfl⟩
theorem cgood_form (bs : List (BitVec 8)) (m x1 x2 a1 a2 a3 a4 a5 : Nat) (f1 f2 f3 f4 f5 : Int) (ds dd : List (BitVec 8))
    (hm : m = bV bs 0 (f0 bs)) (h1a : a1 = bA bs 0 (f0 bs)) (h1f : f1 = bF bs 0 (f0 bs)) (h2v : x1 = nV bs a1 f1) (h2a : a2 = nA bs a1 f1) (h2f : f2 = nF bs a1 f1) (h3v : ds = dV bs a2 f2) (h3a : a3 = dA bs a2 f2) (h3f : f3 = dF bs a2 f2) (h4v : dd = dV bs a3 f3) (h4a : a4 = dA bs a3 f3) (h4f : f4 = dF bs a3 f3) (h5v : x2 = nV bs a4 f4) (h5a : a5 = nA bs a4 f4) (h5f : f5 = nF bs a4 f4)
    (h : (f5 = 0 ∧ ¬ a5 < bs.length ∧ m = 65 ∧ mayB ⟨(x1 : Int), ds, dd, (x2 : Int)⟩ = true)) : bs = cmb ⟨(x1 : Int), ds, dd, (x2 : Int)⟩ := by
  obtain ⟨hf5, hend, hm65, _⟩ := h
  rw [h5f] at hf5
  obtain ⟨g4, e5⟩ := nF_0 hf5
  rw [h4f] at g4
  obtain ⟨g3, e4⟩ := dF_0 g4
  rw [h3f] at g3
  obtain ⟨g2, e3⟩ := dF_0 g3
  rw [h2f] at g2
  obtain ⟨g1, e2⟩ := nF_0 g2
  rw [h1f] at g1
  obtain ⟨g0, e1⟩ := bF_0 g1
  have z1 : f1 = 0 := by rw [h1f]; exact g1
  have z2 : f2 = 0 := by rw [h2f]; exact g2
  have z3 : f3 = 0 := by rw [h3f]; exact g3
  have z4 : f4 = 0 := by rw [h4f]; exact g4
  have b1 : a1 = 1 := by rw [h1a]; unfold bA; rw [if_pos ⟨g0, e1⟩]
  have v1 : at8 bs 0 = 65 := by rw [← hm65, hm]; unfold bV; rw [if_pos ⟨g0, e1⟩]
  have c1 : x1 = nuW bs a1 := by rw [h2v, z1]; unfold nV; rw [if_pos rfl, if_pos e2]
  have b2 : a2 = a1 + 1 + at8 bs a1 := by rw [h2a, z1]; unfold nA; rw [if_pos rfl, if_pos e2]
  have c2 : ds = sub bs a2 32 := by rw [h3v, z2]; unfold dV; rw [if_pos ⟨rfl, e3⟩]
  have b3 : a3 = a2 + 32 := by rw [h3a, z2]; unfold dA; rw [if_pos ⟨rfl, e3⟩]
  have c3 : dd = sub bs a3 32 := by rw [h4v, z3]; unfold dV; rw [if_pos ⟨rfl, e4⟩]
  have b4 : a4 = a3 + 32 := by rw [h4a, z3]; unfold dA; rw [if_pos ⟨rfl, e4⟩]
  have c4 : x2 = nuW bs a4 := by rw [h5v, z4]; unfold nV; rw [if_pos rfl, if_pos e5]
  have b5 : a5 = a4 + 1 + at8 bs a4 := by rw [h5a, z4]; unfold nA; rw [if_pos rfl, if_pos e5]
  have t1 : bs.take a1 = [65#8] := by
    rw [b1]
    cases bs with
    | nil => unfold byE at e1; simp at e1
    | cons y r =>
      have hy : y.toNat = 65 := v1
      have : y = 65#8 := BitVec.eq_of_toNat_eq hy
      rw [this]
      rfl
  have t2 : bs.take a2 = [65#8] ++ nf (x1 : Int) := by rw [b2, ← took_num e2, t1, c1]
  have t3 : bs.take a3 = [65#8] ++ nf (x1 : Int) ++ ds := by rw [b3, ← take_sub, t2, c2]
  have t4 : bs.take a4 = [65#8] ++ nf (x1 : Int) ++ ds ++ dd := by rw [b4, ← take_sub, t3, c3]
  have t5 : bs.take a5 = cmb ⟨(x1 : Int), ds, dd, (x2 : Int)⟩ := by rw [b5, ← took_num e5, t4, c4]; rfl
  rw [← t5]
  exact (List.take_of_length_le (by omega)).symm
theorem cmb_reads (bs : List (BitVec 8)) (m x1 x2 a1 a2 a3 a4 a5 : Nat) (f1 f2 f3 f4 f5 : Int) (ds dd : List (BitVec 8))
    (hm : m = bV bs 0 (f0 bs)) (h1a : a1 = bA bs 0 (f0 bs)) (h1f : f1 = bF bs 0 (f0 bs)) (h2v : x1 = nV bs a1 f1) (h2a : a2 = nA bs a1 f1) (h2f : f2 = nF bs a1 f1) (h3v : ds = dV bs a2 f2) (h3a : a3 = dA bs a2 f2) (h3f : f3 = dF bs a2 f2) (h4v : dd = dV bs a3 f3) (h4a : a4 = dA bs a3 f3) (h4f : f4 = dF bs a3 f3) (h5v : x2 = nV bs a4 f4) (h5a : a5 = nA bs a4 f4) (h5f : f5 = nF bs a4 f4)
    (c : Cm) (hw : c.Wf) (hmay : mayB c = true) (hbs : bs = cmb c) : (f5 = 0 ∧ ¬ a5 < bs.length ∧ m = 65 ∧ mayB ⟨(x1 : Int), ds, dd, (x2 : Int)⟩ = true) ∧ (⟨(x1 : Int), ds, dd, (x2 : Int)⟩ : Cm) = c := by
  obtain ⟨i0, i1, k0, k1⟩ := may_cm hmay
  have hl := cmb_len hw
  have hs := hw.ls
  have ho := hw.lo
  have g0 : f0 bs = 0 := by unfold f0; rw [if_neg (by rw [hbs]; omega)]
  obtain ⟨y1, y2⟩ := byE_at (bs := bs) (x := 65#8) (r := nf c.n ++ c.s ++ c.o ++ nf c.k) (by rw [hbs]; rfl)
  have z1 : f1 = 0 := by rw [h1f, g0]; unfold bF; rw [if_pos rfl, y1]
  have b1 : a1 = 1 := by rw [h1a, g0]; unfold bA; rw [if_pos ⟨rfl, y1⟩]
  have v0 : m = 65 := by rw [hm, g0]; unfold bV; rw [if_pos ⟨rfl, y1⟩, y2]; rfl
  obtain ⟨p1, p2, p3⟩ := at_num [65#8] (c.s ++ c.o ++ nf c.k) bs c.n a1 i0 i1 (by rw [hbs]; simp [cmb]) (by rw [b1]; rfl)
  have z2 : f2 = 0 := by rw [h2f, z1]; unfold nF; rw [if_pos rfl, p1]
  have v1 : (x1 : Int) = c.n := by rw [h2v, z1]; unfold nV; rw [if_pos rfl, if_pos p1]; exact p2
  have b2 : a2 = 1 + (nf c.n).length := by rw [h2a, z1]; unfold nA; rw [if_pos rfl, if_pos p1, p3, b1]
  obtain ⟨q1, q2⟩ := at_dgs ([65#8] ++ nf c.n) (c.o ++ nf c.k) c.s bs a2 (by rw [hbs]; simp [cmb]) (by rw [b2]; simp; omega) hs
  have z3 : f3 = 0 := by rw [h3f, z2]; unfold dF; rw [if_pos rfl, q1]
  have v2 : ds = c.s := by rw [h3v, z2]; unfold dV; rw [if_pos ⟨rfl, q1⟩, q2]
  have b3 : a3 = 1 + (nf c.n).length + 32 := by rw [h3a, z2]; unfold dA; rw [if_pos ⟨rfl, q1⟩, b2]
  obtain ⟨r1, r2⟩ := at_dgs ([65#8] ++ nf c.n ++ c.s) (nf c.k) c.o bs a3 (by rw [hbs]; simp [cmb]) (by rw [b3]; simp; omega) ho
  have z4 : f4 = 0 := by rw [h4f, z3]; unfold dF; rw [if_pos rfl, r1]
  have v3 : dd = c.o := by rw [h4v, z3]; unfold dV; rw [if_pos ⟨rfl, r1⟩, r2]
  have b4 : a4 = 1 + (nf c.n).length + 32 + 32 := by rw [h4a, z3]; unfold dA; rw [if_pos ⟨rfl, r1⟩, b3]
  obtain ⟨s1, s2, s3⟩ := at_num ([65#8] ++ nf c.n ++ c.s ++ c.o) [] bs c.k a4 k0 k1 (by rw [hbs]; simp [cmb]) (by rw [b4]; simp; omega)
  have z5 : f5 = 0 := by rw [h5f, z4]; unfold nF; rw [if_pos rfl, s1]
  have v4 : (x2 : Int) = c.k := by rw [h5v, z4]; unfold nV; rw [if_pos rfl, if_pos s1]; exact s2
  have b5 : a5 = bs.length := by
    rw [h5a, z4]; unfold nA; rw [if_pos rfl, if_pos s1, s3, b4, hbs]
    unfold cmb
    simp only [List.length_append, List.length_singleton]
    omega
  have hc : (⟨(x1 : Int), ds, dd, (x2 : Int)⟩ : Cm) = c := by rw [v1, v2, v3, v4]
  exact ⟨⟨z5, by omega, v0, by rw [hc]; exact hmay⟩, hc⟩
/-- The commit whose bytes these are, or nothing. -/
def isCm (bs : List (BitVec 8)) (V : Cm) (RE : Int) : Prop := (V.Wf ∧ mayB V = true ∧ bs = cmb V ∧ RE = 0) ∨ ((¬ ∃ c : Cm, c.Wf ∧ mayB c = true ∧ bs = cmb c) ∧ V = zC ∧ RE = 160)
/-- There is one answer to any bytes, and both sides give it. -/
theorem reads_one (bs : List (BitVec 8)) : ∃ (V : Cm) (RE : Int), isCm bs V RE ∧ V.Wf ∧
    (∀ (B : Option Addr) (n cb : Nat), bs.length = n → (B = none → cb = 0) → ∀ w : World, SlAt w (.slice B n cb) bs → Calls Try.prog 12 #[.slice B n cb] w fun e w' => e = .returned (.tuple #[.agg V.cells.toArray, .int .i64 RE]) ∧ Below w.heap.size w w') ∧
    (∀ (g : Nat) (A : Option Addr) (cap ao n : Nat), bs.length = n → n ≤ 140737488355328 → n ≤ cap → ((bs = [] ∧ (A = none → cap = 0)) ∨ A = some ⟨g, ao, none⟩) → ∀ w : World, (0 < bs.length → w.rangeAt g ao (vB bs)) → Calls Try.prog 13 #[.slice A n cap] w fun e w' => e = .returned (.tuple #[.agg V.cells.toArray, .int .i64 RE]) ∧ Below w.heap.size w w') := by
  by_cases h : ∃ c : Cm, c.Wf ∧ mayB c = true ∧ bs = cmb c
  · obtain ⟨c, hw, hm, hb⟩ := h
    refine ⟨c, 0, .inl ⟨hw, hm, hb, rfl⟩, hw, fun B n cb h1 h2 w h3 => ?_, fun g A cap ao n h1 h2 h3 h4 w h5 => ?_⟩
    · exact lread_x bs _ _ _ _ _ _ _ _ _ _ _ _ _ _ _ rfl rfl rfl rfl rfl rfl rfl rfl rfl rfl rfl rfl rfl rfl rfl c 0 (fun _ => ⟨(cmb_reads bs _ _ _ _ _ _ _ _ _ _ _ _ _ _ _ rfl rfl rfl rfl rfl rfl rfl rfl rfl rfl rfl rfl rfl rfl rfl c hw hm hb).2.symm, rfl⟩) (fun q => absurd (cmb_reads bs _ _ _ _ _ _ _ _ _ _ _ _ _ _ _ rfl rfl rfl rfl rfl rfl rfl rfl rfl rfl rfl rfl rfl rfl rfl c hw hm hb).1 q) B n cb h1 h2 w h3
    · exact dread_x bs _ _ _ _ _ _ _ _ _ _ _ _ _ _ _ rfl rfl rfl rfl rfl rfl rfl rfl rfl rfl rfl rfl rfl rfl rfl c 0 (fun _ => ⟨(cmb_reads bs _ _ _ _ _ _ _ _ _ _ _ _ _ _ _ rfl rfl rfl rfl rfl rfl rfl rfl rfl rfl rfl rfl rfl rfl rfl c hw hm hb).2.symm, rfl⟩) (fun q => absurd (cmb_reads bs _ _ _ _ _ _ _ _ _ _ _ _ _ _ _ rfl rfl rfl rfl rfl rfl rfl rfl rfl rfl rfl rfl rfl rfl rfl c hw hm hb).1 q) g A cap ao n h1 h2 h3 h4 w h5
  · refine ⟨zC, 160, .inr ⟨h, rfl, rfl⟩, zC_wf, fun B n cb h1 h2 w h3 => ?_, fun g A cap ao n h1 h2 h3 h4 w h5 => ?_⟩
    · exact lread_x bs _ _ _ _ _ _ _ _ _ _ _ _ _ _ _ rfl rfl rfl rfl rfl rfl rfl rfl rfl rfl rfl rfl rfl rfl rfl zC 160 (fun q => absurd ⟨_, ⟨dV_len _ _ _, dV_len _ _ _⟩, q.2.2.2, cgood_form bs _ _ _ _ _ _ _ _ _ _ _ _ _ _ _ rfl rfl rfl rfl rfl rfl rfl rfl rfl rfl rfl rfl rfl rfl rfl q⟩ h) (fun _ => ⟨rfl, rfl⟩) B n cb h1 h2 w h3
    · exact dread_x bs _ _ _ _ _ _ _ _ _ _ _ _ _ _ _ rfl rfl rfl rfl rfl rfl rfl rfl rfl rfl rfl rfl rfl rfl rfl zC 160 (fun q => absurd ⟨_, ⟨dV_len _ _ _, dV_len _ _ _⟩, q.2.2.2, cgood_form bs _ _ _ _ _ _ _ _ _ _ _ _ _ _ _ rfl rfl rfl rfl rfl rfl rfl rfl rfl rfl rfl rfl rfl rfl rfl q⟩ h) (fun _ => ⟨rfl, rfl⟩) g A cap ao n h1 h2 h3 h4 w h5

end Go.Proofs.Ytfommclhnfcioaa
