/-
  SHA-256 over natural numbers, for the kernel to reckon.
-/
import Derived.Test.YtfdgdmehgbmnkaaDoorSha
namespace Go.Proofs.YtfdgdmehgbmnkaaDoor
open Go
namespace Sha

/-- A number is reckoned ahead of going on with it. -/
noncomputable def force (n : Nat) (k : Nat → Nat) : Nat := Nat.rec (k 0) (fun m _ => k (Nat.succ m)) n
theorem force_eq (n : Nat) (k : Nat → Nat) : force n k = k n := by cases n <;> rfl
def rN (x n : Nat) : Nat := Nat.lor (Nat.shiftRight x n) (Nat.mod (Nat.shiftLeft x (Nat.sub 32 n)) 4294967296)
def s0N (x : Nat) : Nat := Nat.xor (Nat.xor (rN x 7) (rN x 18)) (Nat.shiftRight x 3)
def s1N (x : Nat) : Nat := Nat.xor (Nat.xor (rN x 17) (rN x 19)) (Nat.shiftRight x 10)
def b0N (x : Nat) : Nat := Nat.xor (Nat.xor (rN x 2) (rN x 13)) (rN x 22)
def b1N (x : Nat) : Nat := Nat.xor (Nat.xor (rN x 6) (rN x 11)) (rN x 25)
def chN (e f g : Nat) : Nat := Nat.xor (Nat.land e f) (Nat.land (Nat.sub 4294967295 e) g)
def majN (a b c : Nat) : Nat := Nat.xor (Nat.xor (Nat.land a b) (Nat.land a c)) (Nat.land b c)
def addN (x y : Nat) : Nat := Nat.mod (Nat.add x y) 4294967296
theorem rN_eq (x : BitVec 32) (n : Nat) : (rotr x n).toNat = rN x.toNat n := by
  unfold rotr rN
  rw [BitVec.toNat_or, BitVec.toNat_ushiftRight, BitVec.toNat_shiftLeft]
  rfl
theorem s0N_eq (x : BitVec 32) : (s0 x).toNat = s0N x.toNat := by
  unfold s0 s0N
  rw [BitVec.toNat_xor, BitVec.toNat_xor, BitVec.toNat_ushiftRight, rN_eq, rN_eq]
  rfl
theorem s1N_eq (x : BitVec 32) : (s1 x).toNat = s1N x.toNat := by
  unfold s1 s1N
  rw [BitVec.toNat_xor, BitVec.toNat_xor, BitVec.toNat_ushiftRight, rN_eq, rN_eq]
  rfl
theorem b0N_eq (x : BitVec 32) : (b0 x).toNat = b0N x.toNat := by
  unfold b0 b0N
  rw [BitVec.toNat_xor, BitVec.toNat_xor, rN_eq, rN_eq, rN_eq]
  rfl
theorem b1N_eq (x : BitVec 32) : (b1 x).toNat = b1N x.toNat := by
  unfold b1 b1N
  rw [BitVec.toNat_xor, BitVec.toNat_xor, rN_eq, rN_eq, rN_eq]
  rfl
theorem chN_eq (e f g : BitVec 32) : (ch e f g).toNat = chN e.toNat f.toNat g.toNat := by
  unfold ch chN
  rw [BitVec.toNat_xor, BitVec.toNat_and, BitVec.toNat_and, BitVec.toNat_not]
  rfl
theorem majN_eq (a b c : BitVec 32) : (maj a b c).toNat = majN a.toNat b.toNat c.toNat := by
  unfold maj majN
  rw [BitVec.toNat_xor, BitVec.toNat_xor, BitVec.toNat_and, BitVec.toNat_and, BitVec.toNat_and]
  rfl
theorem addN_eq (x y : BitVec 32) : (x + y).toNat = addN x.toNat y.toNat := BitVec.toNat_add x y
theorem addN_eq' (x : BitVec 32) (n : Nat) (y : BitVec 32) (h : n % 4294967296 = y.toNat) : addN x.toNat n = (x + y).toNat := by
  unfold addN
  rw [BitVec.toNat_add]
  show (x.toNat + n) % 4294967296 = (x.toNat + y.toNat) % 4294967296
  omega

/-- The rounds, and what goes on behind them. -/
noncomputable def cN (k : Nat → Nat → Nat → Nat → Nat → Nat → Nat → Nat → Nat) (ks : List Nat) : Nat → Nat → Nat → Nat → Nat → Nat → Nat → Nat → Nat → Nat → Nat → Nat → Nat → Nat → Nat → Nat → Nat → Nat → Nat → Nat → Nat → Nat → Nat → Nat → Nat :=
  List.rec (motive := fun _ => Nat → Nat → Nat → Nat → Nat → Nat → Nat → Nat → Nat → Nat → Nat → Nat → Nat → Nat → Nat → Nat → Nat → Nat → Nat → Nat → Nat → Nat → Nat → Nat → Nat)
    (fun a b c d e f g h _ _ _ _ _ _ _ _ _ _ _ _ _ _ _ _ => k a b c d e f g h)
    (fun kt _ ih a b c d e f g h w0 w1 w2 w3 w4 w5 w6 w7 w8 w9 w10 w11 w12 w13 w14 w15 =>
      force (addN (addN (addN (s1N w14) w9) (s0N w1)) w0) fun w16 =>
      force (addN (addN (addN (addN h (b1N e)) (chN e f g)) kt) w0) fun t =>
      force (addN d t) fun e2 =>
      force (addN t (addN (b0N a) (majN a b c))) fun a2 =>
      ih a2 a b c e2 e f g w1 w2 w3 w4 w5 w6 w7 w8 w9 w10 w11 w12 w13 w14 w15 w16)
    ks
theorem cN_nil (k : Nat → Nat → Nat → Nat → Nat → Nat → Nat → Nat → Nat) (a b c d e f g h w0 w1 w2 w3 w4 w5 w6 w7 w8 w9 w10 w11 w12 w13 w14 w15 : Nat) : cN k [] a b c d e f g h w0 w1 w2 w3 w4 w5 w6 w7 w8 w9 w10 w11 w12 w13 w14 w15 = k a b c d e f g h := rfl
theorem cN_cons (k : Nat → Nat → Nat → Nat → Nat → Nat → Nat → Nat → Nat) (kt : Nat) (ks : List Nat) (a b c d e f g h w0 w1 w2 w3 w4 w5 w6 w7 w8 w9 w10 w11 w12 w13 w14 w15 : Nat) : cN k (kt :: ks) a b c d e f g h w0 w1 w2 w3 w4 w5 w6 w7 w8 w9 w10 w11 w12 w13 w14 w15 = cN k ks (addN (addN (addN (addN (addN h (b1N e)) (chN e f g)) kt) w0) (addN (b0N a) (majN a b c))) a b c (addN d (addN (addN (addN (addN h (b1N e)) (chN e f g)) kt) w0)) e f g w1 w2 w3 w4 w5 w6 w7 w8 w9 w10 w11 w12 w13 w14 w15 (addN (addN (addN (s1N w14) w9) (s0N w1)) w0) := by
  unfold cN
  simp only [force_eq]
theorem sch_get (p : List (BitVec 32)) (hp : p.length = 16) (k j i : Nat) (hi : i < 16 + k) : (sch p (k + j)).getD i 0 = (sch p k).getD i 0 := by
  induction j with
  | zero => rfl
  | succ j ih =>
    rw [← Nat.add_assoc, sch, List.getD_eq_getElem?_getD, List.getElem?_append_left (by rw [sch_length, hp]; omega), ← List.getD_eq_getElem?_getD, ih]
/-- The words of the schedule, more than there are. -/
def wS (p : List (BitVec 32)) (t : Nat) : BitVec 32 := (sch p 64).getD t 0
theorem wS_low (p : List (BitVec 32)) (hp : p.length = 16) (t : Nat) (ht : t < 64) : (sch p 48).getD t 0 = wS p t := (sch_get p hp 48 16 t (by omega)).symm
theorem wS_next (p : List (BitVec 32)) (hp : p.length = 16) (t : Nat) (ht : t < 64) : wS p (t + 16) = s1 (wS p (t + 14)) + wS p (t + 9) + s0 (wS p (t + 1)) + wS p t := by
  have h1 : wS p (t + 16) = (sch p (t + 1)).getD (t + 16) 0 := by
    have := sch_get p hp (t + 1) (63 - t) (t + 16) (by omega)
    rw [show t + 1 + (63 - t) = 64 by omega] at this
    exact this
  have h2 : ∀ i, i < 16 + t → wS p i = (sch p t).getD i 0 := fun i hi => by
    have := sch_get p hp t (64 - t) i hi
    rw [show t + (64 - t) = 64 by omega] at this
    exact this
  rw [h1, sch, List.getD_eq_getElem?_getD, List.getElem?_append_right (by rw [sch_length, hp]; omega), sch_length, hp, show t + 16 - (16 + t) = 0 by omega]
  show nextw (sch p t) (16 + t) = _
  unfold nextw
  rw [show 16 + t - 2 = t + 14 by omega, show 16 + t - 7 = t + 9 by omega, show 16 + t - 15 = t + 1 by omega, show 16 + t - 16 = t by omega, ← h2 _ (by omega), ← h2 _ (by omega), ← h2 _ (by omega), ← h2 _ (by omega)]
def KN : List Nat := K.map BitVec.toNat
theorem KN_drop (t : Nat) (h : t < 64) : KN.drop t = (K.getD t 0).toNat :: KN.drop (t + 1) := by
  unfold KN
  rw [← List.map_drop, ← List.map_drop, List.drop_eq_getElem_cons (by rw [K_length]; exact h), List.map_cons]
  congr 1
  rw [List.getD_eq_getElem?_getD, List.getElem?_eq_getElem (by rw [K_length]; exact h)]
  rfl
theorem cN_ok (k : Nat → Nat → Nat → Nat → Nat → Nat → Nat → Nat → Nat) (p : List (BitVec 32)) (hp : p.length = 16) (s : St) : ∀ n t, t + n = 64 → cN k (KN.drop t) (rounds (sch p 48) s t).a.toNat (rounds (sch p 48) s t).b.toNat (rounds (sch p 48) s t).c.toNat (rounds (sch p 48) s t).d.toNat (rounds (sch p 48) s t).e.toNat (rounds (sch p 48) s t).f.toNat (rounds (sch p 48) s t).g.toNat (rounds (sch p 48) s t).h.toNat (wS p (t + 0)).toNat (wS p (t + 1)).toNat (wS p (t + 2)).toNat (wS p (t + 3)).toNat (wS p (t + 4)).toNat (wS p (t + 5)).toNat (wS p (t + 6)).toNat (wS p (t + 7)).toNat (wS p (t + 8)).toNat (wS p (t + 9)).toNat (wS p (t + 10)).toNat (wS p (t + 11)).toNat (wS p (t + 12)).toNat (wS p (t + 13)).toNat (wS p (t + 14)).toNat (wS p (t + 15)).toNat = k (rounds (sch p 48) s 64).a.toNat (rounds (sch p 48) s 64).b.toNat (rounds (sch p 48) s 64).c.toNat (rounds (sch p 48) s 64).d.toNat (rounds (sch p 48) s 64).e.toNat (rounds (sch p 48) s 64).f.toNat (rounds (sch p 48) s 64).g.toNat (rounds (sch p 48) s 64).h.toNat := by
  intro n
  induction n with
  | zero =>
    intro t ht
    obtain rfl : t = 64 := by omega
    rw [show KN.drop 64 = [] from List.drop_of_length_le (by unfold KN; rw [List.length_map, K_length]; exact Nat.le_refl _), cN_nil]
  | succ n ih =>
    intro t ht
    have ht64 : t < 64 := by omega
    rw [KN_drop t ht64, cN_cons]
    have hr : rounds (sch p 48) s (t + 1) = rnd (rounds (sch p 48) s t) (K.getD t 0) (wS p t) := by
      rw [rounds, wS_low p hp t ht64]
    have h0 := ih (t + 1) (by omega)
    rw [hr] at h0
    have hx : rx (rounds (sch p 48) s t) (K.getD t 0) (wS p t) = (rounds (sch p 48) s t).h + b1 (rounds (sch p 48) s t).e + ch (rounds (sch p 48) s t).e (rounds (sch p 48) s t).f (rounds (sch p 48) s t).g + K.getD t 0 + wS p t := rfl
    have e1 : (wS p (t + 1 + 15)).toNat = addN (addN (addN (s1N (wS p (t + 14)).toNat) (wS p (t + 9)).toNat) (s0N (wS p (t + 1)).toNat)) (wS p (t + 0)).toNat := by
      rw [show t + 1 + 15 = t + 16 by omega, wS_next p hp t ht64, addN_eq, addN_eq, addN_eq, s1N_eq, s0N_eq]
      rfl
    have e2 : (rx (rounds (sch p 48) s t) (K.getD t 0) (wS p t)).toNat = addN (addN (addN (addN (rounds (sch p 48) s t).h.toNat (b1N (rounds (sch p 48) s t).e.toNat)) (chN (rounds (sch p 48) s t).e.toNat (rounds (sch p 48) s t).f.toNat (rounds (sch p 48) s t).g.toNat)) (K.getD t 0).toNat) (wS p (t + 0)).toNat := by
      rw [hx, addN_eq, addN_eq, addN_eq, addN_eq, b1N_eq, chN_eq]
      rfl
    have e3 : (rnd (rounds (sch p 48) s t) (K.getD t 0) (wS p t)).a.toNat = addN (rx (rounds (sch p 48) s t) (K.getD t 0) (wS p t)).toNat (addN (b0N (rounds (sch p 48) s t).a.toNat) (majN (rounds (sch p 48) s t).a.toNat (rounds (sch p 48) s t).b.toNat (rounds (sch p 48) s t).c.toNat)) := by
      show (rx _ _ _ + ry _).toNat = _
      rw [addN_eq]
      unfold ry
      rw [addN_eq, b0N_eq, majN_eq]
    have e4 : (rnd (rounds (sch p 48) s t) (K.getD t 0) (wS p t)).e.toNat = addN (rounds (sch p 48) s t).d.toNat (rx (rounds (sch p 48) s t) (K.getD t 0) (wS p t)).toNat := by
      show ((rounds (sch p 48) s t).d + rx _ _ _).toNat = _
      rw [addN_eq]
    rw [e1, e3, e4, e2] at h0
    rw [← h0]
    simp only [show ∀ i, t + 1 + i = t + (1 + i) from fun i => by omega]
    rfl
theorem wS_init (p : List (BitVec 32)) (hp : p.length = 16) (i : Nat) : i < 16 → wS p i = p.getD i 0 := fun h => sch_get p hp 0 64 i (by omega)
/-- A piece, and what goes on behind it. -/
noncomputable def compK (k : Nat → Nat → Nat → Nat → Nat → Nat → Nat → Nat → Nat) (a b c d e f g h w0 w1 w2 w3 w4 w5 w6 w7 w8 w9 w10 w11 w12 w13 w14 w15 : Nat) : Nat :=
  cN (fun aa bb cc dd ee ff gg hh => force (addN a aa) fun a2 => force (addN b bb) fun b2 => force (addN c cc) fun c2 => force (addN d dd) fun d2 => force (addN e ee) fun e2 => force (addN f ff) fun f2 => force (addN g gg) fun g2 => force (addN h hh) fun h2 => k a2 b2 c2 d2 e2 f2 g2 h2) KN a b c d e f g h w0 w1 w2 w3 w4 w5 w6 w7 w8 w9 w10 w11 w12 w13 w14 w15
theorem compK_ok (k : Nat → Nat → Nat → Nat → Nat → Nat → Nat → Nat → Nat) (p : List (BitVec 32)) (hp : p.length = 16) (s : St) : compK k (s).a.toNat (s).b.toNat (s).c.toNat (s).d.toNat (s).e.toNat (s).f.toNat (s).g.toNat (s).h.toNat (p.getD 0 0).toNat (p.getD 1 0).toNat (p.getD 2 0).toNat (p.getD 3 0).toNat (p.getD 4 0).toNat (p.getD 5 0).toNat (p.getD 6 0).toNat (p.getD 7 0).toNat (p.getD 8 0).toNat (p.getD 9 0).toNat (p.getD 10 0).toNat (p.getD 11 0).toNat (p.getD 12 0).toNat (p.getD 13 0).toNat (p.getD 14 0).toNat (p.getD 15 0).toNat = k (comp s p).a.toNat (comp s p).b.toNat (comp s p).c.toNat (comp s p).d.toNat (comp s p).e.toNat (comp s p).f.toNat (comp s p).g.toNat (comp s p).h.toNat := by
  have h := cN_ok (fun aa bb cc dd ee ff gg hh => force (addN s.a.toNat aa) fun a2 => force (addN s.b.toNat bb) fun b2 => force (addN s.c.toNat cc) fun c2 => force (addN s.d.toNat dd) fun d2 => force (addN s.e.toNat ee) fun e2 => force (addN s.f.toNat ff) fun f2 => force (addN s.g.toNat gg) fun g2 => force (addN s.h.toNat hh) fun h2 => k a2 b2 c2 d2 e2 f2 g2 h2) p hp s 64 0 rfl
  simp only [Nat.zero_add] at h
  rw [wS_init p hp 0 (by decide), wS_init p hp 1 (by decide), wS_init p hp 2 (by decide), wS_init p hp 3 (by decide), wS_init p hp 4 (by decide), wS_init p hp 5 (by decide), wS_init p hp 6 (by decide), wS_init p hp 7 (by decide), wS_init p hp 8 (by decide), wS_init p hp 9 (by decide), wS_init p hp 10 (by decide), wS_init p hp 11 (by decide), wS_init p hp 12 (by decide), wS_init p hp 13 (by decide), wS_init p hp 14 (by decide), wS_init p hp 15 (by decide)] at h
  unfold compK
  refine Eq.trans h ?_
  simp only [force_eq]
  unfold comp St.add
  simp only [addN_eq]


def packN (a b c d e f g h : Nat) : Nat := (Nat.add (Nat.mul (Nat.add (Nat.mul (Nat.add (Nat.mul (Nat.add (Nat.mul (Nat.add (Nat.mul (Nat.add (Nat.mul (Nat.add (Nat.mul a 4294967296) b) 4294967296) c) 4294967296) d) 4294967296) e) 4294967296) f) 4294967296) g) 4294967296) h)
def packS (s : St) : Nat := packN s.a.toNat s.b.toNat s.c.toNat s.d.toNat s.e.toNat s.f.toNat s.g.toNat s.h.toNat
noncomputable def unp (k : Nat → Nat → Nat → Nat → Nat → Nat → Nat → Nat → Nat) (X : Nat) : Nat := force (Nat.mod X 4294967296) fun h => force (Nat.div X 4294967296) fun X0 => force (Nat.mod X0 4294967296) fun g => force (Nat.div X0 4294967296) fun X1 => force (Nat.mod X1 4294967296) fun f => force (Nat.div X1 4294967296) fun X2 => force (Nat.mod X2 4294967296) fun e => force (Nat.div X2 4294967296) fun X3 => force (Nat.mod X3 4294967296) fun d => force (Nat.div X3 4294967296) fun X4 => force (Nat.mod X4 4294967296) fun c => force (Nat.div X4 4294967296) fun X5 => force (Nat.mod X5 4294967296) fun b => force (Nat.div X5 4294967296) fun X6 => k X6 b c d e f g h
theorem modM (x y : Nat) (h : y < 4294967296) : Nat.mod (Nat.add (Nat.mul x 4294967296) y) 4294967296 = y := by
  show (x * 4294967296 + y) % 4294967296 = y
  omega
theorem divM (x y : Nat) (h : y < 4294967296) : Nat.div (Nat.add (Nat.mul x 4294967296) y) 4294967296 = x := by
  show (x * 4294967296 + y) / 4294967296 = x
  omega
theorem unp_ok (k : Nat → Nat → Nat → Nat → Nat → Nat → Nat → Nat → Nat) (s : St) : unp k (packS s) = k s.a.toNat s.b.toNat s.c.toNat s.d.toNat s.e.toNat s.f.toNat s.g.toNat s.h.toNat := by
  have hb := s.b.isLt; have hc := s.c.isLt; have hd := s.d.isLt; have he := s.e.isLt; have hf := s.f.isLt; have hg := s.g.isLt; have hh := s.h.isLt
  unfold unp packS packN
  simp only [force_eq, modM _ _ hh, divM _ _ hh, modM _ _ hg, divM _ _ hg, modM _ _ hf, divM _ _ hf, modM _ _ he, divM _ _ he, modM _ _ hd, divM _ _ hd, modM _ _ hc, divM _ _ hc, modM _ _ hb, divM _ _ hb]
theorem packS_inj {s t : St} (h : packS s = packS t) : s = t := by
  have e : ∀ k : Nat → Nat → Nat → Nat → Nat → Nat → Nat → Nat → Nat, k s.a.toNat s.b.toNat s.c.toNat s.d.toNat s.e.toNat s.f.toNat s.g.toNat s.h.toNat = k t.a.toNat t.b.toNat t.c.toNat t.d.toNat t.e.toNat t.f.toNat t.g.toNat t.h.toNat := fun k => by rw [← unp_ok k s, ← unp_ok k t, h]
  obtain ⟨a, b, c, d, e', f, g, i⟩ := s
  obtain ⟨a2, b2, c2, d2, e2, f2, g2, i2⟩ := t
  have h1 := BitVec.eq_of_toNat_eq (e fun a _ _ _ _ _ _ _ => a)
  have h2 := BitVec.eq_of_toNat_eq (e fun _ a _ _ _ _ _ _ => a)
  have h3 := BitVec.eq_of_toNat_eq (e fun _ _ a _ _ _ _ _ => a)
  have h4 := BitVec.eq_of_toNat_eq (e fun _ _ _ a _ _ _ _ => a)
  have h5 := BitVec.eq_of_toNat_eq (e fun _ _ _ _ a _ _ _ => a)
  have h6 := BitVec.eq_of_toNat_eq (e fun _ _ _ _ _ a _ _ => a)
  have h7 := BitVec.eq_of_toNat_eq (e fun _ _ _ _ _ _ a _ => a)
  have h8 := BitVec.eq_of_toNat_eq (e fun _ _ _ _ _ _ _ a => a)
  simp only at h1 h2 h3 h4 h5 h6 h7 h8
  subst h1 h2 h3 h4 h5 h6 h7 h8
  rfl
/-- The digest of 65 bytes: one, and two digests. -/
noncomputable def body65 (tag l0 l1 l2 l3 l4 l5 l6 l7 r0 r1 r2 r3 r4 r5 r6 r7 : Nat) : Nat :=
  force (Nat.add (Nat.mul tag 16777216) (Nat.div l0 256)) fun w0 => force (Nat.add (Nat.mul (Nat.mod l0 256) 16777216) (Nat.div l1 256)) fun w1 => force (Nat.add (Nat.mul (Nat.mod l1 256) 16777216) (Nat.div l2 256)) fun w2 => force (Nat.add (Nat.mul (Nat.mod l2 256) 16777216) (Nat.div l3 256)) fun w3 => force (Nat.add (Nat.mul (Nat.mod l3 256) 16777216) (Nat.div l4 256)) fun w4 => force (Nat.add (Nat.mul (Nat.mod l4 256) 16777216) (Nat.div l5 256)) fun w5 => force (Nat.add (Nat.mul (Nat.mod l5 256) 16777216) (Nat.div l6 256)) fun w6 => force (Nat.add (Nat.mul (Nat.mod l6 256) 16777216) (Nat.div l7 256)) fun w7 => force (Nat.add (Nat.mul (Nat.mod l7 256) 16777216) (Nat.div r0 256)) fun w8 => force (Nat.add (Nat.mul (Nat.mod r0 256) 16777216) (Nat.div r1 256)) fun w9 => force (Nat.add (Nat.mul (Nat.mod r1 256) 16777216) (Nat.div r2 256)) fun w10 => force (Nat.add (Nat.mul (Nat.mod r2 256) 16777216) (Nat.div r3 256)) fun w11 => force (Nat.add (Nat.mul (Nat.mod r3 256) 16777216) (Nat.div r4 256)) fun w12 => force (Nat.add (Nat.mul (Nat.mod r4 256) 16777216) (Nat.div r5 256)) fun w13 => force (Nat.add (Nat.mul (Nat.mod r5 256) 16777216) (Nat.div r6 256)) fun w14 => force (Nat.add (Nat.mul (Nat.mod r6 256) 16777216) (Nat.div r7 256)) fun w15 => compK (fun a b c d e f g h => compK packN a b c d e f g h (Nat.add (Nat.mul (Nat.mod r7 256) 16777216) 8388608) 0 0 0 0 0 0 0 0 0 0 0 0 0 0 520) 1779033703 3144134277 1013904242 2773480762 1359893119 2600822924 528734635 1541459225 w0 w1 w2 w3 w4 w5 w6 w7 w8 w9 w10 w11 w12 w13 w14 w15
noncomputable def H65 (tag L R : Nat) : Nat := unp (fun l0 l1 l2 l3 l4 l5 l6 l7 => unp (fun r0 r1 r2 r3 r4 r5 r6 r7 => body65 tag l0 l1 l2 l3 l4 l5 l6 l7 r0 r1 r2 r3 r4 r5 r6 r7) R) L
noncomputable def chain (n X : Nat) : Nat := Nat.rec X (fun _ ih => H65 3 ih 0) n

end Sha
end Go.Proofs.YtfdgdmehgbmnkaaDoor
