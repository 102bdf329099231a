/-
  The digest of 65 bytes, over natural numbers.
-/
import Derived.Test.YtfdgdmehgbmnkaaDoorShN
import Derived.Test.YtfdgdmehgbmnkaaDoorHMath
namespace Go.Proofs.YtfdgdmehgbmnkaaDoor
open Go
namespace Sha
theorem or_add (a b i : Nat) (h : b < 2 ^ i) : (a * 2 ^ i) ||| b = a * 2 ^ i + b := by
  rw [← Nat.shiftLeft_eq]
  exact (Nat.shiftLeft_add_eq_or_of_lt h a).symm
theorem wdM_nat (x y z v : BitVec 8) : (wd x y z v).toNat = x.toNat * 16777216 + y.toNat * 65536 + z.toNat * 256 + v.toNat := by
  have hx := x.isLt; have hy := y.isLt; have hz := z.isLt; have hv := v.isLt
  unfold wd
  rw [BitVec.toNat_or, BitVec.toNat_or, BitVec.toNat_or, BitVec.toNat_shiftLeft, BitVec.toNat_shiftLeft, BitVec.toNat_shiftLeft, BitVec.toNat_setWidth, BitVec.toNat_setWidth, BitVec.toNat_setWidth, BitVec.toNat_setWidth]
  rw [Nat.mod_eq_of_lt (a := x.toNat) (by omega), Nat.mod_eq_of_lt (a := y.toNat) (by omega), Nat.mod_eq_of_lt (a := z.toNat) (by omega), Nat.mod_eq_of_lt (a := v.toNat) (by omega), Nat.shiftLeft_eq, Nat.shiftLeft_eq, Nat.shiftLeft_eq]
  rw [Nat.mod_eq_of_lt (a := x.toNat * 2 ^ 24) (by omega), Nat.mod_eq_of_lt (a := y.toNat * 2 ^ 16) (by omega), Nat.mod_eq_of_lt (a := z.toNat * 2 ^ 8) (by omega)]
  rw [or_add x.toNat (y.toNat * 2 ^ 16) 24 (by omega), show x.toNat * 2 ^ 24 + y.toNat * 2 ^ 16 = (x.toNat * 256 + y.toNat) * 2 ^ 16 by omega, or_add _ (z.toNat * 2 ^ 8) 16 (by omega), show (x.toNat * 256 + y.toNat) * 2 ^ 16 + z.toNat * 2 ^ 8 = ((x.toNat * 256 + y.toNat) * 256 + z.toNat) * 2 ^ 8 by omega, or_add _ v.toNat 8 (by omega)]
  try omega
theorem wd_cat (b : BitVec 8) (y : BitVec 32) : (wd b ((y >>> 24).setWidth 8) ((y >>> 16).setWidth 8) ((y >>> 8).setWidth 8)).toNat = Nat.add (Nat.mul b.toNat 16777216) (Nat.div y.toNat 256) := by
  have hy := y.isLt
  rw [wdM_nat, BitVec.toNat_setWidth, BitVec.toNat_setWidth, BitVec.toNat_setWidth, BitVec.toNat_ushiftRight, BitVec.toNat_ushiftRight, BitVec.toNat_ushiftRight, Nat.shiftRight_eq_div_pow, Nat.shiftRight_eq_div_pow, Nat.shiftRight_eq_div_pow]
  show _ = b.toNat * 16777216 + y.toNat / 256
  omega
theorem low_nat (x : BitVec 32) : (x.setWidth 8).toNat = Nat.mod x.toNat 256 := by rw [BitVec.toNat_setWidth]; rfl
def p1 (tag : BitVec 8) (s r : St) : List (BitVec 32) := words (piece ([tag] ++ (s.bytes ++ r.bytes)) 0) 16
def p2 (r : St) : List (BitVec 32) := last (oneBit ([r.h.setWidth 8] ++ List.replicate 63 0#8) 520) 520
theorem p1_len (tag : BitVec 8) (s r : St) : (p1 tag s r).length = 16 := words_length _ _
theorem p2_len (r : St) : (p2 r).length = 16 := last_length _ _
theorem p1_0 (tag : BitVec 8) (s r : St) : ((p1 tag s r).getD 0 0).toNat = Nat.add (Nat.mul tag.toNat 16777216) (Nat.div s.a.toNat 256) := by
  have e : (p1 tag s r).getD 0 0 = wd tag ((s.a >>> 24).setWidth 8) ((s.a >>> 16).setWidth 8) ((s.a >>> 8).setWidth 8) := rfl
  rw [e, wd_cat]
theorem p1_1 (tag : BitVec 8) (s r : St) : ((p1 tag s r).getD 1 0).toNat = Nat.add (Nat.mul (Nat.mod s.a.toNat 256) 16777216) (Nat.div s.b.toNat 256) := by
  have e : (p1 tag s r).getD 1 0 = wd (s.a.setWidth 8) ((s.b >>> 24).setWidth 8) ((s.b >>> 16).setWidth 8) ((s.b >>> 8).setWidth 8) := rfl
  rw [e, wd_cat]
  rw [low_nat]
theorem p1_2 (tag : BitVec 8) (s r : St) : ((p1 tag s r).getD 2 0).toNat = Nat.add (Nat.mul (Nat.mod s.b.toNat 256) 16777216) (Nat.div s.c.toNat 256) := by
  have e : (p1 tag s r).getD 2 0 = wd (s.b.setWidth 8) ((s.c >>> 24).setWidth 8) ((s.c >>> 16).setWidth 8) ((s.c >>> 8).setWidth 8) := rfl
  rw [e, wd_cat]
  rw [low_nat]
theorem p1_3 (tag : BitVec 8) (s r : St) : ((p1 tag s r).getD 3 0).toNat = Nat.add (Nat.mul (Nat.mod s.c.toNat 256) 16777216) (Nat.div s.d.toNat 256) := by
  have e : (p1 tag s r).getD 3 0 = wd (s.c.setWidth 8) ((s.d >>> 24).setWidth 8) ((s.d >>> 16).setWidth 8) ((s.d >>> 8).setWidth 8) := rfl
  rw [e, wd_cat]
  rw [low_nat]
theorem p1_4 (tag : BitVec 8) (s r : St) : ((p1 tag s r).getD 4 0).toNat = Nat.add (Nat.mul (Nat.mod s.d.toNat 256) 16777216) (Nat.div s.e.toNat 256) := by
  have e : (p1 tag s r).getD 4 0 = wd (s.d.setWidth 8) ((s.e >>> 24).setWidth 8) ((s.e >>> 16).setWidth 8) ((s.e >>> 8).setWidth 8) := rfl
  rw [e, wd_cat]
  rw [low_nat]
theorem p1_5 (tag : BitVec 8) (s r : St) : ((p1 tag s r).getD 5 0).toNat = Nat.add (Nat.mul (Nat.mod s.e.toNat 256) 16777216) (Nat.div s.f.toNat 256) := by
  have e : (p1 tag s r).getD 5 0 = wd (s.e.setWidth 8) ((s.f >>> 24).setWidth 8) ((s.f >>> 16).setWidth 8) ((s.f >>> 8).setWidth 8) := rfl
  rw [e, wd_cat]
  rw [low_nat]
theorem p1_6 (tag : BitVec 8) (s r : St) : ((p1 tag s r).getD 6 0).toNat = Nat.add (Nat.mul (Nat.mod s.f.toNat 256) 16777216) (Nat.div s.g.toNat 256) := by
  have e : (p1 tag s r).getD 6 0 = wd (s.f.setWidth 8) ((s.g >>> 24).setWidth 8) ((s.g >>> 16).setWidth 8) ((s.g >>> 8).setWidth 8) := rfl
  rw [e, wd_cat]
  rw [low_nat]
theorem p1_7 (tag : BitVec 8) (s r : St) : ((p1 tag s r).getD 7 0).toNat = Nat.add (Nat.mul (Nat.mod s.g.toNat 256) 16777216) (Nat.div s.h.toNat 256) := by
  have e : (p1 tag s r).getD 7 0 = wd (s.g.setWidth 8) ((s.h >>> 24).setWidth 8) ((s.h >>> 16).setWidth 8) ((s.h >>> 8).setWidth 8) := rfl
  rw [e, wd_cat]
  rw [low_nat]
theorem p1_8 (tag : BitVec 8) (s r : St) : ((p1 tag s r).getD 8 0).toNat = Nat.add (Nat.mul (Nat.mod s.h.toNat 256) 16777216) (Nat.div r.a.toNat 256) := by
  have e : (p1 tag s r).getD 8 0 = wd (s.h.setWidth 8) ((r.a >>> 24).setWidth 8) ((r.a >>> 16).setWidth 8) ((r.a >>> 8).setWidth 8) := rfl
  rw [e, wd_cat]
  rw [low_nat]
theorem p1_9 (tag : BitVec 8) (s r : St) : ((p1 tag s r).getD 9 0).toNat = Nat.add (Nat.mul (Nat.mod r.a.toNat 256) 16777216) (Nat.div r.b.toNat 256) := by
  have e : (p1 tag s r).getD 9 0 = wd (r.a.setWidth 8) ((r.b >>> 24).setWidth 8) ((r.b >>> 16).setWidth 8) ((r.b >>> 8).setWidth 8) := rfl
  rw [e, wd_cat]
  rw [low_nat]
theorem p1_10 (tag : BitVec 8) (s r : St) : ((p1 tag s r).getD 10 0).toNat = Nat.add (Nat.mul (Nat.mod r.b.toNat 256) 16777216) (Nat.div r.c.toNat 256) := by
  have e : (p1 tag s r).getD 10 0 = wd (r.b.setWidth 8) ((r.c >>> 24).setWidth 8) ((r.c >>> 16).setWidth 8) ((r.c >>> 8).setWidth 8) := rfl
  rw [e, wd_cat]
  rw [low_nat]
theorem p1_11 (tag : BitVec 8) (s r : St) : ((p1 tag s r).getD 11 0).toNat = Nat.add (Nat.mul (Nat.mod r.c.toNat 256) 16777216) (Nat.div r.d.toNat 256) := by
  have e : (p1 tag s r).getD 11 0 = wd (r.c.setWidth 8) ((r.d >>> 24).setWidth 8) ((r.d >>> 16).setWidth 8) ((r.d >>> 8).setWidth 8) := rfl
  rw [e, wd_cat]
  rw [low_nat]
theorem p1_12 (tag : BitVec 8) (s r : St) : ((p1 tag s r).getD 12 0).toNat = Nat.add (Nat.mul (Nat.mod r.d.toNat 256) 16777216) (Nat.div r.e.toNat 256) := by
  have e : (p1 tag s r).getD 12 0 = wd (r.d.setWidth 8) ((r.e >>> 24).setWidth 8) ((r.e >>> 16).setWidth 8) ((r.e >>> 8).setWidth 8) := rfl
  rw [e, wd_cat]
  rw [low_nat]
theorem p1_13 (tag : BitVec 8) (s r : St) : ((p1 tag s r).getD 13 0).toNat = Nat.add (Nat.mul (Nat.mod r.e.toNat 256) 16777216) (Nat.div r.f.toNat 256) := by
  have e : (p1 tag s r).getD 13 0 = wd (r.e.setWidth 8) ((r.f >>> 24).setWidth 8) ((r.f >>> 16).setWidth 8) ((r.f >>> 8).setWidth 8) := rfl
  rw [e, wd_cat]
  rw [low_nat]
theorem p1_14 (tag : BitVec 8) (s r : St) : ((p1 tag s r).getD 14 0).toNat = Nat.add (Nat.mul (Nat.mod r.f.toNat 256) 16777216) (Nat.div r.g.toNat 256) := by
  have e : (p1 tag s r).getD 14 0 = wd (r.f.setWidth 8) ((r.g >>> 24).setWidth 8) ((r.g >>> 16).setWidth 8) ((r.g >>> 8).setWidth 8) := rfl
  rw [e, wd_cat]
  rw [low_nat]
theorem p1_15 (tag : BitVec 8) (s r : St) : ((p1 tag s r).getD 15 0).toNat = Nat.add (Nat.mul (Nat.mod r.g.toNat 256) 16777216) (Nat.div r.h.toNat 256) := by
  have e : (p1 tag s r).getD 15 0 = wd (r.g.setWidth 8) ((r.h >>> 24).setWidth 8) ((r.h >>> 16).setWidth 8) ((r.h >>> 8).setWidth 8) := rfl
  rw [e, wd_cat]
  rw [low_nat]
theorem p2_0 (r : St) : ((p2 r).getD 0 0).toNat = Nat.add (Nat.mul (Nat.mod r.h.toNat 256) 16777216) 8388608 := by
  have e : (p2 r).getD 0 0 = wd (r.h.setWidth 8) 128#8 0#8 0#8 := by kernel_rfl
  rw [e, wdM_nat, low_nat, show (128#8).toNat = 128 from rfl, show (0#8).toNat = 0 from rfl]
  generalize Nat.mod r.h.toNat 256 = z
  show z * 16777216 + 128 * 65536 + 0 * 256 + 0 = z * 16777216 + 8388608
  omega
theorem p2_1 (r : St) : ((p2 r).getD 1 0).toNat = 0 := by kernel_rfl
theorem p2_2 (r : St) : ((p2 r).getD 2 0).toNat = 0 := by kernel_rfl
theorem p2_3 (r : St) : ((p2 r).getD 3 0).toNat = 0 := by kernel_rfl
theorem p2_4 (r : St) : ((p2 r).getD 4 0).toNat = 0 := by kernel_rfl
theorem p2_5 (r : St) : ((p2 r).getD 5 0).toNat = 0 := by kernel_rfl
theorem p2_6 (r : St) : ((p2 r).getD 6 0).toNat = 0 := by kernel_rfl
theorem p2_7 (r : St) : ((p2 r).getD 7 0).toNat = 0 := by kernel_rfl
theorem p2_8 (r : St) : ((p2 r).getD 8 0).toNat = 0 := by kernel_rfl
theorem p2_9 (r : St) : ((p2 r).getD 9 0).toNat = 0 := by kernel_rfl
theorem p2_10 (r : St) : ((p2 r).getD 10 0).toNat = 0 := by kernel_rfl
theorem p2_11 (r : St) : ((p2 r).getD 11 0).toNat = 0 := by kernel_rfl
theorem p2_12 (r : St) : ((p2 r).getD 12 0).toNat = 0 := by kernel_rfl
theorem p2_13 (r : St) : ((p2 r).getD 13 0).toNat = 0 := by kernel_rfl
theorem p2_14 (r : St) : ((p2 r).getD 14 0).toNat = 0 := by kernel_rfl
theorem p2_15 (r : St) : ((p2 r).getD 15 0).toNat = 520 := by kernel_rfl
theorem dig65 (tag : BitVec 8) (s r : St) : ∃ S : St, dig ([tag] ++ (s.bytes ++ r.bytes)) = S.bytes ∧ packS S = H65 tag.toNat (packS s) (packS r) := by
  refine ⟨comp (comp st0 (p1 tag s r)) (p2 r), ?_, ?_⟩
  · have hl : ([tag] ++ (s.bytes ++ r.bytes)).length = 65 := rfl
    have h1 : hst ([tag] ++ (s.bytes ++ r.bytes)) = comp st0 (p1 tag s r) := by
      unfold hst
      rw [hl]
      rfl
    have h2 : hwait ([tag] ++ (s.bytes ++ r.bytes)) = [r.h.setWidth 8] ++ List.replicate 63 0#8 := by
      unfold hwait rest
      rw [hl]
      rfl
    unfold dig
    rw [h1, h2, hl]
    rfl
  · have H1 := compK_ok (fun a b c d e f g h => compK packN a b c d e f g h (Nat.add (Nat.mul (Nat.mod r.h.toNat 256) 16777216) 8388608) 0 0 0 0 0 0 0 0 0 0 0 0 0 0 520) (p1 tag s r) (p1_len tag s r) st0
    have H2 := compK_ok packN (p2 r) (p2_len r) (comp st0 (p1 tag s r))
    rw [p1_0, p1_1, p1_2, p1_3, p1_4, p1_5, p1_6, p1_7, p1_8, p1_9, p1_10, p1_11, p1_12, p1_13, p1_14, p1_15] at H1
    rw [p2_0, p2_1, p2_2, p2_3, p2_4, p2_5, p2_6, p2_7, p2_8, p2_9, p2_10, p2_11, p2_12, p2_13, p2_14, p2_15] at H2
    unfold H65
    rw [unp_ok, unp_ok]
    unfold body65
    simp only [force_eq]
    exact (H1.trans H2).symm
theorem bytes_inj {s t : St} (h : s.bytes = t.bytes) : s = t := by
  have key : ∀ x y : BitVec 32, four x = four y → x = y := fun x y e => by
    unfold four at e
    simp only [List.cons.injEq, and_true] at e
    obtain ⟨e1, e2, e3, e4⟩ := e
    apply BitVec.eq_of_toNat_eq
    have f1 := congrArg BitVec.toNat e1
    have f2 := congrArg BitVec.toNat e2
    have f3 := congrArg BitVec.toNat e3
    have f4 := congrArg BitVec.toNat e4
    rw [BitVec.toNat_setWidth, BitVec.toNat_setWidth, BitVec.toNat_ushiftRight, BitVec.toNat_ushiftRight, Nat.shiftRight_eq_div_pow, Nat.shiftRight_eq_div_pow] at f1 f2 f3
    rw [BitVec.toNat_setWidth, BitVec.toNat_setWidth] at f4
    have := x.isLt
    have := y.isLt
    omega
  have e : four s.a ++ (four s.b ++ (four s.c ++ (four s.d ++ (four s.e ++ (four s.f ++ (four s.g ++ four s.h)))))) = four t.a ++ (four t.b ++ (four t.c ++ (four t.d ++ (four t.e ++ (four t.f ++ (four t.g ++ four t.h)))))) := h
  have L : ∀ x, (four x).length = 4 := fun _ => rfl
  obtain ⟨e1, e⟩ := List.append_inj e (by rw [L, L])
  obtain ⟨e2, e⟩ := List.append_inj e (by rw [L, L])
  obtain ⟨e3, e⟩ := List.append_inj e (by rw [L, L])
  obtain ⟨e4, e⟩ := List.append_inj e (by rw [L, L])
  obtain ⟨e5, e⟩ := List.append_inj e (by rw [L, L])
  obtain ⟨e6, e⟩ := List.append_inj e (by rw [L, L])
  obtain ⟨e7, e8⟩ := List.append_inj e (by rw [L, L])
  obtain ⟨a, b, c, d, e', f, g, i⟩ := s
  obtain ⟨a2, b2, c2, d2, e2', f2, g2, i2⟩ := t
  simp only at e1 e2 e3 e4 e5 e6 e7 e8
  rw [key _ _ e1, key _ _ e2, key _ _ e3, key _ _ e4, key _ _ e5, key _ _ e6, key _ _ e7, key _ _ e8]
/-- A digest that is the number X. -/
def Dn (d : List (BitVec 8)) (X : Nat) : Prop := ∃ S : St, d = S.bytes ∧ packS S = X
theorem Dn.dig {l r : List (BitVec 8)} {X Y : Nat} (tag : BitVec 8) (hl : Dn l X) (hr : Dn r Y) : Dn (Sha.dig ([tag] ++ (l ++ r))) (H65 tag.toNat X Y) := by
  obtain ⟨s, rfl, rfl⟩ := hl
  obtain ⟨t, rfl, rfl⟩ := hr
  exact dig65 tag s t
theorem Dn.ne {l r : List (BitVec 8)} {X Y : Nat} (hl : Dn l X) (hr : Dn r Y) (h : X ≠ Y) : l ≠ r := fun e => by
  obtain ⟨s, rfl, rfl⟩ := hl
  obtain ⟨t, rfl, rfl⟩ := hr
  exact h (by rw [bytes_inj e])
theorem Dn.zero : Dn (List.replicate 32 0#8) 0 := ⟨⟨0, 0, 0, 0, 0, 0, 0, 0⟩, rfl, rfl⟩
/-- The digest number that low n of the statements is: its last byte alone. -/
theorem four_low (n : BitVec 8) : four (n.setWidth 32) = [0#8, 0#8, 0#8, n] := by
  have hn := n.isLt
  have h1 : ((n.setWidth 32) >>> 24).setWidth 8 = 0#8 := by
    apply BitVec.eq_of_toNat_eq
    rw [BitVec.toNat_setWidth, BitVec.toNat_ushiftRight, BitVec.toNat_setWidth, Nat.shiftRight_eq_div_pow, show (0#8).toNat = 0 from rfl]
    omega
  have h2 : ((n.setWidth 32) >>> 16).setWidth 8 = 0#8 := by
    apply BitVec.eq_of_toNat_eq
    rw [BitVec.toNat_setWidth, BitVec.toNat_ushiftRight, BitVec.toNat_setWidth, Nat.shiftRight_eq_div_pow, show (0#8).toNat = 0 from rfl]
    omega
  have h3 : ((n.setWidth 32) >>> 8).setWidth 8 = 0#8 := by
    apply BitVec.eq_of_toNat_eq
    rw [BitVec.toNat_setWidth, BitVec.toNat_ushiftRight, BitVec.toNat_setWidth, Nat.shiftRight_eq_div_pow, show (0#8).toNat = 0 from rfl]
    omega
  have h4 : (n.setWidth 32).setWidth 8 = n := by
    apply BitVec.eq_of_toNat_eq
    rw [BitVec.toNat_setWidth, BitVec.toNat_setWidth]
    omega
  unfold four
  rw [h1, h2, h3, h4]
theorem four_zero : four 0 = [0#8, 0#8, 0#8, 0#8] := by decide +kernel
theorem packS_low (x : BitVec 32) : packS ⟨0, 0, 0, 0, 0, 0, 0, x⟩ = x.toNat := by
  unfold packS packN
  rw [show (0 : BitVec 32).toNat = 0 from rfl]
  show ((((((0 * 4294967296 + 0) * 4294967296 + 0) * 4294967296 + 0) * 4294967296 + 0) * 4294967296 + 0) * 4294967296 + 0) * 4294967296 + x.toNat = x.toNat
  omega
theorem Dn.low (n : BitVec 8) : Dn (List.replicate 31 0#8 ++ [n]) n.toNat := by
  refine ⟨⟨0, 0, 0, 0, 0, 0, 0, n.setWidth 32⟩, ?_, ?_⟩
  · unfold St.bytes St.list
    simp only [List.flatMap_cons, List.flatMap_nil, four_low, four_zero]
    rfl
  · have hn := n.isLt
    rw [packS_low, BitVec.toNat_setWidth]
    omega

end Sha
end Go.Proofs.YtfdgdmehgbmnkaaDoor
