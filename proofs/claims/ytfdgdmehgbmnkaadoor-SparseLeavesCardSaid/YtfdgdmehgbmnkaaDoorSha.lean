/-
  Plain mathematics: the words of SHA-256 as bit vectors, rounds, schedule, pieces. Nothing of the program.
-/
import Derived.WalkKit
namespace Go.Proofs.YtfdgdmehgbmnkaaDoor
open Go
namespace Sha

/-- A word as the number in a slot. -/
def u (x : BitVec 32) : Int := (x.toNat : Int)
/-- A byte as the number in a slot. -/
def c (x : BitVec 8) : Int := (x.toNat : Int)

theorem u_nonneg (x : BitVec 32) : 0 ≤ u x := by unfold u; omega
theorem u_lt (x : BitVec 32) : u x < 4294967296 := by unfold u; have := x.isLt; omega
theorem c_nonneg (x : BitVec 8) : 0 ≤ c x := by unfold c; omega
theorem c_lt (x : BitVec 8) : c x < 256 := by unfold c; have := x.isLt; omega
theorem u_inj {x y : BitVec 32} (h : u x = u y) : x = y := by unfold u at h; exact BitVec.eq_of_toNat_eq (by omega)
theorem c_inj {x y : BitVec 8} (h : c x = c y) : x = y := by unfold c at h; exact BitVec.eq_of_toNat_eq (by omega)

def rotr (x : BitVec 32) (n : Nat) : BitVec 32 := x >>> n ||| x <<< (32 - n)

theorem wrap_add (x y : BitVec 32) : IntKind.u32.wrap (u x + u y) = u (x + y) := by
  rw [IntKind.wrap_u32']; unfold u; rw [BitVec.toNat_add]; omega
theorem bits_xor (x y : BitVec 32) : bits .xor .u32 (u x) (u y) = u (x ^^^ y) := by
  unfold u; rw [u32_xor_nat _ _ x.isLt y.isLt, BitVec.toNat_xor]
theorem bits_and (x y : BitVec 32) : bits .and .u32 (u x) (u y) = u (x &&& y) := by
  unfold u; rw [u32_and_nat _ _ x.isLt y.isLt, BitVec.toNat_and]
theorem bits_or (x y : BitVec 32) : bits .or .u32 (u x) (u y) = u (x ||| y) := by
  unfold u; rw [u32_or_nat _ _ x.isLt y.isLt, BitVec.toNat_or]
theorem u_shr (x : BitVec 32) (n : Nat) : u x / 2 ^ n = u (x >>> n) := by
  unfold u; rw [BitVec.toNat_ushiftRight, Nat.shiftRight_eq_div_pow]; simp
theorem u_shl (x : BitVec 32) (n : Nat) : IntKind.u32.wrap (u x * 2 ^ n) = u (x <<< n) := by
  rw [IntKind.wrap_u32']; unfold u; rw [BitVec.toNat_shiftLeft, Nat.shiftLeft_eq]; simp
theorem mod_add (x y : BitVec 32) : (u x + u y) % 4294967296 = u (x + y) := by rw [← IntKind.wrap_u32', wrap_add]
theorem u_div (x : BitVec 32) (n : Nat) (m : Int) (h : m = 2 ^ n) : u x / m = u (x >>> n) := by rw [h, u_shr]
theorem u_not (x : BitVec 32) : bits .xor .u32 4294967295 (u x) = u (~~~x) := by
  have h : (4294967295 : Int) = u (BitVec.allOnes 32) := by unfold u; decide
  rw [h, bits_xor, BitVec.allOnes_xor]

theorem u_not' (x : BitVec 32) : bits .xor .u32 (if IntKind.u32.signed = true then -1 else IntKind.u32.max) (u x) = u (~~~x) := u_not x
theorem u_lt_nat (x : BitVec 32) : (u x).toNat < 4294967296 := by have := u_lt x; omega

/-! ### One piece -/
def s0 (x : BitVec 32) : BitVec 32 := rotr x 7 ^^^ rotr x 18 ^^^ (x >>> 3)
def s1 (x : BitVec 32) : BitVec 32 := rotr x 17 ^^^ rotr x 19 ^^^ (x >>> 10)
def b0 (x : BitVec 32) : BitVec 32 := rotr x 2 ^^^ rotr x 13 ^^^ rotr x 22
def b1 (x : BitVec 32) : BitVec 32 := rotr x 6 ^^^ rotr x 11 ^^^ rotr x 25
def ch (e f g : BitVec 32) : BitVec 32 := (e &&& f) ^^^ (~~~e &&& g)
def maj (a b c : BitVec 32) : BitVec 32 := (a &&& b) ^^^ (a &&& c) ^^^ (b &&& c)

/-- The next word of the schedule, of the last sixteen. -/
def nextw (l : List (BitVec 32)) (t : Nat) : BitVec 32 := s1 (l.getD (t - 2) 0) + l.getD (t - 7) 0 + s0 (l.getD (t - 15) 0) + l.getD (t - 16) 0
/-- The schedule, k words further. -/
def sch (p : List (BitVec 32)) : Nat → List (BitVec 32)
  | 0 => p
  | k + 1 => sch p k ++ [nextw (sch p k) (16 + k)]
theorem sch_length (p : List (BitVec 32)) (k : Nat) : (sch p k).length = p.length + k := by
  induction k with
  | zero => rfl
  | succ k ih => simp [sch, ih, Nat.add_assoc]

/-- The constants. -/
def K : List (BitVec 32) := [1116352408#32, 1899447441#32, 3049323471#32, 3921009573#32, 961987163#32, 1508970993#32, 2453635748#32, 2870763221#32, 3624381080#32, 310598401#32, 607225278#32, 1426881987#32, 1925078388#32, 2162078206#32, 2614888103#32, 3248222580#32, 3835390401#32, 4022224774#32, 264347078#32, 604807628#32, 770255983#32, 1249150122#32, 1555081692#32, 1996064986#32, 2554220882#32, 2821834349#32, 2952996808#32, 3210313671#32, 3336571891#32, 3584528711#32, 113926993#32, 338241895#32, 666307205#32, 773529912#32, 1294757372#32, 1396182291#32, 1695183700#32, 1986661051#32, 2177026350#32, 2456956037#32, 2730485921#32, 2820302411#32, 3259730800#32, 3345764771#32, 3516065817#32, 3600352804#32, 4094571909#32, 275423344#32, 430227734#32, 506948616#32, 659060556#32, 883997877#32, 958139571#32, 1322822218#32, 1537002063#32, 1747873779#32, 1955562222#32, 2024104815#32, 2227730452#32, 2361852424#32, 2428436474#32, 2756734187#32, 3204031479#32, 3329325298#32]
theorem K_length : K.length = 64 := rfl

structure St where
  a : BitVec 32
  b : BitVec 32
  c : BitVec 32
  d : BitVec 32
  e : BitVec 32
  f : BitVec 32
  g : BitVec 32
  h : BitVec 32

def st0 : St := ⟨1779033703#32, 3144134277#32, 1013904242#32, 2773480762#32, 1359893119#32, 2600822924#32, 528734635#32, 1541459225#32⟩
def St.list (s : St) : List (BitVec 32) := [s.a, s.b, s.c, s.d, s.e, s.f, s.g, s.h]

def rx (s : St) (k w : BitVec 32) : BitVec 32 := s.h + b1 s.e + ch s.e s.f s.g + k + w
def ry (s : St) : BitVec 32 := b0 s.a + maj s.a s.b s.c
def rnd (s : St) (k w : BitVec 32) : St := ⟨rx s k w + ry s, s.a, s.b, s.c, s.d + rx s k w, s.e, s.f, s.g⟩
/-- t rounds. -/
def rounds (w : List (BitVec 32)) (s : St) : Nat → St
  | 0 => s
  | t + 1 => rnd (rounds w s t) (K.getD t 0) (w.getD t 0)
def St.add (s r : St) : St := ⟨s.a + r.a, s.b + r.b, s.c + r.c, s.d + r.d, s.e + r.e, s.f + r.f, s.g + r.g, s.h + r.h⟩
/-- The state behind one more piece of sixteen words. -/
def comp (s : St) (p : List (BitVec 32)) : St := s.add (rounds (sch p 48) s 64)

/-- Four bytes as a word. -/
def wd (x y z v : BitVec 8) : BitVec 32 := (x.setWidth 32 <<< 24) ||| (y.setWidth 32 <<< 16) ||| (z.setWidth 32 <<< 8) ||| v.setWidth 32
theorem c_u (x : BitVec 8) : c x % 4294967296 = u (x.setWidth 32) := by
  unfold c u; rw [BitVec.toNat_setWidth]; omega
theorem u_shl' (x : BitVec 32) (n : Nat) (m : Int) (h : m = 2 ^ n) : u x * m % 4294967296 = u (x <<< n) := by
  rw [h, ← IntKind.wrap_u32', u_shl]
/-- A word of a piece of bytes. -/
def word (p : List (BitVec 8)) (i : Nat) : BitVec 32 := wd (p.getD (4 * i) 0) (p.getD (4 * i + 1) 0) (p.getD (4 * i + 2) 0) (p.getD (4 * i + 3) 0)
/-- The first k words. -/
def words (p : List (BitVec 8)) (k : Nat) : List (BitVec 32) := (List.range k).map (word p)
theorem words_length (p : List (BitVec 8)) (k : Nat) : (words p k).length = k := by simp [words]
theorem words_succ (p : List (BitVec 8)) (k : Nat) : words p (k + 1) = words p k ++ [word p k] := by simp [words, List.range_succ]

/-- A word as four bytes. -/
def four (x : BitVec 32) : List (BitVec 8) := [(x >>> 24).setWidth 8, (x >>> 16).setWidth 8, (x >>> 8).setWidth 8, x.setWidth 8]
def St.bytes (s : St) : List (BitVec 8) := s.list.flatMap four
theorem St.bytes_length (s : St) : s.bytes.length = 32 := rfl

/-! ### In slots and cells -/
def vW (l : List (BitVec 32)) : List Value := l.map (fun x => .int .u32 (u x))
def vB (l : List (BitVec 8)) : List Value := l.map (fun x => .int .u8 (c x))
theorem vW_length (l : List (BitVec 32)) : (vW l).length = l.length := by simp [vW]
theorem vB_length (l : List (BitVec 8)) : (vB l).length = l.length := by simp [vB]
theorem vW_append (l r : List (BitVec 32)) : vW (l ++ r) = vW l ++ vW r := by simp [vW]
theorem vB_append (l r : List (BitVec 8)) : vB (l ++ r) = vB l ++ vB r := by simp [vB]
theorem vW_get (l : List (BitVec 32)) (i : Nat) (h : i < l.length) : (vW l)[i]? = some (.int .u32 (u (l.getD i 0))) := by
  simp [vW, h]
theorem vB_get (l : List (BitVec 8)) (i : Nat) (h : i < l.length) : (vB l)[i]? = some (.int .u8 (c (l.getD i 0))) := by
  simp [vB, h]
theorem vW_one (l : List (BitVec 32)) : ∀ v ∈ vW l, v.oneCell' = true := by
  intro v hv; simp only [vW, List.mem_map] at hv; obtain ⟨x, _, rfl⟩ := hv; rfl
theorem vB_one (l : List (BitVec 8)) : ∀ v ∈ vB l, v.oneCell' = true := by
  intro v hv; simp only [vB, List.mem_map] at hv; obtain ⟨x, _, rfl⟩ := hv; rfl

end Sha
end Go.Proofs.YtfdgdmehgbmnkaaDoor
