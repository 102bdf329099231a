/-
  How many ones a number has, counted by bytes: the mathematics of OnesCount64.
-/
namespace Go.Proofs.YtkgfaioinajkjaaDoor

/-- A number with each of its n bytes turned. -/
def bm (g : Nat → Nat) : Nat → Nat → Nat
  | 0, _ => 0
  | n + 1, m => g (m % 256) + 256 * bm g n (m / 256)
/-- n bytes that are all b. -/
def rb8 (b : Nat) : Nat → Nat
  | 0 => 0
  | n + 1 => b + 256 * rb8 b n
theorem and_low (a b : Nat) : (a &&& b) % 256 = (a % 256) &&& (b % 256) := Nat.and_mod_two_pow (n := 8)
theorem and_high (a b : Nat) : (a &&& b) / 256 = (a / 256) &&& (b / 256) := Nat.and_div_two_pow (n := 8)
theorem split8 (x : Nat) : x = x % 256 + 256 * (x / 256) := by omega
theorem and_split (a b : Nat) : a &&& b = ((a % 256) &&& (b % 256)) + 256 * ((a / 256) &&& (b / 256)) := by
  rw [← and_low, ← and_high]; exact split8 _
theorem bm_congr {f g : Nat → Nat} (h : ∀ b, b < 256 → f b = g b) : ∀ n m, bm f n m = bm g n m
  | 0, _ => rfl
  | n + 1, m => by
    show f (m % 256) + 256 * bm f n (m / 256) = _
    rw [h _ (Nat.mod_lt _ (by decide)), bm_congr h n]; rfl
theorem bm_bm {f g : Nat → Nat} (h : ∀ b, b < 256 → f b < 256) : ∀ n m, bm g n (bm f n m) = bm (fun b => g (f b)) n m
  | 0, _ => rfl
  | n + 1, m => by
    have h1 := h (m % 256) (Nat.mod_lt _ (by decide))
    show g ((f (m % 256) + 256 * bm f n (m / 256)) % 256) + 256 * bm g n ((f (m % 256) + 256 * bm f n (m / 256)) / 256) = _
    rw [show (f (m % 256) + 256 * bm f n (m / 256)) % 256 = f (m % 256) by omega, show (f (m % 256) + 256 * bm f n (m / 256)) / 256 = bm f n (m / 256) by omega, bm_bm h n]
    rfl
def s1 (b : Nat) : Nat := ((b / 2) &&& 0x55) + (b &&& 0x55)
def s2 (b : Nat) : Nat := ((b / 4) &&& 0x33) + (b &&& 0x33)
def s3 (b : Nat) : Nat := (b / 16 + b) % 16
theorem cut1 : ∀ k : Fin 512, ((k.val / 2) &&& 0x55) = ((k.val % 256 / 2) &&& 0x55) := by decide +kernel
theorem cut2 : ∀ k : Fin 1024, ((k.val / 4 % 256) &&& 0x33) = ((k.val % 256 / 4) &&& 0x33) := by decide +kernel
theorem step1 : ∀ n m, m < 256 ^ n → ((m / 2) &&& rb8 0x55 n) + (m &&& rb8 0x55 n) = bm s1 n m
  | 0, m, h => by
    have : m = 0 := by simpa using h
    subst this; rfl
  | n + 1, m, h => by
    have hq : m / 256 < 256 ^ n := by rw [Nat.pow_succ] at h; omega
    have ih := step1 n (m / 256) hq
    have c1 : rb8 0x55 (n + 1) % 256 = 0x55 := by show (0x55 + 256 * rb8 0x55 n) % 256 = _; omega
    have c2 : rb8 0x55 (n + 1) / 256 = rb8 0x55 n := by show (0x55 + 256 * rb8 0x55 n) / 256 = _; omega
    have e1 : ((m / 2 % 256) &&& 0x55) = ((m % 256 / 2) &&& 0x55) := by
      have := cut1 ⟨m % 512, Nat.mod_lt _ (by decide)⟩
      simp only at this
      rw [show m % 512 / 2 = m / 2 % 256 by omega, show m % 512 % 256 = m % 256 by omega] at this
      exact this
    rw [and_split (m / 2), and_split m, c1, c2, e1, show m / 2 / 256 = m / 256 / 2 by omega]
    show _ = s1 (m % 256) + 256 * bm s1 n (m / 256)
    rw [← ih]
    unfold s1
    omega
theorem step2 : ∀ n m, m < 256 ^ n → ((m / 4) &&& rb8 0x33 n) + (m &&& rb8 0x33 n) = bm s2 n m
  | 0, m, h => by
    have : m = 0 := by simpa using h
    subst this; rfl
  | n + 1, m, h => by
    have hq : m / 256 < 256 ^ n := by rw [Nat.pow_succ] at h; omega
    have ih := step2 n (m / 256) hq
    have c1 : rb8 0x33 (n + 1) % 256 = 0x33 := by show (0x33 + 256 * rb8 0x33 n) % 256 = _; omega
    have c2 : rb8 0x33 (n + 1) / 256 = rb8 0x33 n := by show (0x33 + 256 * rb8 0x33 n) / 256 = _; omega
    have e1 : ((m / 4 % 256) &&& 0x33) = ((m % 256 / 4) &&& 0x33) := by
      have := cut2 ⟨m % 1024, Nat.mod_lt _ (by decide)⟩
      simp only at this
      rw [show m % 1024 / 4 % 256 = m / 4 % 256 by omega, show m % 1024 % 256 = m % 256 by omega] at this
      exact this
    rw [and_split (m / 4), and_split m, c1, c2, e1, show m / 4 / 256 = m / 256 / 4 by omega]
    show _ = s2 (m % 256) + 256 * bm s2 n (m / 256)
    rw [← ih]
    unfold s2
    omega
/-- Both halves of each byte are at most 4. -/
def low4 : Nat → Nat → Prop
  | 0, _ => True
  | n + 1, m => m % 16 ≤ 4 ∧ m / 16 % 16 ≤ 4 ∧ low4 n (m / 256)
theorem and15 : ∀ k : Fin 256, (k.val &&& 0x0f) = k.val % 16 := by decide +kernel
theorem low4_head {n m : Nat} (h : low4 n m) (hm : m < 256 ^ n) : m % 16 ≤ 4 := by
  cases n with
  | zero => have : m = 0 := by simpa using hm
            omega
  | succ n => exact h.1
theorem step3 : ∀ n m, m < 256 ^ n → low4 n m → ((m / 16 + m) &&& rb8 0x0f n) = bm s3 n m
  | 0, m, h, _ => by
    have : m = 0 := by simpa using h
    subst this; rfl
  | n + 1, m, h, h4 => by
    have hq : m / 256 < 256 ^ n := by rw [Nat.pow_succ] at h; omega
    obtain ⟨a1, a2, a3⟩ := h4
    have a4 := low4_head a3 hq
    have ih := step3 n (m / 256) hq a3
    have c1 : rb8 0x0f (n + 1) % 256 = 0x0f := by show (0x0f + 256 * rb8 0x0f n) % 256 = _; omega
    have c2 : rb8 0x0f (n + 1) / 256 = rb8 0x0f n := by show (0x0f + 256 * rb8 0x0f n) / 256 = _; omega
    have e1 : (m / 16 + m) / 256 = m / 256 / 16 + m / 256 := by
      clear ih c1 c2 h hq a3
      obtain ⟨q, hq⟩ : ∃ q, q = m / 256 := ⟨_, rfl⟩
      obtain ⟨r, hr⟩ : ∃ r, r = m % 256 := ⟨_, rfl⟩
      have em : m = r + 256 * q := by omega
      have e16 : m / 16 = r / 16 + 16 * q := by omega
      rw [← hq] at a4 ⊢
      have r1 : r % 16 ≤ 4 := by omega
      have r2 : r / 16 ≤ 4 := by omega
      rw [e16, em]
      clear hq hr em e16 a1 a2
      obtain ⟨u, hu⟩ : ∃ u, u = q / 16 := ⟨_, rfl⟩
      have eq : q = q % 16 + 16 * u := by omega
      rw [← hu]
      omega
    have e2 : (((m / 16 + m) % 256) &&& 0x0f) = s3 (m % 256) := by
      have := and15 ⟨(m / 16 + m) % 256, Nat.mod_lt _ (by decide)⟩
      simp only at this
      rw [this]
      unfold s3
      omega
    rw [and_split (m / 16 + m), c1, c2, e1, e2, ih]
    rfl
theorem bm_lt {f : Nat → Nat} (h : ∀ b, b < 256 → f b < 256) : ∀ n m, bm f n m < 256 ^ n
  | 0, _ => Nat.one_pos
  | n + 1, m => by
    have h1 := h (m % 256) (Nat.mod_lt _ (by decide))
    have h2 := bm_lt h n (m / 256)
    show f (m % 256) + 256 * bm f n (m / 256) < 256 ^ (n + 1)
    rw [Nat.pow_succ]
    omega
theorem bm_low4 {f : Nat → Nat} (h : ∀ b, b < 256 → f b < 256 ∧ f b % 16 ≤ 4 ∧ f b / 16 ≤ 4) : ∀ n m, low4 n (bm f n m)
  | 0, _ => trivial
  | n + 1, m => by
    obtain ⟨h1, h2, h3⟩ := h (m % 256) (Nat.mod_lt _ (by decide))
    have ih := bm_low4 h n (m / 256)
    show low4 (n + 1) (f (m % 256) + 256 * bm f n (m / 256))
    refine ⟨by omega, by omega, ?_⟩
    rw [show (f (m % 256) + 256 * bm f n (m / 256)) / 256 = bm f n (m / 256) by omega]
    exact ih
def pop8 (b : Nat) : Nat := b % 2 + b / 2 % 2 + b / 4 % 2 + b / 8 % 2 + b / 16 % 2 + b / 32 % 2 + b / 64 % 2 + b / 128 % 2
theorem fin1 : ∀ k : Fin 256, s1 k.val < 256 := by decide +kernel
theorem fin2 : ∀ k : Fin 256, s2 (s1 k.val) < 256 ∧ s2 (s1 k.val) % 16 ≤ 4 ∧ s2 (s1 k.val) / 16 ≤ 4 := by decide +kernel
theorem fin3 : ∀ k : Fin 256, s3 (s2 (s1 k.val)) = pop8 k.val := by decide +kernel
theorem fin4 : ∀ k : Fin 256, pop8 k.val ≤ 8 := by decide +kernel
/-- The first three steps. -/
def sw1 (m : Nat) : Nat := ((m / 2) &&& rb8 0x55 8) + (m &&& rb8 0x55 8)
def sw2 (m : Nat) : Nat := ((m / 4) &&& rb8 0x33 8) + (m &&& rb8 0x33 8)
def sw3 (m : Nat) : Nat := (m / 16 + m) &&& rb8 0x0f 8
theorem sw_bytes (m : Nat) (h : m < 256 ^ 8) : sw3 (sw2 (sw1 m)) = bm pop8 8 m := by
  have f1 : ∀ b, b < 256 → s1 b < 256 := fun b hb => fin1 ⟨b, hb⟩
  have f2 : ∀ b, b < 256 → s2 (s1 b) < 256 ∧ s2 (s1 b) % 16 ≤ 4 ∧ s2 (s1 b) / 16 ≤ 4 := fun b hb => fin2 ⟨b, hb⟩
  have e1 : sw1 m = bm s1 8 m := step1 8 m h
  have e2 : sw2 (sw1 m) = bm (fun b => s2 (s1 b)) 8 m := by
    rw [e1, ← bm_bm f1]; exact step2 8 _ (bm_lt f1 8 m)
  have e3 : sw3 (sw2 (sw1 m)) = bm (fun b => s3 (s2 (s1 b))) 8 m := by
    rw [e2, ← bm_bm (f := fun b => s2 (s1 b)) (fun b hb => (f2 b hb).1)]
    exact step3 8 _ (bm_lt (fun b hb => (f2 b hb).1) 8 m) (bm_low4 f2 8 m)
  rw [e3]
  exact bm_congr (fun b hb => fin3 ⟨b, hb⟩) 8 m
theorem fin5 : ∀ k : Fin 256, s2 (s1 k.val) ≤ 68 := by decide +kernel
theorem bm_le {f : Nat → Nat} {k : Nat} (h : ∀ b, b < 256 → f b ≤ k) : ∀ n m, bm f n m ≤ k * rb8 1 n
  | 0, _ => Nat.zero_le _
  | n + 1, m => by
    have h1 := h (m % 256) (Nat.mod_lt _ (by decide))
    have h2 := bm_le h n (m / 256)
    show f (m % 256) + 256 * bm f n (m / 256) ≤ k * (1 + 256 * rb8 1 n)
    rw [Nat.mul_add, Nat.mul_one, Nat.mul_left_comm]
    omega
/-- How great the steps' numbers are. -/
theorem sw_small (m : Nat) (h : m < 256 ^ 8) : sw1 m < 18446744073709551616 ∧ sw2 (sw1 m) < 9223372036854775808 ∧ sw3 (sw2 (sw1 m)) < 4611686018427387904 := by
  have f1 : ∀ b, b < 256 → s1 b < 256 := fun b hb => fin1 ⟨b, hb⟩
  have f2 : ∀ b, b < 256 → s2 (s1 b) ≤ 68 := fun b hb => fin5 ⟨b, hb⟩
  have e1 : sw1 m = bm s1 8 m := step1 8 m h
  have e2 : sw2 (sw1 m) = bm (fun b => s2 (s1 b)) 8 m := by
    rw [e1, ← bm_bm f1]; exact step2 8 _ (bm_lt f1 8 m)
  exact ⟨by rw [e1]; exact bm_lt f1 8 m, by rw [e2]; exact Nat.lt_of_le_of_lt (bm_le f2 8 m) (by decide), by rw [sw_bytes m h]; exact Nat.lt_of_le_of_lt (bm_le (fun b hb => fin4 ⟨b, hb⟩) 8 m) (by decide)⟩
/-- How many ones n bytes have. -/
def pops : Nat → Nat → Nat
  | 0, _ => 0
  | n + 1, m => pop8 (m % 256) + pops n (m / 256)
def sw4 (x : Nat) : Nat := x + x / 256
def sw5 (x : Nat) : Nat := x + x / 65536
def sw6 (x : Nat) : Nat := x + x / 4294967296
theorem dv1 (p T : Nat) (h : p < 256) : (p + 256 * T) / 256 = T := by omega
theorem dv2 (p q T : Nat) (h : p < 256) (k : q < 256) : (p + 256 * (q + 256 * T)) / 65536 = T := by omega
theorem dv4 (p q r s T : Nat) (h : p < 256) (k : q < 256) (l : r < 256) (m : s < 256) : (p + 256 * (q + 256 * (r + 256 * (s + 256 * T)))) / 4294967296 = T := by omega
theorem md1 (p T : Nat) (h : p < 128) : (p + 256 * T) % 128 = p := by omega
theorem ad1 (r A t B : Nat) : (r + 256 * A) + (t + 256 * B) = (r + t) + 256 * (A + B) := by omega
theorem up1 (p T B : Nat) (h : p ≤ 64) (k : T ≤ B) : p + 256 * T ≤ 64 + 256 * B := by omega
theorem up8 (a b c d e f g h : Nat) (h0 : a ≤ 64) (h1 : b ≤ 64) (h2 : c ≤ 64) (h3 : d ≤ 64) (h4 : e ≤ 64) (h5 : f ≤ 64) (h6 : g ≤ 64) (h7 : h ≤ 64) : a + 256 * (b + 256 * (c + 256 * (d + 256 * (e + 256 * (f + 256 * (g + 256 * h)))))) < 9223372036854775808 :=
  Nat.lt_of_le_of_lt (up1 _ _ _ h0 (up1 _ _ _ h1 (up1 _ _ _ h2 (up1 _ _ _ h3 (up1 _ _ _ h4 (up1 _ _ _ h5 (up1 _ _ _ h6 h7))))))) (by decide)
theorem u4 (p0 p1 p2 p3 p4 p5 p6 p7 : Nat) (h0 : p0 ≤ 8) (h1 : p1 ≤ 8) (h2 : p2 ≤ 8) (h3 : p3 ≤ 8) (h4 : p4 ≤ 8) (h5 : p5 ≤ 8) (h6 : p6 ≤ 8) (h7 : p7 ≤ 8) : (p0 + p1) ≤ 64 ∧ (p1 + p2) ≤ 64 ∧ (p2 + p3) ≤ 64 ∧ (p3 + p4) ≤ 64 ∧ (p4 + p5) ≤ 64 ∧ (p5 + p6) ≤ 64 ∧ (p6 + p7) ≤ 64 ∧ p7 ≤ 64 := by
  refine ⟨?_, ?_, ?_, ?_, ?_, ?_, ?_, ?_⟩ <;> omega
theorem u5 (p0 p1 p2 p3 p4 p5 p6 p7 : Nat) (h0 : p0 ≤ 8) (h1 : p1 ≤ 8) (h2 : p2 ≤ 8) (h3 : p3 ≤ 8) (h4 : p4 ≤ 8) (h5 : p5 ≤ 8) (h6 : p6 ≤ 8) (h7 : p7 ≤ 8) : (p0 + p1 + (p2 + p3)) ≤ 64 ∧ (p1 + p2 + (p3 + p4)) ≤ 64 ∧ (p2 + p3 + (p4 + p5)) ≤ 64 ∧ (p3 + p4 + (p5 + p6)) ≤ 64 ∧ (p4 + p5 + (p6 + p7)) ≤ 64 ∧ (p5 + p6 + p7) ≤ 64 ∧ (p6 + p7) ≤ 64 ∧ p7 ≤ 64 := by
  refine ⟨?_, ?_, ?_, ?_, ?_, ?_, ?_, ?_⟩ <;> omega
theorem u6 (p0 p1 p2 p3 p4 p5 p6 p7 : Nat) (h0 : p0 ≤ 8) (h1 : p1 ≤ 8) (h2 : p2 ≤ 8) (h3 : p3 ≤ 8) (h4 : p4 ≤ 8) (h5 : p5 ≤ 8) (h6 : p6 ≤ 8) (h7 : p7 ≤ 8) : (p0 + p1 + (p2 + p3) + (p4 + p5 + (p6 + p7))) ≤ 64 ∧ (p1 + p2 + (p3 + p4) + (p5 + p6 + p7)) ≤ 64 ∧ (p2 + p3 + (p4 + p5) + (p6 + p7)) ≤ 64 ∧ (p3 + p4 + (p5 + p6) + p7) ≤ 64 ∧ (p4 + p5 + (p6 + p7)) ≤ 64 ∧ (p5 + p6 + p7) ≤ 64 ∧ (p6 + p7) ≤ 64 ∧ p7 ≤ 64 := by
  refine ⟨?_, ?_, ?_, ?_, ?_, ?_, ?_, ?_⟩ <;> omega
theorem v4 (p0 p1 p2 p3 p4 p5 p6 p7 : Nat) (h0 : p0 ≤ 8) : sw4 (p0 + 256 * (p1 + 256 * (p2 + 256 * (p3 + 256 * (p4 + 256 * (p5 + 256 * (p6 + 256 * p7))))))) = (p0 + p1) + 256 * ((p1 + p2) + 256 * ((p2 + p3) + 256 * ((p3 + p4) + 256 * ((p4 + p5) + 256 * ((p5 + p6) + 256 * ((p6 + p7) + 256 * p7)))))) := by
  unfold sw4
  rw [dv1 _ _ (Nat.lt_of_le_of_lt h0 (by decide))]
  rw [ad1, ad1, ad1, ad1, ad1, ad1, Nat.add_right_comm p6]
theorem v5 (p0 p1 p2 p3 p4 p5 p6 p7 : Nat) (h0 : p0 ≤ 8) (h1 : p1 ≤ 8) (h2 : p2 ≤ 8) (h3 : p3 ≤ 8) (h4 : p4 ≤ 8) (h5 : p5 ≤ 8) (h6 : p6 ≤ 8) (h7 : p7 ≤ 8) : sw5 ((p0 + p1) + 256 * ((p1 + p2) + 256 * ((p2 + p3) + 256 * ((p3 + p4) + 256 * ((p4 + p5) + 256 * ((p5 + p6) + 256 * ((p6 + p7) + 256 * p7))))))) = (p0 + p1 + (p2 + p3)) + 256 * ((p1 + p2 + (p3 + p4)) + 256 * ((p2 + p3 + (p4 + p5)) + 256 * ((p3 + p4 + (p5 + p6)) + 256 * ((p4 + p5 + (p6 + p7)) + 256 * ((p5 + p6 + p7) + 256 * ((p6 + p7) + 256 * p7)))))) := by
  have q := u4 p0 p1 p2 p3 p4 p5 p6 p7 h0 h1 h2 h3 h4 h5 h6 h7
  unfold sw5
  rw [dv2 _ _ _ (Nat.lt_of_le_of_lt q.1 (by decide)) (Nat.lt_of_le_of_lt q.2.1 (by decide))]
  rw [ad1, ad1, ad1, ad1, ad1, Nat.add_right_comm (p5 + p6)]
theorem v6 (p0 p1 p2 p3 p4 p5 p6 p7 : Nat) (h0 : p0 ≤ 8) (h1 : p1 ≤ 8) (h2 : p2 ≤ 8) (h3 : p3 ≤ 8) (h4 : p4 ≤ 8) (h5 : p5 ≤ 8) (h6 : p6 ≤ 8) (h7 : p7 ≤ 8) : sw6 ((p0 + p1 + (p2 + p3)) + 256 * ((p1 + p2 + (p3 + p4)) + 256 * ((p2 + p3 + (p4 + p5)) + 256 * ((p3 + p4 + (p5 + p6)) + 256 * ((p4 + p5 + (p6 + p7)) + 256 * ((p5 + p6 + p7) + 256 * ((p6 + p7) + 256 * p7))))))) = (p0 + p1 + (p2 + p3) + (p4 + p5 + (p6 + p7))) + 256 * ((p1 + p2 + (p3 + p4) + (p5 + p6 + p7)) + 256 * ((p2 + p3 + (p4 + p5) + (p6 + p7)) + 256 * ((p3 + p4 + (p5 + p6) + p7) + 256 * ((p4 + p5 + (p6 + p7)) + 256 * ((p5 + p6 + p7) + 256 * ((p6 + p7) + 256 * p7)))))) := by
  have q := u5 p0 p1 p2 p3 p4 p5 p6 p7 h0 h1 h2 h3 h4 h5 h6 h7
  unfold sw6
  rw [dv4 _ _ _ _ _ (Nat.lt_of_le_of_lt q.1 (by decide)) (Nat.lt_of_le_of_lt q.2.1 (by decide)) (Nat.lt_of_le_of_lt q.2.2.1 (by decide)) (Nat.lt_of_le_of_lt q.2.2.2.1 (by decide))]
  rw [ad1, ad1, ad1, Nat.add_right_comm (p3 + p4 + (p5 + p6))]
theorem sw_sum (p0 p1 p2 p3 p4 p5 p6 p7 : Nat) (h0 : p0 ≤ 8) (h1 : p1 ≤ 8) (h2 : p2 ≤ 8) (h3 : p3 ≤ 8) (h4 : p4 ≤ 8) (h5 : p5 ≤ 8) (h6 : p6 ≤ 8) (h7 : p7 ≤ 8) (x : Nat) (hx : x = p0 + 256 * (p1 + 256 * (p2 + 256 * (p3 + 256 * (p4 + 256 * (p5 + 256 * (p6 + 256 * p7))))))) :
    sw6 (sw5 (sw4 x)) % 128 = p0 + p1 + (p2 + p3) + (p4 + p5 + (p6 + p7)) ∧ sw4 x < 9223372036854775808 ∧ sw5 (sw4 x) < 9223372036854775808 ∧ sw6 (sw5 (sw4 x)) < 9223372036854775808 := by
  have q4 := u4 p0 p1 p2 p3 p4 p5 p6 p7 h0 h1 h2 h3 h4 h5 h6 h7
  have q5 := u5 p0 p1 p2 p3 p4 p5 p6 p7 h0 h1 h2 h3 h4 h5 h6 h7
  have q6 := u6 p0 p1 p2 p3 p4 p5 p6 p7 h0 h1 h2 h3 h4 h5 h6 h7
  subst hx
  rw [v4 p0 p1 p2 p3 p4 p5 p6 p7 h0, v5 p0 p1 p2 p3 p4 p5 p6 p7 h0 h1 h2 h3 h4 h5 h6 h7, v6 p0 p1 p2 p3 p4 p5 p6 p7 h0 h1 h2 h3 h4 h5 h6 h7]
  exact ⟨md1 _ _ (Nat.lt_of_le_of_lt q6.1 (by decide)), up8 _ _ _ _ _ _ _ _ q4.1 q4.2.1 q4.2.2.1 q4.2.2.2.1 q4.2.2.2.2.1 q4.2.2.2.2.2.1 q4.2.2.2.2.2.2.1 q4.2.2.2.2.2.2.2, up8 _ _ _ _ _ _ _ _ q5.1 q5.2.1 q5.2.2.1 q5.2.2.2.1 q5.2.2.2.2.1 q5.2.2.2.2.2.1 q5.2.2.2.2.2.2.1 q5.2.2.2.2.2.2.2, up8 _ _ _ _ _ _ _ _ q6.1 q6.2.1 q6.2.2.1 q6.2.2.2.1 q6.2.2.2.2.1 q6.2.2.2.2.2.1 q6.2.2.2.2.2.2.1 q6.2.2.2.2.2.2.2⟩
theorem sw_pops (m : Nat) (h : m < 256 ^ 8) : sw6 (sw5 (sw4 (sw3 (sw2 (sw1 m))))) % 128 = pops 8 m ∧ sw4 (sw3 (sw2 (sw1 m))) < 9223372036854775808 ∧ sw5 (sw4 (sw3 (sw2 (sw1 m)))) < 9223372036854775808 ∧ sw6 (sw5 (sw4 (sw3 (sw2 (sw1 m))))) < 9223372036854775808 := by
  have f4 : ∀ b, pop8 (b % 256) ≤ 8 := fun b => fin4 ⟨b % 256, Nat.mod_lt _ (by decide)⟩
  have q := sw_sum (pop8 (m % 256)) (pop8 (m / 256 % 256)) (pop8 (m / 256 / 256 % 256)) (pop8 (m / 256 / 256 / 256 % 256)) (pop8 (m / 256 / 256 / 256 / 256 % 256)) (pop8 (m / 256 / 256 / 256 / 256 / 256 % 256)) (pop8 (m / 256 / 256 / 256 / 256 / 256 / 256 % 256)) (pop8 (m / 256 / 256 / 256 / 256 / 256 / 256 / 256 % 256)) (f4 _) (f4 _) (f4 _) (f4 _) (f4 _) (f4 _) (f4 _) (f4 _) (sw3 (sw2 (sw1 m))) (by rw [sw_bytes m h]; rfl)
  refine ⟨q.1.trans ?_, q.2⟩
  have e : ∀ p0 p1 p2 p3 p4 p5 p6 p7 : Nat, p0 + p1 + (p2 + p3) + (p4 + p5 + (p6 + p7)) = p0 + (p1 + (p2 + (p3 + (p4 + (p5 + (p6 + (p7 + 0))))))) := fun _ _ _ _ _ _ _ _ => by omega
  exact e _ _ _ _ _ _ _ _
/-- A count that goes bit by bit is the count by bytes. -/
theorem pops_of (pc : Nat → Nat) (h0 : pc 0 = 0) (hs : ∀ m, pc m = m % 2 + pc (m / 2)) : ∀ n m, m < 256 ^ n → pops n m = pc m
  | 0, m, h => by
    have : m = 0 := by simpa using h
    subst this; exact h0.symm
  | n + 1, m, h => by
    have hq : m / 256 < 256 ^ n := by rw [Nat.pow_succ] at h; omega
    show pop8 (m % 256) + pops n (m / 256) = pc m
    rw [pops_of pc h0 hs n _ hq, hs m, hs (m / 2), hs (m / 2 / 2), hs (m / 2 / 2 / 2), hs (m / 2 / 2 / 2 / 2), hs (m / 2 / 2 / 2 / 2 / 2), hs (m / 2 / 2 / 2 / 2 / 2 / 2), hs (m / 2 / 2 / 2 / 2 / 2 / 2 / 2)]
    simp only [Nat.div_div_eq_div_mul]
    unfold pop8
    have e1 : m % 256 % 2 = m % 2 := by omega
    have e2 : m % 256 / 2 % 2 = m / 2 % 2 := by omega
    have e3 : m % 256 / 4 % 2 = m / 4 % 2 := by omega
    have e4 : m % 256 / 8 % 2 = m / 8 % 2 := by omega
    have e5 : m % 256 / 16 % 2 = m / 16 % 2 := by omega
    have e6 : m % 256 / 32 % 2 = m / 32 % 2 := by omega
    have e7 : m % 256 / 64 % 2 = m / 64 % 2 := by omega
    have e8 : m % 256 / 128 % 2 = m / 128 % 2 := by omega
    rw [e1, e2, e3, e4, e5, e6, e7, e8]
    have e : ∀ a b c d e f g h k : Nat, a + b + c + d + e + f + g + h + k = a + (b + (c + (d + (e + (f + (g + (h + k))))))) := fun _ _ _ _ _ _ _ _ _ => by omega
    exact e _ _ _ _ _ _ _ _ _

end Go.Proofs.YtkgfaioinajkjaaDoor
