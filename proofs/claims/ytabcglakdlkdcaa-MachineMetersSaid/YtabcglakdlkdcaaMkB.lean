/-
  bytes as numbers.
-/
import Derived.Test.YtabcglakdlkdcaaWOM
import Derived.Test.YtabcglakdlkdcaaWVU
import Derived.Test.YtabcglakdlkdcaaXMem
import Derived.Test.YtabcglakdlkdcaaTFp
import Derived.LoopN
import Derived.Test.YtabcglakdlkdcaaWEq
import Derived.Test.YtabcglakdlkdcaaWMul0
import Derived.Deep.CutRange

namespace Go.Proofs.Ytabcglakdlkdcaa
open Go
namespace Wd
/-! ### The difference -/
def brw (a b t : Nat) : Nat := if a % 2 ^ t < b % 2 ^ t then 1 else 0
end Wd
end Go.Proofs.Ytabcglakdlkdcaa

namespace Go.Proofs.Ytabcglakdlkdcaa
open Go
namespace Wd
def by8 (m t : Nat) : Nat := m / 2 ^ (8 * t) % 256
theorem by8_lt (m t : Nat) : by8 m t < 256 := Nat.mod_lt _ (by decide)
theorem mod_byte (m t : Nat) : m % 2 ^ (8 * (t + 1)) = m % 2 ^ (8 * t) + by8 m t * 2 ^ (8 * t) := by
  unfold by8
  rw [show 8 * (t + 1) = 8 * t + 8 by omega, Nat.pow_add, Nat.mod_mul, show (2 : Nat) ^ 8 = 256 from rfl, Nat.mul_comm (2 ^ (8 * t))]
/-- A byte, out of the part that it stands in. -/
theorem by8_lim (a t : Nat) : lim a (t / 8) / 2 ^ (t % 8 * 8) % 256 = by8 a t := by
  unfold lim by8
  have e : (18446744073709551616 : Nat) = 2 ^ (t % 8 * 8) * (256 * 2 ^ (56 - t % 8 * 8)) := by
    rw [show (256 : Nat) = 2 ^ 8 from rfl, ← Nat.pow_add, ← Nat.pow_add, show t % 8 * 8 + (8 + (56 - t % 8 * 8)) = 64 by omega]
  rw [e, Nat.mod_mul_right_div_self, Nat.mod_mul_right_mod, Nat.div_div_eq_div_mul, ← Nat.pow_add, show 64 * (t / 8) + t % 8 * 8 = 8 * t by omega]
/-- One byte more of a number in parts. -/
theorem put_byte (m t : Nat) (h : t < 32) : lim (m % 2 ^ (8 * t)) (t / 8) < 2 ^ (t % 8 * 8) ∧ (dgs (m % 2 ^ (8 * t)) 4).set (t / 8) (lim (m % 2 ^ (8 * t)) (t / 8) + by8 m t * 2 ^ (t % 8 * 8)) = dgs (m % 2 ^ (8 * (t + 1))) 4 ∧ by8 m t * 2 ^ (t % 8 * 8) < 18446744073709551616 := by
  have hq : t / 8 < 4 := by omega
  have ht : 2 ^ (8 * t) = 18446744073709551616 ^ (t / 8) * 2 ^ (t % 8 * 8) := by
    rw [← pow64, ← Nat.pow_add, show 64 * (t / 8) + t % 8 * 8 = 8 * t by omega]
  have hM : m % 2 ^ (8 * t) < 2 ^ (8 * t) := Nat.mod_lt _ (Nat.two_pow_pos _)
  have hM4 : m % 2 ^ (8 * t) < 18446744073709551616 ^ 4 := Nat.lt_of_lt_of_le hM (by
    rw [← pow64]; exact Nat.pow_le_pow_right (by decide) (by omega))
  have hb := by8_lt m t
  have hr2 : 2 ^ (t % 8 * 8) ≤ 72057594037927936 := Nat.pow_le_pow_right (n := 2) (by decide) (show t % 8 * 8 ≤ 56 by omega)
  have hx : lim (m % 2 ^ (8 * t)) (t / 8) < 2 ^ (t % 8 * 8) := by
    rw [lim_pow]
    refine Nat.lt_of_le_of_lt (Nat.mod_le _ _) (Nat.div_lt_of_lt_mul ?_)
    rw [← ht]; exact hM
  have hd : by8 m t * 2 ^ (t % 8 * 8) ≤ 255 * 2 ^ (t % 8 * 8) := Nat.mul_le_mul_right _ (by omega)
  refine ⟨hx, ?_, by omega⟩
  have n1 := nset (dgs (m % 2 ^ (8 * t)) 4) (t / 8) (lim (m % 2 ^ (8 * t)) (t / 8) + by8 m t * 2 ^ (t % 8 * 8)) (by rw [dgs_length]; exact hq)
  rw [dgs_getD _ _ _ hq, num_dgs' _ _ hM4] at n1
  have hs := dgs_num ((dgs (m % 2 ^ (8 * t)) 4).set (t / 8) (lim (m % 2 ^ (8 * t)) (t / 8) + by8 m t * 2 ^ (t % 8 * 8))) (set_all _ _ _ (all_dgs _ _) (by omega))
  rw [List.length_set, dgs_length] at hs
  have e : (lim (m % 2 ^ (8 * t)) (t / 8) + by8 m t * 2 ^ (t % 8 * 8)) * 18446744073709551616 ^ (t / 8) = lim (m % 2 ^ (8 * t)) (t / 8) * 18446744073709551616 ^ (t / 8) + by8 m t * 2 ^ (8 * t) := by
    rw [ht]; grind
  rw [e] at n1
  have hv : num ((dgs (m % 2 ^ (8 * t)) 4).set (t / 8) (lim (m % 2 ^ (8 * t)) (t / 8) + by8 m t * 2 ^ (t % 8 * 8))) = m % 2 ^ (8 * (t + 1)) := by
    rw [mod_byte m t]; omega
  rw [hv] at hs
  exact hs.symm

/-- Bytes put together, the lowest first. -/
def rdv (f : Nat → Nat) : Nat → Nat
  | 0 => 0
  | t + 1 => rdv f t + f t * 2 ^ (8 * t)
theorem rdv_lt (f : Nat → Nat) (hf : ∀ i, f i < 256) : ∀ t, rdv f t < 2 ^ (8 * t)
  | 0 => by simp [rdv]
  | t + 1 => by
    have h1 := rdv_lt f hf t
    have h2 : f t * 2 ^ (8 * t) ≤ 255 * 2 ^ (8 * t) := Nat.mul_le_mul_right _ (by have := hf t; omega)
    rw [show 8 * (t + 1) = 8 * t + 8 by omega, Nat.pow_add]
    show rdv f t + f t * 2 ^ (8 * t) < _
    omega
theorem rdv_mod (f : Nat → Nat) (hf : ∀ i, f i < 256) (t : Nat) : ∀ k, rdv f (t + k) % 2 ^ (8 * t) = rdv f t
  | 0 => Nat.mod_eq_of_lt (rdv_lt f hf t)
  | k + 1 => by
    have e : 2 ^ (8 * (t + k)) = 2 ^ (8 * t) * 2 ^ (8 * k) := by rw [← Nat.pow_add, show 8 * t + 8 * k = 8 * (t + k) by omega]
    rw [show rdv f (t + (k + 1)) = rdv f (t + k) + f (t + k) * 2 ^ (8 * (t + k)) from rfl, e, show f (t + k) * (2 ^ (8 * t) * 2 ^ (8 * k)) = 2 ^ (8 * t) * (f (t + k) * 2 ^ (8 * k)) by grind, Nat.add_mul_mod_self_left]
    exact rdv_mod f hf t k
theorem rdv_by8 (f : Nat → Nat) (hf : ∀ i, f i < 256) (n t : Nat) (h : t < n) : by8 (rdv f n) t = f t := by
  obtain ⟨k, rfl⟩ : ∃ k, n = (t + 1) + k := ⟨n - (t + 1), by omega⟩
  have h1 := mod_byte (rdv f (t + 1 + k)) t
  rw [rdv_mod f hf (t + 1) k] at h1
  have h2 := rdv_mod f hf t (1 + k)
  rw [← Nat.add_assoc] at h2
  rw [h2, show rdv f (t + 1) = rdv f t + f t * 2 ^ (8 * t) from rfl] at h1
  have hp : 0 < 2 ^ (8 * t) := Nat.two_pow_pos _
  exact (Nat.eq_of_mul_eq_mul_right hp (by omega)).symm
/-- A list from its last thing on. -/
def rx (f : Nat → Nat) (k : Nat) : List Nat := ((List.range k).map f).reverse
theorem rx_length (f : Nat → Nat) (k : Nat) : (rx f k).length = k := by simp [rx]
theorem rx_succ (f : Nat → Nat) (k : Nat) : rx f (k + 1) = f k :: rx f k := by simp [rx, List.range_succ]
theorem rx_fill (f : Nat → Nat) (k n : Nat) (h : k < n) : (List.replicate (n - k) 0 ++ rx f k).set (n - 1 - k) (f k) = List.replicate (n - (k + 1)) 0 ++ rx f (k + 1) := by
  rw [rx_succ, show n - k = (n - (k + 1)) + 1 by omega, List.replicate_succ', List.append_assoc, List.set_append_right _ _ (by simp; omega)]
  rw [show n - 1 - k - (List.replicate (n - (k + 1)) 0).length = 0 by simp; omega]
  rfl
/-- The 32 bytes of a number. -/
def bl (a : Nat) : List Nat := rx (by8 a) 32
theorem bl_length (a : Nat) : (bl a).length = 32 := rx_length _ _
theorem bl_lt (a : Nat) : ∀ x ∈ bl a, x < 256 := by
  intro x hx
  unfold bl rx at hx
  rw [List.mem_reverse] at hx
  obtain ⟨i, _, rfl⟩ := List.mem_map.1 hx
  exact by8_lt a i
/-- What 32 bytes say. -/
def rdn (l : List Nat) : Nat := rdv (fun i => l.getD (31 - i) 0) 32
def rdR (l : List Nat) : Nat := if l.length = 32 then rdn l else 0
def rdE (l : List Nat) : Int := if l.length = 32 then 0 else 20
theorem byte_lt {l : List Nat} (hl : ∀ x ∈ l, x < 256) (i : Nat) : l.getD i 0 < 256 := by
  rw [List.getD_eq_getElem?_getD]
  cases h : l[i]? with
  | none => decide
  | some x => exact hl x (List.mem_of_getElem? h)
theorem rdn_lt {l : List Nat} (hl : ∀ x ∈ l, x < 256) : rdn l < 2 ^ 256 := rdv_lt _ (fun _ => byte_lt hl _) 32
theorem rdn_by8 {l : List Nat} (hl : ∀ x ∈ l, x < 256) (t : Nat) (h : t < 32) : by8 (rdn l) t = l.getD (31 - t) 0 := rdv_by8 _ (fun _ => byte_lt hl _) 32 t h
end Wd

end Go.Proofs.Ytabcglakdlkdcaa

namespace Go.Proofs.Ytabcglakdlkdcaa
open Go Go.RowKit
open Wd

/-- A list of bytes, by its address. -/
def By (W : World) (A : Option Addr) (l : List Nat) : Prop := ∀ i, i < l.length → ∃ b o, A = some ⟨b, o, none⟩ ∧ W.cell? ⟨b, o + i, none⟩ = some (.int .u8 ((l.getD i 0 : Nat) : Int)) ∧ b < W.heap.size
set_option maxRecDepth 100000 in
set_option maxHeartbeats 4000000 in
theorem read_by (l : List Nat) (hl : ∀ x ∈ l, x < 256) (A : Option Addr) (cap : Nat) (w : World) (h : By w A l) :
    Calls Try.prog 76 #[.slice A l.length cap] w fun e w' => e = .returned (.tuple #[.agg (vQ (dgs (rdR l) 4)).toArray, .int .i64 (rdE l)]) ∧ Below w.heap.size w w' := by
  by_cases h32 : l.length = 32
  · obtain ⟨b, o, rfl, _, hbw⟩ := h 0 (by omega)
    have HC : Hid (∀ W, Below w.heap.size w W → ∀ i, i < 32 → W.cell? ⟨b, o + i, none⟩ = some (.int .u8 ((l.getD i 0 : Nat) : Int))) := fun W hB i hi => by
      obtain ⟨b', o', e, h2, h3⟩ := h i (by omega)
      obtain ⟨rfl, rfl⟩ : b = b' ∧ o = o' := by simpa using e
      exact (hB.cell (p := ⟨b, o + i, none⟩) h3).trans h2
    have HR : Hid (rdR l = rdn l ∧ rdE l = 0) := ⟨if_pos h32, if_pos h32⟩
    have HBY : Hid (∀ t, t < 32 → by8 (rdn l) t = l.getD (31 - t) 0) := fun t ht => rdn_by8 hl t ht
    have HML : Hid (rdn l < 2 ^ 256) := rdn_lt hl
    have HDL : Hid (∀ i, l.getD i 0 < 256) := fun i => byte_lt hl i
    rw [h32]
    clear h h32 hl
    generalize rdn l = m at *
    go_enter Try.func76, Try.ntmps76
    go_wp2
    go_loopw [5, 12] (fun _ iv wr => ∃ t : Nat, t ≤ 32 ∧ iv = .int .i64 (t : Int) ∧ Below w.heap.size w wr ∧ Row wr w.heap.size (vQ (List.replicate 4 0)) 27 ∧ Row wr (w.heap.size + 1) (vQ (dgs (m % 2 ^ (8 * t)) 4)) 27) (fun _ iv _ => 32 - (intOf iv).toNat)
    case atStart =>
      exact ⟨0, by omega, rfl, ((Below.refl _ _).alloc (Nat.le_refl _) _).alloc (by simp) _, (Row.new' rfl rfl).alloc _, by rw [Nat.mul_zero, Nat.pow_zero, Nat.mod_one, dgs_zero]; exact Row.new' (by simp) rfl⟩
    case round =>
      obtain ⟨t, ht, rfl, hb1, n2, n4⟩ := hrel
      by_cases hlt : t < 32
      · have hq : t / 8 < 4 := by omega
        have g4 := n4.cell (t / 8) _ (vQ_get _ (t / 8) (by rw [dgs_length]; exact hq))
        rw [dgs_getD _ _ _ hq] at g4
        have gf := n4.thaw (t / 8)
        have gl := HC.out wr hb1 (31 - t) (by omega)
        obtain ⟨p1, p2, p3⟩ := put_byte m t hlt
        have hor := upl_or (lim (m % 2 ^ (8 * t)) (t / 8)) (by8 m t) (t % 8 * 8) p1 (by omega)
        rw [Nat.mod_eq_of_lt p3] at hor
        have HP : Hid _ := p2
        have hx := lim_lt (m % 2 ^ (8 * t)) (t / 8)
        have hd := by8_lt m t
        have e1 : (t : Int) / 8 = ((t / 8 : Nat) : Int) := by omega
        have e2 : (t : Int) % 8 = ((t % 8 : Nat) : Int) := by omega
        clear p2 p1
        rw [← HBY.out t hlt] at gl
        generalize lim (m % 2 ^ (8 * t)) (t / 8) = x at *
        generalize by8 m t = d at *
        obtain ⟨q, hqe⟩ : ∃ q, q = t / 8 := ⟨_, rfl⟩
        obtain ⟨r0, hr0⟩ : ∃ r0, r0 = t % 8 := ⟨_, rfl⟩
        obtain ⟨r, hre⟩ : ∃ r, r = r0 * 8 := ⟨_, rfl⟩
        obtain ⟨j, hj⟩ : ∃ j, j = 31 - t := ⟨_, rfl⟩
        rw [← hqe] at g4 gf e1 hq HP
        rw [← hr0] at e2 hor p3 HP
        rw [← hre] at hor p3 HP
        rw [← hj] at gl
        have e3 : (r0 : Int) * 8 = (r : Int) := by omega
        have e4 : (31 : Int) - (t : Int) = (j : Int) := by omega
        have lr : (r : Int) ≤ 56 := by omega
        have lr' : r < 64 := by omega
        have lj : (j : Int) < 32 := by omega
        have lj' : j < 32 := by omega
        have lq : (q : Int) < 4 := by omega
        have eB : IntKind.u64.wrap ((d : Int) * 2 ^ r) = ((d * 2 ^ r : Nat) : Int) := by rw [wrap_shl, Nat.mod_eq_of_lt p3]
        obtain ⟨y, hy⟩ : ∃ y, y = d * 2 ^ r := ⟨_, rfl⟩
        rw [← hy] at eB hor p3 HP
        have eO : bits .or .u64 (x : Int) (y : Int) = ((x + y : Nat) : Int) := by rw [bits_or_u64_nat _ _ hx p3, hor]
        obtain ⟨z, hz⟩ : ∃ z, z = x + y := ⟨_, rfl⟩
        rw [← hz] at eO HP
        have eC : IntKind.u64.wrap (d : Int) = (d : Int) := by rw [IntKind.wrap_u64]; omega
        have hdi : (d : Int) < 256 := by omega
        clear hqe hre hr0 hj hy hz hor hx p3 hd ht
        go_wp2
        go_region
        go_wp2
        refine ⟨⟨t + 1, hlt, by go_num, Below.drew (Below.setCell hb1 (by simp) _), Row.drew (n2.set_other _ _ _ (by omega)), ?_⟩, by simp [intOf]; omega⟩
        have := n4.set q (.int .u64 (z : Int))
        rw [vQ_set, HP.out] at this
        exact Row.drew this
      · have et : t = 32 := by omega
        have e4 : (t : Int) = 32 := by omega
        rw [et, show 8 * 32 = 256 from rfl, Nat.mod_eq_of_lt HML.out] at n4
        obtain ⟨cs, Hc⟩ : ∃ c, Wc c m := ⟨_, rfl⟩
        rw [← show cs = vQ (dgs m 4) from Hc] at n4
        have T := Hc.there n2 rfl
        have fin := n2.over (vs := cs) (by rw [Hc.len]; rfl)
        have hbf := below_setCells hb1 (b := w.heap.size) (o := 0) (Nat.le_refl _) cs
        rw [e4]
        clear et e4 hlt ht
        go_wp2_with (first
          | (refine wpList_load_mid rfl 27 (.tmp 4) rfl (w.heap.size + 1) 0 rfl cs _ n4.all Try.underlying27 rfl Hc.info ?_; simp only [Act.put, List.setIfInBounds_toArray, List.set_cons_zero, List.set_cons_succ])
          | (refine wpList_store_mid rfl 27 (.tmp 2) (.tmp 32) rfl w.heap.size 0 cs.toArray rfl rfl T Hc.info' Hc.one ?_; simp only [Act.put]))
        exact bodyPost_ret (results_row_tmp Try.results76 _ _ w.heap.size 27 cs (.int .i64 0) rfl rfl fin Try.underlying27 info_w4 Hc.len) rfl ⟨by rw [HR.out.1, HR.out.2, ← show cs = vQ (dgs m 4) from Hc], hbf⟩
  · have HR : Hid (rdR l = 0 ∧ rdE l = 20) := ⟨if_neg h32, if_neg h32⟩
    have q0 : ((l.length : Int) == 32) = false := by rw [beq_eq_false_iff_ne]; omega
    have q1 : ((l.length : Int) != 32) = true := by rw [bne_iff_ne]; omega
    have q2 : ¬ (l.length : Int) = 32 := by omega
    generalize l.length = n at *
    clear h h32 hl
    have r2 : Row (w.alloc (Obj.cells #[Value.int IntKind.u64 0, Value.int IntKind.u64 0, Value.int IntKind.u64 0, Value.int IntKind.u64 0] 27)) w.heap.size (vQ (List.replicate 4 0)) 27 := Row.new' rfl rfl
    have hb : Below w.heap.size w (w.alloc (Obj.cells #[Value.int IntKind.u64 0, Value.int IntKind.u64 0, Value.int IntKind.u64 0, Value.int IntKind.u64 0] 27)) := (Below.refl _ _).alloc (Nat.le_refl _) _
    have T := r2.there 0 (vQ (List.replicate 4 0)).toArray.size (Nat.le_refl 4)
    have fin := r2.over (vs := (vQ (List.replicate 4 0))) rfl
    have hbf := below_setCells hb (b := w.heap.size) (o := 0) (by omega) (vQ (List.replicate 4 0))
    clear r2 hb
    go_enter Try.func76, Try.ntmps76
    go_wp2_with (refine wpList_store_mid rfl 27 (.tmp 2) (.tmp 9) rfl w.heap.size 0 (vQ (List.replicate 4 0)).toArray rfl rfl T info_w4 (all_oneCell_toArray (vQ_one _)) ?_; simp only [Act.put])
    exact bodyPost_ret (results_row_tmp Try.results76 _ _ w.heap.size 27 (vQ (List.replicate 4 0)) (.int .i64 20) rfl rfl fin Try.underlying27 info_w4 rfl) rfl ⟨by rw [HR.out.1, HR.out.2, dgs_zero], hbf⟩

end Go.Proofs.Ytabcglakdlkdcaa

namespace Go.Proofs.Ytabcglakdlkdcaa
open Go Go.RowKit
open Sha

/-- The cells of the rows of the table. -/
def rw (k : Nat) : List Value := match k with
  | 0 => [.string ⟨#[115, 116, 111, 112]⟩, .int .i64 0, .int .i64 1, .int .i64 0, .int .i64 0, .func (.func 17) #[] #[]]
  | 1 => [.string ⟨#[100, 111, 110, 101]⟩, .int .i64 0, .int .i64 1, .int .i64 1, .int .i64 0, .func (.func 18) #[] #[]]
  | 2 => [.string ⟨#[112, 117, 115, 104]⟩, .int .i64 1, .int .i64 1, .int .i64 0, .int .i64 1, .func (.func 19) #[] #[]]
  | 3 => [.string ⟨#[112, 111, 112]⟩, .int .i64 0, .int .i64 1, .int .i64 1, .int .i64 0, .func (.func 20) #[] #[]]
  | 4 => [.string ⟨#[100, 117, 112]⟩, .int .i64 2, .int .i64 1, .int .i64 1, .int .i64 2, .func (.func 21) #[] #[]]
  | 5 => [.string ⟨#[115, 119, 97, 112]⟩, .int .i64 3, .int .i64 1, .int .i64 1, .int .i64 1, .func (.func 22) #[] #[]]
  | 6 => [.string ⟨#[97, 100, 100]⟩, .int .i64 0, .int .i64 2, .int .i64 2, .int .i64 1, .func (.func 23) #[] #[]]
  | 7 => [.string ⟨#[115, 117, 98]⟩, .int .i64 0, .int .i64 2, .int .i64 2, .int .i64 1, .func (.func 24) #[] #[]]
  | 8 => [.string ⟨#[109, 117, 108]⟩, .int .i64 0, .int .i64 5, .int .i64 2, .int .i64 1, .func (.func 25) #[] #[]]
  | 9 => [.string ⟨#[100, 105, 118]⟩, .int .i64 0, .int .i64 10, .int .i64 2, .int .i64 1, .func (.func 26) #[] #[]]
  | 10 => [.string ⟨#[109, 111, 100]⟩, .int .i64 0, .int .i64 10, .int .i64 2, .int .i64 1, .func (.func 27) #[] #[]]
  | 11 => [.string ⟨#[108, 101, 115, 115]⟩, .int .i64 0, .int .i64 2, .int .i64 2, .int .i64 1, .func (.func 28) #[] #[]]
  | 12 => [.string ⟨#[115, 97, 109, 101]⟩, .int .i64 0, .int .i64 2, .int .i64 2, .int .i64 1, .func (.func 29) #[] #[]]
  | 13 => [.string ⟨#[110, 111, 116]⟩, .int .i64 0, .int .i64 2, .int .i64 1, .int .i64 1, .func (.func 30) #[] #[]]
  | 14 => [.string ⟨#[106, 117, 109, 112]⟩, .int .i64 5, .int .i64 5, .int .i64 0, .int .i64 0, .func (.func 31) #[] #[]]
  | 15 => [.string ⟨#[119, 104, 101, 110]⟩, .int .i64 5, .int .i64 5, .int .i64 1, .int .i64 0, .func (.func 32) #[] #[]]
  | 16 => [.string ⟨#[97, 114, 103]⟩, .int .i64 4, .int .i64 2, .int .i64 0, .int .i64 1, .func (.func 33) #[] #[]]
  | 17 => [.string ⟨#[97, 114, 103, 115]⟩, .int .i64 0, .int .i64 2, .int .i64 0, .int .i64 1, .func (.func 34) #[] #[]]
  | 18 => [.string ⟨#[99, 97, 108, 108, 101, 114]⟩, .int .i64 0, .int .i64 2, .int .i64 0, .int .i64 1, .func (.func 35) #[] #[]]
  | 19 => [.string ⟨#[115, 101, 108, 102]⟩, .int .i64 0, .int .i64 2, .int .i64 0, .int .i64 1, .func (.func 36) #[] #[]]
  | 20 => [.string ⟨#[116, 111, 107, 101, 110]⟩, .int .i64 0, .int .i64 2, .int .i64 0, .int .i64 1, .func (.func 37) #[] #[]]
  | 21 => [.string ⟨#[97, 109, 111, 117, 110, 116]⟩, .int .i64 0, .int .i64 2, .int .i64 0, .int .i64 1, .func (.func 38) #[] #[]]
  | 22 => [.string ⟨#[116, 105, 109, 101]⟩, .int .i64 0, .int .i64 2, .int .i64 0, .int .i64 1, .func (.func 39) #[] #[]]
  | 23 => [.string ⟨#[103, 97, 115]⟩, .int .i64 0, .int .i64 2, .int .i64 0, .int .i64 1, .func (.func 40) #[] #[]]
  | 24 => [.string ⟨#[108, 111, 97, 100]⟩, .int .i64 0, .int .i64 200, .int .i64 1, .int .i64 1, .func (.func 41) #[] #[]]
  | 25 => [.string ⟨#[115, 97, 118, 101]⟩, .int .i64 0, .int .i64 200, .int .i64 2, .int .i64 0, .func (.func 42) #[] #[]]
  | 26 => [.string ⟨#[104, 97, 118, 101]⟩, .int .i64 0, .int .i64 200, .int .i64 2, .int .i64 1, .func (.func 43) #[] #[]]
  | 27 => [.string ⟨#[115, 101, 110, 100]⟩, .int .i64 0, .int .i64 500, .int .i64 3, .int .i64 0, .func (.func 44) #[] #[]]
  | _ => []
def mtab : List Value := (List.range 28).flatMap rw
theorem info_row : (Try.prog.info? 75).map (·.size) = some 6 := by kernel_rfl
abbrev zrow : Value := .agg #[.string ⟨#[]⟩, .int .i64 0, .int .i64 0, .int .i64 0, .int .i64 0, .nilFunc]
theorem info_row_all : (Try.prog.info? 75).map (fun i => (i.size, i.zero)) = some (6, some zrow) := by kernel_rfl
theorem info_row_open : ∃ ie, Try.prog.info? 75 = some ie ∧ ie.size = 6 ∧ ie.zero = some zrow := by
  have i1 := info_row_all
  cases hi : Try.prog.info? 75 with
  | none => rw [hi] at i1; cases i1
  | some ie =>
    rw [hi] at i1
    simp only [Option.map_some, Option.some.injEq, Prod.mk.injEq] at i1
    exact ⟨ie, rfl, i1.1, i1.2⟩
set_option maxRecDepth 100000 in
set_option maxHeartbeats 4000000 in
theorem wpList_tab {ops : Array Oper} {rest : List Oper} {op : Oper} {a : Act} {w : World} {Q : Exit → Act → World → Prop} (hgd : op.guard = none) (parts : Array (Nat × Operand)) (ho : op.op = .buildSlice 58 28 parts)
    (hp : Instr.fill (fun i => some (i * 6, 6)) ((Array.range (28 * 6)).map (zrow.cells[· % zrow.cells.size]!)) (parts.map fun (i, x) => (i, a.eval x)).toList = some mtab.toArray)
    (h : ∀ X, Row X w.heap.size mtab 75 → Below w.heap.size w X → wpList Try.prog ops Q rest (a.put op.dst (.slice (some ⟨w.heap.size, 0, none⟩) 28 28)) X) : wpList Try.prog ops Q (op :: rest) a w := by
  obtain ⟨ie, h1, h2, h3⟩ := info_row_open
  exact wpList_buildSlice hgd 58 75 28 parts ho mtab.toArray ie zrow Try.underlying58 h1 h3 (by rw [h2]; decide) (by rw [h2]; decide) (by rw [h2]; exact hp) (h _ (Row.new' rfl rfl) ((Below.refl _ _).alloc (Nat.le_refl _) _))
set_option maxRecDepth 100000 in
set_option maxHeartbeats 4000000 in
theorem table_any (w : World) : Calls Try.prog 12 #[] w fun e w' => e = .returned (.slice (some ⟨w.heap.size, 0, none⟩) 28 28) ∧ Row w' w.heap.size mtab 75 ∧ Below w.heap.size w w' := by
  go_enter Try.func12, Try.ntmps12
  go_wp2_with (refine wpList_tab rfl _ rfl (by kernel_rfl) ?_; intro X q1 q2; have R : Hid (Row X w.heap.size mtab 75) := q1; have B : Hid (Below w.heap.size w X) := q2; clear q1 q2; simp only [Act.put, List.setIfInBounds_toArray, List.set_cons_zero, List.set_cons_succ])
  go_ret
  exact ⟨rfl, R.out, B.out⟩

end Go.Proofs.Ytabcglakdlkdcaa

namespace Go.Proofs.Ytabcglakdlkdcaa
open Go Go.RowKit
open Wd

set_option maxRecDepth 100000 in
set_option maxHeartbeats 2000000 in
theorem bytes_any (a : Nat) (w : World) :
    Calls Try.prog 77 #[.agg (vQ (dgs a 4)).toArray] w fun e w' => ∃ N, w.heap.size ≤ N ∧ Row w' N (vU (bl a)) 5 ∧ e = .returned (.slice (some ⟨N, 0, none⟩) 32 32) ∧ Below w.heap.size w w' := by
  go_enter Try.func77, Try.ntmps77
  go_wp2_with (refine wpList_make_u rfl 22 (.const (.int .i64 32)) (.const (.int .i64 32)) rfl 5 32 _ _ rfl rfl rfl rfl (by decide) Try.underlying22 info_all_u8 ?_; simp only [Act.put, List.setIfInBounds_toArray, List.set_cons_zero, List.set_cons_succ])
  go_loopw [4, 8] (fun _ iv wr => ∃ t : Nat, t ≤ 32 ∧ iv = .int .i64 (t : Int) ∧ Below w.heap.size w wr ∧ Row wr w.heap.size (vQ (dgs a 4)) 27 ∧ Row wr (w.heap.size + 1) (vU (List.replicate (32 - t) 0 ++ rx (by8 a) t)) 5) (fun _ iv _ => 32 - (intOf iv).toNat)
  case atStart =>
    refine ⟨0, by omega, rfl, ((Below.refl _ _).alloc (Nat.le_refl _) _).alloc (by simp) _, (Row.new' rfl rfl).alloc _, ?_⟩
    exact Row.new' (by simp) rfl
  case round =>
    obtain ⟨t, ht, rfl, hb, h1, h3⟩ := hrel
    by_cases hlt : t < 32
    · have hq : t / 8 < 4 := by omega
      have g1 := h1.cell (t / 8) _ (vQ_get _ (t / 8) (by rw [dgs_length]; exact hq))
      rw [dgs_getD _ _ _ hq] at g1
      have hlen : (List.replicate (32 - t) 0 ++ rx (by8 a) t).length = 32 := by rw [List.length_append, List.length_replicate, rx_length]; omega
      have g3 := h3.cell (31 - t) _ (vU_get _ (31 - t) (by rw [hlen]; omega))
      have gf := h3.thaw (31 - t)
      have hby := by8_lim a t
      have hbl := by8_lt a t
      have hx := lim_lt a (t / 8)
      have e1 : (t : Int) / 8 = ((t / 8 : Nat) : Int) := by omega
      have e2 : (t : Int) % 8 = ((t % 8 : Nat) : Int) := by omega
      generalize (List.replicate (32 - t) 0 ++ rx (by8 a) t).getD (31 - t) 0 = z at g3
      generalize lim a (t / 8) = x at *
      obtain ⟨q, hqe⟩ : ∃ q, q = t / 8 := ⟨_, rfl⟩
      obtain ⟨r0, hr0⟩ : ∃ r0, r0 = t % 8 := ⟨_, rfl⟩
      obtain ⟨r, hre⟩ : ∃ r, r = r0 * 8 := ⟨_, rfl⟩
      obtain ⟨j, hj⟩ : ∃ j, j = 31 - t := ⟨_, rfl⟩
      rw [← hqe] at g1 e1 hq
      rw [← hr0] at e2 hby
      rw [← hre] at hby
      rw [← hj] at g3 gf
      have e3 : (r0 : Int) * 8 = (r : Int) := by omega
      have e4 : (31 : Int) - (t : Int) = (j : Int) := by omega
      have lr : (r : Int) ≤ 56 := by omega
      have lr' : r < 64 := by omega
      have lj : (j : Int) < 32 := by omega
      have lj' : j < 32 := by omega
      have lq : (q : Int) < 4 := by omega
      have eK : (x : Int) / 2 ^ r = ((x / 2 ^ r : Nat) : Int) := by simp
      obtain ⟨y, hy⟩ : ∃ y, y = x / 2 ^ r := ⟨_, rfl⟩
      rw [← hy] at eK hby
      obtain ⟨d, hd⟩ : ∃ d, d = by8 a t := ⟨_, rfl⟩
      rw [← hd] at hby hbl
      have eA : IntKind.u8.wrap (y : Int) = (d : Int) := by rw [IntKind.wrap_u8]; omega
      have HJ : Hid (j = 31 - t ∧ d = by8 a t) := ⟨hj, hd⟩
      clear hqe hre hr0 hy hby hx ht hj hd hlen hbl
      go_wp2
      refine ⟨⟨t + 1, hlt, by go_num, Below.setCell hb (by simp) _, h1.set_other _ _ _ (by omega), ?_⟩, by simp [intOf]; omega⟩
      have := h3.set j (.int .u8 (d : Int))
      rw [vU_set, HJ.out.1, HJ.out.2, show 31 - t = 32 - 1 - t from rfl, rx_fill (by8 a) t 32 hlt] at this
      rw [HJ.out.1, HJ.out.2]
      exact this
    · have et : t = 32 := by omega
      have e4 : (t : Int) = 32 := by omega
      rw [et, Nat.sub_self, List.replicate_zero, List.nil_append] at h3
      rw [e4]
      clear et e4 ht hlt
      go_wp2
      go_ret
      exact ⟨w.heap.size + 1, by omega, h3, by simp, hb⟩

end Go.Proofs.Ytabcglakdlkdcaa

namespace Go.Proofs.Ytabcglakdlkdcaa
open Go Go.RowKit
open Sha
open Wd
/-- An amount's bytes. -/
def wB (n : Nat) : List (BitVec 8) := (bl n).map (BitVec.ofNat 8)
theorem wB_len (n : Nat) : (wB n).length = 32 := by unfold wB; rw [List.length_map, bl_length]
theorem wB_vU (n : Nat) : vB (wB n) = vU (bl n) := by
  unfold wB vB vU
  rw [List.map_map]
  refine List.map_congr_left (fun x hx => ?_)
  simp only [Function.comp_apply, c, BitVec.toNat_ofNat]
  rw [Nat.mod_eq_of_lt (bl_lt n x hx)]
/-- An amount's cells. -/
def wq (a : Nat) : List Value := vQ (dgs a 4)
theorem wq_len (a : Nat) : (wq a).length = 4 := by unfold wq; rw [vQ, List.length_map, dgs_length]
theorem wq_one (a : Nat) : (wq a).toArray.all (·.oneCell') = true := by
  rw [← Array.all_toList]
  refine List.all_eq_true.2 (fun v hv => ?_)
  obtain ⟨x, _, rfl⟩ := List.mem_map.1 hv
  rfl
theorem wq_cells (a : Nat) : wq a = [.int .u64 ((lim a 0 : Nat) : Int), .int .u64 ((lim a 1 : Nat) : Int), .int .u64 ((lim a 2 : Nat) : Int), .int .u64 ((lim a 3 : Nat) : Int)] := rfl
theorem wq_zero : wq 0 = [.int .u64 0, .int .u64 0, .int .u64 0, .int .u64 0] := by
  rw [wq_cells, show lim 0 0 = 0 by decide +kernel, show lim 0 1 = 0 by decide +kernel, show lim 0 2 = 0 by decide +kernel, show lim 0 3 = 0 by decide +kernel]
  rfl
theorem results_rowS_tmp {P : Program} {fn : Func} {p q : Tmp} {ty : TypeId} {fs : Array Field} (h : fn.results = #[.cell p ty, .tmp q]) (tmps : Array Value) (w : World) (g : Nat) (t : TypeId) (cs : List Value) (v : Value)
    (hp : tmps.getD p undef = .pointer (some ⟨g, 0, none⟩)) (hv : tmps.getD q undef = v) (hg : Row w g cs t) (hu : P.underlying ty = some (.struct fs)) (hi : (P.info? ty).map (·.size) = some cs.length) :
    (results fn tmps).run P w = .ok (.tuple #[.agg cs.toArray, v]) w := by
  have hp' : tmps[p]?.getD undef = .pointer (some ⟨g, 0, none⟩) := by simpa using hp
  have hv' : tmps[q]?.getD undef = v := by simpa using hv
  have hr := run_loadVar_row (P := P) w g t ty cs.toArray (0, 0) (.struct fs) hg hu rfl (by simp [hi])
  simp [results, h, hp', hv', asAddr, hr]

theorem results_rowA {P : Program} {fn : Func} {p : Tmp} {ty e : TypeId} {k : Nat} (h : fn.results = #[.cell p ty]) (tmps : Array Value) (w : World) (g : Nat) (t : TypeId) (cs : List Value)
    (hp : tmps.getD p undef = .pointer (some ⟨g, 0, none⟩)) (hg : Row w g cs t) (hu : P.underlying ty = some (.array k e)) (hi : (P.info? ty).map (·.size) = some cs.length) :
    (results fn tmps).run P w = .ok (.agg cs.toArray) w :=
  results_cell_row h tmps w g t cs.toArray (0, 0) _ hp hg hu rfl (by simp [hi])
abbrev zW : List Value := [.int .u64 0, .int .u64 0, .int .u64 0, .int .u64 0]
abbrev zI : List Value := [.int .i64 0, .int .i64 0, .int .u64 0, .int .u64 0, .int .u64 0, .int .u64 0, .int .i64 0]
abbrev zP : List Value := [.slice none 0 0, .slice none 0 0]
abbrev z32 : List Value := vB (List.replicate 32 0#8)
section
variable {P : Program} {ops : Array Oper} {rest : List Oper} {op : Oper} {a : Act} {w : World} {Q : Exit → Act → World → Prop}
theorem run_slice_arr (w : World) (t e n b o k : Nat) (l : Int) (hl : l = (k : Int)) (hk : k < n) (hu : P.underlying t = some (.array n e)) (hs : (P.info? e).map (·.size) = some 1) :
    (Instr.sliceAt t (.pointer (some ⟨b, o, none⟩)) (some (.int .i64 l)) none none).run P w = .ok (.slice (some ⟨b, o + k, none⟩) (n - k) (n - k)) w := by
  cases hq : P.info? e with
  | none => simp [hq] at hs
  | some i =>
    have h1 : i.size = 1 := by simpa [hq] using hs
    subst hl
    have h2 : ¬ n = k := by omega
    have h3 : k ≤ n := Nat.le_of_lt hk
    simp [Instr.sliceAt, Instr.sureAddr, run_underlying hu, Instr.sliceBounds, Instr.sliceBound, asIntOf, sizeOf, typeInfo, hq, h1, h2, h3, Addr.add_mid]

theorem run_slice_from (w : World) (t e ab ao len cap m : Nat) (l : Int) (hl : l = (m : Int)) (hm : m ≤ len) (hu : P.underlying t = some (.slice e)) (hs : (P.info? e).map (·.size) = some 1) :
    (Instr.sliceAt t (.slice (some ⟨ab, ao, none⟩) len cap) (some (.int .i64 l)) none none).run P w = .ok (.slice (some (if cap = m then ⟨ab, ao, none⟩ else ⟨ab, ao + m, none⟩)) (len - m) (cap - m)) w := by
  cases hq : P.info? e with
  | none => simp [hq] at hs
  | some i =>
    have h1 : i.size = 1 := by simpa [hq] using hs
    subst hl
    by_cases h2 : cap = m <;> simp [Instr.sliceAt, Instr.slice, run_underlying hu, Instr.sliceBounds, Instr.sliceBound, asIntOf, sizeOf, typeInfo, hq, h1, h2, Addr.add_mid, hm]

theorem wpList_slice_arr (hgd : op.guard = none) (t : TypeId) (x y : Operand) (ho : op.op = .slice t x (some y) none none) (e n b o k : Nat) (l : Int) (hx : a.eval x = .pointer (some ⟨b, o, none⟩)) (hy : a.eval y = .int .i64 l)
    (hl : l = (k : Int)) (hk : k < n) (hu : P.underlying t = some (.array n e)) (hs : (P.info? e).map (·.size) = some 1)
    (h : wpList P ops Q rest (a.put op.dst (.slice (some ⟨b, o + k, none⟩) (n - k) (n - k))) w) : wpList P ops Q (op :: rest) a w :=
  wpList_plain hgd fun _ hK => by
    unfold Oper.wp execOp
    simp only [ho, hx, hy, Option.map_some, Option.map_none, Sem.run_bind, run_slice_arr w t e n b o k l hl hk hu hs, Result.andThen_ok, Sem.run_pure, Oper.upon_value]
    exact hK _ _ h

theorem wpList_slice_from (hgd : op.guard = none) (t : TypeId) (x y : Operand) (ho : op.op = .slice t x (some y) none none) (e ab ao len cap m : Nat) (l : Int) (hx : a.eval x = .slice (some ⟨ab, ao, none⟩) len cap) (hy : a.eval y = .int .i64 l)
    (hl : l = (m : Int)) (hm : m ≤ len) (hc : len ≤ cap) (hu : P.underlying t = some (.slice e)) (hs : (P.info? e).map (·.size) = some 1)
    (h : ∀ A, (m < len → A = (⟨ab, ao + m, none⟩ : Addr)) → wpList P ops Q rest (a.put op.dst (.slice (some A) (len - m) (cap - m))) w) : wpList P ops Q (op :: rest) a w :=
  wpList_plain hgd fun _ hK => by
    unfold Oper.wp execOp
    simp only [ho, hx, hy, Option.map_some, Option.map_none, Sem.run_bind, run_slice_from w t e ab ao len cap m l hl hm hu hs, Result.andThen_ok, Sem.run_pure, Oper.upon_value]
    exact hK _ _ (h _ (fun hlt => by rw [if_neg (by omega)]))
/-- A whole struct, stored. -/
theorem wpList_storeL (hgd : op.guard = none) (ty : TypeId) (x y : Operand) (ho : op.op = .store ty x y) (b : Nat) (L M : List Value) (t : TypeId) (hx : a.eval x = .pointer (some ⟨b, 0, none⟩)) (hy : a.eval y = .agg L.toArray) (r : Row w b M t) (hl : L.length = M.length) (hi : (P.info? ty).map (·.size) = some L.length) (h1 : L.toArray.all (·.oneCell') = true)
    (h : ∀ X, X = w.setCells b 0 L → Row X b L t → wpList P ops Q rest (a.put op.dst undef) X) : wpList P ops Q (op :: rest) a w :=
  wpList_store_mid hgd ty x y ho b 0 L.toArray hx hy (r.there 0 _ (by rw [List.size_toArray, hl, Nat.zero_add]; exact Nat.le_refl _)) (by rw [hi, List.size_toArray]) h1 (h _ rfl (r.over hl))
theorem wpList_boxG (ty : TypeId) (hgd : op.guard = none) (x : Operand) (ho : op.op = .box ty x) (L : List Value) (hx : a.eval x = .agg L.toArray) (h : ∀ X, Row X w.heap.size L ty → Below w.heap.size w X → X.heap.size = w.heap.size + 1 → wpList P ops Q rest (a.put op.dst (.pointer (some ⟨w.heap.size, 0, none⟩))) X) : wpList P ops Q (op :: rest) a w :=
  wpList_plain hgd fun _ hK => by
    unfold Oper.wp execOp
    simp only [ho, hx]
    go_simp
    exact hK _ _ (h _ (Row.new' rfl rfl) ((Below.refl _ _).alloc (Nat.le_refl _) _) (by simp))
theorem wpList_allocW (hgd : op.guard = none) (ho : op.op = .alloc 27) (h : ∀ X, Row X w.heap.size zW 27 → Below w.heap.size w X → X.heap.size = w.heap.size + 1 → wpList Try.prog ops Q rest (a.put op.dst (.pointer (some ⟨w.heap.size, 0, none⟩))) X) : wpList Try.prog ops Q (op :: rest) a w :=
  wpList_plain hgd fun _ hK => by
    unfold Oper.wp execOp
    simp only [ho]
    go_simp
    exact hK _ _ (h _ (Row.new' (cs := zW) rfl rfl) ((Below.refl _ _).alloc (Nat.le_refl _) _) (by simp))
theorem wpList_allocI (hgd : op.guard = none) (ho : op.op = .alloc 77) (h : ∀ X, Row X w.heap.size zI 77 → Below w.heap.size w X → X.heap.size = w.heap.size + 1 → wpList Try.prog ops Q rest (a.put op.dst (.pointer (some ⟨w.heap.size, 0, none⟩))) X) : wpList Try.prog ops Q (op :: rest) a w :=
  wpList_plain hgd fun _ hK => by
    unfold Oper.wp execOp
    simp only [ho]
    go_simp
    exact hK _ _ (h _ (Row.new' (cs := zI) rfl rfl) ((Below.refl _ _).alloc (Nat.le_refl _) _) (by simp))
theorem wpList_allocP (hgd : op.guard = none) (ho : op.op = .alloc 63) (h : ∀ X, Row X w.heap.size zP 63 → Below w.heap.size w X → X.heap.size = w.heap.size + 1 → wpList Try.prog ops Q rest (a.put op.dst (.pointer (some ⟨w.heap.size, 0, none⟩))) X) : wpList Try.prog ops Q (op :: rest) a w :=
  wpList_plain hgd fun _ hK => by
    unfold Oper.wp execOp
    simp only [ho]
    go_simp
    exact hK _ _ (h _ (Row.new' (cs := zP) rfl rfl) ((Below.refl _ _).alloc (Nat.le_refl _) _) (by simp))
theorem wpList_allocB (hgd : op.guard = none) (ho : op.op = .alloc 117) (h : ∀ X, Row X w.heap.size z32 117 → Below w.heap.size w X → X.heap.size = w.heap.size + 1 → wpList Try.prog ops Q rest (a.put op.dst (.pointer (some ⟨w.heap.size, 0, none⟩))) X) : wpList Try.prog ops Q (op :: rest) a w :=
  wpList_plain hgd fun _ hK => by
    unfold Oper.wp execOp
    simp only [ho]
    go_simp
    exact hK _ _ (h _ (Row.new' (cs := z32) rfl (by rfl)) ((Below.refl _ _).alloc (Nat.le_refl _) _) (by simp))

theorem wpList_slice_arr0 (hgd : op.guard = none) (t : TypeId) (x : Operand) (ho : op.op = .slice t x none none none) (e n b o : Nat) (hx : a.eval x = .pointer (some ⟨b, o, none⟩)) (hu : P.underlying t = some (.array n e)) (hs : (P.info? e).map (·.size) = some 1)
    (h : wpList P ops Q rest (a.put op.dst (.slice (some ⟨b, o, none⟩) n n)) w) : wpList P ops Q (op :: rest) a w :=
  wpList_plain hgd fun _ hK => by
    have hr : (Instr.sliceAt t (.pointer (some ⟨b, o, none⟩)) none none none).run P w = .ok (.slice (some ⟨b, o, none⟩) n n) w := by
      cases hq : P.info? e with
      | none => simp [hq] at hs
      | some i =>
        simp [Instr.sliceAt, Instr.sureAddr, run_underlying hu, Instr.sliceBounds, sizeOf, typeInfo, hq, Addr.add_mid]
    unfold Oper.wp execOp
    simp only [ho, hx, Option.map_none, Sem.run_bind, hr, Result.andThen_ok, Sem.run_pure, Oper.upon_value]
    exact hK _ _ h
/-- Bytes copied into the room at an array's end. -/
theorem wpList_copyn (hgd : op.guard = none) (x y : Operand) (ho : op.op = .call { callee := .builtin .copy, args := #[x, y], argTypes := #[22, 22] }) (g off g2 o2 n cap : Nat) (d : List (BitVec 8)) (hd : d.length = n)
    (hx : a.eval x = .slice (some ⟨g, off, none⟩) n n) (hy : a.eval y = .slice (some ⟨g2, o2, none⟩) n cap) (hr : w.rangeAt g2 o2 (vB d)) (ht : w.there g off n)
    (h : ∀ X, X = w.setCells g off (vB d) → wpList Try.prog ops Q rest (a.put op.dst (goInt n)) X) : wpList Try.prog ops Q (op :: rest) a w := by
  have hl : (vB d).length = n := by rw [vB_length, hd]
  obtain ⟨dst, op', ty, pos, after, guard⟩ := op
  simp only at hgd ho
  subst hgd; subst ho
  refine wpList_copy 5 g off n n ⟨g2, o2, none⟩ n cap (vB d) hx hy Try.underlying22 info_u8 (by rw [hl]; exact (Nat.min_self n).symm) (fun j v hj => by rw [Addr.add_mid]; exact hr j v hj) (by rw [hl]; exact ht) (vB_one d) ?_
  rw [hl]
  exact h _ rfl
end
/-- The number of some bytes, the highest first. -/
def zb (b : List (BitVec 8)) : List Nat := List.replicate (32 - b.length) 0 ++ b.map (fun x => x.toNat)
def nb (b : List (BitVec 8)) : Nat := rdn (zb b)
theorem zeros_app (b : List (BitVec 8)) (k : Nat) : vB (List.replicate k 0#8 ++ b) = vU (List.replicate k 0 ++ b.map (fun x => x.toNat)) := by
  unfold vB vU
  rw [List.map_append, List.map_append, List.map_replicate, List.map_replicate, List.map_map]
  rfl
theorem nb_row (g : Nat) (b : List (BitVec 8)) (w : World) (n k : Nat) (hn : b.length = n) (hk : k + n = 32) (h : Row w g z32 117) : Row (w.setCells g k (vB b)) g (vU (zb b)) 117 := by
  have q := Row.setCells k (vB b) h (by rw [vB_length, vB_length, List.length_replicate]; omega)
  unfold zb
  rw [← zeros_app]
  have e : (z32.take k ++ vB b ++ z32.drop (k + (vB b).length)) = vB (List.replicate (32 - b.length) 0#8 ++ b) := by
    rw [List.drop_of_length_le (by rw [vB_length, vB_length, List.length_replicate]; omega), List.append_nil]
    unfold z32 vB
    rw [List.map_append, ← List.map_take, List.take_replicate, Nat.min_eq_left (by omega), show 32 - b.length = k by omega]
  rw [e] at q
  exact q
theorem by_row {W : World} {N : Nat} {l : List Nat} {t : TypeId} (r : Row W N (vU l) t) : By W (some ⟨N, 0, none⟩) l := fun i hi =>
  ⟨N, 0, rfl, by rw [Nat.zero_add]; exact r.cell i _ (vU_get l i hi), Row.lt r⟩
theorem zb_len {b : List (BitVec 8)} (h : b.length ≤ 32) : (zb b).length = 32 := by
  unfold zb
  rw [List.length_append, List.length_replicate, List.length_map]; omega
theorem zb_lt {b : List (BitVec 8)} : ∀ x ∈ zb b, x < 256 := fun x hx => by
  unfold zb at hx
  rcases List.mem_append.1 hx with q | q
  · rw [(List.mem_replicate.1 q).2]; decide
  · obtain ⟨y, _, rfl⟩ := List.mem_map.1 q; exact y.isLt
theorem read_z (b : List (BitVec 8)) (h : b.length ≤ 32) (g cap : Nat) (w : World) (hr : By w (some ⟨g, 0, none⟩) (zb b)) : Calls Try.prog 76 #[.slice (some ⟨g, 0, none⟩) 32 cap] w fun e w' => e = .returned (.tuple #[.agg (wq (nb b)).toArray, .int .i64 0]) ∧ Below w.heap.size w w' := by
  have q := read_by _ zb_lt (some ⟨g, 0, none⟩) cap w hr
  unfold rdR rdE at q
  rw [if_pos (zb_len h), if_pos (zb_len h), zb_len h] at q
  exact q
theorem info_W : (Try.prog.info? 27).map (·.size) = some 4 := by kernel_rfl
theorem info_Wq (a : Nat) : (Try.prog.info? 27).map (·.size) = some (wq a).length := by rw [wq_len]; exact info_W
set_option maxRecDepth 100000 in
set_option maxHeartbeats 4000000 in
theorem numberOf_any (g o n cap : Nat) (b : List (BitVec 8)) (hb : b.length = n) (h1 : 1 ≤ n) (h32 : n ≤ 32) (w : World) (hr : w.rangeAt g o (vB b)) : Calls Try.prog 61 #[.slice (some ⟨g, o, none⟩) n cap] w fun e w' => e = .returned (.agg (wq (nb b)).toArray) ∧ Below w.heap.size w w' := by
  have HR : Hid (w.rangeAt g o (vB b)) := hr
  have HB : Hid (b.length = n) := hb
  obtain ⟨L, hL⟩ : ∃ L, L = wq (nb b) := ⟨_, rfl⟩
  have HL : Hid (L = wq (nb b)) := hL
  clear hr hb hL
  go_enter Try.func61, Try.ntmps61
  go_upto_region 2 with (first
    | (refine wpList_allocW rfl rfl ?_; intro X1 q1 q2 q3; have R1 : Hid (Row X1 w.heap.size zW 27) := q1; have B1 : Hid (Below w.heap.size w X1) := q2; have S1 : Hid (X1.heap.size = w.heap.size + 1) := q3; clear q1 q2 q3; simp only [Act.put, List.setIfInBounds_toArray, List.set_cons_zero, List.set_cons_succ])
    | (refine wpList_allocB rfl rfl ?_; intro X2 q1 q2 q3; have R2 : Hid (Row X2 X1.heap.size z32 117) := q1; have B2 : Hid (Below X1.heap.size X1 X2) := q2; clear q1 q2 q3; simp only [Act.put, List.setIfInBounds_toArray, List.set_cons_zero, List.set_cons_succ]))
  obtain ⟨g3, hg3⟩ : ∃ g3, g3 = X1.heap.size := ⟨_, rfl⟩
  obtain ⟨g2, hg2⟩ : ∃ g2, g2 = w.heap.size := ⟨_, rfl⟩
  have HG3 : Hid (g3 = g2 + 1) := by show _ = _; rw [hg3, hg2]; exact S1.out
  have HG2 : Hid (g2 = w.heap.size) := hg2
  rw [← hg3] at R2 B2
  rw [← hg2] at R1
  rw [← hg2, ← hg3]
  replace R1 : Hid (Row X2 g2 zW 27) := Row.below R1.out B2.out (by rw [HG3.out]; omega)
  replace B1 : Hid (Below w.heap.size w X2) := B1.out.trans (B2.out.mono (by rw [HG3.out, HG2.out]; omega))
  clear hg3 hg2 B2 S1
  obtain ⟨k, hk⟩ : ∃ k, k + n = 32 := ⟨32 - n, by omega⟩
  go_upto_region 3 with (first
    | (refine wpList_slice_arr rfl 117 (.tmp 3) (.tmp 8) rfl 5 32 g3 0 k _ rfl rfl (by omega) (by omega) Try.underlying117 info_u8 ?_; rw [show 32 - k = n by omega, Nat.zero_add]; simp only [Act.put, List.setIfInBounds_toArray, List.set_cons_zero, List.set_cons_succ])
    | (refine wpList_copyn rfl (.tmp 9) (.tmp 10) rfl g3 k g o n cap b HB.out rfl rfl (range_be HR.out B1.out) (R2.out.there k n (by rw [vB_length, List.length_replicate]; omega)) ?_; intro X3 q1; have E3 : Hid (X3 = X2.setCells g3 k (vB b)) := q1; clear q1; simp only [Act.put, List.setIfInBounds_toArray, List.set_cons_zero, List.set_cons_succ]))
  have hN : g2 ≠ g3 := by rw [HG3.out]; omega
  have R3 : Hid (Row X3 g3 (vU (zb b)) 117) := by rw [E3.out]; exact nb_row g3 b X2 n k HB.out hk R2.out
  replace R1 : Hid (Row X3 g2 zW 27) := by rw [E3.out]; exact Row.setCells_other R1.out _ _ _ hN
  replace B1 : Hid (Below w.heap.size w X3) := by rw [E3.out]; exact below_setCells B1.out (by rw [HG3.out, HG2.out]; omega) _
  have HRD : Hid _ := read_z b (by rw [HB.out]; exact h32) g3 32 X3 (by_row R3.out)
  have HI : Hid ((Try.prog.info? 27).map (·.size) = some L.length) := by show _ = _; rw [HL.out]; exact info_Wq _
  have HN4 : Hid (L.length = zW.length) := by show _ = _; rw [HL.out]; exact wq_len _
  have HO : Hid (L.toArray.all (·.oneCell') = true) := by show _ = _; rw [HL.out]; exact wq_one _
  rw [← HL.out] at HRD
  clear hN E3 R2 HR HB hk
  go_wp2_with (first
    | (refine wpList_slice_arr0 rfl 117 (.tmp 3) rfl 5 32 g3 0 rfl Try.underlying117 info_u8 ?_; simp only [Act.put, List.setIfInBounds_toArray, List.set_cons_zero, List.set_cons_succ])
    | (go_at_call 76; refine Calls.mono HRD.out ?_; rintro e X4 ⟨rfl, q2⟩; have R4 : Hid (Row X4 g2 zW 27) := Row.below R1.out q2 R1.out.lt; have B4 : Hid (Below w.heap.size w X4) := B1.out.trans (q2.mono B1.out.size); clear q2 R1 B1 R3)
    | (refine wpList_allocW rfl rfl ?_; intro X5 q1 q2 q3; have R5 : Hid (Row X5 X4.heap.size zW 27) := q1; have B5 : Hid (Below X4.heap.size X4 X5) := q2; clear q1 q2 q3; simp only [Act.put, List.setIfInBounds_toArray, List.set_cons_zero, List.set_cons_succ])
    | (refine wpList_storeL rfl 27 (.tmp 4) (.tmp 15) rfl X4.heap.size L zW 27 rfl rfl R5.out HN4.out HI.out HO.out ?_; intro X6 q1 q2; have E6 : Hid (X6 = _) := q1; have R6 : Hid (Row X6 X4.heap.size L 27) := q2; clear q1 q2; simp only [Act.put])
    | (refine wpList_load_w rfl 27 (.tmp 4) rfl X4.heap.size 0 rfl L _ R6.out.all Try.underlying27 rfl HI.out ?_; simp only [Act.put, List.setIfInBounds_toArray, List.set_cons_zero, List.set_cons_succ])
    | (refine wpList_storeL rfl 27 (.tmp 2) (.tmp 17) rfl g2 L zW 27 rfl rfl (by rw [E6.out]; exact Row.setCells_other (Row.below R4.out B5.out R4.out.lt) _ _ _ (Nat.ne_of_lt R4.out.lt)) HN4.out HI.out HO.out ?_; intro X7 q1 q2; have E7 : Hid (X7 = _) := q1; have R7 : Hid (Row X7 g2 L 27) := q2; clear q1 q2; simp only [Act.put]))
  have B7 : Below w.heap.size w X7 := by rw [E7.out, E6.out]; exact below_setCells (below_setCells (B4.out.trans (B5.out.mono B4.out.size)) B4.out.size _) (by rw [HG2.out]; exact Nat.le_refl _) _
  exact bodyPost_ret (results_rowA Try.results61 _ _ g2 27 L rfl R7.out Try.underlying27 HI.out) rfl ⟨by rw [← HL.out], B7⟩

end Go.Proofs.Ytabcglakdlkdcaa
