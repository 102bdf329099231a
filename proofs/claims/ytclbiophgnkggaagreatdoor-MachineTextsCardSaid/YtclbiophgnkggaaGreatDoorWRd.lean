/-
  wide.Read.
-/
import Derived.Test.YtclbiophgnkggaaGreatDoorWVU
import Derived.Test.YtclbiophgnkggaaGreatDoorWRdM
namespace Go.Proofs.YtclbiophgnkggaaGreatDoor
open Go Go.RowKit
open Wd

/-- A list of bytes, by its address. -/
def By (W : World) (A : Option Addr) (l : List Nat) : Prop := ∀ i, i < l.length → ∃ b o, A = some ⟨b, o, none⟩ ∧ W.cell? ⟨b, o + i, none⟩ = some (.int .u8 ((l.getD i 0 : Nat) : Int)) ∧ b < W.heap.size
theorem By.below {W W' : World} {A : Option Addr} {l : List Nat} (h : By W A l) (hB : Below W.heap.size W W') : By W' A l := fun i hi => by
  obtain ⟨b, o, e, h1, h2⟩ := h i hi
  exact ⟨b, o, e, (hB.cell (p := ⟨b, o + i, none⟩) h2).trans h1, Nat.lt_of_lt_of_le h2 hB.size⟩
theorem By.row {W : World} {N : Nat} {l : List Nat} (r : Row W N (vU l) 5) : By W (some ⟨N, 0, none⟩) l := fun i hi =>
  ⟨N, 0, rfl, by rw [Nat.zero_add]; exact r.cell i _ (vU_get l i hi), Row.lt r⟩

set_option maxRecDepth 100000 in
set_option maxHeartbeats 4000000 in
theorem read_by (l : List Nat) (hl : ∀ x ∈ l, x < 256) (A : Option Addr) (cap : Nat) (w : World) (h : By w A l) :
    Calls Tryz.prog 99 #[.slice A l.length cap] w fun e w' => e = .returned (.tuple #[.agg (vQ (dgs (rdR l) 4)).toArray, .int .i64 (rdE l)]) ∧ Below w.heap.size w w' := by
  by_cases h32 : l.length = 32
  · obtain ⟨b, o, rfl, _, hbw⟩ := h 0 (by omega)
    have HC : Hid (∀ W, Below w.heap.size w W → ∀ i, i < 32 → W.cell? ⟨b, o + i, none⟩ = some (.int .u8 ((l.getD i 0 : Nat) : Int))) := fun W hB i hi => by
      obtain ⟨b', o', e, h2, h3⟩ := h i (by omega)
      obtain ⟨rfl, rfl⟩ : b = b' ∧ o = o' := by simpa using e
      exact (hB.cell (p := ⟨b, o + i, none⟩) h3).trans h2
    have HR : Hid (rdR l = rdn l ∧ rdE l = 0) := ⟨if_pos h32, if_pos h32⟩
    have HBY : Hid (∀ t, t < 32 → by8 (rdn l) t = l.getD (31 - t) 0) := fun t ht => rdn_by8 hl t ht
    have HML : Hid (rdn l < 2 ^ 256) := rdn_lt hl
    have HDL : Hid (∀ i, l.getD i 0 < 256) := fun i => byte_lt hl i
    rw [h32]
    clear h h32 hl
    generalize rdn l = m at *
    go_enter Tryz.func99, Tryz.ntmps99
    go_wp2
    go_loopw [5, 12] (fun _ iv wr => ∃ t : Nat, t ≤ 32 ∧ iv = .int .i64 (t : Int) ∧ Below w.heap.size w wr ∧ Row wr w.heap.size (vQ (List.replicate 4 0)) 37 ∧ Row wr (w.heap.size + 1) (vQ (dgs (m % 2 ^ (8 * t)) 4)) 37) (fun _ iv _ => 32 - (intOf iv).toNat)
    case atStart =>
      exact ⟨0, by omega, rfl, ((Below.refl _ _).alloc (Nat.le_refl _) _).alloc (by simp) _, (Row.new' rfl rfl).alloc _, by rw [Nat.mul_zero, Nat.pow_zero, Nat.mod_one, dgs_zero]; exact Row.new' (by simp) rfl⟩
    case round =>
      obtain ⟨t, ht, rfl, hb1, n2, n4⟩ := hrel
      by_cases hlt : t < 32
      · have hq : t / 8 < 4 := by omega
        have g4 := n4.cell (t / 8) _ (vQ_get _ (t / 8) (by rw [dgs_length]; exact hq))
        rw [dgs_getD _ _ _ hq] at g4
        have gf := n4.thaw (t / 8)
        have gl := HC.out wr hb1 (31 - t) (by omega)
        obtain ⟨p1, p2, p3⟩ := put_byte m t hlt
        have hor := upl_or (lim (m % 2 ^ (8 * t)) (t / 8)) (by8 m t) (t % 8 * 8) p1 (by omega)
        rw [Nat.mod_eq_of_lt p3] at hor
        have HP : Hid _ := p2
        have hx := lim_lt (m % 2 ^ (8 * t)) (t / 8)
        have hd := by8_lt m t
        have e1 : (t : Int) / 8 = ((t / 8 : Nat) : Int) := by omega
        have e2 : (t : Int) % 8 = ((t % 8 : Nat) : Int) := by omega
        clear p2 p1
        rw [← HBY.out t hlt] at gl
        generalize lim (m % 2 ^ (8 * t)) (t / 8) = x at *
        generalize by8 m t = d at *
        obtain ⟨q, hqe⟩ : ∃ q, q = t / 8 := ⟨_, rfl⟩
        obtain ⟨r0, hr0⟩ : ∃ r0, r0 = t % 8 := ⟨_, rfl⟩
        obtain ⟨r, hre⟩ : ∃ r, r = r0 * 8 := ⟨_, rfl⟩
        obtain ⟨j, hj⟩ : ∃ j, j = 31 - t := ⟨_, rfl⟩
        rw [← hqe] at g4 gf e1 hq HP
        rw [← hr0] at e2 hor p3 HP
        rw [← hre] at hor p3 HP
        rw [← hj] at gl
        have e3 : (r0 : Int) * 8 = (r : Int) := by omega
        have e4 : (31 : Int) - (t : Int) = (j : Int) := by omega
        have lr : (r : Int) ≤ 56 := by omega
        have lr' : r < 64 := by omega
        have lj : (j : Int) < 32 := by omega
        have lj' : j < 32 := by omega
        have lq : (q : Int) < 4 := by omega
        have eB : IntKind.u64.wrap ((d : Int) * 2 ^ r) = ((d * 2 ^ r : Nat) : Int) := by rw [wrap_shl, Nat.mod_eq_of_lt p3]
        obtain ⟨y, hy⟩ : ∃ y, y = d * 2 ^ r := ⟨_, rfl⟩
        rw [← hy] at eB hor p3 HP
        have eO : bits .or .u64 (x : Int) (y : Int) = ((x + y : Nat) : Int) := by rw [bits_or_u64_nat _ _ hx p3, hor]
        obtain ⟨z, hz⟩ : ∃ z, z = x + y := ⟨_, rfl⟩
        rw [← hz] at eO HP
        have eC : IntKind.u64.wrap (d : Int) = (d : Int) := by rw [IntKind.wrap_u64]; omega
        have hdi : (d : Int) < 256 := by omega
        clear hqe hre hr0 hj hy hz hor hx p3 hd ht
        go_wp2
        go_region
        go_wp2
        refine ⟨⟨t + 1, hlt, by go_num, Below.drew (Below.setCell hb1 (by simp) _), Row.drew (n2.set_other _ _ _ (by omega)), ?_⟩, by simp [intOf]; omega⟩
        have := n4.set q (.int .u64 (z : Int))
        rw [vQ_set, HP.out] at this
        exact Row.drew this
      · have et : t = 32 := by omega
        have e4 : (t : Int) = 32 := by omega
        rw [et, show 8 * 32 = 256 from rfl, Nat.mod_eq_of_lt HML.out] at n4
        obtain ⟨cs, Hc⟩ : ∃ c, Wc c m := ⟨_, rfl⟩
        rw [← show cs = vQ (dgs m 4) from Hc] at n4
        have T := Hc.there n2 rfl
        have fin := n2.over (vs := cs) (by rw [Hc.len]; rfl)
        have hbf := below_setCells hb1 (b := w.heap.size) (o := 0) (Nat.le_refl _) cs
        rw [e4]
        clear et e4 hlt ht
        go_wp2_with (first
          | (refine wpList_load_mid rfl 37 (.tmp 4) rfl (w.heap.size + 1) 0 rfl cs _ n4.all Tryz.underlying37 rfl Hc.info ?_; simp only [Act.put, List.setIfInBounds_toArray, List.set_cons_zero, List.set_cons_succ])
          | (refine wpList_store_mid rfl 37 (.tmp 2) (.tmp 32) rfl w.heap.size 0 cs.toArray rfl rfl T Hc.info' Hc.one ?_; simp only [Act.put]))
        exact bodyPost_ret (results_row_tmp Tryz.results99 _ _ w.heap.size 37 cs (.int .i64 0) rfl rfl fin Tryz.underlying37 info_w4 Hc.len) rfl ⟨by rw [HR.out.1, HR.out.2, ← show cs = vQ (dgs m 4) from Hc], hbf⟩
  · have HR : Hid (rdR l = 0 ∧ rdE l = 20) := ⟨if_neg h32, if_neg h32⟩
    have q0 : ((l.length : Int) == 32) = false := by rw [beq_eq_false_iff_ne]; omega
    have q1 : ((l.length : Int) != 32) = true := by rw [bne_iff_ne]; omega
    have q2 : ¬ (l.length : Int) = 32 := by omega
    generalize l.length = n at *
    clear h h32 hl
    have r2 : Row (w.alloc (Obj.cells #[Value.int IntKind.u64 0, Value.int IntKind.u64 0, Value.int IntKind.u64 0, Value.int IntKind.u64 0] 37)) w.heap.size (vQ (List.replicate 4 0)) 37 := Row.new' rfl rfl
    have hb : Below w.heap.size w (w.alloc (Obj.cells #[Value.int IntKind.u64 0, Value.int IntKind.u64 0, Value.int IntKind.u64 0, Value.int IntKind.u64 0] 37)) := (Below.refl _ _).alloc (Nat.le_refl _) _
    have T := r2.there 0 (vQ (List.replicate 4 0)).toArray.size (Nat.le_refl 4)
    have fin := r2.over (vs := (vQ (List.replicate 4 0))) rfl
    have hbf := below_setCells hb (b := w.heap.size) (o := 0) (by omega) (vQ (List.replicate 4 0))
    clear r2 hb
    go_enter Tryz.func99, Tryz.ntmps99
    go_wp2_with (refine wpList_store_mid rfl 37 (.tmp 2) (.tmp 9) rfl w.heap.size 0 (vQ (List.replicate 4 0)).toArray rfl rfl T info_w4 (all_oneCell_toArray (vQ_one _)) ?_; simp only [Act.put])
    exact bodyPost_ret (results_row_tmp Tryz.results99 _ _ w.heap.size 37 (vQ (List.replicate 4 0)) (.int .i64 20) rfl rfl fin Tryz.underlying37 info_w4 rfl) rfl ⟨by rw [HR.out.1, HR.out.2, dgs_zero], hbf⟩

end Go.Proofs.YtclbiophgnkggaaGreatDoor
