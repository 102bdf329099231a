/-
  The document's reader: wide numbers.
-/
import Derived.Test.YtehjadgmleoobaaXDg2
import Derived.Test.YtehjadgmleoobaaXRd3

namespace Go.Proofs.Ytehjadgmleoobaa
open Go Go.RowKit
open Sha

--MATH
/-- Part j of the number of K bytes from s on, by its first i bytes. -/
def hb (bs : List (BitVec 8)) (s K j : Nat) : Nat → Nat
  | 0 => 0
  | i + 1 => if (K - 1 - i) / 8 = j then hb bs s K j i + at8 bs (s + i) * 256 ^ ((K - 1 - i) % 8) else hb bs s K j i
theorem hb_lb (bs : List (BitVec 8)) (s K j : Nat) : ∀ i, i ≤ K → hb bs s K j i + lb bs (s + K) j (K - i) = lb bs (s + K) j K
  | 0, _ => by simp [hb]
  | i + 1, h => by
    have ih := hb_lb bs s K j i (by omega)
    have e1 : lb bs (s + K) j (K - i) = if (K - 1 - i) / 8 = j then lb bs (s + K) j (K - 1 - i) + at8 bs (s + K - 1 - (K - 1 - i)) * 256 ^ ((K - 1 - i) % 8) else lb bs (s + K) j (K - 1 - i) := by
      rw [show K - i = (K - 1 - i) + 1 by omega]
      rfl
    rw [show s + K - 1 - (K - 1 - i) = s + i by omega] at e1
    rw [e1] at ih
    simp only [hb]
    rw [show K - (i + 1) = K - 1 - i by omega]
    by_cases hj : (K - 1 - i) / 8 = j
    · rw [if_pos hj] at ih ⊢; omega
    · rw [if_neg hj] at ih ⊢; exact ih
/-- All of them: the limb. -/
theorem hb_all (bs : List (BitVec 8)) (s K j : Nat) : hb bs s K j K = lb bs (s + K) j K := by
  have h := hb_lb bs s K j K (Nat.le_refl _)
  rw [Nat.sub_self] at h
  exact h
theorem hb_64 (bs : List (BitVec 8)) (s K j i : Nat) (h : i ≤ K) : hb bs s K j i < 18446744073709551616 := by
  have h1 := hb_lb bs s K j i h
  have h2 := lb_64 bs (s + K) j K
  omega
theorem hb_dvd (bs : List (BitVec 8)) (s K j : Nat) : ∀ i n, n ≤ K - i - 8 * j → 256 ^ n ∣ hb bs s K j i
  | 0, _, _ => by simp [hb]
  | i + 1, n, h => by
    have ih := hb_dvd bs s K j i n (by omega)
    simp only [hb]
    by_cases hj : (K - 1 - i) / 8 = j
    · rw [if_pos hj]
      exact Nat.dvd_add ih (Nat.dvd_trans (Nat.pow_dvd_pow 256 (show n ≤ (K - 1 - i) % 8 by omega)) (Nat.dvd_mul_left _ _))
    · rw [if_neg hj]; exact ih
/-- Or is plus. -/
theorem hb_or (bs : List (BitVec 8)) (s K i : Nat) (h : i < K) : hb bs s K ((K - 1 - i) / 8) i ||| (at8 bs (s + i) * 2 ^ ((K - 1 - i) % 8 * 8)) = hb bs s K ((K - 1 - i) / 8) (i + 1) := by
  obtain ⟨q, hq⟩ := hb_dvd bs s K ((K - 1 - i) / 8) i ((K - 1 - i) % 8 + 1) (by omega)
  have e1 : (2 : Nat) ^ ((K - 1 - i) % 8 * 8) = 256 ^ ((K - 1 - i) % 8) := by rw [Nat.mul_comm, Nat.pow_mul]
  have e2 : (2 : Nat) ^ (((K - 1 - i) % 8 + 1) * 8) = 256 ^ ((K - 1 - i) % 8 + 1) := by rw [Nat.mul_comm, Nat.pow_mul]
  have h8 := at8_lt bs (s + i)
  have hl : at8 bs (s + i) * 2 ^ ((K - 1 - i) % 8 * 8) < 2 ^ (((K - 1 - i) % 8 + 1) * 8) := by
    rw [e1, e2, Nat.pow_succ, Nat.mul_comm]
    exact Nat.mul_lt_mul_of_pos_left h8 (Nat.pow_pos (by decide))
  have ho := Nat.shiftLeft_add_eq_or_of_lt hl q
  rw [Nat.shiftLeft_eq, e2, Nat.mul_comm q, ← hq] at ho
  simp only [hb]
  rw [if_pos trivial, ← ho, e1]
/-- The same, as the machine's or of a byte shifted. -/
theorem or_hb (bs : List (BitVec 8)) (s K i : Nat) (h : i < K) : bits BinOp.or IntKind.u64 ((hb bs s K ((K - 1 - i) / 8) i : Nat) : Int) (IntKind.u64.wrap (((at8 bs (s + i) : Nat) : Int) * 2 ^ ((K - 1 - i) % 8 * 8))) = ((hb bs s K ((K - 1 - i) / 8) (i + 1) : Nat) : Int) := by
  have h8 := at8_lt bs (s + i)
  have hp : (2 : Nat) ^ ((K - 1 - i) % 8 * 8) ≤ 2 ^ 56 := Nat.pow_le_pow_right (by decide) (by omega)
  have h56 : (2 : Nat) ^ 56 = 72057594037927936 := by decide
  have hm : at8 bs (s + i) * 2 ^ ((K - 1 - i) % 8 * 8) < 18446744073709551616 := by
    have h1 : at8 bs (s + i) * 2 ^ ((K - 1 - i) % 8 * 8) ≤ 255 * 2 ^ 56 := Nat.mul_le_mul (by omega) hp
    omega
  have ec : ((at8 bs (s + i) : Nat) : Int) * 2 ^ ((K - 1 - i) % 8 * 8) = ((at8 bs (s + i) * 2 ^ ((K - 1 - i) % 8 * 8) : Nat) : Int) := by norm_cast
  rw [ec, wrap64_nat _ hm, bits_or _ _ (hb_64 _ _ _ _ _ (by omega)) hm, hb_or bs s K i h]
theorem hb_else (bs : List (BitVec 8)) (s K j i : Nat) (h : (K - 1 - i) / 8 ≠ j) : hb bs s K j (i + 1) = hb bs s K j i := by
  simp only [hb]
  rw [if_neg h]
end Go.Proofs.Ytehjadgmleoobaa

namespace Go.Proofs.Ytehjadgmleoobaa
open Go Go.RowKit
open Sha

def qh (bs : List (BitVec 8)) (s K i : Nat) : List Value := q4 (hb bs s K 0 i) (hb bs s K 1 i) (hb bs s K 2 i) (hb bs s K 3 i)
theorem qh_get (bs : List (BitVec 8)) (s K i j : Nat) (h : j < 4) : (qh bs s K i)[j]? = some (.int .u64 ((hb bs s K j i : Nat) : Int)) := by
  rcases (show j = 0 ∨ j = 1 ∨ j = 2 ∨ j = 3 by omega) with rfl | rfl | rfl | rfl <;> rfl
theorem qh_step (bs : List (BitVec 8)) (s K i j : Nat) (hj : (K - 1 - i) / 8 = j) (h : j < 4) : (qh bs s K i).set j (.int .u64 ((hb bs s K j (i + 1) : Nat) : Int)) = qh bs s K (i + 1) := by
  rcases (show j = 0 ∨ j = 1 ∨ j = 2 ∨ j = 3 by omega) with rfl | rfl | rfl | rfl
  · unfold qh; rw [hb_else bs s K 1 i (by omega), hb_else bs s K 2 i (by omega), hb_else bs s K 3 i (by omega)]; rfl
  · unfold qh; rw [hb_else bs s K 0 i (by omega), hb_else bs s K 2 i (by omega), hb_else bs s K 3 i (by omega)]; rfl
  · unfold qh; rw [hb_else bs s K 0 i (by omega), hb_else bs s K 1 i (by omega), hb_else bs s K 3 i (by omega)]; rfl
  · unfold qh; rw [hb_else bs s K 0 i (by omega), hb_else bs s K 1 i (by omega), hb_else bs s K 2 i (by omega)]; rfl
theorem qh_one (bs : List (BitVec 8)) (s K i : Nat) : ∀ v ∈ qh bs s K i, v.oneCell' = true := q4_one _ _ _ _
theorem qh_all (bs : List (BitVec 8)) (s K : Nat) : qh bs s K K = qd bs (s + K) K := by
  unfold qh qd; rw [hb_all, hb_all, hb_all, hb_all]
theorem rr_set {W : World} {D g : Nat} {bs : List (BitVec 8)} {a : Nat} {f : Int} (h : Rr W D g bs a f) (b o : Nat) (v : Value) (h1 : D ≠ b) (h2 : g ≠ b) : Rr (W.setCell ⟨b, o, none⟩ v) D g bs a f :=
  ⟨h.row.set_other b o v h1, h.by'.set_other b o v h2, h.le, h.len⟩

set_option maxRecDepth 100000 in
set_option maxHeartbeats 2000000 in
theorem rwide_by (D g : Nat) (bs : List (BitVec 8)) (a : Nat) (f f' : Int) (hf : ¬ f' = 0) (w : World) (h : Rr w D g bs a f) (hF : ∀ W, Rr W D g bs a f → Calls Try.prog 60 #[.pointer (some ⟨D, 0, none⟩), .int .i64 32] W fun e w' => e = .returned (.slice none 0 0) ∧ Rr w' D g bs a f' ∧ Gp D W w') :
    Calls Try.prog 39 #[.pointer (some ⟨D, 0, none⟩)] w fun e w' => e = .returned (.agg q4z.toArray) ∧ Rr w' D g bs a f' ∧ Gp D w w' := by
  have b1 : Below w.heap.size w (w.alloc (Obj.cells q4z.toArray 37)) := (Below.refl _ _).alloc (Nat.le_refl _) _
  have b2 : Below w.heap.size w ((w.alloc (Obj.cells q4z.toArray 37)).alloc (Obj.cells q4z.toArray 37)) := b1.alloc b1.size (Obj.cells q4z.toArray 37)
  have r0 : Row ((w.alloc (Obj.cells q4z.toArray 37)).alloc (Obj.cells q4z.toArray 37)) w.heap.size q4z 37 := (Row.new' rfl rfl).alloc _
  have r1 : Row ((w.alloc (Obj.cells q4z.toArray 37)).alloc (Obj.cells q4z.toArray 37)) (w.heap.size + 1) q4z 37 := Row.new' (by simp) rfl
  have hD : D < w.heap.size := h.row.lt
  have hgl : g < w.heap.size := h.by'.lt
  have HF : Hid _ := hF _ (h.be b2)
  have GX : Hid (Gp D w ((w.alloc (Obj.cells q4z.toArray 37)).alloc (Obj.cells q4z.toArray 37))) := Gro.of_below b2
  have R0 : Hid _ := r0
  have R1 : Hid _ := r1
  have HDL : Hid (D < w.heap.size) := hD
  have HGL : Hid (g < w.heap.size) := hgl
  have hb : (f' == 0) = false := by simp [hf]
  clear b1 b2 r0 r1 hD hgl h hF
  go_enter Try.func39, Try.ntmps39
  go_wp2_with fail
  refine Calls.mono HF.out ?_
  rintro r V ⟨rfl, hr, hg⟩
  have s2 := hr.row.cell 2 _ rfl
  have q0 : Row V w.heap.size q4z 37 := hg.row R0.out (fun e => by have := HDL.out; omega)
  have q1 : Row V (w.heap.size + 1) q4z 37 := hg.row R1.out (fun e => by have := HDL.out; omega)
  obtain ⟨cs, hq⟩ : ∃ cs, cs = q4z := ⟨_, rfl⟩
  rw [← hq] at q0 q1
  have hcl : cs.length = 4 := by rw [hq]; rfl
  have hone : cs.toArray.all (·.oneCell') = true := by rw [hq]; exact all_oneCell_toArray (q4_one 0 0 0 0)
  replace hg := GX.out.trans hg
  have HO : Hid _ := hone
  have HI : Hid ((Try.prog.info? 37).map (·.size) = some cs.length) := by show _ = _; rw [info_q, hcl]
  have HI' : Hid ((Try.prog.info? 37).map (·.size) = some cs.toArray.size) := by show _ = _; rw [info_q, List.size_toArray, hcl]
  have HT : Hid _ := q0.there 0 cs.toArray.size (by rw [List.size_toArray, hcl]; decide)
  have NF : Hid _ := q0.over (vs := cs) (by first | rfl | (rw [hcl]; rfl))
  have HL : Hid (cs.length = 4) := hcl
  have NR : Hid (Rr _ _ _ _ _ _) := rr_sets hr w.heap.size 0 cs (by have := HDL.out; omega) (by have := HGL.out; omega)
  have NG : Hid (Gp D w _) := gro_sets hg w.heap.size 0 cs (Nat.le_refl _)
  have R7 : Hid _ := q1
  have HQ : Hid _ := hq
  clear q0 q1 hone hcl hr hg hq HF GX R0 R1
  go_wp2_with (first
    | (refine wpList_load_w rfl 37 (.tmp 3) rfl (w.heap.size + 1) 0 rfl cs _ (Row.all R7.out) Try.underlying37 rfl HI.out ?_; simp only [Act.put, List.setIfInBounds_toArray, List.set_cons_zero, List.set_cons_succ])
    | (refine wpList_store_mid rfl 37 (.tmp 2) (.tmp 14) rfl w.heap.size 0 cs.toArray rfl rfl HT.out HI'.out HO.out ?_; simp only [Act.put]; (change wpList _ _ _ _ _ (World.setCells V w.heap.size 0 cs))))
  exact bodyPost_ret (results_row Try.results39 _ _ w.heap.size 37 cs rfl NF.out Try.underlying37 info_q HL.out) rfl ⟨by rw [HQ.out], NR.out, NG.out⟩

set_option maxRecDepth 100000 in
set_option maxHeartbeats 4000000 in
theorem rwide_ok (D g : Nat) (bs : List (BitVec 8)) (a : Nat) (he : hiF 32 bs a = 0) (k : Nat) (hk : at8 bs a = k) (w : World) (h : Rr w D g bs a 0) :
    Calls Try.prog 39 #[.pointer (some ⟨D, 0, none⟩)] w fun e w' => e = .returned (.agg (qd bs (a + 1 + k) k).toArray) ∧ Rr w' D g bs (a + 1 + k) 0 ∧ Gp D w w' := by
  have b1 : Below w.heap.size w (w.alloc (Obj.cells q4z.toArray 37)) := (Below.refl _ _).alloc (Nat.le_refl _) _
  have b2 : Below w.heap.size w ((w.alloc (Obj.cells q4z.toArray 37)).alloc (Obj.cells q4z.toArray 37)) := b1.alloc b1.size (Obj.cells q4z.toArray 37)
  have r0 : Row ((w.alloc (Obj.cells q4z.toArray 37)).alloc (Obj.cells q4z.toArray 37)) w.heap.size q4z 37 := (Row.new' rfl rfl).alloc _
  have r1 : Row ((w.alloc (Obj.cells q4z.toArray 37)).alloc (Obj.cells q4z.toArray 37)) (w.heap.size + 1) q4z 37 := Row.new' (by simp) rfl
  have hD : D < w.heap.size := h.row.lt
  have hgl : g < w.heap.size := h.by'.lt
  have HF : Hid _ := rhigh_ok D g bs a 32 he k hk _ (h.be b2)
  have GX : Hid (Gp D w ((w.alloc (Obj.cells q4z.toArray 37)).alloc (Obj.cells q4z.toArray 37))) := Gro.of_below b2
  have R0 : Hid _ := r0
  have R1 : Hid _ := r1
  have HDL : Hid (D < w.heap.size) := hD
  have HGL : Hid (g < w.heap.size) := hgl
  obtain ⟨_, k32, h3, _⟩ := hiF_ok he
  rw [hk] at k32 h3
  have H3 : Hid (a + 1 + k ≤ bs.length) := h3
  clear b1 b2 r0 r1 hD hgl h he hk h3
  go_enter Try.func39, Try.ntmps39
  go_wp2_with fail
  refine Calls.mono HF.out ?_
  rintro r V ⟨A', c', rfl, hc', _, hA', hr, hg⟩
  have s2 := hr.row.cell 2 _ rfl
  have V0 : Hid (Row V w.heap.size q4z 37) := hg.row R0.out (fun e => by have := HDL.out; omega)
  have V1 : Hid (Row V (w.heap.size + 1) q4z 37) := hg.row R1.out (fun e => by have := HDL.out; omega)
  have HA : Hid (0 < k → A' = some ⟨g, a + 1, none⟩) := hA'
  have HR : Hid (Rr _ _ _ _ _ _) := hr
  have HG : Hid (Gp D w V) := GX.out.trans hg
  clear hr hg hA' HF GX R0 R1
  go_wp2
  go_loopw [5] (fun i wr => ∃ t : Nat, t ≤ k ∧ i = .int .i64 (t : Int) ∧ Rr wr D g bs (a + 1 + k) 0 ∧ Row wr w.heap.size q4z 37 ∧ Row wr (w.heap.size + 1) (qh bs (a + 1) k t) 37 ∧ Gp D w wr) (fun i _ => k - (intOf i).toNat)
  case atStart => exact ⟨0, Nat.zero_le _, rfl, HR.out, V0.out, V1.out, HG.out⟩
  case round =>
    clear HR V0 V1 HG s2
    obtain ⟨t, ht, rfl, hr, r0, r7, hg⟩ := hrel
    by_cases hlt : t < k
    · obtain rfl := HA.out (by omega)
      obtain ⟨u, hu⟩ : ∃ u : Nat, k - 1 - t = u := ⟨_, rfl⟩
      have hu' : (k : Int) - 1 - (t : Int) = (u : Int) := by omega
      have u8 : u / 8 < 4 := by omega
      have gb := hr.byte (a + 1 + t) (by have := H3.out; omega)
      have g7 := r7.cell (u / 8) _ (qh_get bs (a + 1) k t (u / 8) u8)
      have f7 := r7.thaw (u / 8)
      have q7 := r7.set (u / 8) (.int .u64 ((hb bs (a + 1) k (u / 8) (t + 1) : Nat) : Int))
      have q0 := r0.set_other (w.heap.size + 1) (u / 8) (.int .u64 ((hb bs (a + 1) k (u / 8) (t + 1) : Nat) : Int)) (by omega)
      have qr := rr_set hr (w.heap.size + 1) (u / 8) (.int .u64 ((hb bs (a + 1) k (u / 8) (t + 1) : Nat) : Int)) (by have := HDL.out; omega) (by have := HGL.out; omega)
      have qg := hg.setNew (w.heap.size + 1) (u / 8) (.int .u64 ((hb bs (a + 1) k (u / 8) (t + 1) : Nat) : Int)) (by omega)
      rw [qh_step bs (a + 1) k t (u / 8) (by rw [hu]) u8] at q7
      have EX := or_hb bs (a + 1) k t hlt
      rw [hu, Nat.mul_comm (u % 8) 8] at EX
      have B8 := at8_lt bs (a + 1 + t)
      generalize at8 bs (a + 1 + t) = x at *
      generalize hb bs (a + 1) k (u / 8) (t + 1) = y at *
      generalize hb bs (a + 1) k (u / 8) t = z at *
      have EX' : Hid _ := EX
      have Q7 : Hid _ := q7
      have Q0 : Hid _ := q0
      have QR : Hid (Rr _ _ _ _ _ _) := qr
      have QG : Hid (Gp D w _) := qg
      have HUK : Hid (u + t + 1 = k) := by show _ = _; omega
      clear q7 q0 qr qg hr r0 r7 hg EX hu
      go_wp2
      go_region
      rw [EX'.out]
      go_wp2
      exact ⟨⟨t + 1, hlt, by go_num, Rr.drewN QR.out 1, Q0.out, Q7.out, Gro.drewN QG.out 1⟩, by simp [intOf]; omega⟩
    · obtain rfl : t = k := by omega
      rw [qh_all] at r7
      generalize hq : qd bs (a + 1 + t) t = cs at *
      have hcl : cs.length = 4 := by rw [← hq]; rfl
      have hone : cs.toArray.all (·.oneCell') = true := by rw [← hq]; exact all_oneCell_toArray (qd_one _ _ _)
      have HO : Hid _ := hone
      have HI : Hid ((Try.prog.info? 37).map (·.size) = some cs.length) := by show _ = _; rw [info_q, hcl]
      have HI' : Hid ((Try.prog.info? 37).map (·.size) = some cs.toArray.size) := by show _ = _; rw [info_q, List.size_toArray, hcl]
      have HT : Hid _ := r0.there 0 cs.toArray.size (by rw [List.size_toArray, hcl]; decide)
      have NF : Hid _ := r0.over (vs := cs) (by first | rfl | (rw [hcl]; rfl))
      have HL : Hid (cs.length = 4) := hcl
      have NR : Hid (Rr _ _ _ _ _ _) := rr_sets hr w.heap.size 0 cs (by have := HDL.out; omega) (by have := HGL.out; omega)
      have NG : Hid (Gp D w _) := gro_sets hg w.heap.size 0 cs (Nat.le_refl _)
      have R7 : Hid _ := r7
      have HQ : Hid _ := hq
      clear hone hcl hr r0 r7 hg hq
      go_wp2_with (first
        | (refine wpList_load_w rfl 37 (.tmp 3) rfl (w.heap.size + 1) 0 rfl cs _ (Row.all R7.out) Try.underlying37 rfl HI.out ?_; simp only [Act.put, List.setIfInBounds_toArray, List.set_cons_zero, List.set_cons_succ])
        | (refine wpList_store_mid rfl 37 (.tmp 2) (.tmp 43) rfl w.heap.size 0 cs.toArray rfl rfl HT.out HI'.out HO.out ?_; simp only [Act.put]; (change wpList _ _ _ _ _ (World.setCells wr w.heap.size 0 cs))))
      exact bodyPost_ret (results_row Try.results39 _ _ w.heap.size 37 cs rfl NF.out Try.underlying37 info_q HL.out) rfl ⟨by rw [HQ.out], NR.out, NG.out⟩

theorem rwide_no (D g : Nat) (bs : List (BitVec 8)) (a : Nat) (f : Int) (hf : ¬ f = 0) (w : World) (h : Rr w D g bs a f) :
    Calls Try.prog 39 #[.pointer (some ⟨D, 0, none⟩)] w fun e w' => e = .returned (.agg q4z.toArray) ∧ Rr w' D g bs a f ∧ Gp D w w' :=
  rwide_by D g bs a f f hf w h fun W hW => rhigh_no D g bs a f hf 32 W hW
theorem rwide_bad (D g : Nat) (bs : List (BitVec 8)) (a : Nat) (e : Int) (he : hiF 32 bs a = e) (h0 : ¬ e = 0) (w : World) (h : Rr w D g bs a 0) :
    Calls Try.prog 39 #[.pointer (some ⟨D, 0, none⟩)] w fun r w' => r = .returned (.agg q4z.toArray) ∧ Rr w' D g bs a e ∧ Gp D w w' :=
  rwide_by D g bs a 0 e h0 w h fun W hW => rhigh_bad D g bs a 32 e he h0 W hW
end Go.Proofs.Ytehjadgmleoobaa
