/-
  == of two wide numbers; wide.IsZero.
-/
import Derived.Test.YtclbiophgnkggaaGreatDoorWMul0
import Derived.Laws.StructEq
import Derived.Stop.BytesEq

namespace Go.Proofs.YtclbiophgnkggaaGreatDoor
open Go Go.RowKit
open Wd
namespace Wd

theorem num_set : ∀ (l : List Nat) (k v : Nat), k < l.length → num (l.set k v) + l.getD k 0 * 18446744073709551616 ^ k = num l + v * 18446744073709551616 ^ k
  | [], k, v, h => by simp at h
  | x :: r, 0, v, _ => by simp [num]; omega
  | x :: r, k + 1, v, h => by
    have ih := num_set r k v (by simpa using h)
    simp only [List.set_cons_succ, num, List.getD_cons_succ, Nat.pow_succ]
    generalize num (r.set k v) = A at *
    generalize num r = C at *
    generalize r.getD k 0 = p at *
    generalize 18446744073709551616 ^ k = q at *
    grind
/-- Eight parts, those from t on noughts. -/
structure Pt (l : List Nat) (t : Nat) : Prop where
  len : l.length = 8
  lt : ∀ x ∈ l, x < 18446744073709551616
  top : ∀ k, t ≤ k → l.getD k 0 = 0
theorem mod_more (a t : Nat) : a % 18446744073709551616 ^ (t + 1) = a % 18446744073709551616 ^ t + lim a t * 18446744073709551616 ^ t := by
  unfold lim
  rw [show 2 ^ (64 * t) = 18446744073709551616 ^ t by rw [Nat.pow_mul], Nat.pow_succ, Nat.mod_mul]
  rw [Nat.mul_comm]
theorem mem_set_lt (l : List Nat) (k v : Nat) (h : ∀ x ∈ l, x < 18446744073709551616) (hv : v < 18446744073709551616) : ∀ x ∈ l.set k v, x < 18446744073709551616 := by
  intro x hx
  rcases List.mem_or_eq_of_mem_set hx with h1 | h1
  · exact h x h1
  · omega
theorem Pt.set {l : List Nat} {t : Nat} (h : Pt l t) (k v : Nat) (hk : k < t) (hv : v < 18446744073709551616) : Pt (l.set k v) t :=
  ⟨by rw [List.length_set]; exact h.len, mem_set_lt l k v h.lt hv, fun j hj => by
    rw [List.getD_eq_getElem?_getD, List.getElem?_set_ne (by omega), ← List.getD_eq_getElem?_getD]; exact h.top j hj⟩
theorem getD_lt (l : List Nat) (k : Nat) (h : ∀ x ∈ l, x < 18446744073709551616) : l.getD k 0 < 18446744073709551616 := by
  by_cases hk : k < l.length
  · rw [List.getD_eq_getElem?_getD, List.getElem?_eq_getElem hk]; exact h _ (List.getElem_mem _)
  · rw [List.getD_eq_getElem?_getD, List.getElem?_eq_none (by omega)]; decide

/-- One product more. -/
theorem times_step (l : List Nat) (c x y S k : Nat) (hl : k < l.length) (hlt : ∀ x ∈ l, x < 18446744073709551616) (hx : x < 18446744073709551616) (hy : y < 18446744073709551616) (hc : c < 18446744073709551616) (hS : num l + c * 18446744073709551616 ^ k = S) :
    (x * y + c) / 18446744073709551616 + (l.getD k 0 + (x * y + c) % 18446744073709551616) / 18446744073709551616 < 18446744073709551616 ∧
    num (l.set k ((l.getD k 0 + (x * y + c) % 18446744073709551616) % 18446744073709551616)) + ((x * y + c) / 18446744073709551616 + (l.getD k 0 + (x * y + c) % 18446744073709551616) / 18446744073709551616) * 18446744073709551616 ^ (k + 1) = S + x * y * 18446744073709551616 ^ k := by
  have hp := getD_lt l k hlt
  have hm : x * y ≤ 18446744073709551615 * 18446744073709551615 := Nat.mul_le_mul (by omega) (by omega)
  have hs := num_set l k ((l.getD k 0 + (x * y + c) % 18446744073709551616) % 18446744073709551616) hl
  generalize l.getD k 0 = p at *
  generalize hm' : x * y = m at *
  obtain ⟨hi, hhi⟩ : ∃ hi, hi = (m + c) / 18446744073709551616 := ⟨_, rfl⟩
  obtain ⟨lo, hlo⟩ : ∃ lo, lo = (m + c) % 18446744073709551616 := ⟨_, rfl⟩
  obtain ⟨ov, hov⟩ : ∃ ov, ov = (p + (m + c) % 18446744073709551616) / 18446744073709551616 := ⟨_, rfl⟩
  obtain ⟨sm, hsm⟩ : ∃ sm, sm = (p + (m + c) % 18446744073709551616) % 18446744073709551616 := ⟨_, rfl⟩
  have e1 : hi + ov < 18446744073709551616 := by omega
  have e2 : sm + (hi + ov) * 18446744073709551616 = p + m + c := by omega
  rw [← hsm] at hs
  rw [← hhi, ← hov, ← hsm]
  refine ⟨e1, ?_⟩
  rw [Nat.pow_succ]
  generalize num (l.set k sm) = A at *
  generalize num l = C at *
  generalize 18446744073709551616 ^ k = q at *
  generalize hi + ov = h at *
  have e3 : sm * q + h * (q * 18446744073709551616) = (p + m + c) * q := by rw [← e2]; grind
  have e4 : (p + m + c) * q = p * q + m * q + c * q := by grind
  omega
theorem Pt.zero : Pt (List.replicate 8 0) 4 := ⟨rfl, fun x hx => by rw [List.eq_of_mem_replicate hx]; decide, fun k _ => by
  rw [List.getD_eq_getElem?_getD, List.getElem?_replicate]; split <;> rfl⟩
theorem Pt.more {l : List Nat} {t : Nat} (h : Pt l t) : Pt l (t + 1) := ⟨h.len, h.lt, fun k hk => h.top k (by omega)⟩
theorem num_zero8 : num (List.replicate 8 0) = 0 := by decide
end Wd

theorem info_d8 : (Tryz.prog.info? 135).map (·.size) = some 8 := by kernel_rfl

set_option maxRecDepth 100000 in
set_option maxHeartbeats 2000000 in
theorem times_any (a b : Nat) (ha : a < 2 ^ 256) (hb : b < 2 ^ 256) (w : World) :
    Calls Tryz.prog 95 #[.agg (vQ (dgs a 4)).toArray, .agg (vQ (dgs b 4)).toArray] w fun e w' => e = .returned (.agg (vQ (dgs (a * b) 8)).toArray) ∧ Below w.heap.size w w' := by
  have e4 : (18446744073709551616 : Nat) ^ 4 = 2 ^ 256 := by decide
  have HA : Hid (a % 18446744073709551616 ^ 4 = a) := by show _ = _; rw [e4]; exact Nat.mod_eq_of_lt ha
  have HB : Hid (b % 18446744073709551616 ^ 4 = b) := by show _ = _; rw [e4]; exact Nat.mod_eq_of_lt hb
  clear e4
  clear ha hb
  go_enter Tryz.func95, Tryz.ntmps95
  go_wp2
  go_loopw [6, 7, 8, 9, 10, 11, 14] (fun _ _ _ _ _ i _ wr => ∃ (t : Nat) (l : List Nat), t ≤ 4 ∧ i = .int .i64 (t : Int) ∧ Below w.heap.size w wr ∧ Row wr w.heap.size (vQ (dgs a 4)) 37 ∧ Row wr (w.heap.size + 1) (vQ (dgs b 4)) 37 ∧ Row wr (w.heap.size + 1 + 1) (vQ (List.replicate 8 0)) 135 ∧ Row wr (w.heap.size + 1 + 1 + 1) (vQ l) 135 ∧ Hid (Pt l (t + 4) ∧ num l = (a % 18446744073709551616 ^ t) * b))
    (fun _ _ _ _ _ i _ _ => 4 - (intOf i).toNat)
  case atStart =>
    refine ⟨0, List.replicate 8 0, by omega, rfl, ((((Below.refl _ _).alloc (Nat.le_refl _) _).alloc (by simp) _).alloc (by simp; omega) _).alloc (by simp; omega) _, ?_, ?_, ?_, ?_, Pt.zero, by rw [num_zero8]; simp [Nat.mod_one]⟩
    · exact (((Row.new' rfl rfl).alloc _).alloc _).alloc _
    · exact ((Row.new' (by simp) rfl).alloc _).alloc _
    · exact (Row.new' (by simp) rfl).alloc _
    · exact Row.new' (by simp) rfl
  case round =>
    obtain ⟨t, l, ht, rfl, hbl, h0, h1, h2, h5, hN⟩ := hrel
    by_cases hlt : t < 4
    · go_wp2
      go_loopw [7, 8, 9, 10, 14] (fun cv _ _ _ j w' => ∃ (s : Nat) (m : List Nat) (cc : Nat), s ≤ 4 ∧ j = .int .i64 (s : Int) ∧ cv = .int .u64 (cc : Int) ∧ Below w.heap.size w w' ∧ Row w' w.heap.size (vQ (dgs a 4)) 37 ∧ Row w' (w.heap.size + 1) (vQ (dgs b 4)) 37 ∧ Row w' (w.heap.size + 1 + 1) (vQ (List.replicate 8 0)) 135 ∧ Row w' (w.heap.size + 1 + 1 + 1) (vQ m) 135 ∧ Hid (Pt m (t + 4) ∧ cc < 18446744073709551616 ∧ num m + cc * 18446744073709551616 ^ (t + s) = (a % 18446744073709551616 ^ t) * b + lim a t * (b % 18446744073709551616 ^ s) * 18446744073709551616 ^ t))
        (fun _ _ _ _ j _ => 4 - (intOf j).toNat)
      case atStart => exact ⟨0, l, 0, by omega, rfl, rfl, hbl, h0, h1, h2, h5, hN.out.1, by decide, by rw [hN.out.2]; simp [Nat.mod_one]⟩
      case round =>
        clear hbl h0 h1 h2 h5 hN
        obtain ⟨s, m, cc, hs, rfl, rfl, hbl, h0, h1, h2, h5, hN⟩ := hrel
        by_cases hls : s < 4
        · have g0 := h0.cell t _ (vQ_get _ t (by rw [dgs_length]; exact hlt))
          have g1 := h1.cell s _ (vQ_get _ s (by rw [dgs_length]; exact hls))
          have g5 := h5.cell (t + s) _ (vQ_get m (t + s) (by rw [hN.out.1.len]; omega))
          have gf := h5.thaw (t + s)
          rw [dgs_getD _ _ _ hlt] at g0
          rw [dgs_getD _ _ _ hls] at g1
          have hst := times_step m cc (lim a t) (lim b s) _ (t + s) (by rw [hN.out.1.len]; omega) hN.out.1.lt (lim_lt _ _) (lim_lt _ _) hN.out.2.1 hN.out.2.2
          have HMA : Hid (∀ w, _) := mulAdd_any (lim a t) (lim b s) cc (lim_lt _ _) (lim_lt _ _) hN.out.2.1
          have H64 : Hid (∀ w, _) := add64_run0 (m.getD (t + s) 0) ((lim a t * lim b s + cc) % 18446744073709551616)
          have HMOD : Hid (b % 18446744073709551616 ^ (s + 1) = b % 18446744073709551616 ^ s + lim b s * 18446744073709551616 ^ s) := mod_more b s
          have hbd := hst.1
          have HSM : Hid ((m.getD (t + s) 0 + (lim a t * lim b s + cc) % 18446744073709551616) % 18446744073709551616 < 18446744073709551616) := Nat.mod_lt _ (by decide)
          have HST : Hid _ := hst.2
          clear hst
          generalize lim b s = y at *
          obtain ⟨x, hx⟩ : ∃ x, x = lim a t := ⟨_, rfl⟩
          rw [← hx] at g0 HMA H64 hbd HSM HST
          have HX : Hid (x = lim a t) := hx
          clear hx
          obtain ⟨hi, hhi⟩ : ∃ hi, hi = (x * y + cc) / 18446744073709551616 := ⟨_, rfl⟩
          obtain ⟨lo, hlo⟩ : ∃ lo, lo = (x * y + cc) % 18446744073709551616 := ⟨_, rfl⟩
          rw [← hhi, ← hlo] at HMA hbd HST
          rw [← hlo] at H64 HSM
          obtain ⟨p, hp⟩ : ∃ p, p = m.getD (t + s) 0 := ⟨_, rfl⟩
          rw [← hp] at g5 H64 hbd HSM HST
          obtain ⟨sm, hsm⟩ : ∃ sm, sm = (p + lo) % 18446744073709551616 := ⟨_, rfl⟩
          obtain ⟨ov, hov⟩ : ∃ ov, ov = (p + lo) / 18446744073709551616 := ⟨_, rfl⟩
          rw [← hsm] at H64 HSM HST
          rw [← hov] at H64 hbd HST
          clear hhi hlo hp hsm hov
          go_wp2
          go_quiet (first | (go_at_call 106; exact (HMA.out (wr.drewN _)).mono (fun _ _ h => ⟨h.1, _, h.2⟩)))
          have h64 := H64.out
          go_wp2
          refine ⟨⟨s + 1, m.set (t + s) sm, hi + ov, hls, by go_num, by rw [Int.natCast_add], Below.setCell (below_drewN hbl nq) (by simp; omega) _, (h0.drewN nq).set_other _ _ _ (by omega), (h1.drewN nq).set_other _ _ _ (by omega), (h2.drewN nq).set_other _ _ _ (by omega), ?_, hN.out.1.set (t + s) sm (by omega) HSM.out, hbd, ?_⟩, by simp [intOf]; omega⟩
          · have := (h5.drewN nq).set (t + s) (.int .u64 (sm : Int))
            rw [vQ_set] at this
            exact this
          · rw [← Nat.add_assoc t s 1, HST.out, HMOD.out, ← HX.out, Nat.pow_add]
            generalize 18446744073709551616 ^ t = q
            generalize 18446744073709551616 ^ s = r
            grind
        · have es : s = 4 := by omega
          have e4 : (s : Int) = 4 := by omega
          have hN4 := hN.out
          rw [es, HB.out] at hN4
          rw [e4]
          have g5 := h5.cell (t + 4) _ (vQ_get m (t + 4) (by rw [hN4.1.len]; omega))
          have gf := h5.thaw (t + 4)
          generalize m.getD (t + 4) 0 = z at g5
          have HN4 : Hid _ := hN4
          clear hN4 hN es e4 hs hls
          go_wp2
          have hns := num_set m (t + 4) cc (by rw [HN4.out.1.len]; omega)
          rw [HN4.out.1.top (t + 4) (Nat.le_refl _)] at hns
          refine ⟨⟨t + 1, m.set (t + 4) cc, hlt, by go_num, Below.setCell hbl (by simp; omega) _, h0.set_other _ _ _ (by omega), h1.set_other _ _ _ (by omega), h2.set_other _ _ _ (by omega), ?_, ?_, ?_⟩, by simp [intOf]; omega⟩
          · have := h5.set (t + 4) (.int .u64 (cc : Int))
            rw [vQ_set] at this
            exact this
          · rw [show t + 1 + 4 = t + 4 + 1 by omega]
            exact (HN4.out.1.more).set (t + 4) cc (by omega) HN4.out.2.1
          · have h3 := HN4.out.2.2
            rw [mod_more a t]
            generalize num (m.set (t + 4) cc) = X at *
            generalize num m = Y at *
            generalize 18446744073709551616 ^ (t + 4) = q4 at *
            generalize 18446744073709551616 ^ t = q at *
            generalize a % q = u at *
            generalize lim a t = v at *
            have e5 : (u + v * q) * b = u * b + v * b * q := by grind
            omega
    · have e4 : (t : Int) = 4 := by omega
      have et : t = 4 := by omega
      have hN4 := hN.out
      rw [et, HA.out] at hN4
      rw [e4]
      have hdg : l = dgs (a * b) 8 := by
        have := dgs_num l hN4.1.lt
        rw [hN4.1.len, hN4.2] at this
        exact this.symm
      rw [hdg] at h5
      clear hN4 hN et e4 ht hlt hdg
      obtain ⟨cs, hcs⟩ : ∃ cs, cs = vQ (dgs (a * b) 8) := ⟨_, rfl⟩
      have hl : cs.length = 8 := by rw [hcs, vQ_length, dgs_length]
      rw [← hcs] at h5
      have i8 : (Tryz.prog.info? 135).map (·.size) = some cs.length := by rw [info_d8, hl]
      have i8' : (Tryz.prog.info? 135).map (·.size) = some cs.toArray.size := by rw [info_d8]; simp [hl]
      have hone := all_oneCell_toArray (show ∀ v ∈ cs, v.oneCell' = true by rw [hcs]; exact vQ_one _)
      have T := h2.there 0 cs.toArray.size (by simp [hl, vQ_length])
      have fin := h2.over (vs := cs) (by rw [hl]; rfl)
      have hbf := below_setCells hbl (b := w.heap.size + 1 + 1) (o := 0) (by omega) cs
      have HE : Hid (vQ (dgs (a * b) 8) = cs) := hcs.symm
      have HL : Hid (cs.length = 8) := hl
      clear hcs hl hbl
      go_wp2_with (first
        | (refine wpList_load_mid rfl 135 (.tmp 5) rfl (w.heap.size + 1 + 1 + 1) 0 rfl cs _ h5.all Tryz.underlying135 rfl i8 ?_; simp only [Act.put, List.setIfInBounds_toArray, List.set_cons_zero, List.set_cons_succ])
        | (refine wpList_store_mid rfl 135 (.tmp 4) (.tmp 51) rfl (w.heap.size + 1 + 1) 0 cs.toArray rfl rfl T i8' hone ?_; simp only [Act.put]))
      exact bodyPost_ret (results_row Tryz.results95 _ _ (w.heap.size + 1 + 1) 135 cs rfl fin Tryz.underlying135 info_d8 HL.out) rfl ⟨by rw [HE.out], hbf⟩

end Go.Proofs.YtclbiophgnkggaaGreatDoor

namespace Go.Proofs.YtclbiophgnkggaaGreatDoor
open Go Go.RowKit
open Wd

theorem all_eq : ∀ (xs ys : List Nat), xs.length = ys.length → ((List.range xs.length).all fun i => decide (xs.getD i 0 = ys.getD i 0)) = decide (xs = ys)
  | [], [], _ => by simp
  | [], _ :: _, h => by simp at h
  | _ :: _, [], h => by simp at h
  | x :: xs, y :: ys, h => by
    have ih := all_eq xs ys (by simpa using h)
    rw [List.length_cons, List.range_succ_eq_map, List.all_cons, List.all_map]
    simp only [List.getD_cons_zero, Function.comp_def, List.getD_cons_succ, ih]
    by_cases e : x = y <;> simp [e]

section
variable {P : Program} (w : World)
theorem run_equalIn_vQ (d : Nat) (t e : TypeId) (n : Nat) (ht : P.underlying t = some (.array n e)) (he : P.underlying e = some (.int .u64)) (hsz : ∀ w, (sizeOf e).run P w = .ok 1 w) (xs ys : List Nat) (hx : xs.length = n) (hy : ys.length = n) :
    (Op.equalIn (d + 2) t (.agg (vQ xs).toArray) (.agg (vQ ys).toArray)).run P w = .ok (decide (xs = ys)) w := by
  rw [← all_eq xs ys (hx.trans hy.symm), hx, List.range_eq_range', Op.equalIn]
  simp only [Sem.run_bind, run_underlying ht, Result.andThen_ok, hsz, Std.Legacy.Range.forIn_eq_forIn_range', Std.Legacy.Range.size, Nat.sub_zero, Nat.add_sub_cancel, Nat.div_one]
  have hin : ∀ i ∈ List.range' 0 n 1, i < n := fun i hi => by simpa using (List.mem_range'_1.1 hi).2
  generalize List.range' 0 n 1 = js at hin ⊢
  induction js with
  | nil => simp
  | cons i js ih =>
    have hi : i < n := hin i (by simp)
    have a1 : (part e (vQ xs).toArray (i * 1)).run P w = .ok (.int .u64 ((xs.getD i 0 : Nat) : Int)) w := by
      simp [part, isAgg, run_underlying he, vQ, List.getElem?_eq_getElem (show i < xs.length by omega)]
    have a2 : (part e (vQ ys).toArray (i * 1)).run P w = .ok (.int .u64 ((ys.getD i 0 : Nat) : Int)) w := by
      simp [part, isAgg, run_underlying he, vQ, List.getElem?_eq_getElem (show i < ys.length by omega)]
    have a3 : (Op.equalIn (d + 1) e (.int .u64 ((xs.getD i 0 : Nat) : Int)) (.int .u64 ((ys.getD i 0 : Nat) : Int))).run P w = .ok (decide (xs.getD i 0 = ys.getD i 0)) w := by
      rw [run_equalIn_int w d e .u64 .u64 _ _ he]
      congr 1
      rw [Bool.eq_iff_iff]
      simp only [beq_iff_eq, decide_eq_true_eq]
      omega
    simp only [List.forIn_cons, Sem.run_bind, a1, a2, a3, Result.andThen_ok, List.all_cons]
    generalize decide (xs.getD i 0 = ys.getD i 0) = bd
    cases bd
    · simp
    · simp only [Bool.not_true, Bool.false_eq_true, if_false, Sem.run_pure, Result.andThen_ok, Bool.true_and]
      exact ih fun j hj => hin j (by simp [hj])
end

theorem size_u64 : ∀ w, (sizeOf 35).run Tryz.prog w = .ok 1 w := by
  intro w
  have h : (Tryz.prog.info? 35).map (·.size) = some 1 := by kernel_rfl
  cases hq : Tryz.prog.info? 35 with
  | none => simp [hq] at h
  | some i => have h1 : i.size = 1 := by simpa [hq] using h
              simp [sizeOf, typeInfo, hq, h1]
theorem guard_wide : Tryz.prog.eqGuardType Tryz.prog.depth 37 = false := by kernel_rfl
theorem run_eql_w (w : World) (xs ys : List Nat) (hx : xs.length = 4) (hy : ys.length = 4) : (binOp .eql 37 (.agg (vQ xs).toArray) (.agg (vQ ys).toArray)).run Tryz.prog w = .ok (.bool (decide (xs = ys))) w := by
  rw [run_eql_struct, run_equalIn_vQ w 9998 _ 35 4 Tryz.underlying37 Tryz.underlying35 size_u64 xs ys hx hy]; rfl
theorem run_neq_w (w : World) (xs ys : List Nat) (hx : xs.length = 4) (hy : ys.length = 4) : (binOp .neq 37 (.agg (vQ xs).toArray) (.agg (vQ ys).toArray)).run Tryz.prog w = .ok (.bool (!decide (xs = ys))) w := by
  rw [run_neq_struct, run_equalIn_vQ w 9998 _ 35 4 Tryz.underlying37 Tryz.underlying35 size_u64 xs ys hx hy]; rfl
theorem dgs_eq (a b : Nat) (ha : a < 2 ^ 256) (hb : b < 2 ^ 256) : dgs a 4 = dgs b 4 ↔ a = b := by
  constructor
  · intro h
    have := congrArg num h
    rw [num_dgs, num_dgs, Nat.mod_eq_of_lt (by simpa using ha), Nat.mod_eq_of_lt (by simpa using hb)] at this
    exact this
  · rintro rfl; rfl

section
variable {ops : Array Oper} {rest : List Oper} {op : Oper} {a : Act} {w : World} {Q : Exit → Act → World → Prop}
/-- == and != of two numbers of 256 bits. -/
theorem wpList_eql_wide (hw : Region.wanted op (yielded ops a.tmps) = true) (x y : Operand) (yt : TypeId) (ho : op.op = .binOp .eql 37 x y yt) (m n : Nat) (hm : m < 2 ^ 256) (hn : n < 2 ^ 256) (hx : a.eval x = .agg (vQ (dgs m 4)).toArray) (hy : a.eval y = .agg (vQ (dgs n 4)).toArray)
    (h : wpList Tryz.prog ops Q rest (a.put op.dst (.bool (decide (m = n)))) w) : wpList Tryz.prog ops Q (op :: rest) a w :=
  BigFrame.wpList_want hw fun _ hK => by
    have hr := run_eql_w w (dgs m 4) (dgs n 4) (dgs_length _ _) (dgs_length _ _)
    rw [show decide (dgs m 4 = dgs n 4) = decide (m = n) by rw [Bool.eq_iff_iff]; simp only [decide_eq_true_eq]; exact dgs_eq m n hm hn] at hr
    unfold Oper.wp execOp
    simp only [ho, hx, hy, Sem.run_bind, run_eqGuard_agg w .eql _ x y _ _ guard_wide, Result.andThen_ok, hr, Sem.run_pure, Oper.upon_value]
    exact hK _ _ h
theorem wpList_neq_wide (hw : Region.wanted op (yielded ops a.tmps) = true) (x y : Operand) (yt : TypeId) (ho : op.op = .binOp .neq 37 x y yt) (m n : Nat) (hm : m < 2 ^ 256) (hn : n < 2 ^ 256) (hx : a.eval x = .agg (vQ (dgs m 4)).toArray) (hy : a.eval y = .agg (vQ (dgs n 4)).toArray)
    (h : wpList Tryz.prog ops Q rest (a.put op.dst (.bool (!decide (m = n)))) w) : wpList Tryz.prog ops Q (op :: rest) a w :=
  BigFrame.wpList_want hw fun _ hK => by
    have hr := run_neq_w w (dgs m 4) (dgs n 4) (dgs_length _ _) (dgs_length _ _)
    rw [show decide (dgs m 4 = dgs n 4) = decide (m = n) by rw [Bool.eq_iff_iff]; simp only [decide_eq_true_eq]; exact dgs_eq m n hm hn] at hr
    unfold Oper.wp execOp
    simp only [ho, hx, hy, Sem.run_bind, run_eqGuard_agg w .neq _ x y _ _ guard_wide, Result.andThen_ok, hr, Sem.run_pure, Oper.upon_value]
    exact hK _ _ h
end

theorem zero4 : vQ (dgs 0 4) = vQ (List.replicate 4 0) := by rw [dgs_zero]

set_option maxRecDepth 100000 in
set_option maxHeartbeats 1000000 in
theorem isZero_any (n : Nat) (hn : n < 2 ^ 256) (w : World) :
    Calls Tryz.prog 75 #[.agg (vQ (dgs n 4)).toArray] w fun e w' => e = .returned (.bool (decide (n = 0))) ∧ Below w.heap.size w w' := by
  obtain ⟨cs, hcs⟩ : ∃ cs, cs = vQ (dgs n 4) := ⟨_, rfl⟩
  have hl : cs.length = 4 := by rw [hcs, vQ_length, dgs_length]
  have i4 : (Tryz.prog.info? 37).map (·.size) = some cs.length := by rw [info_w4, hl]
  have HC : Hid (cs = vQ (dgs n 4)) := hcs
  rw [← hcs]
  clear hcs hl
  have R := Row.new w cs 37
  go_enter Tryz.func75, Tryz.ntmps75
  go_wp2_with (first
    | (refine wpList_load_mid rfl 37 (.tmp 1) rfl w.heap.size 0 rfl cs _ R.all Tryz.underlying37 rfl i4 ?_; simp only [Act.put, List.setIfInBounds_toArray, List.set_cons_zero, List.set_cons_succ])
    | (refine wpList_eql_wide rfl (.tmp 3) (.tmp 4) 37 rfl n 0 hn (by decide) (by rw [← HC.out]; rfl) (by rw [zero4]; rfl) ?_; simp only [Act.put, List.setIfInBounds_toArray, List.set_cons_zero, List.set_cons_succ]))
  go_ret
  exact ⟨rfl, (Below.refl _ _).alloc (Nat.le_refl _) _⟩

end Go.Proofs.YtclbiophgnkggaaGreatDoor
