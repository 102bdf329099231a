/-
  wide.Parse.
-/
import Derived.Test.YtehccmlbnfhhmaaDoorWPut
import Derived.Lib.Strings
namespace Go.Proofs.YtehccmlbnfhhmaaDoor
open Go Go.RowKit
open Wd
namespace Wd
/-- Digits behind a number. -/
def pars : List Nat → Nat → Option Nat
  | [], a => some a
  | c :: r, a => if c < 48 ∨ 57 < c then none else if 10 * a + (c - 48) < 2 ^ 256 then pars r (10 * a + (c - 48)) else none
/-- What a text says. -/
def parse (l : List Nat) : Option Nat := if l = [] ∨ (l.getD 0 0 = 48 ∧ 1 < l.length) then none else pars l 0
def ansR (o : Option Nat) : Nat := o.getD 0
def ansE (o : Option Nat) : Int := if o.isSome then 0 else 21
end Wd

/-- s has the bytes l. -/
structure StrN (s : ByteArray) (l : List Nat) : Prop where
  size : s.size = l.length
  lt : ∀ x ∈ l, x < 256
  at' : ∀ i (h : i < s.size), s[i].toNat = l.getD i 0

theorem idx_run {s : ByteArray} {l : List Nat} (hs : StrN s l) (i : Nat) (hi : i < l.length) (w : World) : (Instr.index 9 (.string s) (.int .i64 (i : Int))).run Tryd.prog w = .ok (.int .u8 ((l.getD i 0 : Nat) : Int)) w := by
  have hr := run_index_string (P := Tryd.prog) w 9 s .i64 (i : Int) Tryd.underlying9
  have hsz := hs.size
  rw [dif_pos (by omega)] at hr
  rw [hr]
  have := hs.at' i (by omega)
  simp only [Int.toNat_natCast]
  rw [← this]

theorem four (n : Nat) : dgs n 4 = [lim n 0, lim n 1, lim n 2, lim n 3] := rfl

set_option maxRecDepth 100000 in
set_option maxHeartbeats 2000000 in
theorem parse_body (s : ByteArray) (l : List Nat) (hs : StrN s l) (hn : l.length < 9223372036854775808) (hp : ¬ (l = [] ∨ (l.getD 0 0 = 48 ∧ 1 < l.length))) (w : World) :
    Calls Tryd.prog 41 #[.string s] w fun e w' => e = .returned (.tuple #[.agg (vQ (dgs (ansR (pars l 0)) 4)).toArray, .int .i64 (ansE (pars l 0))]) ∧ Below w.heap.size w w' := by
  have hsz := hs.size
  have hl1 : 1 ≤ l.length := by
    cases l with
    | nil => exact absurd (Or.inl rfl) hp
    | cons x r => simp
  have HS : Hid (StrN s l) := hs
  have hne : ¬ (l.getD 0 0 = 48 ∧ 1 < l.length) := fun h => hp (Or.inr h)
  obtain ⟨R, hR⟩ : ∃ R, R = pars l 0 := ⟨_, rfl⟩
  rw [← hR]
  have HR : Hid (pars (l.drop 0) 0 = R) := by show _ = _; rw [hR]; rfl
  have hE : s.toList.isEmpty = false := by
    rw [Lib.toList_data]
    have h1 : s.data.toList.length = s.size := rfl
    cases h2 : s.data.toList with
    | nil => rw [h2] at h1; simp at h1; omega
    | cons x r => rfl
  have hat0 : (s[0]'(by omega)).toNat = l.getD 0 0 := hs.at' 0 (by omega)
  clear hR hp hs
  generalize l.getD 0 0 = b0 at hat0 hne
  have hE1 : ((b0 : Int) == 48 && decide ((1 : Int) < (l.length : Int))) = false := by
    by_cases h1 : b0 = 48
    · have h2 : ¬ 1 < l.length := fun h => hne ⟨h1, h⟩
      simp; omega
    · have : ((b0 : Int) == 48) = false := by simpa using (by omega : ¬ (b0 : Int) = 48)
      rw [this]; rfl
  by_cases h48 : b0 = 48
  · have hlen : ¬ 1 < l.length := fun h => hne ⟨h48, h⟩
    have hl' : (l.length : Int) = 1 := by omega
    subst h48
    clear hne hE1
    go_enter Tryd.func41, Tryd.ntmps41
    go_wp2
    go_loopw [5, 6, 22] (fun _ _ i wr => ∃ (t a : Nat), t ≤ l.length ∧ i = .int .i64 (t : Int) ∧ Below w.heap.size w wr ∧ Row wr w.heap.size (vQ (List.replicate 4 0)) 24 ∧ Row wr (w.heap.size + 1) (vQ (dgs a 4)) 24 ∧ Hid (a < 2 ^ 256 ∧ pars (l.drop t) a = R))
      (fun _ _ i _ => l.length - (intOf i).toNat)
    case atStart =>
      refine ⟨0, 0, by omega, rfl, ((Below.refl _ _).alloc (Nat.le_refl _) _).alloc (by simp) _, (Row.new' rfl rfl).alloc _, by rw [zero4]; exact Row.new' (by simp) rfl, by decide, HR.out⟩
    case round =>
      obtain ⟨t, a, ht, rfl, hb, h2, h4, hN⟩ := hrel
      by_cases hlt : t < l.length
      · have hat : (s[t]'(by omega)).toNat = l.getD t 0 := HS.out.at' t (by omega)
        have hc : l.getD t 0 < 256 := by
          rw [List.getD_eq_getElem?_getD, List.getElem?_eq_getElem hlt]; exact HS.out.lt _ (List.getElem_mem _)
        have hdr : l.drop t = l.getD t 0 :: l.drop (t + 1) := by
          rw [List.drop_eq_getElem_cons hlt]; simp [hlt]
        have hun := hN.out.2
        rw [hdr] at hun
        generalize l.getD t 0 = c at hat hc hun
        have HU : Hid ((if c < 48 ∨ 57 < c then none else if 10 * a + (c - 48) < 2 ^ 256 then pars (l.drop (t + 1)) (10 * a + (c - 48)) else none) = R) := hun
        clear hun hdr
        by_cases hl : c < 48
        · have HN : Hid (R = none) := by show _ = _; rw [← HU.out, if_pos (Or.inl hl)]
          clear HU hN
          have T := h2.there 0 (vQ (List.replicate 4 0)).toArray.size (Nat.le_refl 4)
          have fin := h2.over (vs := vQ (List.replicate 4 0)) rfl
          have hbf := below_setCells hb (b := w.heap.size) (o := 0) (by omega) (vQ (List.replicate 4 0))
          clear hb
          go_wp2_with (refine wpList_store_mid rfl 24 (.tmp 2) (.tmp 35) rfl w.heap.size 0 (vQ (List.replicate 4 0)).toArray rfl rfl T info_w4 (all_oneCell_toArray (vQ_one _)) ?_; simp only [Act.put])
          exact bodyPost_ret (results_row_tmp Tryd.results41 _ _ w.heap.size 24 (vQ (List.replicate 4 0)) (.int .i64 21) rfl rfl fin Tryd.underlying24 info_w4 rfl) rfl ⟨by rw [HN.out]; rw [show ansR none = 0 from rfl, dgs_zero]; rfl, hbf⟩
        by_cases hg : 57 < c
        · have HN : Hid (R = none) := by show _ = _; rw [← HU.out, if_pos (Or.inr hg)]
          clear HU hN
          have T := h2.there 0 (vQ (List.replicate 4 0)).toArray.size (Nat.le_refl 4)
          have fin := h2.over (vs := vQ (List.replicate 4 0)) rfl
          have hbf := below_setCells hb (b := w.heap.size) (o := 0) (by omega) (vQ (List.replicate 4 0))
          clear hb
          go_wp2_with (refine wpList_store_mid rfl 24 (.tmp 2) (.tmp 35) rfl w.heap.size 0 (vQ (List.replicate 4 0)).toArray rfl rfl T info_w4 (all_oneCell_toArray (vQ_one _)) ?_; simp only [Act.put])
          exact bodyPost_ret (results_row_tmp Tryd.results41 _ _ w.heap.size 24 (vQ (List.replicate 4 0)) (.int .i64 21) rfl rfl fin Tryd.underlying24 info_w4 rfl) rfl ⟨by rw [HN.out]; rw [show ansR none = 0 from rfl, dgs_zero]; rfl, hbf⟩
        rw [if_neg (by omega)] at HU
        obtain ⟨d, hd⟩ : ∃ d, d = c - 48 := ⟨_, rfl⟩
        have hdc : ((c : Int) - 48) = (d : Int) := by omega
        have HD : Hid (d < 256) := by show d < 256; omega
        rw [← hd] at HU
        have HPD : Hid (∀ w, Calls Tryd.prog 61 #[.agg #[.int .u64 ((lim a 0 : Nat) : Int), .int .u64 ((lim a 1 : Nat) : Int), .int .u64 ((lim a 2 : Nat) : Int), .int .u64 ((lim a 3 : Nat) : Int)], .int .u8 (d : Int)] w fun e w' => e = .returned (.tuple #[.agg #[.int .u64 ((lim (10 * a + d) 0 : Nat) : Int), .int .u64 ((lim (10 * a + d) 1 : Nat) : Int), .int .u64 ((lim (10 * a + d) 2 : Nat) : Int), .int .u64 ((lim (10 * a + d) 3 : Nat) : Int)], .int .u64 (((10 * a + d) / 2 ^ 256 : Nat) : Int)]) ∧ Below w.heap.size w w') := putDigit_any a d hN.out.1 HD.out
        have c0 := h4.cell 0 _ rfl
        have c1 := h4.cell 1 _ rfl
        have c2 := h4.cell 2 _ rfl
        have c3 := h4.cell 3 _ rfl
        have hq4 := h4.lt
        have HROW : Hid (∀ w', Below wr.heap.size wr w' → Row w' (w.heap.size + 1) (vQ (dgs a 4)) 24) := fun w' k => Row.below h4 k hq4
        obtain ⟨N, hNN⟩ : ∃ N, N = 10 * a + d := ⟨_, rfl⟩
        rw [← hNN] at HPD HU
        obtain ⟨ov, hov⟩ : ∃ ov, ov = N / 2 ^ 256 := ⟨_, rfl⟩
        rw [← hov] at HPD
        have HOV : Hid (ov = N / 2 ^ 256) := hov
        clear hov
        have hwd : IntKind.u8.wrap (d : Int) = (d : Int) := by have := HD.out; rw [IntKind.wrap_u8]; omega
        clear hNN hd
        generalize lim a 0 = a0 at *
        generalize lim a 1 = a1 at *
        generalize lim a 2 = a2 at *
        generalize lim a 3 = a3 at *
        go_wp2
        go_region_law (refine step_fcall rfl 61 #[.agg #[.int .u64 ((a0 : Nat) : Int), .int .u64 ((a1 : Nat) : Int), .int .u64 ((a2 : Nat) : Int), .int .u64 ((a3 : Nat) : Int)], .int .u8 (d : Int)] (by go_simp) ((HPD.out (World.drew wr)).mono ?_); rintro e W6 ⟨rfl, hB5⟩; (have hB6 : Below wr.heap.size wr W6 := ⟨hB5.os, hB5.tape, hB5.output, hB5.size, hB5.block⟩); clear hB5; refine ⟨_, rfl, ?_⟩; (have h46 := HROW.out W6 hB6); (have m0 := h46.cell 0 _ rfl); (have m1 := h46.cell 1 _ rfl); (have m2 := h46.cell 2 _ rfl); (have m3 := h46.cell 3 _ rfl); (have k0 := h46.thaw 0); (have k1 := h46.thaw 1); (have k2 := h46.thaw 2); (have k3 := h46.thaw 3))
        all_goals
          have hb6 := hb.trans (hB6.mono hb.size)
          have h26 := Row.below h2 hB6 h2.lt
          have q2 := ((((h26.set_other (w.heap.size + 1) 0 (Value.int IntKind.u64 ((lim N 0 : Nat) : Int)) (by omega)).set_other (w.heap.size + 1) 1 (Value.int IntKind.u64 ((lim N 1 : Nat) : Int)) (by omega)).set_other (w.heap.size + 1) 2 (Value.int IntKind.u64 ((lim N 2 : Nat) : Int)) (by omega)).set_other (w.heap.size + 1) 3 (Value.int IntKind.u64 ((lim N 3 : Nat) : Int)) (by omega))
          have q4 := ((((h46.set 0 (Value.int IntKind.u64 ((lim N 0 : Nat) : Int))).set 1 (Value.int IntKind.u64 ((lim N 1 : Nat) : Int))).set 2 (Value.int IntKind.u64 ((lim N 2 : Nat) : Int))).set 3 (Value.int IntKind.u64 ((lim N 3 : Nat) : Int)))
          have qb := ((((hb6.setCell (p := ⟨w.heap.size + 1, 0, none⟩) (by simp) (Value.int IntKind.u64 ((lim N 0 : Nat) : Int))).setCell (p := ⟨w.heap.size + 1, 1, none⟩) (by simp) (Value.int IntKind.u64 ((lim N 1 : Nat) : Int))).setCell (p := ⟨w.heap.size + 1, 2, none⟩) (by simp) (Value.int IntKind.u64 ((lim N 2 : Nat) : Int))).setCell (p := ⟨w.heap.size + 1, 3, none⟩) (by simp) (Value.int IntKind.u64 ((lim N 3 : Nat) : Int)))
          have q4' : Row ((((W6.setCell ⟨w.heap.size + 1, 0, none⟩ (Value.int IntKind.u64 ((lim N 0 : Nat) : Int))).setCell ⟨w.heap.size + 1, 1, none⟩ (Value.int IntKind.u64 ((lim N 1 : Nat) : Int))).setCell ⟨w.heap.size + 1, 2, none⟩ (Value.int IntKind.u64 ((lim N 2 : Nat) : Int))).setCell ⟨w.heap.size + 1, 3, none⟩ (Value.int IntKind.u64 ((lim N 3 : Nat) : Int))) (w.heap.size + 1) (vQ (dgs N 4)) 24 := q4
          clear q4
          generalize ((((W6.setCell ⟨w.heap.size + 1, 0, none⟩ (Value.int IntKind.u64 ((lim N 0 : Nat) : Int))).setCell ⟨w.heap.size + 1, 1, none⟩ (Value.int IntKind.u64 ((lim N 1 : Nat) : Int))).setCell ⟨w.heap.size + 1, 2, none⟩ (Value.int IntKind.u64 ((lim N 2 : Nat) : Int))).setCell ⟨w.heap.size + 1, 3, none⟩ (Value.int IntKind.u64 ((lim N 3 : Nat) : Int))) = W7 at *
          clear m0 m1 m2 m3 k0 k1 k2 k3 c0 c1 c2 c3 h46 h26 h2 h4 hb hb6 HPD HROW
          by_cases ho : N < 2 ^ 256
          · have ho0 : ov = 0 := by rw [HOV.out]; omega
            subst ho0
            have HF : Hid (pars (l.drop (t + 1)) N = R) := by have := HU.out; rw [if_pos ho] at this; exact this
            clear HOV
            go_wp2
            exact ⟨⟨t + 1, N, hlt, by go_num, qb, q2, q4', ho, HF.out⟩, by simp [intOf]; omega⟩
          · have ho0 : (ov : Int) ≠ 0 := by have := HOV.out; omega
            have HN : Hid (R = none) := by have := HU.out; rw [if_neg ho] at this; exact this.symm
            have hb := qb
            have h2 := q2
            clear qb q2 q4' HOV ho
            have T := h2.there 0 (vQ (List.replicate 4 0)).toArray.size (Nat.le_refl 4)
            have fin := h2.over (vs := vQ (List.replicate 4 0)) rfl
            have hbf := below_setCells hb (b := w.heap.size) (o := 0) (by omega) (vQ (List.replicate 4 0))
            clear hb
            go_wp2_with (refine wpList_store_mid rfl 24 (.tmp 2) (.tmp 47) rfl w.heap.size 0 (vQ (List.replicate 4 0)).toArray rfl rfl T info_w4 (all_oneCell_toArray (vQ_one _)) ?_; simp only [Act.put])
            exact bodyPost_ret (results_row_tmp Tryd.results41 _ _ w.heap.size 24 (vQ (List.replicate 4 0)) (.int .i64 21) rfl rfl fin Tryd.underlying24 info_w4 rfl) rfl ⟨by rw [HN.out]; rw [show ansR none = 0 from rfl, dgs_zero]; rfl, hbf⟩
      · have et : t = l.length := by omega
        have e4 : (t : Int) = (l.length : Int) := by omega
        have HF : Hid (R = some a) := by have := hN.out.2; rw [et, List.drop_length] at this; exact this.symm
        rw [e4]
        clear et e4 ht hlt hN
        obtain ⟨cs, hcs⟩ : ∃ cs, cs = vQ (dgs a 4) := ⟨_, rfl⟩
        have hl : cs.length = 4 := by rw [hcs, vQ_length, dgs_length]
        rw [← hcs] at h4
        have i4 : (Tryd.prog.info? 24).map (·.size) = some cs.length := by rw [info_w4, hl]
        have i4' : (Tryd.prog.info? 24).map (·.size) = some cs.toArray.size := by rw [info_w4]; simp [hl]
        have hone := all_oneCell_toArray (show ∀ v ∈ cs, v.oneCell' = true by rw [hcs]; exact vQ_one _)
        have T := h2.there 0 cs.toArray.size (by simp [hl, vQ_length])
        have fin := h2.over (vs := cs) (by rw [hl]; rfl)
        have hbf := below_setCells hb (b := w.heap.size) (o := 0) (by omega) cs
        have HE : Hid (vQ (dgs a 4) = cs) := hcs.symm
        have HL : Hid (cs.length = 4) := hl
        clear hcs hl hb
        go_wp2_with (first
          | (refine wpList_load_mid rfl 24 (.tmp 4) rfl (w.heap.size + 1) 0 rfl cs _ h4.all Tryd.underlying24 rfl i4 ?_; simp only [Act.put, List.setIfInBounds_toArray, List.set_cons_zero, List.set_cons_succ])
          | (refine wpList_store_mid rfl 24 (.tmp 2) (.tmp 49) rfl w.heap.size 0 cs.toArray rfl rfl T i4' hone ?_; simp only [Act.put]))
        exact bodyPost_ret (results_row_tmp Tryd.results41 _ _ w.heap.size 24 cs (.int .i64 0) rfl rfl fin Tryd.underlying24 info_w4 HL.out) rfl ⟨by rw [HF.out, show ansR (some a) = a from rfl, HE.out]; rfl, hbf⟩
  · have h48' : ((b0 : Int) == 48) = false := by simpa using (by omega : ¬ (b0 : Int) = 48)
    clear hne hE1
    go_enter Tryd.func41, Tryd.ntmps41
    go_wp2
    go_loopw [5, 6, 22] (fun _ _ i wr => ∃ (t a : Nat), t ≤ l.length ∧ i = .int .i64 (t : Int) ∧ Below w.heap.size w wr ∧ Row wr w.heap.size (vQ (List.replicate 4 0)) 24 ∧ Row wr (w.heap.size + 1) (vQ (dgs a 4)) 24 ∧ Hid (a < 2 ^ 256 ∧ pars (l.drop t) a = R))
      (fun _ _ i _ => l.length - (intOf i).toNat)
    case atStart =>
      refine ⟨0, 0, by omega, rfl, ((Below.refl _ _).alloc (Nat.le_refl _) _).alloc (by simp) _, (Row.new' rfl rfl).alloc _, by rw [zero4]; exact Row.new' (by simp) rfl, by decide, HR.out⟩
    case round =>
      obtain ⟨t, a, ht, rfl, hb, h2, h4, hN⟩ := hrel
      by_cases hlt : t < l.length
      · have hat : (s[t]'(by omega)).toNat = l.getD t 0 := HS.out.at' t (by omega)
        have hc : l.getD t 0 < 256 := by
          rw [List.getD_eq_getElem?_getD, List.getElem?_eq_getElem hlt]; exact HS.out.lt _ (List.getElem_mem _)
        have hdr : l.drop t = l.getD t 0 :: l.drop (t + 1) := by
          rw [List.drop_eq_getElem_cons hlt]; simp [hlt]
        have hun := hN.out.2
        rw [hdr] at hun
        generalize l.getD t 0 = c at hat hc hun
        have HU : Hid ((if c < 48 ∨ 57 < c then none else if 10 * a + (c - 48) < 2 ^ 256 then pars (l.drop (t + 1)) (10 * a + (c - 48)) else none) = R) := hun
        clear hun hdr
        by_cases hl : c < 48
        · have HN : Hid (R = none) := by show _ = _; rw [← HU.out, if_pos (Or.inl hl)]
          clear HU hN
          have T := h2.there 0 (vQ (List.replicate 4 0)).toArray.size (Nat.le_refl 4)
          have fin := h2.over (vs := vQ (List.replicate 4 0)) rfl
          have hbf := below_setCells hb (b := w.heap.size) (o := 0) (by omega) (vQ (List.replicate 4 0))
          clear hb
          go_wp2_with (refine wpList_store_mid rfl 24 (.tmp 2) (.tmp 35) rfl w.heap.size 0 (vQ (List.replicate 4 0)).toArray rfl rfl T info_w4 (all_oneCell_toArray (vQ_one _)) ?_; simp only [Act.put])
          exact bodyPost_ret (results_row_tmp Tryd.results41 _ _ w.heap.size 24 (vQ (List.replicate 4 0)) (.int .i64 21) rfl rfl fin Tryd.underlying24 info_w4 rfl) rfl ⟨by rw [HN.out]; rw [show ansR none = 0 from rfl, dgs_zero]; rfl, hbf⟩
        by_cases hg : 57 < c
        · have HN : Hid (R = none) := by show _ = _; rw [← HU.out, if_pos (Or.inr hg)]
          clear HU hN
          have T := h2.there 0 (vQ (List.replicate 4 0)).toArray.size (Nat.le_refl 4)
          have fin := h2.over (vs := vQ (List.replicate 4 0)) rfl
          have hbf := below_setCells hb (b := w.heap.size) (o := 0) (by omega) (vQ (List.replicate 4 0))
          clear hb
          go_wp2_with (refine wpList_store_mid rfl 24 (.tmp 2) (.tmp 35) rfl w.heap.size 0 (vQ (List.replicate 4 0)).toArray rfl rfl T info_w4 (all_oneCell_toArray (vQ_one _)) ?_; simp only [Act.put])
          exact bodyPost_ret (results_row_tmp Tryd.results41 _ _ w.heap.size 24 (vQ (List.replicate 4 0)) (.int .i64 21) rfl rfl fin Tryd.underlying24 info_w4 rfl) rfl ⟨by rw [HN.out]; rw [show ansR none = 0 from rfl, dgs_zero]; rfl, hbf⟩
        rw [if_neg (by omega)] at HU
        obtain ⟨d, hd⟩ : ∃ d, d = c - 48 := ⟨_, rfl⟩
        have hdc : ((c : Int) - 48) = (d : Int) := by omega
        have HD : Hid (d < 256) := by show d < 256; omega
        rw [← hd] at HU
        have HPD : Hid (∀ w, Calls Tryd.prog 61 #[.agg #[.int .u64 ((lim a 0 : Nat) : Int), .int .u64 ((lim a 1 : Nat) : Int), .int .u64 ((lim a 2 : Nat) : Int), .int .u64 ((lim a 3 : Nat) : Int)], .int .u8 (d : Int)] w fun e w' => e = .returned (.tuple #[.agg #[.int .u64 ((lim (10 * a + d) 0 : Nat) : Int), .int .u64 ((lim (10 * a + d) 1 : Nat) : Int), .int .u64 ((lim (10 * a + d) 2 : Nat) : Int), .int .u64 ((lim (10 * a + d) 3 : Nat) : Int)], .int .u64 (((10 * a + d) / 2 ^ 256 : Nat) : Int)]) ∧ Below w.heap.size w w') := putDigit_any a d hN.out.1 HD.out
        have c0 := h4.cell 0 _ rfl
        have c1 := h4.cell 1 _ rfl
        have c2 := h4.cell 2 _ rfl
        have c3 := h4.cell 3 _ rfl
        have hq4 := h4.lt
        have HROW : Hid (∀ w', Below wr.heap.size wr w' → Row w' (w.heap.size + 1) (vQ (dgs a 4)) 24) := fun w' k => Row.below h4 k hq4
        obtain ⟨N, hNN⟩ : ∃ N, N = 10 * a + d := ⟨_, rfl⟩
        rw [← hNN] at HPD HU
        obtain ⟨ov, hov⟩ : ∃ ov, ov = N / 2 ^ 256 := ⟨_, rfl⟩
        rw [← hov] at HPD
        have HOV : Hid (ov = N / 2 ^ 256) := hov
        clear hov
        have hwd : IntKind.u8.wrap (d : Int) = (d : Int) := by have := HD.out; rw [IntKind.wrap_u8]; omega
        clear hNN hd
        generalize lim a 0 = a0 at *
        generalize lim a 1 = a1 at *
        generalize lim a 2 = a2 at *
        generalize lim a 3 = a3 at *
        go_wp2
        go_region_law (refine step_fcall rfl 61 #[.agg #[.int .u64 ((a0 : Nat) : Int), .int .u64 ((a1 : Nat) : Int), .int .u64 ((a2 : Nat) : Int), .int .u64 ((a3 : Nat) : Int)], .int .u8 (d : Int)] (by go_simp) ((HPD.out (World.drew wr)).mono ?_); rintro e W6 ⟨rfl, hB5⟩; (have hB6 : Below wr.heap.size wr W6 := ⟨hB5.os, hB5.tape, hB5.output, hB5.size, hB5.block⟩); clear hB5; refine ⟨_, rfl, ?_⟩; (have h46 := HROW.out W6 hB6); (have m0 := h46.cell 0 _ rfl); (have m1 := h46.cell 1 _ rfl); (have m2 := h46.cell 2 _ rfl); (have m3 := h46.cell 3 _ rfl); (have k0 := h46.thaw 0); (have k1 := h46.thaw 1); (have k2 := h46.thaw 2); (have k3 := h46.thaw 3))
        all_goals
          have hb6 := hb.trans (hB6.mono hb.size)
          have h26 := Row.below h2 hB6 h2.lt
          have q2 := ((((h26.set_other (w.heap.size + 1) 0 (Value.int IntKind.u64 ((lim N 0 : Nat) : Int)) (by omega)).set_other (w.heap.size + 1) 1 (Value.int IntKind.u64 ((lim N 1 : Nat) : Int)) (by omega)).set_other (w.heap.size + 1) 2 (Value.int IntKind.u64 ((lim N 2 : Nat) : Int)) (by omega)).set_other (w.heap.size + 1) 3 (Value.int IntKind.u64 ((lim N 3 : Nat) : Int)) (by omega))
          have q4 := ((((h46.set 0 (Value.int IntKind.u64 ((lim N 0 : Nat) : Int))).set 1 (Value.int IntKind.u64 ((lim N 1 : Nat) : Int))).set 2 (Value.int IntKind.u64 ((lim N 2 : Nat) : Int))).set 3 (Value.int IntKind.u64 ((lim N 3 : Nat) : Int)))
          have qb := ((((hb6.setCell (p := ⟨w.heap.size + 1, 0, none⟩) (by simp) (Value.int IntKind.u64 ((lim N 0 : Nat) : Int))).setCell (p := ⟨w.heap.size + 1, 1, none⟩) (by simp) (Value.int IntKind.u64 ((lim N 1 : Nat) : Int))).setCell (p := ⟨w.heap.size + 1, 2, none⟩) (by simp) (Value.int IntKind.u64 ((lim N 2 : Nat) : Int))).setCell (p := ⟨w.heap.size + 1, 3, none⟩) (by simp) (Value.int IntKind.u64 ((lim N 3 : Nat) : Int)))
          have q4' : Row ((((W6.setCell ⟨w.heap.size + 1, 0, none⟩ (Value.int IntKind.u64 ((lim N 0 : Nat) : Int))).setCell ⟨w.heap.size + 1, 1, none⟩ (Value.int IntKind.u64 ((lim N 1 : Nat) : Int))).setCell ⟨w.heap.size + 1, 2, none⟩ (Value.int IntKind.u64 ((lim N 2 : Nat) : Int))).setCell ⟨w.heap.size + 1, 3, none⟩ (Value.int IntKind.u64 ((lim N 3 : Nat) : Int))) (w.heap.size + 1) (vQ (dgs N 4)) 24 := q4
          clear q4
          generalize ((((W6.setCell ⟨w.heap.size + 1, 0, none⟩ (Value.int IntKind.u64 ((lim N 0 : Nat) : Int))).setCell ⟨w.heap.size + 1, 1, none⟩ (Value.int IntKind.u64 ((lim N 1 : Nat) : Int))).setCell ⟨w.heap.size + 1, 2, none⟩ (Value.int IntKind.u64 ((lim N 2 : Nat) : Int))).setCell ⟨w.heap.size + 1, 3, none⟩ (Value.int IntKind.u64 ((lim N 3 : Nat) : Int))) = W7 at *
          clear m0 m1 m2 m3 k0 k1 k2 k3 c0 c1 c2 c3 h46 h26 h2 h4 hb hb6 HPD HROW
          by_cases ho : N < 2 ^ 256
          · have ho0 : ov = 0 := by rw [HOV.out]; omega
            subst ho0
            have HF : Hid (pars (l.drop (t + 1)) N = R) := by have := HU.out; rw [if_pos ho] at this; exact this
            clear HOV
            go_wp2
            exact ⟨⟨t + 1, N, hlt, by go_num, qb, q2, q4', ho, HF.out⟩, by simp [intOf]; omega⟩
          · have ho0 : (ov : Int) ≠ 0 := by have := HOV.out; omega
            have HN : Hid (R = none) := by have := HU.out; rw [if_neg ho] at this; exact this.symm
            have hb := qb
            have h2 := q2
            clear qb q2 q4' HOV ho
            have T := h2.there 0 (vQ (List.replicate 4 0)).toArray.size (Nat.le_refl 4)
            have fin := h2.over (vs := vQ (List.replicate 4 0)) rfl
            have hbf := below_setCells hb (b := w.heap.size) (o := 0) (by omega) (vQ (List.replicate 4 0))
            clear hb
            go_wp2_with (refine wpList_store_mid rfl 24 (.tmp 2) (.tmp 47) rfl w.heap.size 0 (vQ (List.replicate 4 0)).toArray rfl rfl T info_w4 (all_oneCell_toArray (vQ_one _)) ?_; simp only [Act.put])
            exact bodyPost_ret (results_row_tmp Tryd.results41 _ _ w.heap.size 24 (vQ (List.replicate 4 0)) (.int .i64 21) rfl rfl fin Tryd.underlying24 info_w4 rfl) rfl ⟨by rw [HN.out]; rw [show ansR none = 0 from rfl, dgs_zero]; rfl, hbf⟩
      · have et : t = l.length := by omega
        have e4 : (t : Int) = (l.length : Int) := by omega
        have HF : Hid (R = some a) := by have := hN.out.2; rw [et, List.drop_length] at this; exact this.symm
        rw [e4]
        clear et e4 ht hlt hN
        obtain ⟨cs, hcs⟩ : ∃ cs, cs = vQ (dgs a 4) := ⟨_, rfl⟩
        have hl : cs.length = 4 := by rw [hcs, vQ_length, dgs_length]
        rw [← hcs] at h4
        have i4 : (Tryd.prog.info? 24).map (·.size) = some cs.length := by rw [info_w4, hl]
        have i4' : (Tryd.prog.info? 24).map (·.size) = some cs.toArray.size := by rw [info_w4]; simp [hl]
        have hone := all_oneCell_toArray (show ∀ v ∈ cs, v.oneCell' = true by rw [hcs]; exact vQ_one _)
        have T := h2.there 0 cs.toArray.size (by simp [hl, vQ_length])
        have fin := h2.over (vs := cs) (by rw [hl]; rfl)
        have hbf := below_setCells hb (b := w.heap.size) (o := 0) (by omega) cs
        have HE : Hid (vQ (dgs a 4) = cs) := hcs.symm
        have HL : Hid (cs.length = 4) := hl
        clear hcs hl hb
        go_wp2_with (first
          | (refine wpList_load_mid rfl 24 (.tmp 4) rfl (w.heap.size + 1) 0 rfl cs _ h4.all Tryd.underlying24 rfl i4 ?_; simp only [Act.put, List.setIfInBounds_toArray, List.set_cons_zero, List.set_cons_succ])
          | (refine wpList_store_mid rfl 24 (.tmp 2) (.tmp 49) rfl w.heap.size 0 cs.toArray rfl rfl T i4' hone ?_; simp only [Act.put]))
        exact bodyPost_ret (results_row_tmp Tryd.results41 _ _ w.heap.size 24 cs (.int .i64 0) rfl rfl fin Tryd.underlying24 info_w4 HL.out) rfl ⟨by rw [HF.out, show ansR (some a) = a from rfl, HE.out]; rfl, hbf⟩

set_option maxRecDepth 100000 in
set_option maxHeartbeats 2000000 in
theorem parse_bad (s : ByteArray) (l : List Nat) (hs : StrN s l) (hn : l.length < 9223372036854775808) (hp : l = [] ∨ (l.getD 0 0 = 48 ∧ 1 < l.length)) (w : World) :
    Calls Tryd.prog 41 #[.string s] w fun e w' => e = .returned (.tuple #[.agg (vQ (List.replicate 4 0)).toArray, .int .i64 21]) ∧ Below w.heap.size w w' := by
  have hsz := hs.size
  have r2 : Row (w.alloc (Obj.cells (vQ (List.replicate 4 0)).toArray 24)) w.heap.size (vQ (List.replicate 4 0)) 24 := Row.new _ _ _
  have hb : Below w.heap.size w (w.alloc (Obj.cells (vQ (List.replicate 4 0)).toArray 24)) := (Below.refl _ _).alloc (Nat.le_refl _) _
  have e1 : s.data.toList.length = s.size := rfl
  rcases hp with hp | ⟨h48, h1⟩
  · have hE : s.toList.isEmpty = true := by
      rw [Lib.toList_data]
      rw [hp] at hsz
      cases h2 : s.data.toList with
      | nil => rfl
      | cons x r => rw [h2, List.length_cons] at e1; rw [List.length_nil] at hsz; omega
    clear hs hsz e1 hp hn
    go_enter Tryd.func41, Tryd.ntmps41
    go_wp2
    exact bodyPost_ret (results_row_tmp Tryd.results41 _ _ w.heap.size 24 (vQ (List.replicate 4 0)) (.int .i64 21) rfl rfl r2 Tryd.underlying24 info_w4 rfl) rfl ⟨rfl, hb⟩
  · have hE : s.toList.isEmpty = false := by
      rw [Lib.toList_data]
      cases h2 : s.data.toList with
      | nil => rw [h2] at e1; simp at e1; omega
      | cons x r => rfl
    have hat0 : (s[0]'(by omega)).toNat = 48 := (hs.at' 0 (by omega)).trans h48
    clear hs h48
    go_enter Tryd.func41, Tryd.ntmps41
    go_wp2
    exact bodyPost_ret (results_row_tmp Tryd.results41 _ _ w.heap.size 24 (vQ (List.replicate 4 0)) (.int .i64 21) rfl rfl r2 Tryd.underlying24 info_w4 rfl) rfl ⟨rfl, hb⟩

theorem parse_any (s : ByteArray) (l : List Nat) (hs : StrN s l) (hn : l.length < 9223372036854775808) (w : World) :
    Calls Tryd.prog 41 #[.string s] w fun e w' => e = .returned (.tuple #[.agg (vQ (dgs (ansR (parse l)) 4)).toArray, .int .i64 (ansE (parse l))]) ∧ Below w.heap.size w w' := by
  by_cases hp : l = [] ∨ (l.getD 0 0 = 48 ∧ 1 < l.length)
  · have e : parse l = none := if_pos hp
    rw [e, show ansR none = 0 from rfl, dgs_zero]
    exact parse_bad s l hs hn hp w
  · have e : parse l = pars l 0 := if_neg hp
    rw [e]
    exact parse_body s l hs hn hp w

end Go.Proofs.YtehccmlbnfhhmaaDoor
