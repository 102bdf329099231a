/-
  OutboxBooks: the program's Leaf, Root, Path where they refuse; Path of the first so many.
-/
import Derived.Test.YtdicgenhfmhklaaGreatDoorObD
import Derived.Test.YtdicgenhfmhklaaGreatDoorXLaw
import Derived.Test.YtdicgenhfmhklaaGreatDoorOcB
import Derived.Test.YtdicgenhfmhklaaGreatDoorTLp
import Derived.Test.YtdicgenhfmhklaaGreatDoorTAwk
import Derived.Test.YtdicgenhfmhklaaGreatDoorBkD

namespace Go.Proofs.YtdicgenhfmhklaaGreatDoor
open Go Go.RowKit
open Sha

/-- What a leaf that may be is made of. -/
structure Rwv where
  en : Int
  tk : Int
  rc : List (BitVec 8)
  am : List Nat
structure Rwv.Ok (r : Rwv) : Prop where
  e0 : -9223372036854775808 ≤ r.en
  e1 : r.en ≤ 9223372036854775807
  t0 : -9223372036854775808 ≤ r.tk
  t1 : r.tk ≤ 9223372036854775807
  rc : r.rc.length = 20
  am : r.am.length = 4
  q : ∀ x ∈ r.am, x < 18446744073709551616
def rwc (r : Rwv) : List Value := .int .i64 r.en :: .int .i64 r.tk :: (vB r.rc ++ vQ r.am)
def am9 (am : List Nat) : List Nat := if am = List.replicate 4 0 then [0, 0, 0, 9] else am
def rwl (r : Rwv) (i : Nat) : List Value := lf (i : Int) (pk r.en 1099511627776) (pk r.tk 64) r.rc (am9 r.am)
def rwt (r : Rwv) (i : Nat) : List (BitVec 8) := lfb (i : Int) (pk r.en 1099511627776) (pk r.tk 64) r.rc (am9 r.am)
theorem rwc_len {r : Rwv} (h : r.Ok) : (rwc r).length = 26 := by
  unfold rwc
  simp [vB_length, vQ_len, h.rc, h.am]
theorem am9_len {am : List Nat} (h : am.length = 4) : (am9 am).length = 4 := by
  unfold am9
  split
  · rfl
  · exact h
theorem am9_q {am : List Nat} (h : ∀ x ∈ am, x < 18446744073709551616) : ∀ x ∈ am9 am, x < 18446744073709551616 := by
  unfold am9
  split
  · decide
  · exact h
theorem am9_ne (am : List Nat) : am9 am ≠ List.replicate 4 0 := by
  unfold am9
  split
  · decide
  · assumption
theorem rw_may (r : Rwv) (i : Nat) (hi : i < 1099511627776) : may (i : Int) (pk r.en 1099511627776) (pk r.tk 64) (am9 r.am) = true := by
  have h1 := pk_range r.en 1099511627776 (by decide)
  have h2 := pk_range r.tk 64 (by decide)
  unfold may
  rw [decide_eq_true_eq]
  exact ⟨by omega, by omega, h1.1, h1.2, h2.1, h2.2, am9_ne _⟩
/-- The texts of a book that was given leaves of these. -/
def bts (rs : List Rwv) : List (List (BitVec 8)) := rs.mapIdx (fun i r => rwt r i)
theorem bts_len (rs : List Rwv) : (bts rs).length = rs.length := by simp [bts]
theorem bts_snoc (rs : List Rwv) (r : Rwv) : bts (rs ++ [r]) = bts rs ++ [rwt r rs.length] := by simp [bts, List.mapIdx_append]
theorem bts_get (rs : List Rwv) (i : Nat) : (bts rs)[i]? = (rs[i]?).map (fun r => rwt r i) := by simp [bts]
theorem bts_take (rs : List Rwv) (n : Nat) : (bts rs).take n = bts (rs.take n) := by
  apply List.ext_getElem?
  intro i
  rw [bts_get, List.getElem?_take, List.getElem?_take, bts_get]
  split <;> rfl
theorem bts_each (rs : List Rwv) (hok : ∀ r ∈ rs, r.Ok) (i : Nat) : ((bts rs).getD i []).length ≤ 153 := by
  rw [List.getD_eq_getElem?_getD, bts_get]
  cases h : rs[i]? with
  | none => simp
  | some r =>
    have hr := hok r (List.mem_of_getElem? h)
    exact lfb_len _ _ _ _ _ hr.rc
/-- A list of them in memory. -/
def Ra (w : World) (A : Option Addr) (rs : List Rwv) : Prop := ∀ i r, rs[i]? = some r → r.Ok ∧ ∃ b o, A = some ⟨b, o, none⟩ ∧ w.rangeAt b (o + i * 26) (rwc r)
theorem Ra.be {w w' : World} {A : Option Addr} {rs : List Rwv} (h : Ra w A rs) (k : Below w.heap.size w w') : Ra w' A rs := fun i r hr => by
  obtain ⟨q, b, o, q1, q2⟩ := h i r hr
  exact ⟨q, b, o, q1, range_be q2 k⟩
theorem Ra.ok {w : World} {A : Option Addr} {rs : List Rwv} (h : Ra w A rs) : ∀ r ∈ rs, r.Ok := fun r hr => by
  obtain ⟨i, hi, e⟩ := List.mem_iff_getElem.1 hr
  exact (h i r (by rw [List.getElem?_eq_getElem hi, e])).1
theorem Ra.take {w : World} {A : Option Addr} {rs : List Rwv} (h : Ra w A rs) (n : Nat) : Ra w A (rs.take n) := fun i r hr => by
  rw [List.getElem?_take] at hr
  split at hr
  · exact h i r hr
  · cases hr
theorem fm_get : ∀ (rs : List Rwv), (∀ r ∈ rs, r.Ok) → ∀ (i : Nat) (r : Rwv), rs[i]? = some r → ∀ j u, (rwc r)[j]? = some u → (rs.flatMap rwc)[i * 26 + j]? = some u
  | [], _, i, r, h, _, _, _ => by simp at h
  | s :: rs, hok, 0, r, h, j, u, hj => by
    obtain rfl : s = r := by simpa using h
    have hl := (List.getElem?_eq_some_iff.1 hj).1
    rw [List.flatMap_cons, Nat.zero_mul, Nat.zero_add, List.getElem?_append_left hl]
    exact hj
  | s :: rs, hok, i + 1, r, h, j, u, hj => by
    have ls := rwc_len (hok s (by simp))
    have q := fm_get rs (fun r hr => hok r (by simp [hr])) i r (by simpa using h) j u hj
    rw [List.flatMap_cons, List.getElem?_append_right (by omega), show (i + 1) * 26 + j - (rwc s).length = i * 26 + j by omega]
    exact q
end Go.Proofs.YtdicgenhfmhklaaGreatDoor

namespace Go.Proofs.YtdicgenhfmhklaaGreatDoor
open Go Go.RowKit
open Sha

set_option maxRecDepth 100000 in
theorem pick11 (c n : Int) (hn : 0 < n) (h1 : -9223372036854775808 ≤ c) (h2 : c ≤ 9223372036854775807) (hn2 : n ≤ 9223372036854775807) (w : World) :
    Calls Tryz.prog 14 #[.int .i64 c, .int .i64 n] w fun e w' => e = .returned (.int .i64 (pk c n)) ∧ w' = w := by
  have hn0 : ¬ n = 0 := by omega
  have hn1 : ¬ n = -1 := by omega
  have hr := pk_range c n hn
  by_cases hc : c < 0
  · have e1 : Hid (pk c n = (-(c + 1)) % n) := by show _ = _; unfold pk; rw [if_pos hc]
    have e3 : (-(c + 1)).tmod n = pk c n := by rw [e1.out]; exact Int.tmod_eq_emod_of_nonneg (by omega)
    have e4 : (-1 + -c).tmod n = pk c n := by rw [show -1 + -c = -(c + 1) by omega]; exact e3
    have e5 : (-c + -1).tmod n = pk c n := by rw [show -c + -1 = -(c + 1) by omega]; exact e3
    generalize pk c n = r at *
    go_enter Tryz.func14, Tryz.ntmps14
    go_wp2
    go_ret
    exact ⟨by first | rfl | (simp; omega), rfl⟩
  · have e1 : Hid (pk c n = c % n) := by show _ = _; unfold pk; rw [if_neg hc]
    have e3 : c.tmod n = pk c n := by rw [e1.out]; exact Int.tmod_eq_emod_of_nonneg (by omega)
    generalize pk c n = r at *
    go_enter Tryz.func14, Tryz.ntmps14
    go_wp2
    go_ret
    exact ⟨by first | rfl | (simp; omega), rfl⟩


set_option maxRecDepth 100000 in
theorem build_lf1 (ix en tk : Int) (s0 s1 s2 s3 s4 s5 s6 s7 s8 s9 s10 s11 s12 s13 s14 s15 s16 s17 s18 s19 : BitVec 8) (a0 a1 a2 a3 : Nat) (w : World) : (Instr.build 40 #[(0, .int .i64 ix), (1, .int .i64 en), (2, .int .i64 tk), (3, .agg #[.int .u8 (c s0), .int .u8 (c s1), .int .u8 (c s2), .int .u8 (c s3), .int .u8 (c s4), .int .u8 (c s5), .int .u8 (c s6), .int .u8 (c s7), .int .u8 (c s8), .int .u8 (c s9), .int .u8 (c s10), .int .u8 (c s11), .int .u8 (c s12), .int .u8 (c s13), .int .u8 (c s14), .int .u8 (c s15), .int .u8 (c s16), .int .u8 (c s17), .int .u8 (c s18), .int .u8 (c s19)]), (4, .agg #[.int .u64 (a0 : Int), .int .u64 (a1 : Int), .int .u64 (a2 : Int), .int .u64 (a3 : Int)])]).run Tryz.prog w = .ok (.agg (lf ix en tk [s0, s1, s2, s3, s4, s5, s6, s7, s8, s9, s10, s11, s12, s13, s14, s15, s16, s17, s18, s19] [a0, a1, a2, a3]).toArray) w := by
  go_simp
  rfl
theorem build_lf (ix en tk : Int) (rc : List (BitVec 8)) (am : List Nat) (h : rc.length = 20) (h4 : am.length = 4) (w : World) : (Instr.build 40 #[(0, .int .i64 ix), (1, .int .i64 en), (2, .int .i64 tk), (3, .agg (vB rc).toArray), (4, .agg (vQ am).toArray)]).run Tryz.prog w = .ok (.agg (lf ix en tk rc am).toArray) w := by
  match rc, h, am, h4 with
  | [s0, s1, s2, s3, s4, s5, s6, s7, s8, s9, s10, s11, s12, s13, s14, s15, s16, s17, s18, s19], _, [a0, a1, a2, a3], _ => exact build_lf1 ix en tk s0 s1 s2 s3 s4 s5 s6 s7 s8 s9 s10 s11 s12 s13 s14 s15 s16 s17 s18 s19 a0 a1 a2 a3 w
section
variable {o : Oper} {a : Act} {w : World} {K : Act → World → Prop} {Q : Exit → Act → World → Prop}
theorem wp_ri {x : Operand} (ho : o.op = .load 3 x) (b f : Nat) (hx : a.eval x = .pointer (some ⟨b, f, none⟩)) (n : Int) (hc : w.cell? ⟨b, f, none⟩ = some (.int .i64 n)) (h : K (a.put o.dst (.int .i64 n)) w) : Oper.wp Tryz.prog o a w K Q := by
  unfold Oper.wp execOp
  simp only [ho, hx]
  go_simp
  exact h
set_option maxRecDepth 100000 in
theorem wp_allocL (ho : o.op = .alloc 40) (h : K (a.put o.dst (.pointer (some ⟨w.heap.size, 0, none⟩))) (w.alloc (Obj.cells zLf.toArray 40))) : Oper.wp Tryz.prog o a w K Q := by
  unfold Oper.wp execOp
  simp only [ho]
  go_simp
  exact h
theorem wp_buildL {x0 x1 x2 x3 x4 : Operand} (ho : o.op = .build 40 #[(0, x0), (1, x1), (2, x2), (3, x3), (4, x4)]) (ix en tk : Int) (rc : List (BitVec 8)) (am : List Nat) (hrc : rc.length = 20) (ham : am.length = 4) (h0 : a.eval x0 = .int .i64 ix) (h1 : a.eval x1 = .int .i64 en) (h2 : a.eval x2 = .int .i64 tk) (h3 : a.eval x3 = .agg (vB rc).toArray) (h4 : a.eval x4 = .agg (vQ am).toArray) (Lz : List Value) (hL : Lz = lf ix en tk rc am) (h : K (a.put o.dst (.agg Lz.toArray)) w) : Oper.wp Tryz.prog o a w K Q := by
  subst hL
  have hb := build_lf ix en tk rc am hrc ham w
  unfold Oper.wp execOp
  simp only [ho, List.map_toArray, List.map_cons, List.map_nil, h0, h1, h2, h3, h4, Sem.run_bind, hb, Result.andThen_ok, Sem.run_pure, Oper.upon_value]
  exact h
end
section
variable {r : Rwv} {w : World} {b : Nat}
end
theorem am9_z {am : List Nat} (h : am = List.replicate 4 0) : am9 am = [0, 0, 0, 9] := by unfold am9; rw [if_pos h]
theorem am9_o {am : List Nat} (h : ¬ am = List.replicate 4 0) : am9 am = am := by unfold am9; rw [if_neg h]
theorem lf_set (ix en tk : Int) (rc : List (BitVec 8)) (h : rc.length = 20) : (lf ix en tk rc (List.replicate 4 0)).set 26 (.int .u64 9) = lf ix en tk rc [0, 0, 0, 9] := by
  match rc, h with
  | [s0, s1, s2, s3, s4, s5, s6, s7, s8, s9, s10, s11, s12, s13, s14, s15, s16, s17, s18, s19], _ => rfl
theorem info_u64s : (Tryz.prog.info? 36).map (·.size) = some 1 := by kernel_rfl
end Go.Proofs.YtdicgenhfmhklaaGreatDoor

namespace Go.Proofs.YtdicgenhfmhklaaGreatDoor
open Go Go.RowKit
open Sha

section
variable {ops : Array Oper} {rest : List Oper} {op : Oper} {a : Act} {w : World} {Q : Exit → Act → World → Prop}
theorem wpList_slice_kf (hgd : op.guard = none) (t e : TypeId) (x z : Operand) (b f n cap k s : Nat) (ho : op.op = .slice t x none (some z) none) (hx : a.eval x = .slice (some ⟨b, f, none⟩) n cap) (hz : a.eval z = .int .i64 (k : Int)) (hk : k ≤ cap)
    (hu : Tryz.prog.underlying t = some (.slice e)) (hs : (Tryz.prog.info? e).map (·.size) = some s) (h : wpList Tryz.prog ops Q rest (a.put op.dst (.slice (some ⟨b, f, none⟩) k cap)) w) : wpList Tryz.prog ops Q (op :: rest) a w :=
  wpList_plain hgd fun _ hK => by
    cases hq : Tryz.prog.info? e with
    | none => simp [hq] at hs
    | some i =>
      have hr : (Instr.sliceAt t (.slice (some ⟨b, f, none⟩) n cap) none (some (.int .i64 (k : Int))) none).run Tryz.prog w = .ok (.slice (some ⟨b, f, none⟩) k cap) w := by
        simp [Instr.sliceAt, Instr.slice, run_underlying hu, Instr.sliceBounds, Instr.sliceBound, asIntOf, sizeOf, typeInfo, hq, hk, Addr.add_mid]
      unfold Oper.wp execOp
      simp only [ho, hx, hz, Option.map_some, Option.map_none, Sem.run_bind, hr, Result.andThen_ok, Sem.run_pure, Oper.upon_value]
      exact hK _ _ h
end
/-- Put, by what the leaf is made of. -/
theorem put_rw (w0 : World) (B : Nat) (v : Value) (rs : List Rwv) (r : Rwv) (hr : r.Ok) (hl : rs.length ≤ 100000) (i : Nat) (hi : i = rs.length) (L : List Value) (hL : L = rwl r i) (w : World) (hb : Bk w0 w B v (bts rs)) :
    Calls Tryz.prog 12 #[.pointer (some ⟨B, 0, none⟩), .agg L.toArray] w fun e w' => e = .returned (.int .i64 0) ∧ ∃ v', Bk w0 w' B v' (bts (rs ++ [r])) ∧ Gro (fun g => g = B ∨ v.ownBlock = some g) w w' ∧ (v'.ownBlock = v.ownBlock ∨ ∃ g, v'.ownBlock = some g ∧ w.heap.size ≤ g) := by
  have e := bts_len rs
  have hm := rw_may r rs.length (by omega)
  rw [← e] at hm
  have q := put_in w0 B v (bts rs) (by omega) _ _ r.rc (am9 r.am) hr.rc (am9_len hr.am) (am9_q hr.q) hm L (by rw [hL, hi, ← e]; rfl) w hb
  rw [e] at q
  rw [bts_snoc]
  exact q
/-- Leaf, by what it is made of. -/
theorem leaf_rw (w0 : World) (B : Nat) (v : Value) (rs : List Rwv) (hl : rs.length ≤ 100000) (i : Nat) (r : Rwv) (hi : rs[i]? = some r) (hr : r.Ok) (L : List Value) (hL : L = rwl r i) (w : World) (hb : Bk w0 w B v (bts rs)) :
    Calls Tryz.prog 13 #[.pointer (some ⟨B, 0, none⟩), .int .i64 (i : Int)] w fun e w' => e = .returned (.tuple #[.agg L.toArray, .int .i64 0]) ∧ Below w.heap.size w w' := by
  have hlt := (List.getElem?_eq_some_iff.1 hi).1
  rw [hL]
  exact leaf_ok w0 B v (bts rs) (by rw [bts_len]; omega) i _ _ _ r.rc (am9 r.am) hr.rc (am9_len hr.am) (am9_q hr.q) (rw_may r i (by omega)) (by rw [bts_get, hi]; rfl) w hb
theorem take_snoc {α : Type} (l : List α) (t : Nat) (x : α) (h : l[t]? = some x) : l.take (t + 1) = l.take t ++ [x] := by
  rw [List.take_add_one, h]
  rfl
end Go.Proofs.YtdicgenhfmhklaaGreatDoor

namespace Go.Proofs.YtdicgenhfmhklaaGreatDoor
open Go Go.RowKit
open Sha

set_option maxRecDepth 100000 in
set_option maxHeartbeats 4000000 in
theorem samePath_any (ds : List (List (BitVec 8))) (n : Nat) (hn : ds.length = n) (hs : n ≤ 4398046511104) (A B : Option Addr) (ca cb : Nat) (w : World) (hp : PAt w (.slice A n ca) ds) (hq : PAt w (.slice B n cb) ds) :
    Calls Tryz.prog 20 #[.slice A n ca, .slice B n cb] w fun e w' => e = .returned (.bool true) ∧ Below w.heap.size w w' := by
  have HN : Hid (ds.length = n) := hn
  have HP : Hid (PAt w (.slice A n ca) ds) := hp
  have HQ : Hid (PAt w (.slice B n cb) ds) := hq
  clear hp hq hn
  go_enter Tryz.func20, Tryz.ntmps20
  go_wp2
  go_loopw [5] (fun k wr => ∃ t : Nat, t ≤ n ∧ k = .int .i64 (t : Int) ∧ Below w.heap.size w wr) (fun k _ => n - (intOf k).toNat)
  case atStart => exact ⟨0, Nat.zero_le _, rfl, Below.refl _ _⟩
  case round =>
    obtain ⟨t, ht, rfl, hb⟩ := hrel
    by_cases hlt : t < n
    · have Hd : Dl (ds.getD t []) := pat_each HP.out t (by rw [HN.out]; exact hlt)
      obtain ⟨b1, o1, eA, h1⟩ := pat_range (A := A) (cap := ca) (by rw [HN.out]; exact HP.out) t (by rw [HN.out]; exact hlt)
      obtain ⟨b2, o2, eB, h2⟩ := pat_range (A := B) (cap := cb) (by rw [HN.out]; exact HQ.out) t (by rw [HN.out]; exact hlt)
      subst eA; subst eB
      have H1 : Hid (∀ W, Below w.heap.size w W → W.rangeAt b1 (o1 + t * 32) (vB (ds.getD t []))) := fun W hB => range_below h1 hB (Nat.le_refl _)
      have H2 : Hid (∀ W, Below w.heap.size w W → W.rangeAt b2 (o2 + t * 32) (vB (ds.getD t []))) := fun W hB => range_below h2 hB (Nat.le_refl _)
      have htb : t ≤ 4398046511104 := Nat.le_trans ht hs
      generalize ds.getD t [] = x at *
      clear h1 h2
      go_wp2_with fail
      refine wp_named fun a0 ha0 => ?_
      have hsz : a0.tmps.size = 26 := by rw [ha0]; rfl
      have s0 : a0.eval (.tmp 0) = .slice (some ⟨b1, o1, none⟩) n ca := by rw [ha0]; rfl
      have s1 : a0.eval (.tmp 1) = .slice (some ⟨b2, o2, none⟩) n cb := by rw [ha0]; rfl
      have s5 : a0.eval (.tmp 5) = .int .i64 (t : Int) := by rw [ha0]; rfl
      obtain ⟨D, hD⟩ : ∃ D : List (Tmp × SP), D = [(17, SP.is (.slice (some ⟨b1, o1, none⟩) n ca)), (18, SP.is (.int .i64 (t : Int))), (19, SP.is (.pointer (some ⟨b1, o1 + t * 32, none⟩))), (20, SP.is (.agg (vB x).toArray)), (21, SP.is (.slice (some ⟨b2, o2, none⟩) n cb)), (22, SP.is (.int .i64 (t : Int))), (23, SP.is (.pointer (some ⟨b2, o2 + t * 32, none⟩))), (24, SP.is (.agg (vB x).toArray)), (25, SP.is (.bool false))] := ⟨_, rfl⟩
      refine wp_region_down (by kernel_rfl) (fun listed ac W => listed.size = 9 ∧ Fp D a0 listed ac W ∧ Below w.heap.size w W) ?_ ?_ ?_
      · exact ⟨by simp, Fp.start D a0 _ _, Below.drew hb⟩
      · clear ha0 hb  
        intro listed ac W k hI hdn hk
        obtain ⟨hl, hF, hb⟩ := hI
        have hk1 : k < 9 := List.mem_range.1 (List.mem_filter.1 hk).1
        have hl2 : ∀ j, (listed.setIfInBounds j true).size = 9 := fun j => by rw [Array.size_setIfInBounds]; exact hl
        rcases (show k = 0 ∨ k = 1 ∨ k = 2 ∨ k = 3 ∨ k = 4 ∨ k = 5 ∨ k = 6 ∨ k = 7 ∨ k = 8 by omega) with rfl | rfl | rfl | rfl | rfl | rfl | rfl | rfl | rfl
        · have hk3 := hk
          exact wpOp_plain rfl rfl (wp_move_v (ac.eval (.tmp 0)) rfl rfl ⟨hl2 0, (hF.put 0 17 (SP.is (.slice (some ⟨b1, o1, none⟩) n ca)) (ac.eval (.tmp 0)) (by rw [hD]; rfl) (((hF.keep 0 (by rw [hD]; rfl)).trans s0)) (by rw [hD]; rfl) (by rw [hsz]; decide) (by rw [hl]; decide)), hb⟩)
        · have hk3 := hk
          exact wpOp_plain rfl rfl (wp_move_v (ac.eval (.tmp 5)) rfl rfl ⟨hl2 1, (hF.put 1 18 (SP.is (.int .i64 (t : Int))) (ac.eval (.tmp 5)) (by rw [hD]; rfl) (((hF.keep 5 (by rw [hD]; rfl)).trans s5)) (by rw [hD]; rfl) (by rw [hsz]; decide) (by rw [hl]; decide)), hb⟩)
        · have hk3 := hk
          have ea := (hF.done 0 (17, SP.is (.slice (some ⟨b1, o1, none⟩) n ca)) (by rw [hD]; rfl) (ready_dep hk 0 (by kernel_rfl)))
          have eb := (hF.done 1 (18, SP.is (.int .i64 (t : Int))) (by rw [hD]; rfl) (ready_dep hk 1 (by kernel_rfl)))
          exact wpOp_plain rfl rfl (wp_index_s 64 44 rfl b1 o1 n ca t 32 ea eb hlt Tryz.underlying64 info_dig ⟨hl2 2, (hF.put 2 19 (SP.is (.pointer (some ⟨b1, o1 + t * 32, none⟩))) (.pointer (some ⟨b1, o1 + t * 32, none⟩)) (by rw [hD]; rfl) rfl (by rw [hD]; rfl) (by rw [hsz]; decide) (by rw [hl]; decide)), hb⟩)
        · have hk3 := hk
          have ea := (hF.done 2 (19, SP.is (.pointer (some ⟨b1, o1 + t * 32, none⟩))) (by rw [hD]; rfl) (ready_dep hk 2 (by kernel_rfl)))
          exact wpOp_plain rfl rfl (wp_load_mid 44 (.tmp 19) rfl b1 (o1 + t * 32) ea (vB x) _ (H1.out W hb) Tryz.underlying44 rfl Hd.info ⟨hl2 3, (hF.put 3 20 (SP.is (.agg (vB x).toArray)) (.agg (vB x).toArray) (by rw [hD]; rfl) rfl (by rw [hD]; rfl) (by rw [hsz]; decide) (by rw [hl]; decide)), hb⟩)
        · have hk3 := hk
          exact wpOp_plain rfl rfl (wp_move_v (ac.eval (.tmp 1)) rfl rfl ⟨hl2 4, (hF.put 4 21 (SP.is (.slice (some ⟨b2, o2, none⟩) n cb)) (ac.eval (.tmp 1)) (by rw [hD]; rfl) (((hF.keep 1 (by rw [hD]; rfl)).trans s1)) (by rw [hD]; rfl) (by rw [hsz]; decide) (by rw [hl]; decide)), hb⟩)
        · have hk3 := hk
          exact wpOp_plain rfl rfl (wp_move_v (ac.eval (.tmp 5)) rfl rfl ⟨hl2 5, (hF.put 5 22 (SP.is (.int .i64 (t : Int))) (ac.eval (.tmp 5)) (by rw [hD]; rfl) (((hF.keep 5 (by rw [hD]; rfl)).trans s5)) (by rw [hD]; rfl) (by rw [hsz]; decide) (by rw [hl]; decide)), hb⟩)
        · have hk3 := hk
          have ea := (hF.done 4 (21, SP.is (.slice (some ⟨b2, o2, none⟩) n cb)) (by rw [hD]; rfl) (ready_dep hk 4 (by kernel_rfl)))
          have eb := (hF.done 5 (22, SP.is (.int .i64 (t : Int))) (by rw [hD]; rfl) (ready_dep hk 5 (by kernel_rfl)))
          exact wpOp_plain rfl rfl (wp_index_s 64 44 rfl b2 o2 n cb t 32 ea eb hlt Tryz.underlying64 info_dig ⟨hl2 6, (hF.put 6 23 (SP.is (.pointer (some ⟨b2, o2 + t * 32, none⟩))) (.pointer (some ⟨b2, o2 + t * 32, none⟩)) (by rw [hD]; rfl) rfl (by rw [hD]; rfl) (by rw [hsz]; decide) (by rw [hl]; decide)), hb⟩)
        · have hk3 := hk
          have ea := (hF.done 6 (23, SP.is (.pointer (some ⟨b2, o2 + t * 32, none⟩))) (by rw [hD]; rfl) (ready_dep hk 6 (by kernel_rfl)))
          exact wpOp_plain rfl rfl (wp_load_mid 44 (.tmp 23) rfl b2 (o2 + t * 32) ea (vB x) _ (H2.out W hb) Tryz.underlying44 rfl Hd.info ⟨hl2 7, (hF.put 7 24 (SP.is (.agg (vB x).toArray)) (.agg (vB x).toArray) (by rw [hD]; rfl) rfl (by rw [hD]; rfl) (by rw [hsz]; decide) (by rw [hl]; decide)), hb⟩)
        · have hk3 := hk
          have ea := (hF.done 3 (20, SP.is (.agg (vB x).toArray)) (by rw [hD]; rfl) (ready_dep hk 3 (by kernel_rfl)))
          have eb := (hF.done 7 (24, SP.is (.agg (vB x).toArray)) (by rw [hD]; rfl) (ready_dep hk 7 (by kernel_rfl)))
          exact wpOp_plain rfl rfl (wp_neq_d 44 (.tmp 20) (.tmp 24) _ rfl 5 32 x x ea eb Tryz.underlying44 Tryz.underlying5 info_u8T Hd Hd guard_dig false (by simp) ⟨hl2 8, (hF.put 8 25 (SP.is (.bool false)) (.bool false) (by rw [hD]; rfl) rfl (by rw [hD]; rfl) (by rw [hsz]; decide) (by rw [hl]; decide)), hb⟩)
      · clear hb  
        intro listed ac W hI hr
        obtain ⟨hl, hF, hb⟩ := hI
        have hall := all_listed (by kernel_rfl) hl hr
        have h17 : ac.eval (.tmp 17) = .slice (some ⟨b1, o1, none⟩) n ca := hF.done 0 (17, SP.is (.slice (some ⟨b1, o1, none⟩) n ca)) (by rw [hD]; rfl) (hall 0 (by decide))
        have h18 : ac.eval (.tmp 18) = .int .i64 (t : Int) := hF.done 1 (18, SP.is (.int .i64 (t : Int))) (by rw [hD]; rfl) (hall 1 (by decide))
        have h19 : ac.eval (.tmp 19) = .pointer (some ⟨b1, o1 + t * 32, none⟩) := hF.done 2 (19, SP.is (.pointer (some ⟨b1, o1 + t * 32, none⟩))) (by rw [hD]; rfl) (hall 2 (by decide))
        have h20 : ac.eval (.tmp 20) = .agg (vB x).toArray := hF.done 3 (20, SP.is (.agg (vB x).toArray)) (by rw [hD]; rfl) (hall 3 (by decide))
        have h21 : ac.eval (.tmp 21) = .slice (some ⟨b2, o2, none⟩) n cb := hF.done 4 (21, SP.is (.slice (some ⟨b2, o2, none⟩) n cb)) (by rw [hD]; rfl) (hall 4 (by decide))
        have h22 : ac.eval (.tmp 22) = .int .i64 (t : Int) := hF.done 5 (22, SP.is (.int .i64 (t : Int))) (by rw [hD]; rfl) (hall 5 (by decide))
        have h23 : ac.eval (.tmp 23) = .pointer (some ⟨b2, o2 + t * 32, none⟩) := hF.done 6 (23, SP.is (.pointer (some ⟨b2, o2 + t * 32, none⟩))) (by rw [hD]; rfl) (hall 6 (by decide))
        have h24 : ac.eval (.tmp 24) = .agg (vB x).toArray := hF.done 7 (24, SP.is (.agg (vB x).toArray)) (by rw [hD]; rfl) (hall 7 (by decide))
        have h25 : ac.eval (.tmp 25) = .bool false := hF.done 8 (25, SP.is (.bool false)) (by rw [hD]; rfl) (hall 8 (by decide))
        have ea := hF.lay [(17, .slice (some ⟨b1, o1, none⟩) n ca), (18, .int .i64 (t : Int)), (19, .pointer (some ⟨b1, o1 + t * 32, none⟩)), (20, .agg (vB x).toArray), (21, .slice (some ⟨b2, o2, none⟩) n cb), (22, .int .i64 (t : Int)), (23, .pointer (some ⟨b2, o2 + t * 32, none⟩)), (24, .agg (vB x).toArray), (25, .bool false)] (by rw [hD, hsz]; rfl) (by simp only [List.forall_mem_cons, List.not_mem_nil, false_implies, implies_true, and_true]; exact ⟨h17, h18, h19, h20, h21, h22, h23, h24, h25⟩)
        rw [ha0] at ea
        simp only [List.foldl_cons, List.foldl_nil, List.setIfInBounds_toArray, List.set_cons_zero, List.set_cons_succ] at ea
        clear hF hall hr hl hD  s0 s1 s5 ha0 hsz h17 h18 h19 h20 h21 h22 h23 h24 h25
        subst ea
        go_wp2_with fail
        exact ⟨⟨t + 1, hlt, by go_num, hb⟩, by simp [intOf]; omega⟩
    · obtain rfl : t = n := by omega
      go_wp2
      go_ret
      exact ⟨rfl, hb⟩


end Go.Proofs.YtdicgenhfmhklaaGreatDoor

namespace Go.Proofs.YtdicgenhfmhklaaGreatDoor
open Go Go.RowKit
open Sha

theorem slT {w : World} {v : Value} {d : List (BitVec 8)} (h : SlAt w v d) : SlAtT w v d := h
/-- A book's texts in memory. -/
theorem Bk.ls {w0 w : World} {B : Nat} {A : Option Addr} {n cap : Nat} {ts : List (List (BitVec 8))} (h : Bk w0 w B (.slice A n cap) ts) (hn : n = ts.length) : A = none ∧ ts = [] ∧ cap = 0 ∨ ∃ b, A = some ⟨b, 0, none⟩ ∧ ts.length ≤ cap ∧ LsAt w b 0 ts := by
  obtain ⟨cs, h1, h2⟩ := h.own
  rcases h1.2 with ⟨q, q2⟩ | ⟨g, c', cur, q, _, hh, hc, hm, hs, ht⟩
  · simp only [Value.slice.injEq] at q
    exact .inl ⟨q.1, List.eq_nil_of_length_eq_zero q2, q.2.2⟩
  · simp only [Value.slice.injEq] at q
    obtain ⟨rfl, rfl, rfl⟩ := q
    refine .inr ⟨g, rfl, hc, cs, by have := Lw.len h1; omega, Lw.range h1, fun i hi => ?_⟩
    obtain ⟨u, p1, p2⟩ := h2 i _ (List.getElem?_eq_getElem hi)
    rw [List.getD_eq_getElem?_getD, p1, List.getD_eq_getElem?_getD, List.getElem?_eq_getElem hi]
    exact slT (Bw.sl p2)
theorem results_rowA_tmp11 {P : Program} {fn : Func} {p q : Tmp} {ty : TypeId} {k : Nat} {e : TypeId} (h : fn.results = #[.cell p ty, .tmp q]) (tmps : Array Value) (w : World) (g : Nat) (t : TypeId) (cs : List Value) (v : Value)
    (hp : tmps.getD p undef = .pointer (some ⟨g, 0, none⟩)) (hv : tmps.getD q undef = v) (hg : Row w g cs t) (hu : P.underlying ty = some (.array k e)) (hi : (P.info? ty).map (·.size) = some cs.length) :
    (results fn tmps).run P w = .ok (.tuple #[.agg cs.toArray, v]) w := by
  have hp' : tmps[p]?.getD undef = .pointer (some ⟨g, 0, none⟩) := by simpa using hp
  have hv' : tmps[q]?.getD undef = v := by simpa using hv
  have hr := run_loadVar_row (P := P) w g t ty cs.toArray (0, 0) (.array k e) hg hu rfl (by simp [hi])
  simp [results, h, hp', hv', asAddr, hr]
section
variable {ops : Array Oper} {rest : List Oper} {op : Oper} {a : Act} {w : World} {Q : Exit → Act → World → Prop}
set_option maxRecDepth 100000 in
theorem wpList_allocDg (hgd : op.guard = none) (ho : op.op = .alloc 44) (h : ∀ X, Row X w.heap.size (vB (List.replicate 32 0#8)) 44 → Below w.heap.size w X → wpList Tryz.prog ops Q rest (a.put op.dst (.pointer (some ⟨w.heap.size, 0, none⟩))) X) : wpList Tryz.prog ops Q (op :: rest) a w :=
  wpList_plain hgd fun _ hK => by
    unfold Oper.wp execOp
    simp only [ho]
    go_simp
    exact hK _ _ (h _ (Row.new' (cs := vB (List.replicate 32 0#8)) rfl rfl) ((Below.refl _ _).alloc (Nat.le_refl _) _))
end
theorem info_dg11 (d : List (BitVec 8)) (h : d.length = 32) : (Tryz.prog.info? 44).map (·.size) = some (vB d).length := by rw [vB_length, h]; kernel_rfl
theorem vB_all11 (d : List (BitVec 8)) : (vB d).toArray.all (·.oneCell') = true := all_oneCell_toArray (vB_one d)
set_option maxRecDepth 100000 in
set_option maxHeartbeats 4000000 in
/-- Root, of a book. -/
theorem root_bk (w0 : World) (B : Nat) (v : Value) (ts : List (List (BitVec 8))) (hts : ts.length ≤ 1000000) (hm : ∀ i, (ts.getD i []).length ≤ 153) (k : Nat) (hk : k ≤ ts.length) (dd : List (BitVec 8)) (hd : dd = rt (ts.take k)) (w : World) (hT : Tab w 2) (hb : Bk w0 w B v ts) :
    Calls Tryz.prog 7 #[.pointer (some ⟨B, 0, none⟩), .int .i64 (k : Int)] w fun e w' => e = .returned (.tuple #[.agg (vB dd).toArray, .int .i64 0]) ∧ Below w.heap.size w w' := by
  obtain ⟨A, cap, e⟩ := hb.form
  subst e
  have h32 : dd.length = 32 := by rw [hd]; exact rt_length _
  have HF : Hid (∀ X, Below w.heap.size w X → Calls Tryz.prog 23 #[.pointer (some ⟨B, 0, none⟩), .int .i64 (k : Int)] X fun e w' => e = .returned (.tuple #[.slice A k cap, .int .i64 0]) ∧ w' = X) := fun X hX => by
    refine (first_bk w0 B _ ts hts k hk X (hb.keep hX)).mono ?_
    rintro e w' ⟨⟨A', c', q1, q2⟩, q3⟩
    simp only [Value.slice.injEq] at q1
    obtain ⟨rfl, _, rfl⟩ := q1
    exact ⟨q2, q3⟩
  have HR : Hid (∀ X, Below w.heap.size w X → Calls Tryz.prog 24 #[.slice A k cap] X fun e w' => e = .returned (.agg (vB dd).toArray) ∧ Below X.heap.size X w') := fun X hX => by
    have hTX := hT.below hX hT.lt
    rcases hb.ls rfl with ⟨rfl, rfl, rfl⟩ | ⟨b, rfl, hc, hl⟩
    · obtain rfl : k = 0 := by simpa using hk
      exact root_nil none 0 dd (by rw [hd]; exact rt_nil _ rfl) X hTX
    · refine root_any k (ts.take k) (by rw [List.length_take]; omega) (by omega) (fun i hi => ?_) dd hd b 0 cap (by omega) X hTX ((hl.below hX).take k)
      rw [List.length_take] at hi
      have e2 : (ts.take k).getD i [] = ts.getD i [] := by simp [List.getD_eq_getElem?_getD, show i < k by omega]
      rw [e2]
      have := hm i
      omega
  have HI : Hid ((Tryz.prog.info? 44).map (·.size) = some (vB dd).length) := info_dg11 dd h32
  have HLL : Hid ((vB dd).length = (vB (List.replicate 32 0#8)).length) := by show _ = _; rw [vB_length, vB_length, h32]; rfl
  clear hd hts hm hk hT hb h32
  go_enter Tryz.func7, Tryz.ntmps7
  go_wp2_with (first
    | (refine wpList_allocDg rfl rfl ?_; intro X0 q1 q2; have R0 : Hid (Row X0 w.heap.size (vB (List.replicate 32 0#8)) 44) := q1; have B0 : Hid (Below w.heap.size w X0) := q2; clear q1 q2; simp only [Act.put, List.setIfInBounds_toArray, List.set_cons_zero, List.set_cons_succ])
    | (go_at_call 23; refine Calls.mono (HF.out X0 B0.out) ?_; rintro e X ⟨rfl, hq⟩; obtain rfl := hq.symm)
    | (go_at_call 24; refine Calls.mono (HR.out X0 B0.out) ?_; rintro e X1 ⟨rfl, q⟩; have R1 : Hid (Row X1 w.heap.size (vB (List.replicate 32 0#8)) 44) := Row.below R0.out q R0.out.lt; have B1 : Hid (Below w.heap.size w X1) := B0.out.trans (q.mono B0.out.size); clear q)
    | (refine wpList_storeL rfl 44 (.tmp 4) (.tmp 19) rfl w.heap.size (vB dd) (vB (List.replicate 32 0#8)) 44 rfl rfl R1.out HLL.out HI.out (vB_all11 dd) ?_; intro X9 q1 q2; have E9 : Hid (X9 = _) := q1; have R9 : Hid (Row X9 w.heap.size (vB dd) 44) := q2; clear q1 q2; simp only [Act.put]))
  have hE : Below w.heap.size w X9 := by rw [E9.out]; exact below_setCells B1.out (Nat.le_refl _) _
  exact bodyPost_ret (results_rowA_tmp11 Tryz.results7 _ _ w.heap.size 44 (vB dd) (.int .i64 0) rfl rfl R9.out Tryz.underlying44 HI.out) rfl ⟨rfl, hE⟩
set_option maxRecDepth 100000 in
set_option maxHeartbeats 4000000 in
/-- Path, of a book. -/
theorem path_bk (w0 : World) (B : Nat) (v : Value) (ts : List (List (BitVec 8))) (hts : ts.length ≤ 1000000) (hm : ∀ i, (ts.getD i []).length ≤ 153) (i n : Nat) (hn : n = ts.length) (hi : i < n) (ds : List (List (BitVec 8))) (hd : ds = pt i ts) (w : World) (hT : Tab w 2) (hb : Bk w0 w B v ts) :
    Calls Tryz.prog 17 #[.pointer (some ⟨B, 0, none⟩), .int .i64 (i : Int), .int .i64 (n : Int)] w fun e w' => ∃ A cap, e = .returned (.tuple #[.slice A ds.length cap, .int .i64 0]) ∧ PAt w' (.slice A ds.length cap) ds ∧ Below w.heap.size w w' := by
  obtain ⟨A, cap, e⟩ := hb.form
  subst e
  have HF : Hid (Calls Tryz.prog 23 #[.pointer (some ⟨B, 0, none⟩), .int .i64 (n : Int)] w fun e w' => e = .returned (.tuple #[.slice A n cap, .int .i64 0]) ∧ w' = w) := by
    refine (first_bk w0 B _ ts hts n (by omega) w hb).mono ?_
    rintro e w' ⟨⟨A', c', q1, q2⟩, q3⟩
    simp only [Value.slice.injEq] at q1
    obtain ⟨rfl, _, rfl⟩ := q1
    exact ⟨q2, q3⟩
  have HP : Hid (Calls Tryz.prog 39 #[.slice A n cap, .int .i64 (i : Int)] w fun e w' => ∃ A2 c2, e = .returned (.tuple #[.slice A2 ds.length c2, .int .i64 0]) ∧ PAt w' (.slice A2 ds.length c2) ds ∧ Below w.heap.size w w') := by
    rcases hb.ls rfl with ⟨rfl, rfl, rfl⟩ | ⟨b, rfl, hc, hl⟩
    · simp at hn; omega
    · refine (path_in n i ts hn.symm hi (by omega) (fun j hj => by have := hm j; omega) b 0 cap (by omega) w hT hl).mono ?_
      rintro e w' ⟨v, rfl, q1, q2⟩
      rw [← hd] at q1
      have hp : PAt w' v ds := PAt.of_own q1 (by rw [hd]; exact pt_each n i ts hn.symm (by omega) (by omega))
      have hp2 := hp
      obtain ⟨_, A2, c2, e2, _⟩ := hp2
      subst e2
      exact ⟨A2, c2, rfl, hp, q2⟩
  have hi2 : ¬ ((n : Int) ≤ (i : Int)) := by omega
  have hnb : n ≤ 1000000 := by omega
  clear hd hts hm hT hb hn
  go_enter Tryz.func17, Tryz.ntmps17
  go_wp2_with (first
    | (go_at_call 23; refine Calls.mono HF.out ?_; rintro e X ⟨rfl, hq⟩; obtain rfl := hq.symm)
    | (go_at_call 39; refine Calls.mono HP.out ?_; rintro e X1 ⟨A2, c2, rfl, q1, q2⟩; have P1 : Hid (PAt X1 (.slice A2 ds.length c2) ds) := q1; have B1 : Hid (Below w.heap.size w X1) := q2; clear q1 q2))
  go_ret2
  exact ⟨A2, c2, rfl, P1.out, B1.out⟩

end Go.Proofs.YtdicgenhfmhklaaGreatDoor

namespace Go.Proofs.YtdicgenhfmhklaaGreatDoor
open Go Go.RowKit
open Sha

set_option maxRecDepth 100000 in
set_option maxHeartbeats 4000000 in
theorem leaf_no (B : Nat) (A : Option Addr) (N cap : Nat) (k : Int) (hk : k < 0 ∨ (N : Int) ≤ k) (w : World) (h : Row w B [.slice A N cap] 52) :
    Calls Tryz.prog 13 #[.pointer (some ⟨B, 0, none⟩), .int .i64 k] w fun r w' => r = .returned (.tuple #[.agg zLf.toArray, .int .i64 111]) ∧ Below w.heap.size w w' := by
  have HZI : Hid ((Tryz.prog.info? 40).map (·.size) = some zLf.length) := by show _ = _; kernel_rfl
  have HZO : Hid (zLf.toArray.all (·.oneCell') = true) := lf_all
  have HB : Hid (Row w B [.slice A N cap] 52) := h
  clear h
  rcases hk with h | h
  · have h2 : decide (k < 0) = true := decide_eq_true h
    go_enter Tryz.func13, Tryz.ntmps13
    go_wp2_with (first
      | (refine wpList_allocLf rfl rfl ?_; intro X0 q1 q2 q3; have RQ : Hid (Row X0 w.heap.size zLf 40) := q1; have B0 : Hid (Below w.heap.size w X0) := q2; have RB : Hid (Row X0 B [.slice A N cap] 52) := Row.below HB.out q2 HB.out.lt; have cB := RB.out.cell 0 _ rfl; clear q1 q2 q3; simp only [Act.put, List.setIfInBounds_toArray, List.set_cons_zero, List.set_cons_succ])
      | (refine BigFrame.wpList_want rfl (fun _ hK => wp_bLz rfl (hK _ _ ?_)); simp only [Act.put, List.setIfInBounds_toArray, List.set_cons_zero, List.set_cons_succ])
      | (refine wpList_storeL rfl 40 (.tmp 4) (.tmp 22) rfl w.heap.size zLf zLf 40 rfl rfl RQ.out rfl HZI.out HZO.out ?_; intro X9 q1 q2; have B9 : Hid (Below w.heap.size w X9) := (by rw [q1]; exact below_setCells B0.out (Nat.le_refl _) _); have R9 : Hid (Row X9 w.heap.size zLf 40) := q2; clear q1 q2; simp only [Act.put]))
    exact bodyPost_ret (results_rowS_tmp Tryz.results13 _ _ w.heap.size 40 zLf (.int .i64 111) rfl rfl R9.out Tryz.underlying40 info_lf27) rfl ⟨rfl, B9.out⟩
  · have h0 : ¬ (k < 0) := by omega
    have h1 : decide (k < 0) = false := decide_eq_false h0
    have h2 : decide ((N : Int) ≤ k) = true := decide_eq_true h
    go_enter Tryz.func13, Tryz.ntmps13
    go_wp2_with (first
      | (refine wpList_allocLf rfl rfl ?_; intro X0 q1 q2 q3; have RQ : Hid (Row X0 w.heap.size zLf 40) := q1; have B0 : Hid (Below w.heap.size w X0) := q2; have RB : Hid (Row X0 B [.slice A N cap] 52) := Row.below HB.out q2 HB.out.lt; have cB := RB.out.cell 0 _ rfl; clear q1 q2 q3; simp only [Act.put, List.setIfInBounds_toArray, List.set_cons_zero, List.set_cons_succ])
      | (refine BigFrame.wpList_want rfl (fun _ hK => wp_bLz rfl (hK _ _ ?_)); simp only [Act.put, List.setIfInBounds_toArray, List.set_cons_zero, List.set_cons_succ])
      | (refine wpList_storeL rfl 40 (.tmp 4) (.tmp 22) rfl w.heap.size zLf zLf 40 rfl rfl RQ.out rfl HZI.out HZO.out ?_; intro X9 q1 q2; have B9 : Hid (Below w.heap.size w X9) := (by rw [q1]; exact below_setCells B0.out (Nat.le_refl _) _); have R9 : Hid (Row X9 w.heap.size zLf 40) := q2; clear q1 q2; simp only [Act.put])
      | (go_at_call 9; refine Calls.mono (len_any A N cap X0) ?_; rintro e X ⟨rfl, hq⟩; obtain rfl := hq.symm))
    exact bodyPost_ret (results_rowS_tmp Tryz.results13 _ _ w.heap.size 40 zLf (.int .i64 111) rfl rfl R9.out Tryz.underlying40 info_lf27) rfl ⟨rfl, B9.out⟩
theorem built_Dz : Tryz.prog.built 44 [] = some (vB (List.replicate 32 0#8)).toArray := by kernel_rfl
theorem wp_bDz {Q : Exit → Act → World → Prop} {o : Oper} {a : Act} {w : World} {K : Act → World → Prop} (ho : o.op = .build 44 #[]) (h : K (a.put o.dst (.agg (vB (List.replicate 32 0#8)).toArray)) w) : Oper.wp Tryz.prog o a w K Q := by
  have hr := run_build (P := Tryz.prog) w 44 #[] _ built_Dz
  unfold Oper.wp execOp
  simp only [ho, List.map_toArray, List.map_nil, Sem.run_bind, hr, Result.andThen_ok, Sem.run_pure, Oper.upon_value]
  exact h
set_option maxRecDepth 100000 in
set_option maxHeartbeats 4000000 in
theorem root_no (w0 : World) (B : Nat) (v : Value) (ts : List (List (BitVec 8))) (hts : ts.length ≤ 1000000) (k : Int) (hk : k < 0 ∨ (ts.length : Int) < k) (w : World) (hb : Bk w0 w B v ts) :
    Calls Tryz.prog 7 #[.pointer (some ⟨B, 0, none⟩), .int .i64 k] w fun e w' => e = .returned (.tuple #[.agg (vB (List.replicate 32 0#8)).toArray, .int .i64 112]) ∧ Below w.heap.size w w' := by
  obtain ⟨A, cap, e⟩ := hb.form
  subst e
  have HF : Hid (∀ X, Below w.heap.size w X → Calls Tryz.prog 23 #[.pointer (some ⟨B, 0, none⟩), .int .i64 k] X fun e w' => e = .returned (.tuple #[.slice none 0 0, .int .i64 112]) ∧ w' = X) := fun X hX => first_no B A ts.length cap k hk hts X (hb.keep hX).row
  obtain ⟨zz, hzz⟩ : ∃ zz, zz = (vB (List.replicate 32 0#8)) := ⟨_, rfl⟩
  have HI : Hid ((Tryz.prog.info? 44).map (·.size) = some zz.length) := by rw [hzz]; exact info_dg11 _ rfl
  have HZO : Hid (zz.toArray.all (·.oneCell') = true) := by rw [hzz]; exact vB_all11 _
  have HBD : Hid (Tryz.prog.built 44 [] = some zz.toArray) := by rw [hzz]; exact built_Dz
  have HAL : Hid (zz = (vB (List.replicate 32 0#8))) := hzz
  rw [← hzz]
  clear hk hts hb hzz
  go_enter Tryz.func7, Tryz.ntmps7
  go_wp2_with (first
    | (refine wpList_allocDg rfl rfl ?_; intro X0 q1 q2; rw [← HAL.out] at q1; have R0 : Hid (Row X0 w.heap.size zz 44) := q1; have B0 : Hid (Below w.heap.size w X0) := q2; clear q1 q2; simp only [Act.put, List.setIfInBounds_toArray, List.set_cons_zero, List.set_cons_succ])
    | (go_at_call 23; refine Calls.mono (HF.out X0 B0.out) ?_; rintro e X ⟨rfl, hq⟩; obtain rfl := hq.symm)
    | (refine BigFrame.wpList_want rfl (fun _ hK => wp_bDz rfl (hK _ _ ?_)); rw [← HAL.out]; simp only [Act.put, List.setIfInBounds_toArray, List.set_cons_zero, List.set_cons_succ])
    | (refine wpList_storeL rfl 44 (.tmp 4) (.tmp 16) rfl w.heap.size zz zz 44 rfl rfl R0.out rfl HI.out HZO.out ?_; intro X9 q1 q2; have B9 : Hid (Below w.heap.size w X9) := (by rw [q1]; exact below_setCells B0.out (Nat.le_refl _) _); have R9 : Hid (Row X9 w.heap.size zz 44) := q2; clear q1 q2; simp only [Act.put]))
  exact bodyPost_ret (results_rowA_tmp11 Tryz.results7 _ _ w.heap.size 44 zz (.int .i64 112) rfl rfl R9.out Tryz.underlying44 HI.out) rfl ⟨rfl, B9.out⟩
set_option maxRecDepth 100000 in
set_option maxHeartbeats 4000000 in
theorem path_size (w0 : World) (B : Nat) (v : Value) (ts : List (List (BitVec 8))) (hts : ts.length ≤ 1000000) (i k : Int) (hk : k < 0 ∨ (ts.length : Int) < k) (w : World) (hb : Bk w0 w B v ts) :
    Calls Tryz.prog 17 #[.pointer (some ⟨B, 0, none⟩), .int .i64 i, .int .i64 k] w fun e w' => e = .returned (.tuple #[.slice none 0 0, .int .i64 112]) ∧ w' = w := by
  obtain ⟨A, cap, e⟩ := hb.form
  subst e
  have HF : Hid (Calls Tryz.prog 23 #[.pointer (some ⟨B, 0, none⟩), .int .i64 k] w fun e w' => e = .returned (.tuple #[.slice none 0 0, .int .i64 112]) ∧ w' = w) := first_no B A ts.length cap k hk hts w hb.row
  clear hk hts hb
  go_enter Tryz.func17, Tryz.ntmps17
  go_wp2_with (go_at_call 23; refine Calls.mono HF.out ?_; rintro e X ⟨rfl, hq⟩; obtain rfl := hq.symm)
  go_ret2
  exact ⟨rfl, rfl⟩
set_option maxRecDepth 100000 in
set_option maxHeartbeats 4000000 in
theorem path_ix (w0 : World) (B : Nat) (v : Value) (ts : List (List (BitVec 8))) (hts : ts.length ≤ 1000000) (i : Int) (k : Nat) (hk : k ≤ ts.length) (hi : i < 0 ∨ (k : Int) ≤ i) (w : World) (hb : Bk w0 w B v ts) :
    Calls Tryz.prog 17 #[.pointer (some ⟨B, 0, none⟩), .int .i64 i, .int .i64 (k : Int)] w fun e w' => e = .returned (.tuple #[.slice none 0 0, .int .i64 111]) ∧ w' = w := by
  have HF : Hid (Calls Tryz.prog 23 #[.pointer (some ⟨B, 0, none⟩), .int .i64 (k : Int)] w fun e w' => ∃ A cap, e = .returned (.tuple #[.slice A k cap, .int .i64 0]) ∧ w' = w) := by
    refine (first_bk w0 B _ ts hts k hk w hb).mono ?_
    rintro e w' ⟨⟨A', c', q1, q2⟩, q3⟩
    exact ⟨A', c', q2, q3⟩
  clear hk hts hb
  rcases hi with h | h
  · have h2 : decide (i < 0) = true := decide_eq_true h
    go_enter Tryz.func17, Tryz.ntmps17
    go_wp2_with (go_at_call 23; refine Calls.mono HF.out ?_; rintro e X ⟨A, cap, rfl, hq⟩; obtain rfl := hq.symm)
    go_ret2
    exact ⟨rfl, rfl⟩
  · have h0 : ¬ (i < 0) := by omega
    have h1 : decide (i < 0) = false := decide_eq_false h0
    have h2 : decide ((k : Int) ≤ i) = true := decide_eq_true h
    go_enter Tryz.func17, Tryz.ntmps17
    go_wp2_with (go_at_call 23; refine Calls.mono HF.out ?_; rintro e X ⟨A, cap, rfl, hq⟩; obtain rfl := hq.symm)
    go_ret2
    exact ⟨rfl, rfl⟩
set_option maxRecDepth 100000 in
set_option maxHeartbeats 4000000 in
/-- Path, of a book's first n leaves. -/
theorem path_ok (w0 : World) (B : Nat) (v : Value) (ts : List (List (BitVec 8))) (hts : ts.length ≤ 1000000) (hm : ∀ i, (ts.getD i []).length ≤ 153) (i n : Nat) (hn : n ≤ ts.length) (hi : i < n) (ds : List (List (BitVec 8))) (hd : ds = pt i (ts.take n)) (w : World) (hT : Tab w 2) (hb : Bk w0 w B v ts) :
    Calls Tryz.prog 17 #[.pointer (some ⟨B, 0, none⟩), .int .i64 (i : Int), .int .i64 (n : Int)] w fun e w' => ∃ u, e = .returned (.tuple #[u, .int .i64 0]) ∧ w'.ownsRow w.heap.size 44 32 u ds.length (ds.flatMap vB) ∧ Below w.heap.size w w' := by
  obtain ⟨A, cap, e⟩ := hb.form
  subst e
  have HF : Hid (Calls Tryz.prog 23 #[.pointer (some ⟨B, 0, none⟩), .int .i64 (n : Int)] w fun e w' => e = .returned (.tuple #[.slice A n cap, .int .i64 0]) ∧ w' = w) := by
    refine (first_bk w0 B _ ts hts n (by omega) w hb).mono ?_
    rintro e w' ⟨⟨A', c', q1, q2⟩, q3⟩
    simp only [Value.slice.injEq] at q1
    obtain ⟨rfl, _, rfl⟩ := q1
    exact ⟨q2, q3⟩
  have HP : Hid (Calls Tryz.prog 39 #[.slice A n cap, .int .i64 (i : Int)] w fun e w' => ∃ u, e = .returned (.tuple #[u, .int .i64 0]) ∧ w'.ownsRow w.heap.size 44 32 u ds.length (ds.flatMap vB) ∧ Below w.heap.size w w') := by
    rcases hb.ls rfl with ⟨rfl, rfl, rfl⟩ | ⟨b, rfl, hc, hl⟩
    · simp at hn; omega
    · refine (path_in n i (ts.take n) (by rw [List.length_take]; omega) hi (by omega) (fun j hj => ?_) b 0 cap (by omega) w hT (hl.take n)).mono ?_
      · rw [List.length_take] at hj
        have e2 : (ts.take n).getD j [] = ts.getD j [] := by simp [List.getD_eq_getElem?_getD, show j < n by omega]
        rw [e2]
        have := hm j
        omega
      · rintro e w' ⟨v, rfl, q1, q2⟩
        rw [← hd] at q1
        exact ⟨v, rfl, q1, q2⟩
  have hi2 : ¬ ((n : Int) ≤ (i : Int)) := by omega
  have hnb : n ≤ 1000000 := by omega
  clear hd hts hm hT hb hn
  go_enter Tryz.func17, Tryz.ntmps17
  go_wp2_with (first
    | (go_at_call 23; refine Calls.mono HF.out ?_; rintro e X ⟨rfl, hq⟩; obtain rfl := hq.symm)
    | (go_at_call 39; refine Calls.mono HP.out ?_; rintro e X1 ⟨u, rfl, q1, q2⟩; have P1 : Hid (X1.ownsRow w.heap.size 44 32 u ds.length (ds.flatMap vB)) := q1; have B1 : Hid (Below w.heap.size w X1) := q2; clear q1 q2))
  go_ret2
  exact ⟨u, rfl, P1.out, B1.out⟩

end Go.Proofs.YtdicgenhfmhklaaGreatDoor
