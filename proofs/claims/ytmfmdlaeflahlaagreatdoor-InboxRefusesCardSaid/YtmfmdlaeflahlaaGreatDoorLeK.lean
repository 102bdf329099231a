/-
  what stands there is read: mathematics of the readers at a form.
-/
import Derived.Test.YtmfmdlaeflahlaaGreatDoorLeA
import Derived.Test.YtmfmdlaeflahlaaGreatDoorLtH
import Derived.Test.YtmfmdlaeflahlaaGreatDoorXSeeB
import Derived.Test.YtmfmdlaeflahlaaGreatDoorXFm
import Derived.Test.YtmfmdlaeflahlaaGreatDoorLeD

namespace Go.Proofs.YtmfmdlaeflahlaaGreatDoor
open Go Go.RowKit
open Sha

section
variable {k tm tk gs : Int} {sd rc : List (BitVec 8)} {am : List Nat} {v : Value} {b : Nat} {w : World}
theorem set_past (xs ys : List Value) (n i : Nat) (u : Value) (h : xs.length = n) : (xs ++ ys).set (n + i) u = xs ++ ys.set i u := by
  rw [List.set_append_right _ _ (by omega), h, Nat.add_sub_cancel_left]
theorem ent_time (h1 : sd.length = 20) (x : Int) : (ent k sd tm tk rc am gs v).set 21 (.int .i64 x) = ent k sd x tk rc am gs v :=
  congrArg (List.cons _) (set_past (vB sd) _ 20 0 _ (by rw [vB_length, h1]))
theorem ent_token (h1 : sd.length = 20) (x : Int) : (ent k sd tm tk rc am gs v).set 22 (.int .i64 x) = ent k sd tm x rc am gs v :=
  congrArg (List.cons _) (set_past (vB sd) _ 20 1 _ (by rw [vB_length, h1]))
theorem ent_gas (h1 : sd.length = 20) (h2 : rc.length = 20) (h3 : am.length = 4) (x : Int) : (ent k sd tm tk rc am gs v).set 47 (.int .i64 x) = ent k sd tm tk rc am x v := by
  refine congrArg (List.cons _) ((set_past (vB sd) _ 20 26 _ (by rw [vB_length, h1])).trans (congrArg (vB sd ++ ·) ?_))
  refine congrArg (List.cons _) (congrArg (List.cons _) ((set_past (vB rc) _ 20 4 _ (by rw [vB_length, h2])).trans (congrArg (vB rc ++ ·) ?_)))
  exact set_past (vQ am) _ 4 0 _ (by rw [vQ_len, h3])
theorem En.time (h : En w b k sd tm tk rc am gs v) (x : Int) : En (w.setCell ⟨b, 21, none⟩ (.int .i64 x)) b k sd x tk rc am gs v := ⟨by have q := h.row.set 21 (.int .i64 x); rwa [ent_time h.ls] at q, h.ls, h.lt, h.la⟩
theorem En.token (h : En w b k sd tm tk rc am gs v) (x : Int) : En (w.setCell ⟨b, 22, none⟩ (.int .i64 x)) b k sd tm x rc am gs v := ⟨by have q := h.row.set 22 (.int .i64 x); rwa [ent_token h.ls] at q, h.ls, h.lt, h.la⟩
theorem En.gas (h : En w b k sd tm tk rc am gs v) (x : Int) : En (w.setCell ⟨b, 47, none⟩ (.int .i64 x)) b k sd tm tk rc am x v := ⟨by have q := h.row.set 47 (.int .i64 x); rwa [ent_gas h.ls h.lt h.la] at q, h.ls, h.lt, h.la⟩
end

set_option maxRecDepth 100000 in
theorem k_entryFields_7 (k tm tk gs : Int) (sd rc : List (BitVec 8)) (am : List Nat) (v : Value) (P : Nat) (A0 : Option Addr) (cap0 : Nat) (bs : List (BitVec 8)) (a b : Nat) (he : nuE bs a = 0) (w : World) (h : Rg w P A0 cap0 bs a) (hb : En w b k sd tm tk rc am gs v) : Calls Tryz.prog 79 #[.pointer (some ⟨P, 0, none⟩), .pointer (some ⟨b, 0, none⟩)] w fun e w' => e = .returned (.tuple #[]) ∧ Rg w' P A0 cap0 bs (a + 1 + at8 bs a) ∧ En w' b k sd ((nuW bs a : Nat) : Int) tk rc am gs v ∧ Gq P b w w' := by
  have hne : b ≠ P := row_ne hb.row h.row (by decide)
  have HN : Hid _ := face_number P A0 cap0 bs a w h
  have HL : Hid (En w b k sd tm tk rc am gs v) := hb
  have HE : Hid (b ≠ P) := hne
  have HNU : Hid (nuE bs a = 0) := he
  clear h hb hne he
  go_enter Tryz.func79, Tryz.ntmps79
  go_wp2_with fail
  refine Calls.mono HN.out ?_
  rintro e W ⟨hok, hno, hG⟩
  clear hno
  obtain ⟨rfl, hr⟩ := hok HNU.out
  have hL : En W b k sd tm tk rc am gs v := ⟨hG.row HL.out.row HE.out, HL.out.ls, HL.out.lt, HL.out.la⟩
  have g1 := hL.c_time
  have k1 := hL.row.thaw 21
  have HRG : Hid (Rg W P A0 cap0 bs (a + 1 + at8 bs a)) := hr
  have HL2 : Hid (En W b k sd tm tk rc am gs v) := hL
  have HG : Hid (Gro (fun g => g = P) w W) := hG
  clear hok hG hr hL HN HL
  go_wp2_with fail
  go_end0
  refine ⟨rfl, HRG.out.setNew b 21 _ HL2.out.row (by decide) (by decide), HL2.out.time _, ?_⟩
  exact Gro.set (Gro.mono HG.out (fun g e => .inl e)) b 21 _ (.inr rfl)

set_option maxRecDepth 100000 in
theorem k_entryFields_11 (k tm tk gs : Int) (sd rc : List (BitVec 8)) (am : List Nat) (v : Value) (P : Nat) (A0 : Option Addr) (cap0 : Nat) (bs : List (BitVec 8)) (a b : Nat) (he : nuE bs a = 0) (w : World) (h : Rg w P A0 cap0 bs a) (hb : En w b k sd tm tk rc am gs v) : Calls Tryz.prog 85 #[.pointer (some ⟨P, 0, none⟩), .pointer (some ⟨b, 0, none⟩)] w fun e w' => e = .returned (.tuple #[]) ∧ Rg w' P A0 cap0 bs (a + 1 + at8 bs a) ∧ En w' b k sd tm ((nuW bs a : Nat) : Int) rc am gs v ∧ Gq P b w w' := by
  have hne : b ≠ P := row_ne hb.row h.row (by decide)
  have HN : Hid _ := face_number P A0 cap0 bs a w h
  have HL : Hid (En w b k sd tm tk rc am gs v) := hb
  have HE : Hid (b ≠ P) := hne
  have HNU : Hid (nuE bs a = 0) := he
  clear h hb hne he
  go_enter Tryz.func85, Tryz.ntmps85
  go_wp2_with fail
  refine Calls.mono HN.out ?_
  rintro e W ⟨hok, hno, hG⟩
  clear hno
  obtain ⟨rfl, hr⟩ := hok HNU.out
  have hL : En W b k sd tm tk rc am gs v := ⟨hG.row HL.out.row HE.out, HL.out.ls, HL.out.lt, HL.out.la⟩
  have g1 := hL.c_token
  have k1 := hL.row.thaw 22
  have HRG : Hid (Rg W P A0 cap0 bs (a + 1 + at8 bs a)) := hr
  have HL2 : Hid (En W b k sd tm tk rc am gs v) := hL
  have HG : Hid (Gro (fun g => g = P) w W) := hG
  clear hok hG hr hL HN HL
  go_wp2_with fail
  go_end0
  refine ⟨rfl, HRG.out.setNew b 22 _ HL2.out.row (by decide) (by decide), HL2.out.token _, ?_⟩
  exact Gro.set (Gro.mono HG.out (fun g e => .inl e)) b 22 _ (.inr rfl)

set_option maxRecDepth 100000 in
theorem k_entryFields_22 (k tm tk gs : Int) (sd rc : List (BitVec 8)) (am : List Nat) (v : Value) (P : Nat) (A0 : Option Addr) (cap0 : Nat) (bs : List (BitVec 8)) (a b : Nat) (he : nuE bs a = 0) (w : World) (h : Rg w P A0 cap0 bs a) (hb : En w b k sd tm tk rc am gs v) : Calls Tryz.prog 98 #[.pointer (some ⟨P, 0, none⟩), .pointer (some ⟨b, 0, none⟩)] w fun e w' => e = .returned (.tuple #[]) ∧ Rg w' P A0 cap0 bs (a + 1 + at8 bs a) ∧ En w' b k sd tm tk rc am ((nuW bs a : Nat) : Int) v ∧ Gq P b w w' := by
  have hne : b ≠ P := row_ne hb.row h.row (by decide)
  have HN : Hid _ := face_number P A0 cap0 bs a w h
  have HL : Hid (En w b k sd tm tk rc am gs v) := hb
  have HE : Hid (b ≠ P) := hne
  have HNU : Hid (nuE bs a = 0) := he
  clear h hb hne he
  go_enter Tryz.func98, Tryz.ntmps98
  go_wp2_with fail
  refine Calls.mono HN.out ?_
  rintro e W ⟨hok, hno, hG⟩
  clear hno
  obtain ⟨rfl, hr⟩ := hok HNU.out
  have hL : En W b k sd tm tk rc am gs v := ⟨hG.row HL.out.row HE.out, HL.out.ls, HL.out.lt, HL.out.la⟩
  have g1 := hL.c_gas
  have k1 := hL.row.thaw 47
  have HRG : Hid (Rg W P A0 cap0 bs (a + 1 + at8 bs a)) := hr
  have HL2 : Hid (En W b k sd tm tk rc am gs v) := hL
  have HG : Hid (Gro (fun g => g = P) w W) := hG
  clear hok hG hr hL HN HL
  go_wp2_with fail
  go_end0
  refine ⟨rfl, HRG.out.setNew b 47 _ HL2.out.row (by decide) (by decide), HL2.out.gas _, ?_⟩
  exact Gro.set (Gro.mono HG.out (fun g e => .inl e)) b 47 _ (.inr rfl)

end Go.Proofs.YtmfmdlaeflahlaaGreatDoor

namespace Go.Proofs.YtmfmdlaeflahlaaGreatDoor
open Go Go.RowKit
open Sha

theorem patch (p old vs q xs : List Value) (o : Nat) (hx : xs = p ++ old ++ q) (hp : p.length = o) (hl : old.length = vs.length) : xs.take o ++ vs ++ xs.drop (o + vs.length) = p ++ vs ++ q := by
  subst hx hp
  rw [List.append_assoc p old q, List.take_left' rfl, ← List.append_assoc p old q, List.drop_left' (by rw [List.length_append, hl])]
section
variable {k tm tk gs : Int} {sd rc : List (BitVec 8)} {am : List Nat} {v : Value} {b : Nat} {w : World}
theorem ent_lenH (h1 : sd.length = 20) (h2 : rc.length = 20) (h3 : am.length = 4) : (ent k sd tm tk rc am gs v).length = 49 := by
  simp only [ent, List.length_cons, List.length_append, List.length_nil, vB_length, vQ_len, h1, h2, h3]
theorem En.sender (h : En w b k sd tm tk rc am gs v) (x : List (BitVec 8)) (hx : x.length = 20) : En (w.setCells b 1 (vB x)) b k x tm tk rc am gs v :=
  ⟨by
    have q := Row.setCells 1 (vB x) h.row (by rw [ent_lenH h.ls h.lt h.la, vB_length, hx]; decide)
    rw [patch [.int .i64 k] (vB sd) (vB x) (.int .i64 tm :: .int .i64 tk :: (vB rc ++ (vQ am ++ [.int .i64 gs, v]))) (ent k sd tm tk rc am gs v) 1 rfl rfl (by rw [vB_length, vB_length, h.ls, hx])] at q
    exact q, hx, h.lt, h.la⟩
theorem En.toward (h : En w b k sd tm tk rc am gs v) (x : List (BitVec 8)) (hx : x.length = 20) : En (w.setCells b 23 (vB x)) b k sd tm tk x am gs v :=
  ⟨by
    have q := Row.setCells 23 (vB x) h.row (by rw [ent_lenH h.ls h.lt h.la, vB_length, hx]; decide)
    rw [patch (.int .i64 k :: (vB sd ++ [.int .i64 tm, .int .i64 tk])) (vB rc) (vB x) (vQ am ++ [.int .i64 gs, v]) _ 23 (by simp [ent]) (by simp [vB_length, h.ls]) (by rw [vB_length, vB_length, h.lt, hx])] at q
    have e : .int .i64 k :: (vB sd ++ [.int .i64 tm, .int .i64 tk]) ++ vB x ++ (vQ am ++ [.int .i64 gs, v]) = ent k sd tm tk x am gs v := by simp [ent]
    rwa [e] at q, h.ls, hx, h.la⟩
theorem En.amount (h : En w b k sd tm tk rc am gs v) (x : List Nat) (hx : x.length = 4) : En (w.setCells b 43 (vQ x)) b k sd tm tk rc x gs v :=
  ⟨by
    have q := Row.setCells 43 (vQ x) h.row (by rw [ent_lenH h.ls h.lt h.la, vQ_len, hx]; decide)
    rw [patch (.int .i64 k :: (vB sd ++ .int .i64 tm :: .int .i64 tk :: vB rc)) (vQ am) (vQ x) [.int .i64 gs, v] _ 43 (by simp [ent]) (by simp [vB_length, h.ls, h.lt]) (by rw [vQ_len, vQ_len, h.la, hx])] at q
    have e : .int .i64 k :: (vB sd ++ .int .i64 tm :: .int .i64 tk :: vB rc) ++ vQ x ++ [.int .i64 gs, v] = ent k sd tm tk rc x gs v := by simp [ent]
    rwa [e] at q, h.ls, h.lt, hx⟩
theorem Gq.sets {P o : Nat} {vs : List Value} {W : World} (h : Gro (fun g => g = P) w W) : Gq P b w (W.setCells b o vs) := by
  have q := below_setCells (Below.refl 0 W) (b := b) (o := o) (Nat.zero_le _) vs
  exact ⟨q.os.trans h.os, q.tape.trans h.tape, q.output.trans h.output, Nat.le_trans h.size q.size, fun k hk hn => (heap_sets W b o vs k (fun e => hn (.inr e))).trans (h.block k hk (fun e => hn (.inl e)))⟩
end

set_option maxRecDepth 100000 in
theorem k_entryFields_3 (k tm tk gs : Int) (sd rc : List (BitVec 8)) (am : List Nat) (v : Value) (P : Nat) (A0 : Option Addr) (cap0 : Nat) (bs : List (BitVec 8)) (a b : Nat) (x : List (BitVec 8)) (hx : sub bs a 20 = x) (hl : x.length = 20) (he : dgE 20 bs a = 0) (w : World) (h : Rg w P A0 cap0 bs a) (hb : En w b k sd tm tk rc am gs v) : Calls Tryz.prog 72 #[.pointer (some ⟨P, 0, none⟩), .pointer (some ⟨b, 0, none⟩)] w fun e w' => e = .returned (.tuple #[]) ∧ Rg w' P A0 cap0 bs (a + 20) ∧ En w' b k x tm tk rc am gs v ∧ Gq P b w w' := by
  have hne : b ≠ P := row_ne hb.row h.row (by decide)
  have HN : Hid _ := face_address P A0 cap0 bs a w h
  have HL : Hid (En w b k sd tm tk rc am gs v) := hb
  have HE : Hid (b ≠ P) := hne
  have HNU : Hid (dgE 20 bs a = 0) := he
  have HXL : Hid (x.length = 20) := hl
  have HXE : Hid (sub bs a 20 = x) := hx
  have HI : Hid ((Tryz.prog.info? 40).map (·.size) = some (vB x).toArray.size) := by show _ = _; rw [List.size_toArray, vB_length, hl]; kernel_rfl
  clear h hb hne he hx hl
  go_enter Tryz.func72, Tryz.ntmps72
  go_wp2_with fail
  refine Calls.mono HN.out ?_
  rintro e W ⟨hok, hno, hG⟩
  clear hno
  obtain ⟨rfl, hr⟩ := hok HNU.out
  rw [HXE.out]
  have hL : En W b k sd tm tk rc am gs v := ⟨hG.row HL.out.row HE.out, HL.out.ls, HL.out.lt, HL.out.la⟩
  have HRG : Hid (Rg W P A0 cap0 bs (a + 20)) := hr
  have HL2 : Hid (En W b k sd tm tk rc am gs v) := hL
  have HG : Hid (Gro (fun g => g = P) w W) := hG
  have HTH : Hid (W.there b 1 (vB x).toArray.size) := Row.there hL.row 1 _ (by rw [ent_lenH hL.ls hL.lt hL.la, List.size_toArray, vB_length, HXL.out]; decide)
  have HON : Hid ((vB x).toArray.all (·.oneCell') = true) := by show _ = true; rw [← Array.all_toList]; exact List.all_eq_true.2 (vB_one x)
  clear hok hG hr hL HN HL
  go_wp2_with (refine wpList_store_mid rfl 40 (.tmp 8) (.tmp 6) rfl b 1 (vB x).toArray rfl rfl HTH.out HI.out HON.out ?_; simp only [Act.put]; change wpList _ _ _ _ _ (World.setCells W b 1 (vB x)))
  go_end0
  exact ⟨rfl, HRG.out.setsNew b 1 _ HL2.out.row (by decide) (by decide), HL2.out.sender x HXL.out, Gq.sets HG.out⟩

set_option maxRecDepth 100000 in
theorem k_entryFields_14 (k tm tk gs : Int) (sd rc : List (BitVec 8)) (am : List Nat) (v : Value) (P : Nat) (A0 : Option Addr) (cap0 : Nat) (bs : List (BitVec 8)) (a b : Nat) (x : List (BitVec 8)) (hx : sub bs a 20 = x) (hl : x.length = 20) (he : dgE 20 bs a = 0) (w : World) (h : Rg w P A0 cap0 bs a) (hb : En w b k sd tm tk rc am gs v) : Calls Tryz.prog 88 #[.pointer (some ⟨P, 0, none⟩), .pointer (some ⟨b, 0, none⟩)] w fun e w' => e = .returned (.tuple #[]) ∧ Rg w' P A0 cap0 bs (a + 20) ∧ En w' b k sd tm tk x am gs v ∧ Gq P b w w' := by
  have hne : b ≠ P := row_ne hb.row h.row (by decide)
  have HN : Hid _ := face_address P A0 cap0 bs a w h
  have HL : Hid (En w b k sd tm tk rc am gs v) := hb
  have HE : Hid (b ≠ P) := hne
  have HNU : Hid (dgE 20 bs a = 0) := he
  have HXL : Hid (x.length = 20) := hl
  have HXE : Hid (sub bs a 20 = x) := hx
  have HI : Hid ((Tryz.prog.info? 40).map (·.size) = some (vB x).toArray.size) := by show _ = _; rw [List.size_toArray, vB_length, hl]; kernel_rfl
  clear h hb hne he hx hl
  go_enter Tryz.func88, Tryz.ntmps88
  go_wp2_with fail
  refine Calls.mono HN.out ?_
  rintro e W ⟨hok, hno, hG⟩
  clear hno
  obtain ⟨rfl, hr⟩ := hok HNU.out
  rw [HXE.out]
  have hL : En W b k sd tm tk rc am gs v := ⟨hG.row HL.out.row HE.out, HL.out.ls, HL.out.lt, HL.out.la⟩
  have HRG : Hid (Rg W P A0 cap0 bs (a + 20)) := hr
  have HL2 : Hid (En W b k sd tm tk rc am gs v) := hL
  have HG : Hid (Gro (fun g => g = P) w W) := hG
  have HTH : Hid (W.there b 23 (vB x).toArray.size) := Row.there hL.row 23 _ (by rw [ent_lenH hL.ls hL.lt hL.la, List.size_toArray, vB_length, HXL.out]; decide)
  have HON : Hid ((vB x).toArray.all (·.oneCell') = true) := by show _ = true; rw [← Array.all_toList]; exact List.all_eq_true.2 (vB_one x)
  clear hok hG hr hL HN HL
  go_wp2_with (refine wpList_store_mid rfl 40 (.tmp 8) (.tmp 6) rfl b 23 (vB x).toArray rfl rfl HTH.out HI.out HON.out ?_; simp only [Act.put]; change wpList _ _ _ _ _ (World.setCells W b 23 (vB x)))
  go_end0
  exact ⟨rfl, HRG.out.setsNew b 23 _ HL2.out.row (by decide) (by decide), HL2.out.toward x HXL.out, Gq.sets HG.out⟩

end Go.Proofs.YtmfmdlaeflahlaaGreatDoor

namespace Go.Proofs.YtmfmdlaeflahlaaGreatDoor
open Go Go.RowKit
open Sha

theorem bits_in : ∀ m x : Nat, x < 2 ^ m → m ≤ 64 → x ≠ 0 → 2 ^ (Lib.bitLen x - 1) ≤ x ∧ x < 2 ^ Lib.bitLen x ∧ 1 ≤ Lib.bitLen x
  | 0, x, h, _, h0 => by simp at h; omega
  | m + 1, x, h, hm, h0 => by
    have h64 : x < 2 ^ 64 := Nat.lt_of_lt_of_le h (Nat.pow_le_pow_right (by decide) hm)
    have e := Lib.bitLen_half x h0 h64
    by_cases h1 : x / 2 = 0
    · have hx : x = 1 := by omega
      subst hx
      decide
    · have h2 : x / 2 < 2 ^ m := by rw [Nat.pow_succ] at h; omega
      obtain ⟨i1, i2, i3⟩ := bits_in m (x / 2) h2 (by omega) h1
      rw [e]
      have e1 : 1 + Lib.bitLen (x / 2) - 1 = (Lib.bitLen (x / 2) - 1) + 1 := by omega
      rw [e1, Nat.pow_succ, show 1 + Lib.bitLen (x / 2) = Lib.bitLen (x / 2) + 1 by omega, Nat.pow_succ]
      exact ⟨by omega, by omega, by omega⟩
theorem bl_in (x : Nat) (h : x < 18446744073709551616) (h0 : x ≠ 0) : 1 ≤ bl x ∧ bl x ≤ 8 ∧ 256 ^ (bl x - 1) ≤ x ∧ x < 256 ^ bl x := by
  obtain ⟨i1, i2, i3⟩ := bits_in 64 x h (Nat.le_refl _) h0
  have h8 : bl x ≤ 8 := bl_le x
  have e1 : ∀ m, (256 : Nat) ^ m = 2 ^ (8 * m) := fun m => by rw [Nat.pow_mul]
  have hb : 1 ≤ bl x := by unfold bl; omega
  refine ⟨hb, h8, ?_, ?_⟩
  · rw [e1]
    exact Nat.le_trans (Nat.pow_le_pow_right (by decide) (by unfold bl; omega)) i1
  · rw [e1]
    exact Nat.lt_of_lt_of_le i2 (Nat.pow_le_pow_right (by decide) (by unfold bl; omega))
/-- A part against the number of bytes. -/
theorem nb_parts (a b c d : Nat) (ha : a < 18446744073709551616) (hb : b < 18446744073709551616) (hc : c < 18446744073709551616) (hd : d < 18446744073709551616) (j : Nat) (hj : j < 4) :
    8 * j + 8 ≤ nb a b c d ∨ [a, b, c, d].getD j 0 < 256 ^ (nb a b c d - 8 * j) := by
  unfold nb
  by_cases h3 : d ≠ 0
  · rw [if_pos h3]
    obtain ⟨q1, q2, _, q4⟩ := bl_in d hd h3
    rcases (show j = 0 ∨ j = 1 ∨ j = 2 ∨ j = 3 by omega) with rfl | rfl | rfl | rfl
    · exact .inl (by omega)
    · exact .inl (by omega)
    · exact .inl (by omega)
    · exact .inr (by show d < _; rw [show 24 + bl d - 8 * 3 = bl d by omega]; exact q4)
  rw [if_neg h3]
  have d0 : d = 0 := by omega
  by_cases h2 : c ≠ 0
  · rw [if_pos h2]
    obtain ⟨q1, q2, _, q4⟩ := bl_in c hc h2
    rcases (show j = 0 ∨ j = 1 ∨ j = 2 ∨ j = 3 by omega) with rfl | rfl | rfl | rfl
    · exact .inl (by omega)
    · exact .inl (by omega)
    · exact .inr (by show c < _; rw [show 16 + bl c - 8 * 2 = bl c by omega]; exact q4)
    · exact .inr (by show d < _; rw [d0]; exact Nat.pow_pos (by decide))
  rw [if_neg h2]
  have c0 : c = 0 := by omega
  by_cases h1 : b ≠ 0
  · rw [if_pos h1]
    obtain ⟨q1, q2, _, q4⟩ := bl_in b hb h1
    rcases (show j = 0 ∨ j = 1 ∨ j = 2 ∨ j = 3 by omega) with rfl | rfl | rfl | rfl
    · exact .inl (by omega)
    · exact .inr (by show b < _; rw [show 8 + bl b - 8 * 1 = bl b by omega]; exact q4)
    · exact .inr (by show c < _; rw [c0]; exact Nat.pow_pos (by decide))
    · exact .inr (by show d < _; rw [d0]; exact Nat.pow_pos (by decide))
  rw [if_neg h1]
  have b0 : b = 0 := by omega
  by_cases h0 : a ≠ 0
  · rw [if_pos h0]
    obtain ⟨q1, q2, _, q4⟩ := bl_in a ha h0
    rcases (show j = 0 ∨ j = 1 ∨ j = 2 ∨ j = 3 by omega) with rfl | rfl | rfl | rfl
    · exact .inr (by show a < _; rw [show bl a - 8 * 0 = bl a by omega]; exact q4)
    · exact .inr (by show b < _; rw [b0]; exact Nat.pow_pos (by decide))
    · exact .inr (by show c < _; rw [c0]; exact Nat.pow_pos (by decide))
    · exact .inr (by show d < _; rw [d0]; exact Nat.pow_pos (by decide))
  · rw [if_neg h0]
    have a0 : a = 0 := by omega
    rcases (show j = 0 ∨ j = 1 ∨ j = 2 ∨ j = 3 by omega) with rfl | rfl | rfl | rfl
    · exact .inr (by show a < _; rw [a0]; exact Nat.pow_pos (by decide))
    · exact .inr (by show b < _; rw [b0]; exact Nat.pow_pos (by decide))
    · exact .inr (by show c < _; rw [c0]; exact Nat.pow_pos (by decide))
    · exact .inr (by show d < _; rw [d0]; exact Nat.pow_pos (by decide))
/-- The first byte is no nought. -/
theorem nb_top (a b c d : Nat) (ha : a < 18446744073709551616) (hb : b < 18446744073709551616) (hc : c < 18446744073709551616) (hd : d < 18446744073709551616) (h : 0 < nb a b c d) : (fb [a, b, c, d] (nb a b c d - 1)).toNat ≠ 0 := by
  have key : ∀ (x J m : Nat), x < 18446744073709551616 → x ≠ 0 → m = 8 * J + bl x → [a, b, c, d].getD J 0 = x → (fb [a, b, c, d] (m - 1)).toNat ≠ 0 := fun x J m hx h0 hm hg => by
    obtain ⟨q1, q2, q3, q4⟩ := bl_in x hx h0
    unfold fb
    rw [BitVec.toNat_ofNat, show (m - 1) / 8 = J by omega, hg, show (m - 1) % 8 * 8 = 8 * (bl x - 1) by omega, Nat.pow_mul, show (2 : Nat) ^ 8 = 256 from rfl]
    have hp : 0 < (256 : Nat) ^ (bl x - 1) := Nat.pow_pos (by decide)
    have e1 : (256 : Nat) ^ bl x = 256 ^ (bl x - 1) * 256 := by rw [← Nat.pow_succ]; congr 1; omega
    have h1 : 1 ≤ x / 256 ^ (bl x - 1) := (Nat.le_div_iff_mul_le hp).2 (by omega)
    have h2 : x / 256 ^ (bl x - 1) < 256 := Nat.div_lt_of_lt_mul (by rw [← e1]; exact q4)
    rw [Nat.mod_eq_of_lt h2]
    omega
  have hnb := h
  unfold nb at hnb ⊢
  by_cases h3 : d ≠ 0
  · rw [if_pos h3]; exact key d 3 _ hd h3 (by omega) rfl
  rw [if_neg h3] at hnb ⊢
  by_cases h2 : c ≠ 0
  · rw [if_pos h2]; exact key c 2 _ hc h2 (by omega) rfl
  rw [if_neg h2] at hnb ⊢
  by_cases h1 : b ≠ 0
  · rw [if_pos h1]; exact key b 1 _ hb h1 (by omega) rfl
  rw [if_neg h1] at hnb ⊢
  by_cases h0 : a ≠ 0
  · rw [if_pos h0]; exact key a 0 _ ha h0 (by omega) rfl
  · rw [if_neg h0] at hnb; omega
theorem lb_of (bs : List (BitVec 8)) (e j x : Nat) : ∀ t, 8 * j ≤ t → t ≤ 8 * j + 8 → (∀ i, 8 * j ≤ i → i < t → at8 bs (e - 1 - i) = x / 256 ^ (i - 8 * j) % 256) → lb bs e j t = x % 256 ^ (t - 8 * j)
  | 0, h1, _, _ => by simp [lb, Nat.mod_one]
  | t + 1, h1, h2, hd => by
    by_cases q : t + 1 = 8 * j
    · rw [lb_none bs e j (t + 1) (by omega), q, Nat.sub_self, Nat.pow_zero, Nat.mod_one]
    have ih := lb_of bs e j x t (by omega) (by omega) (fun i h h' => hd i h (by omega))
    have e1 : lb bs e j (t + 1) = lb bs e j t + at8 bs (e - 1 - t) * 256 ^ (t - 8 * j) := by
      show (if t / 8 = j then _ else _) = _
      rw [if_pos (by omega), show t % 8 = t - 8 * j by omega]
    rw [e1, ih, hd t (by omega) (by omega), show t + 1 - 8 * j = (t - 8 * j) + 1 by omega, Nat.pow_succ, Nat.mod_mul, Nat.mul_comm (256 ^ (t - 8 * j))]
/-- A form that stands there is read. -/
theorem read_form (a b c d : Nat) (ha : a < 18446744073709551616) (hb : b < 18446744073709551616) (hc : c < 18446744073709551616) (hd : d < 18446744073709551616) (most : Nat) (bs : List (BitVec 8)) (p : Nat) (k : Nat) (hk : k = nb a b c d) (hm : k ≤ most) (hl : p + (1 + k) ≤ bs.length) (hs : sub bs p (1 + k) = fm [a, b, c, d] k) :
    at8 bs p = k ∧ hiF most bs p = 0 ∧ ∀ j, j < 4 → lb bs (p + 1 + k) j k = [a, b, c, d].getD j 0 := by
  have k32 : k ≤ 32 := by rw [hk]; exact nb_le a b c d
  have hat : ∀ i (hi : i < 1 + k), at8 bs (p + i) = ((fm [a, b, c, d] k)[i]'(by rw [fm_len]; omega)).toNat := fun i hi => by
    have h1 := sub_get bs p (1 + k) i hi
    rw [hs, List.getElem?_eq_getElem (by rw [fm_len]; omega)] at h1
    unfold at8
    rw [List.getD_eq_getElem?_getD, ← h1]
    rfl
  have h0 : at8 bs p = k := by
    have := hat 0 (by omega)
    rw [Nat.add_zero] at this
    rw [this]
    simp only [fm, List.getElem_cons_zero, BitVec.toNat_ofNat]
    exact Nat.mod_eq_of_lt (by omega)
  have hi : ∀ i, i < k → at8 bs (p + 1 + k - 1 - i) = (fb [a, b, c, d] i).toNat := fun i hi => by
    have := hat (k - i) (by omega)
    rw [show p + 1 + k - 1 - i = p + (k - i) by omega, this]
    have e : k - i = (k - 1 - i) + 1 := by omega
    simp only [e]
    simp only [fm, List.getElem_cons_succ, List.getElem_map, List.getElem_range]
    rw [show k - 1 - (k - 1 - i) = i by omega]
  refine ⟨h0, ?_, fun j hj => ?_⟩
  · unfold hiF
    rw [h0, if_neg (by omega), if_neg (by omega), if_neg (by omega), if_neg]
    rintro ⟨q1, q2⟩
    have := hi (k - 1) (by omega)
    rw [show p + 1 + k - 1 - (k - 1) = p + 1 by omega, q2] at this
    have ht := nb_top a b c d ha hb hc hd (by rw [← hk]; exact q1)
    rw [← hk] at ht
    exact ht this.symm
  · have hdig : ∀ i, 8 * j ≤ i → i < 8 * j + 8 → i < k → at8 bs (p + 1 + k - 1 - i) = [a, b, c, d].getD j 0 / 256 ^ (i - 8 * j) % 256 := fun i h1 h2 h3 => by
      rw [hi i h3]
      unfold fb
      rw [BitVec.toNat_ofNat, show i / 8 = j by omega, show i % 8 * 8 = 8 * (i - 8 * j) by omega, Nat.pow_mul]
    rcases nb_parts a b c d ha hb hc hd j hj with q | q
    · rw [← hk] at q
      rw [lb_stay bs _ j k (by omega), lb_of bs _ j ([a, b, c, d].getD j 0) (8 * j + 8) (by omega) (Nat.le_refl _) (fun i h1 h2 => hdig i h1 (by omega) (by omega))]
      rw [show 8 * j + 8 - 8 * j = 8 by omega]
      apply Nat.mod_eq_of_lt
      have e8 : (256 : Nat) ^ 8 = 18446744073709551616 := by decide
      rw [e8]
      rcases (show j = 0 ∨ j = 1 ∨ j = 2 ∨ j = 3 by omega) with rfl | rfl | rfl | rfl
      · exact ha
      · exact hb
      · exact hc
      · exact hd
    · rw [← hk] at q
      by_cases q2 : k ≤ 8 * j
      · rw [lb_none bs _ j k q2]
        rw [show k - 8 * j = 0 by omega, Nat.pow_zero] at q
        omega
      · by_cases q3 : k ≤ 8 * j + 8
        · rw [lb_of bs _ j ([a, b, c, d].getD j 0) k (by omega) q3 (fun i h1 h2 => hdig i h1 (by omega) h2)]
          exact Nat.mod_eq_of_lt q
        · rw [lb_stay bs _ j k (by omega), lb_of bs _ j ([a, b, c, d].getD j 0) (8 * j + 8) (by omega) (Nat.le_refl _) (fun i h1 h2 => hdig i h1 (by omega) (by omega))]
          rw [show 8 * j + 8 - 8 * j = 8 by omega]
          apply Nat.mod_eq_of_lt
          have e8 : (256 : Nat) ^ 8 = 18446744073709551616 := by decide
          rw [e8]
          rcases (show j = 0 ∨ j = 1 ∨ j = 2 ∨ j = 3 by omega) with rfl | rfl | rfl | rfl
          · exact ha
          · exact hb
          · exact hc
          · exact hd
theorem read_num (n : Nat) (hn : n ≤ 9223372036854775807) (bs : List (BitVec 8)) (p k : Nat) (hk : k = nb n 0 0 0) (hl : p + (1 + k) ≤ bs.length) (hs : sub bs p (1 + k) = fm [n, 0, 0, 0] k) : at8 bs p = k ∧ nuE bs p = 0 ∧ nuW bs p = n := by
  have k8 : k ≤ 8 := by
    rw [hk]; unfold nb
    rw [if_neg (by simp), if_neg (by simp), if_neg (by simp)]
    split
    · exact bl_le n
    · omega
  obtain ⟨h1, h2, h3⟩ := read_form n 0 0 0 (by omega) (by decide) (by decide) (by decide) 8 bs p k hk k8 hl hs
  have e : nuW bs p = n := by
    unfold nuW
    rw [h1]; exact h3 0 (by decide)
  refine ⟨h1, ?_, e⟩
  unfold nuE
  rw [if_pos h2, e, if_neg (by omega)]

end Go.Proofs.YtmfmdlaeflahlaaGreatDoor

namespace Go.Proofs.YtmfmdlaeflahlaaGreatDoor
open Go Go.RowKit
open Sha


set_option maxRecDepth 100000 in
theorem k_entryFields_18 (k tm tk gs : Int) (sd rc : List (BitVec 8)) (am : List Nat) (v : Value) (P : Nat) (A0 : Option Addr) (cap0 : Nat) (bs : List (BitVec 8)) (a b : Nat) (x : List Nat) (hx : qd bs (a + 1 + at8 bs a) (at8 bs a) = vQ x) (hl : x.length = 4) (he : hiF 32 bs a = 0) (w : World) (h : Rg w P A0 cap0 bs a) (hb : En w b k sd tm tk rc am gs v) : Calls Tryz.prog 93 #[.pointer (some ⟨P, 0, none⟩), .pointer (some ⟨b, 0, none⟩)] w fun e w' => e = .returned (.tuple #[]) ∧ Rg w' P A0 cap0 bs (a + 1 + at8 bs a) ∧ En w' b k sd tm tk rc x gs v ∧ Gq P b w w' := by
  have hne : b ≠ P := row_ne hb.row h.row (by decide)
  have HN : Hid _ := face_wide P A0 cap0 bs a w h
  have HL : Hid (En w b k sd tm tk rc am gs v) := hb
  have HE : Hid (b ≠ P) := hne
  have HNU : Hid (hiF 32 bs a = 0) := he
  have HXL : Hid (x.length = 4) := hl
  have HXE : Hid (qd bs (a + 1 + at8 bs a) (at8 bs a) = vQ x) := hx
  have HI : Hid ((Tryz.prog.info? 43).map (·.size) = some (vQ x).toArray.size) := by show _ = _; rw [List.size_toArray, vQ_len, hl]; kernel_rfl
  have HON : Hid ((vQ x).toArray.all (·.oneCell') = true) := by show _ = true; rw [← hx, ← Array.all_toList]; exact List.all_eq_true.2 (qd_one _ _ _)
  clear h hb hne he hx hl
  go_enter Tryz.func93, Tryz.ntmps93
  go_wp2_with fail
  refine Calls.mono HN.out ?_
  rintro e W ⟨hok, hno, hG⟩
  clear hno
  obtain ⟨rfl, hr⟩ := hok HNU.out
  rw [HXE.out]
  have hL : En W b k sd tm tk rc am gs v := ⟨hG.row HL.out.row HE.out, HL.out.ls, HL.out.lt, HL.out.la⟩
  have HRG : Hid (Rg W P A0 cap0 bs (a + 1 + at8 bs a)) := hr
  have HL2 : Hid (En W b k sd tm tk rc am gs v) := hL
  have HG : Hid (Gro (fun g => g = P) w W) := hG
  have HTH : Hid (W.there b 43 (vQ x).toArray.size) := Row.there hL.row 43 _ (by rw [ent_lenH hL.ls hL.lt hL.la, List.size_toArray, vQ_len, HXL.out]; decide)
  clear hok hG hr hL HN HL
  go_wp2_with (refine wpList_store_mid rfl 43 (.tmp 8) (.tmp 6) rfl b 43 (vQ x).toArray rfl rfl HTH.out HI.out HON.out ?_; simp only [Act.put]; change wpList _ _ _ _ _ (World.setCells W b 43 (vQ x)))
  go_end0
  exact ⟨rfl, HRG.out.setsNew b 43 _ HL2.out.row (by decide) (by decide), HL2.out.amount x HXL.out, Gq.sets HG.out⟩
section
variable {k tm tk gs : Int} {sd rc : List (BitVec 8)} {am : List Nat} {v : Value} {b : Nat} {w : World}
theorem ent_body (h1 : sd.length = 20) (h2 : rc.length = 20) (h3 : am.length = 4) (u : Value) : (ent k sd tm tk rc am gs v).set 48 u = ent k sd tm tk rc am gs u := by
  refine congrArg (List.cons _) ((set_past (vB sd) _ 20 27 _ (by rw [vB_length, h1])).trans (congrArg (vB sd ++ ·) ?_))
  refine congrArg (List.cons _) (congrArg (List.cons _) ((set_past (vB rc) _ 20 5 _ (by rw [vB_length, h2])).trans (congrArg (vB rc ++ ·) ?_)))
  exact set_past (vQ am) _ 4 1 _ (by rw [vQ_len, h3])
theorem En.body (h : En w b k sd tm tk rc am gs v) (u : Value) : En (w.setCell ⟨b, 48, none⟩ u) b k sd tm tk rc am gs u := ⟨by have q := h.row.set 48 u; rwa [ent_body h.ls h.lt h.la] at q, h.ls, h.lt, h.la⟩
end
set_option maxRecDepth 100000 in
theorem k_entryFields_26 (k tm tk gs : Int) (sd rc : List (BitVec 8)) (am : List Nat) (v : Value) (P : Nat) (A0 : Option Addr) (cap0 : Nat) (bs : List (BitVec 8)) (a b n : Nat) (d : List (BitVec 8)) (hn : nuW bs a = n) (hd : sub bs (a + 1 + at8 bs a) n = d) (he : cnE bs a 4096 = 0) (w : World) (h : Rg w P A0 cap0 bs a) (hb : En w b k sd tm tk rc am gs v) : Calls Tryz.prog 103 #[.pointer (some ⟨P, 0, none⟩), .pointer (some ⟨b, 0, none⟩)] w fun e w' => ∃ A' c', e = .returned (.tuple #[]) ∧ Rg w' P A0 cap0 bs (a + 1 + at8 bs a + n) ∧ En w' b k sd tm tk rc am gs (.slice A' n c') ∧ Bw w' (.slice A' n c') d ∧ Fresh w.heap.size (.slice A' n c') ∧ (A' = none → c' = 0) ∧ Gq P b w w' := by
  have hne : b ≠ P := row_ne hb.row h.row (by decide)
  have HN := face_bytes P A0 cap0 bs a 4096 w h
  rw [hn, hd] at HN
  replace HN : Hid _ := HN
  have HL : Hid (En w b k sd tm tk rc am gs v) := hb
  have HE : Hid (b ≠ P) := hne
  have HNU : Hid (cnE bs a 4096 = 0) := he
  clear h hb hne he hn hd
  go_enter Tryz.func103, Tryz.ntmps103
  go_wp2_with fail
  refine Calls.mono HN.out ?_
  rintro e W ⟨hok, hno, hG⟩
  clear hno
  obtain ⟨v9, rfl, ⟨A', c', rfl, hbw, hfr, hnil⟩, hr⟩ := hok HNU.out
  have hL : En W b k sd tm tk rc am gs v := ⟨hG.row HL.out.row HE.out, HL.out.ls, HL.out.lt, HL.out.la⟩
  have g1 := hL.c_body
  have k1 := hL.row.thaw 48
  have HRG : Hid (Rg W P A0 cap0 bs (a + 1 + at8 bs a + n)) := hr
  have HL2 : Hid (En W b k sd tm tk rc am gs v) := hL
  have HG : Hid (Gro (fun g => g = P) w W) := hG
  have HBW : Hid (Bw W (.slice A' n c') d) := hbw
  have HFR : Hid (Fresh w.heap.size (.slice A' n c')) := hfr
  have HNI : Hid (A' = none → c' = 0) := hnil
  clear hok hG hr hL HN HL hbw hfr hnil
  go_wp2_with fail
  go_end0
  refine ⟨A', c', rfl, HRG.out.setNew b 48 _ HL2.out.row (by decide) (by decide), HL2.out.body _, ?_, HFR.out, HNI.out, ?_⟩
  · exact Bw.set_other HBW.out (fun g e => Bw.ne HBW.out HL2.out.row (by decide) g e)
  · exact Gro.set (Gro.mono HG.out (fun g e => .inl e)) b 48 _ (.inr rfl)

end Go.Proofs.YtmfmdlaeflahlaaGreatDoor

namespace Go.Proofs.YtmfmdlaeflahlaaGreatDoor
open Go Go.RowKit
open Sha

theorem sub_mid (p q r bs : List (BitVec 8)) (a n : Nat) (hb : bs = p ++ (q ++ r)) (ha : p.length = a) (hq : q.length = n) : sub bs a n = q ∧ a + n ≤ bs.length := by
  subst hb ha hq
  refine ⟨?_, by simp only [List.length_append]; omega⟩
  unfold sub
  rw [List.drop_left' rfl, List.take_left' rfl]
theorem at_adr (p r x bs : List (BitVec 8)) (a : Nat) (hb : bs = p ++ (x ++ r)) (ha : p.length = a) (hx : x.length = 20) : dgE 20 bs a = 0 ∧ sub bs a 20 = x := by
  obtain ⟨h1, h2⟩ := sub_mid p x r bs a 20 hb ha hx
  exact ⟨by unfold dgE; rw [if_neg (by omega)], h1⟩
theorem nf_size (n : Int) : (nf n).length = 1 + nb n.toNat 0 0 0 := by
  unfold nf
  rw [fm_len]
  omega
theorem at_num (p r bs : List (BitVec 8)) (n : Int) (a : Nat) (h0 : 0 ≤ n) (h1 : n < 9223372036854775808) (hb : bs = p ++ (nf n ++ r)) (ha : p.length = a) : nuE bs a = 0 ∧ ((nuW bs a : Nat) : Int) = n ∧ a + 1 + at8 bs a = a + (nf n).length := by
  have hl := nf_size n
  obtain ⟨s1, s2⟩ := sub_mid p (nf n) r bs a _ hb ha hl
  obtain ⟨k1, k2, k3⟩ := read_num n.toNat (by omega) bs a _ rfl s2 s1
  exact ⟨k2, by rw [k3]; omega, by rw [k1, hl]; omega⟩
theorem at_wide (p r bs : List (BitVec 8)) (am : List Nat) (a : Nat) (h4 : am.length = 4) (hq : ∀ x ∈ am, x < 18446744073709551616) (hb : bs = p ++ (wf am ++ r)) (ha : p.length = a) : hiF 32 bs a = 0 ∧ qd bs (a + 1 + at8 bs a) (at8 bs a) = vQ am ∧ a + 1 + at8 bs a = a + (wf am).length := by
  obtain ⟨m0, m1, m2, m3, rfl⟩ : ∃ m0 m1 m2 m3, am = [m0, m1, m2, m3] := by
    rcases am with _ | ⟨m0, _ | ⟨m1, _ | ⟨m2, _ | ⟨m3, _ | ⟨m4, r⟩⟩⟩⟩⟩
    all_goals first | exact ⟨_, _, _, _, rfl⟩ | (simp at h4)
  have hl : (wf [m0, m1, m2, m3]).length = 1 + nb m0 m1 m2 m3 := by
    show (fm [m0, m1, m2, m3] (nb m0 m1 m2 m3)).length = _
    rw [fm_len]
    omega
  obtain ⟨s1, s2⟩ := sub_mid p (wf [m0, m1, m2, m3]) r bs a _ hb ha hl
  obtain ⟨k1, k2, k3⟩ := read_form m0 m1 m2 m3 (hq _ (by simp)) (hq _ (by simp)) (hq _ (by simp)) (hq _ (by simp)) 32 bs a _ rfl (nb_le _ _ _ _) s2 s1
  refine ⟨k2, ?_, by rw [k1, hl]; omega⟩
  rw [k1]
  unfold qd
  rw [k3 0 (by decide), k3 1 (by decide), k3 2 (by decide), k3 3 (by decide)]
  rfl
theorem at_body (p r d bs : List (BitVec 8)) (n a : Nat) (hd : d.length = n) (hn : n ≤ 4096) (hb : bs = p ++ (fm [n, 0, 0, 0] (nb n 0 0 0) ++ d ++ r)) (ha : p.length = a) : cnE bs a 4096 = 0 ∧ nuW bs a = n ∧ sub bs (a + 1 + at8 bs a) n = d ∧ a + 1 + at8 bs a + n = a + (fm [n, 0, 0, 0] (nb n 0 0 0) ++ d).length := by
  have hl : (fm [n, 0, 0, 0] (nb n 0 0 0)).length = 1 + nb n 0 0 0 := by
    rw [fm_len]
    omega
  obtain ⟨s1, s2⟩ := sub_mid p (fm [n, 0, 0, 0] (nb n 0 0 0)) (d ++ r) bs a _ (by rw [hb, List.append_assoc]) ha hl
  obtain ⟨k1, k2, k3⟩ := read_num n (by omega) bs a _ rfl s2 s1
  obtain ⟨t1, t2⟩ := sub_mid (p ++ fm [n, 0, 0, 0] (nb n 0 0 0)) d r bs (a + 1 + nb n 0 0 0) n (by rw [hb, List.append_assoc, List.append_assoc]) (by rw [List.length_append, hl, ha]; omega) hd
  rw [k1, k3]
  refine ⟨?_, rfl, t1, by rw [List.length_append, hl, hd]; omega⟩
  unfold cnE
  rw [if_pos k2, k3, k1, if_neg (by omega), if_neg (by omega)]
theorem nuE_short {bs : List (BitVec 8)} {a : Nat} (h : nuE bs a = 0) : a < bs.length ∧ a + 1 + at8 bs a ≤ bs.length := by
  have h1 : hiF 8 bs a = 0 := by
    unfold nuE at h
    by_cases q : hiF 8 bs a = 0
    · exact q
    · rw [if_neg q] at h
      exact h
  unfold hiF at h1
  by_cases q1 : bs.length ≤ a
  · rw [if_pos q1] at h1
    cases h1
  by_cases q2 : 8 < at8 bs a
  · rw [if_neg q1, if_pos q2] at h1
    cases h1
  by_cases q3 : bs.length < a + 1 + at8 bs a
  · rw [if_neg q1, if_neg q2, if_pos q3] at h1
    cases h1
  omega
theorem cut_num (p bs : List (BitVec 8)) (n : Int) (a : Nat) (hb : bs = p ++ (nf n).take ((nf n).length - 1)) (ha : p.length = a) : ¬ nuE bs a = 0 := by
  intro h
  obtain ⟨h1, h2⟩ := nuE_short h
  have hl := nf_size n
  have hn := nb_le n.toNat 0 0 0
  have hbl : bs.length = a + nb n.toNat 0 0 0 := by
    rw [hb, List.length_append, List.length_take, ha, hl]
    omega
  have h8 : at8 bs a = nb n.toNat 0 0 0 := by
    obtain ⟨k, hk⟩ : ∃ k, nb n.toNat 0 0 0 = k + 1 := ⟨nb n.toNat 0 0 0 - 1, by omega⟩
    have e : (nf n).take ((nf n).length - 1) = BitVec.ofNat 8 (nb n.toNat 0 0 0) :: ((nf n).drop 1).take k := by
      rw [hl, show 1 + nb n.toNat 0 0 0 - 1 = k + 1 by omega]
      rfl
    unfold at8
    rw [hb, e, ← ha, List.getD_eq_getElem?_getD, List.getElem?_append_right (Nat.le_refl _), Nat.sub_self]
    show (BitVec.ofNat 8 (nb n.toNat 0 0 0)).toNat = _
    rw [BitVec.toNat_ofNat]
    exact Nat.mod_eq_of_lt (by omega)
  omega
theorem cut_body (p d bs : List (BitVec 8)) (n a : Nat) (hd : d.length = n) (hn : n ≤ 4096) (hb : bs = p ++ (fm [n, 0, 0, 0] (nb n 0 0 0) ++ d).take ((fm [n, 0, 0, 0] (nb n 0 0 0) ++ d).length - 1)) (ha : p.length = a) : ¬ cnE bs a 4096 = 0 := by
  intro h
  obtain ⟨h1, h2, h3⟩ := cnE_ok h
  have hl : (fm [n, 0, 0, 0] (nb n 0 0 0)).length = 1 + nb n 0 0 0 := by
    rw [fm_len]
    omega
  by_cases h0 : n = 0
  · subst h0
    obtain rfl := List.length_eq_zero_iff.1 hd
    refine cut_num p bs 0 a ?_ ha h1
    rw [hb, List.append_nil]
    rfl
  · have hbl : bs.length = a + nb n 0 0 0 + n := by
      rw [hb, List.length_append, List.length_take, List.length_append, ha, hl, hd]
      omega
    have e : (fm [n, 0, 0, 0] (nb n 0 0 0) ++ d).take ((fm [n, 0, 0, 0] (nb n 0 0 0) ++ d).length - 1) = fm [n, 0, 0, 0] (nb n 0 0 0) ++ d.take (n - 1) := by
      rw [List.take_append, List.length_append, hl, hd]
      congr 1
      · exact List.take_of_length_le (by rw [hl]; omega)
      · congr 1
        omega
    rw [e] at hb
    obtain ⟨s1, s2⟩ := sub_mid p _ _ bs a _ hb ha hl
    obtain ⟨k1, k2, k3⟩ := read_num n (by omega) bs a _ rfl s2 s1
    rw [k1, k3] at h3
    omega

end Go.Proofs.YtmfmdlaeflahlaaGreatDoor
