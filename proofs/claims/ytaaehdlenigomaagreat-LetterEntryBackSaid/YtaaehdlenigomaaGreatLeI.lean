/-
  entries of any values: the closures that take an amount, a body.
-/
import Derived.Test.YtaaehdlenigomaaGreatLeA
import Derived.Test.YtaaehdlenigomaaGreatLtH

namespace Go.Proofs.YtaaehdlenigomaaGreat
open Go Go.RowKit
open Sha

section
variable {k tm tk gs : Int} {sd rc : List (BitVec 8)} {am : List Nat} {v : Value} {b : Nat} {w : World}
theorem set_past (xs ys : List Value) (n i : Nat) (u : Value) (h : xs.length = n) : (xs ++ ys).set (n + i) u = xs ++ ys.set i u := by
  rw [List.set_append_right _ _ (by omega), h, Nat.add_sub_cancel_left]
theorem ent_time (h1 : sd.length = 20) (x : Int) : (ent k sd tm tk rc am gs v).set 21 (.int .i64 x) = ent k sd x tk rc am gs v :=
  congrArg (List.cons _) (set_past (vB sd) _ 20 0 _ (by rw [vB_length, h1]))
theorem ent_token (h1 : sd.length = 20) (x : Int) : (ent k sd tm tk rc am gs v).set 22 (.int .i64 x) = ent k sd tm x rc am gs v :=
  congrArg (List.cons _) (set_past (vB sd) _ 20 1 _ (by rw [vB_length, h1]))
theorem ent_gas (h1 : sd.length = 20) (h2 : rc.length = 20) (h3 : am.length = 4) (x : Int) : (ent k sd tm tk rc am gs v).set 47 (.int .i64 x) = ent k sd tm tk rc am x v := by
  refine congrArg (List.cons _) ((set_past (vB sd) _ 20 26 _ (by rw [vB_length, h1])).trans (congrArg (vB sd ++ ·) ?_))
  refine congrArg (List.cons _) (congrArg (List.cons _) ((set_past (vB rc) _ 20 4 _ (by rw [vB_length, h2])).trans (congrArg (vB rc ++ ·) ?_)))
  exact set_past (vQ am) _ 4 0 _ (by rw [vQ_len, h3])
theorem En.time (h : En w b k sd tm tk rc am gs v) (x : Int) : En (w.setCell ⟨b, 21, none⟩ (.int .i64 x)) b k sd x tk rc am gs v := ⟨by have q := h.row.set 21 (.int .i64 x); rwa [ent_time h.ls] at q, h.ls, h.lt, h.la⟩
theorem En.token (h : En w b k sd tm tk rc am gs v) (x : Int) : En (w.setCell ⟨b, 22, none⟩ (.int .i64 x)) b k sd tm x rc am gs v := ⟨by have q := h.row.set 22 (.int .i64 x); rwa [ent_token h.ls] at q, h.ls, h.lt, h.la⟩
theorem En.gas (h : En w b k sd tm tk rc am gs v) (x : Int) : En (w.setCell ⟨b, 47, none⟩ (.int .i64 x)) b k sd tm tk rc am x v := ⟨by have q := h.row.set 47 (.int .i64 x); rwa [ent_gas h.ls h.lt h.la] at q, h.ls, h.lt, h.la⟩
end

set_option maxRecDepth 100000 in
theorem k_entryFields_7 (k tm tk gs : Int) (sd rc : List (BitVec 8)) (am : List Nat) (v : Value) (P : Nat) (A0 : Option Addr) (cap0 : Nat) (bs : List (BitVec 8)) (a b : Nat) (he : nuE bs a = 0) (w : World) (h : Rg w P A0 cap0 bs a) (hb : En w b k sd tm tk rc am gs v) : Calls Tryz.prog 38 #[.pointer (some ⟨P, 0, none⟩), .pointer (some ⟨b, 0, none⟩)] w fun e w' => e = .returned (.tuple #[]) ∧ Rg w' P A0 cap0 bs (a + 1 + at8 bs a) ∧ En w' b k sd ((nuW bs a : Nat) : Int) tk rc am gs v ∧ Gq P b w w' := by
  have hne : b ≠ P := row_ne hb.row h.row (by decide)
  have HN : Hid _ := face_number P A0 cap0 bs a w h
  have HL : Hid (En w b k sd tm tk rc am gs v) := hb
  have HE : Hid (b ≠ P) := hne
  have HNU : Hid (nuE bs a = 0) := he
  clear h hb hne he
  go_enter Tryz.func38, Tryz.ntmps38
  go_wp2_with fail
  refine Calls.mono HN.out ?_
  rintro e W ⟨hok, hno, hG⟩
  clear hno
  obtain ⟨rfl, hr⟩ := hok HNU.out
  have hL : En W b k sd tm tk rc am gs v := ⟨hG.row HL.out.row HE.out, HL.out.ls, HL.out.lt, HL.out.la⟩
  have g1 := hL.c_time
  have k1 := hL.row.thaw 21
  have HRG : Hid (Rg W P A0 cap0 bs (a + 1 + at8 bs a)) := hr
  have HL2 : Hid (En W b k sd tm tk rc am gs v) := hL
  have HG : Hid (Gro (fun g => g = P) w W) := hG
  clear hok hG hr hL HN HL
  go_wp2_with fail
  go_end0
  refine ⟨rfl, HRG.out.setNew b 21 _ HL2.out.row (by decide) (by decide), HL2.out.time _, ?_⟩
  exact Gro.set (Gro.mono HG.out (fun g e => .inl e)) b 21 _ (.inr rfl)

set_option maxRecDepth 100000 in
theorem k_entryFields_11 (k tm tk gs : Int) (sd rc : List (BitVec 8)) (am : List Nat) (v : Value) (P : Nat) (A0 : Option Addr) (cap0 : Nat) (bs : List (BitVec 8)) (a b : Nat) (he : nuE bs a = 0) (w : World) (h : Rg w P A0 cap0 bs a) (hb : En w b k sd tm tk rc am gs v) : Calls Tryz.prog 44 #[.pointer (some ⟨P, 0, none⟩), .pointer (some ⟨b, 0, none⟩)] w fun e w' => e = .returned (.tuple #[]) ∧ Rg w' P A0 cap0 bs (a + 1 + at8 bs a) ∧ En w' b k sd tm ((nuW bs a : Nat) : Int) rc am gs v ∧ Gq P b w w' := by
  have hne : b ≠ P := row_ne hb.row h.row (by decide)
  have HN : Hid _ := face_number P A0 cap0 bs a w h
  have HL : Hid (En w b k sd tm tk rc am gs v) := hb
  have HE : Hid (b ≠ P) := hne
  have HNU : Hid (nuE bs a = 0) := he
  clear h hb hne he
  go_enter Tryz.func44, Tryz.ntmps44
  go_wp2_with fail
  refine Calls.mono HN.out ?_
  rintro e W ⟨hok, hno, hG⟩
  clear hno
  obtain ⟨rfl, hr⟩ := hok HNU.out
  have hL : En W b k sd tm tk rc am gs v := ⟨hG.row HL.out.row HE.out, HL.out.ls, HL.out.lt, HL.out.la⟩
  have g1 := hL.c_token
  have k1 := hL.row.thaw 22
  have HRG : Hid (Rg W P A0 cap0 bs (a + 1 + at8 bs a)) := hr
  have HL2 : Hid (En W b k sd tm tk rc am gs v) := hL
  have HG : Hid (Gro (fun g => g = P) w W) := hG
  clear hok hG hr hL HN HL
  go_wp2_with fail
  go_end0
  refine ⟨rfl, HRG.out.setNew b 22 _ HL2.out.row (by decide) (by decide), HL2.out.token _, ?_⟩
  exact Gro.set (Gro.mono HG.out (fun g e => .inl e)) b 22 _ (.inr rfl)

set_option maxRecDepth 100000 in
theorem k_entryFields_22 (k tm tk gs : Int) (sd rc : List (BitVec 8)) (am : List Nat) (v : Value) (P : Nat) (A0 : Option Addr) (cap0 : Nat) (bs : List (BitVec 8)) (a b : Nat) (he : nuE bs a = 0) (w : World) (h : Rg w P A0 cap0 bs a) (hb : En w b k sd tm tk rc am gs v) : Calls Tryz.prog 57 #[.pointer (some ⟨P, 0, none⟩), .pointer (some ⟨b, 0, none⟩)] w fun e w' => e = .returned (.tuple #[]) ∧ Rg w' P A0 cap0 bs (a + 1 + at8 bs a) ∧ En w' b k sd tm tk rc am ((nuW bs a : Nat) : Int) v ∧ Gq P b w w' := by
  have hne : b ≠ P := row_ne hb.row h.row (by decide)
  have HN : Hid _ := face_number P A0 cap0 bs a w h
  have HL : Hid (En w b k sd tm tk rc am gs v) := hb
  have HE : Hid (b ≠ P) := hne
  have HNU : Hid (nuE bs a = 0) := he
  clear h hb hne he
  go_enter Tryz.func57, Tryz.ntmps57
  go_wp2_with fail
  refine Calls.mono HN.out ?_
  rintro e W ⟨hok, hno, hG⟩
  clear hno
  obtain ⟨rfl, hr⟩ := hok HNU.out
  have hL : En W b k sd tm tk rc am gs v := ⟨hG.row HL.out.row HE.out, HL.out.ls, HL.out.lt, HL.out.la⟩
  have g1 := hL.c_gas
  have k1 := hL.row.thaw 47
  have HRG : Hid (Rg W P A0 cap0 bs (a + 1 + at8 bs a)) := hr
  have HL2 : Hid (En W b k sd tm tk rc am gs v) := hL
  have HG : Hid (Gro (fun g => g = P) w W) := hG
  clear hok hG hr hL HN HL
  go_wp2_with fail
  go_end0
  refine ⟨rfl, HRG.out.setNew b 47 _ HL2.out.row (by decide) (by decide), HL2.out.gas _, ?_⟩
  exact Gro.set (Gro.mono HG.out (fun g e => .inl e)) b 47 _ (.inr rfl)

end Go.Proofs.YtaaehdlenigomaaGreat

namespace Go.Proofs.YtaaehdlenigomaaGreat
open Go Go.RowKit
open Sha

theorem patch (p old vs q xs : List Value) (o : Nat) (hx : xs = p ++ old ++ q) (hp : p.length = o) (hl : old.length = vs.length) : xs.take o ++ vs ++ xs.drop (o + vs.length) = p ++ vs ++ q := by
  subst hx hp
  rw [List.append_assoc p old q, List.take_left' rfl, ← List.append_assoc p old q, List.drop_left' (by rw [List.length_append, hl])]
section
variable {k tm tk gs : Int} {sd rc : List (BitVec 8)} {am : List Nat} {v : Value} {b : Nat} {w : World}
theorem ent_lenH (h1 : sd.length = 20) (h2 : rc.length = 20) (h3 : am.length = 4) : (ent k sd tm tk rc am gs v).length = 49 := by
  simp only [ent, List.length_cons, List.length_append, List.length_nil, vB_length, vQ_len, h1, h2, h3]
theorem En.sender (h : En w b k sd tm tk rc am gs v) (x : List (BitVec 8)) (hx : x.length = 20) : En (w.setCells b 1 (vB x)) b k x tm tk rc am gs v :=
  ⟨by
    have q := Row.setCells 1 (vB x) h.row (by rw [ent_lenH h.ls h.lt h.la, vB_length, hx]; decide)
    rw [patch [.int .i64 k] (vB sd) (vB x) (.int .i64 tm :: .int .i64 tk :: (vB rc ++ (vQ am ++ [.int .i64 gs, v]))) (ent k sd tm tk rc am gs v) 1 rfl rfl (by rw [vB_length, vB_length, h.ls, hx])] at q
    exact q, hx, h.lt, h.la⟩
theorem En.toward (h : En w b k sd tm tk rc am gs v) (x : List (BitVec 8)) (hx : x.length = 20) : En (w.setCells b 23 (vB x)) b k sd tm tk x am gs v :=
  ⟨by
    have q := Row.setCells 23 (vB x) h.row (by rw [ent_lenH h.ls h.lt h.la, vB_length, hx]; decide)
    rw [patch (.int .i64 k :: (vB sd ++ [.int .i64 tm, .int .i64 tk])) (vB rc) (vB x) (vQ am ++ [.int .i64 gs, v]) _ 23 (by simp [ent]) (by simp [vB_length, h.ls]) (by rw [vB_length, vB_length, h.lt, hx])] at q
    have e : .int .i64 k :: (vB sd ++ [.int .i64 tm, .int .i64 tk]) ++ vB x ++ (vQ am ++ [.int .i64 gs, v]) = ent k sd tm tk x am gs v := by simp [ent]
    rwa [e] at q, h.ls, hx, h.la⟩
theorem En.amount (h : En w b k sd tm tk rc am gs v) (x : List Nat) (hx : x.length = 4) : En (w.setCells b 43 (vQ x)) b k sd tm tk rc x gs v :=
  ⟨by
    have q := Row.setCells 43 (vQ x) h.row (by rw [ent_lenH h.ls h.lt h.la, vQ_len, hx]; decide)
    rw [patch (.int .i64 k :: (vB sd ++ .int .i64 tm :: .int .i64 tk :: vB rc)) (vQ am) (vQ x) [.int .i64 gs, v] _ 43 (by simp [ent]) (by simp [vB_length, h.ls, h.lt]) (by rw [vQ_len, vQ_len, h.la, hx])] at q
    have e : .int .i64 k :: (vB sd ++ .int .i64 tm :: .int .i64 tk :: vB rc) ++ vQ x ++ [.int .i64 gs, v] = ent k sd tm tk rc x gs v := by simp [ent]
    rwa [e] at q, h.ls, h.lt, hx⟩
theorem Gq.sets {P o : Nat} {vs : List Value} {W : World} (h : Gro (fun g => g = P) w W) : Gq P b w (W.setCells b o vs) := by
  have q := below_setCells (Below.refl 0 W) (b := b) (o := o) (Nat.zero_le _) vs
  exact ⟨q.os.trans h.os, q.tape.trans h.tape, q.output.trans h.output, Nat.le_trans h.size q.size, fun k hk hn => (heap_sets W b o vs k (fun e => hn (.inr e))).trans (h.block k hk (fun e => hn (.inl e)))⟩
end

set_option maxRecDepth 100000 in
theorem k_entryFields_3 (k tm tk gs : Int) (sd rc : List (BitVec 8)) (am : List Nat) (v : Value) (P : Nat) (A0 : Option Addr) (cap0 : Nat) (bs : List (BitVec 8)) (a b : Nat) (x : List (BitVec 8)) (hx : sub bs a 20 = x) (hl : x.length = 20) (he : dgE 20 bs a = 0) (w : World) (h : Rg w P A0 cap0 bs a) (hb : En w b k sd tm tk rc am gs v) : Calls Tryz.prog 31 #[.pointer (some ⟨P, 0, none⟩), .pointer (some ⟨b, 0, none⟩)] w fun e w' => e = .returned (.tuple #[]) ∧ Rg w' P A0 cap0 bs (a + 20) ∧ En w' b k x tm tk rc am gs v ∧ Gq P b w w' := by
  have hne : b ≠ P := row_ne hb.row h.row (by decide)
  have HN : Hid _ := face_address P A0 cap0 bs a w h
  have HL : Hid (En w b k sd tm tk rc am gs v) := hb
  have HE : Hid (b ≠ P) := hne
  have HNU : Hid (dgE 20 bs a = 0) := he
  have HXL : Hid (x.length = 20) := hl
  have HXE : Hid (sub bs a 20 = x) := hx
  have HI : Hid ((Tryz.prog.info? 23).map (·.size) = some (vB x).toArray.size) := by show _ = _; rw [List.size_toArray, vB_length, hl]; kernel_rfl
  clear h hb hne he hx hl
  go_enter Tryz.func31, Tryz.ntmps31
  go_wp2_with fail
  refine Calls.mono HN.out ?_
  rintro e W ⟨hok, hno, hG⟩
  clear hno
  obtain ⟨rfl, hr⟩ := hok HNU.out
  rw [HXE.out]
  have hL : En W b k sd tm tk rc am gs v := ⟨hG.row HL.out.row HE.out, HL.out.ls, HL.out.lt, HL.out.la⟩
  have HRG : Hid (Rg W P A0 cap0 bs (a + 20)) := hr
  have HL2 : Hid (En W b k sd tm tk rc am gs v) := hL
  have HG : Hid (Gro (fun g => g = P) w W) := hG
  have HTH : Hid (W.there b 1 (vB x).toArray.size) := Row.there hL.row 1 _ (by rw [ent_lenH hL.ls hL.lt hL.la, List.size_toArray, vB_length, HXL.out]; decide)
  have HON : Hid ((vB x).toArray.all (·.oneCell') = true) := by show _ = true; rw [← Array.all_toList]; exact List.all_eq_true.2 (vB_one x)
  clear hok hG hr hL HN HL
  go_wp2_with (refine wpList_store_mid rfl 23 (.tmp 8) (.tmp 6) rfl b 1 (vB x).toArray rfl rfl HTH.out HI.out HON.out ?_; simp only [Act.put]; change wpList _ _ _ _ _ (World.setCells W b 1 (vB x)))
  go_end0
  exact ⟨rfl, HRG.out.setsNew b 1 _ HL2.out.row (by decide) (by decide), HL2.out.sender x HXL.out, Gq.sets HG.out⟩

set_option maxRecDepth 100000 in
theorem k_entryFields_14 (k tm tk gs : Int) (sd rc : List (BitVec 8)) (am : List Nat) (v : Value) (P : Nat) (A0 : Option Addr) (cap0 : Nat) (bs : List (BitVec 8)) (a b : Nat) (x : List (BitVec 8)) (hx : sub bs a 20 = x) (hl : x.length = 20) (he : dgE 20 bs a = 0) (w : World) (h : Rg w P A0 cap0 bs a) (hb : En w b k sd tm tk rc am gs v) : Calls Tryz.prog 47 #[.pointer (some ⟨P, 0, none⟩), .pointer (some ⟨b, 0, none⟩)] w fun e w' => e = .returned (.tuple #[]) ∧ Rg w' P A0 cap0 bs (a + 20) ∧ En w' b k sd tm tk x am gs v ∧ Gq P b w w' := by
  have hne : b ≠ P := row_ne hb.row h.row (by decide)
  have HN : Hid _ := face_address P A0 cap0 bs a w h
  have HL : Hid (En w b k sd tm tk rc am gs v) := hb
  have HE : Hid (b ≠ P) := hne
  have HNU : Hid (dgE 20 bs a = 0) := he
  have HXL : Hid (x.length = 20) := hl
  have HXE : Hid (sub bs a 20 = x) := hx
  have HI : Hid ((Tryz.prog.info? 23).map (·.size) = some (vB x).toArray.size) := by show _ = _; rw [List.size_toArray, vB_length, hl]; kernel_rfl
  clear h hb hne he hx hl
  go_enter Tryz.func47, Tryz.ntmps47
  go_wp2_with fail
  refine Calls.mono HN.out ?_
  rintro e W ⟨hok, hno, hG⟩
  clear hno
  obtain ⟨rfl, hr⟩ := hok HNU.out
  rw [HXE.out]
  have hL : En W b k sd tm tk rc am gs v := ⟨hG.row HL.out.row HE.out, HL.out.ls, HL.out.lt, HL.out.la⟩
  have HRG : Hid (Rg W P A0 cap0 bs (a + 20)) := hr
  have HL2 : Hid (En W b k sd tm tk rc am gs v) := hL
  have HG : Hid (Gro (fun g => g = P) w W) := hG
  have HTH : Hid (W.there b 23 (vB x).toArray.size) := Row.there hL.row 23 _ (by rw [ent_lenH hL.ls hL.lt hL.la, List.size_toArray, vB_length, HXL.out]; decide)
  have HON : Hid ((vB x).toArray.all (·.oneCell') = true) := by show _ = true; rw [← Array.all_toList]; exact List.all_eq_true.2 (vB_one x)
  clear hok hG hr hL HN HL
  go_wp2_with (refine wpList_store_mid rfl 23 (.tmp 8) (.tmp 6) rfl b 23 (vB x).toArray rfl rfl HTH.out HI.out HON.out ?_; simp only [Act.put]; change wpList _ _ _ _ _ (World.setCells W b 23 (vB x)))
  go_end0
  exact ⟨rfl, HRG.out.setsNew b 23 _ HL2.out.row (by decide) (by decide), HL2.out.toward x HXL.out, Gq.sets HG.out⟩

end Go.Proofs.YtaaehdlenigomaaGreat

namespace Go.Proofs.YtaaehdlenigomaaGreat
open Go Go.RowKit
open Sha


set_option maxRecDepth 100000 in
theorem k_entryFields_18 (k tm tk gs : Int) (sd rc : List (BitVec 8)) (am : List Nat) (v : Value) (P : Nat) (A0 : Option Addr) (cap0 : Nat) (bs : List (BitVec 8)) (a b : Nat) (x : List Nat) (hx : qd bs (a + 1 + at8 bs a) (at8 bs a) = vQ x) (hl : x.length = 4) (he : hiF 32 bs a = 0) (w : World) (h : Rg w P A0 cap0 bs a) (hb : En w b k sd tm tk rc am gs v) : Calls Tryz.prog 52 #[.pointer (some ⟨P, 0, none⟩), .pointer (some ⟨b, 0, none⟩)] w fun e w' => e = .returned (.tuple #[]) ∧ Rg w' P A0 cap0 bs (a + 1 + at8 bs a) ∧ En w' b k sd tm tk rc x gs v ∧ Gq P b w w' := by
  have hne : b ≠ P := row_ne hb.row h.row (by decide)
  have HN : Hid _ := face_wide P A0 cap0 bs a w h
  have HL : Hid (En w b k sd tm tk rc am gs v) := hb
  have HE : Hid (b ≠ P) := hne
  have HNU : Hid (hiF 32 bs a = 0) := he
  have HXL : Hid (x.length = 4) := hl
  have HXE : Hid (qd bs (a + 1 + at8 bs a) (at8 bs a) = vQ x) := hx
  have HI : Hid ((Tryz.prog.info? 26).map (·.size) = some (vQ x).toArray.size) := by show _ = _; rw [List.size_toArray, vQ_len, hl]; kernel_rfl
  have HON : Hid ((vQ x).toArray.all (·.oneCell') = true) := by show _ = true; rw [← hx, ← Array.all_toList]; exact List.all_eq_true.2 (qd_one _ _ _)
  clear h hb hne he hx hl
  go_enter Tryz.func52, Tryz.ntmps52
  go_wp2_with fail
  refine Calls.mono HN.out ?_
  rintro e W ⟨hok, hno, hG⟩
  clear hno
  obtain ⟨rfl, hr⟩ := hok HNU.out
  rw [HXE.out]
  have hL : En W b k sd tm tk rc am gs v := ⟨hG.row HL.out.row HE.out, HL.out.ls, HL.out.lt, HL.out.la⟩
  have HRG : Hid (Rg W P A0 cap0 bs (a + 1 + at8 bs a)) := hr
  have HL2 : Hid (En W b k sd tm tk rc am gs v) := hL
  have HG : Hid (Gro (fun g => g = P) w W) := hG
  have HTH : Hid (W.there b 43 (vQ x).toArray.size) := Row.there hL.row 43 _ (by rw [ent_lenH hL.ls hL.lt hL.la, List.size_toArray, vQ_len, HXL.out]; decide)
  clear hok hG hr hL HN HL
  go_wp2_with (refine wpList_store_mid rfl 26 (.tmp 8) (.tmp 6) rfl b 43 (vQ x).toArray rfl rfl HTH.out HI.out HON.out ?_; simp only [Act.put]; change wpList _ _ _ _ _ (World.setCells W b 43 (vQ x)))
  go_end0
  exact ⟨rfl, HRG.out.setsNew b 43 _ HL2.out.row (by decide) (by decide), HL2.out.amount x HXL.out, Gq.sets HG.out⟩
section
variable {k tm tk gs : Int} {sd rc : List (BitVec 8)} {am : List Nat} {v : Value} {b : Nat} {w : World}
theorem ent_body (h1 : sd.length = 20) (h2 : rc.length = 20) (h3 : am.length = 4) (u : Value) : (ent k sd tm tk rc am gs v).set 48 u = ent k sd tm tk rc am gs u := by
  refine congrArg (List.cons _) ((set_past (vB sd) _ 20 27 _ (by rw [vB_length, h1])).trans (congrArg (vB sd ++ ·) ?_))
  refine congrArg (List.cons _) (congrArg (List.cons _) ((set_past (vB rc) _ 20 5 _ (by rw [vB_length, h2])).trans (congrArg (vB rc ++ ·) ?_)))
  exact set_past (vQ am) _ 4 1 _ (by rw [vQ_len, h3])
theorem En.body (h : En w b k sd tm tk rc am gs v) (u : Value) : En (w.setCell ⟨b, 48, none⟩ u) b k sd tm tk rc am gs u := ⟨by have q := h.row.set 48 u; rwa [ent_body h.ls h.lt h.la] at q, h.ls, h.lt, h.la⟩
end
set_option maxRecDepth 100000 in
theorem k_entryFields_26 (k tm tk gs : Int) (sd rc : List (BitVec 8)) (am : List Nat) (v : Value) (P : Nat) (A0 : Option Addr) (cap0 : Nat) (bs : List (BitVec 8)) (a b n : Nat) (d : List (BitVec 8)) (hn : nuW bs a = n) (hd : sub bs (a + 1 + at8 bs a) n = d) (he : cnE bs a 4096 = 0) (w : World) (h : Rg w P A0 cap0 bs a) (hb : En w b k sd tm tk rc am gs v) : Calls Tryz.prog 62 #[.pointer (some ⟨P, 0, none⟩), .pointer (some ⟨b, 0, none⟩)] w fun e w' => ∃ A' c', e = .returned (.tuple #[]) ∧ Rg w' P A0 cap0 bs (a + 1 + at8 bs a + n) ∧ En w' b k sd tm tk rc am gs (.slice A' n c') ∧ Bw w' (.slice A' n c') d ∧ Fresh w.heap.size (.slice A' n c') ∧ (A' = none → c' = 0) ∧ Gq P b w w' := by
  have hne : b ≠ P := row_ne hb.row h.row (by decide)
  have HN := face_bytes P A0 cap0 bs a 4096 w h
  rw [hn, hd] at HN
  replace HN : Hid _ := HN
  have HL : Hid (En w b k sd tm tk rc am gs v) := hb
  have HE : Hid (b ≠ P) := hne
  have HNU : Hid (cnE bs a 4096 = 0) := he
  clear h hb hne he hn hd
  go_enter Tryz.func62, Tryz.ntmps62
  go_wp2_with fail
  refine Calls.mono HN.out ?_
  rintro e W ⟨hok, hno, hG⟩
  clear hno
  obtain ⟨v9, rfl, ⟨A', c', rfl, hbw, hfr, hnil⟩, hr⟩ := hok HNU.out
  have hL : En W b k sd tm tk rc am gs v := ⟨hG.row HL.out.row HE.out, HL.out.ls, HL.out.lt, HL.out.la⟩
  have g1 := hL.c_body
  have k1 := hL.row.thaw 48
  have HRG : Hid (Rg W P A0 cap0 bs (a + 1 + at8 bs a + n)) := hr
  have HL2 : Hid (En W b k sd tm tk rc am gs v) := hL
  have HG : Hid (Gro (fun g => g = P) w W) := hG
  have HBW : Hid (Bw W (.slice A' n c') d) := hbw
  have HFR : Hid (Fresh w.heap.size (.slice A' n c')) := hfr
  have HNI : Hid (A' = none → c' = 0) := hnil
  clear hok hG hr hL HN HL hbw hfr hnil
  go_wp2_with fail
  go_end0
  refine ⟨A', c', rfl, HRG.out.setNew b 48 _ HL2.out.row (by decide) (by decide), HL2.out.body _, ?_, HFR.out, HNI.out, ?_⟩
  · exact Bw.set_other HBW.out (fun g e => Bw.ne HBW.out HL2.out.row (by decide) g e)
  · exact Gro.set (Gro.mono HG.out (fun g e => .inl e)) b 48 _ (.inr rfl)

end Go.Proofs.YtaaehdlenigomaaGreat
