/-
  The vault's calls, over its state.
-/
import Derived.Test.YtkbdnebmekhcdaaEsD

namespace Go.Proofs.Ytkbdnebmekhcdaa
open Go Go.RowKit Go.Maps
open Wd

theorem encT_upd (T : Int → Option (Bool × Nat)) (x : Int) (q : Bool × Nat) : encT (upd T x (some q)) = upd (encT T) x (some (.agg (hcs q.1 q.2).toArray)) := by
  funext y
  unfold encT upd
  by_cases h : y = x <;> simp [h]
theorem encT_none {T : Int → Option (Bool × Nat)} (h : ∀ x, encT T x = none) : encT T = fun _ => none := funext h
theorem Nw.refl (w : World) (m : Value) : Nw w m m := .inl rfl

theorem lay_any {w : World} {p c : Nat} {m1 m2 : Value} {s : St} (hV : Vt w p c m1 m2 s) (hc : c < maxLen) (x : Int) (hx : I64 x) (s1 : Bool) (h1 : Nat) (hh : h1 < 2 ^ 256) :
    Calls Try.prog 49 #[.pointer (some ⟨p, 0, none⟩), .int .i64 x, .agg (hcs s1 h1).toArray] w fun e w' => ∃ m1', e = .returned (.tuple #[]) ∧ Vt w' p (c + 1) m1' m2 { s with T := upd s.T x (some (s1, h1)) } ∧ Nw w m1 m1' ∧ Gro (Vb p m1 m2) w w' := by
  have hok : St.Ok { s with T := upd s.T x (some (s1, h1)) } := ⟨fun y q hq => by
    by_cases e : y = x
    · subst e
      change upd s.T y (some (s1, h1)) y = some q at hq
      rw [upd_at] at hq
      cases hq
      exact hh
    · change upd s.T x (some (s1, h1)) y = some q at hq
      rw [upd_ne _ _ e] at hq
      exact hV.ok.t y q hq, hV.ok.l⟩
  obtain ⟨g2, p1, p2⟩ := hV.pd
  have hrow := hV.row
  have hap := hV.ap
  rcases hV.tk with ⟨rfl, hn⟩ | ⟨b, rfl, hM⟩
  · refine (lay_new hrow x hx s1 h1).mono ?_
    rintro e w' ⟨b, rfl, hb, hr, hM, hG⟩
    have hm2 : ∀ g, Own1 m2 g → g < w.heap.size ∧ g ≠ p := fun g hg => ⟨p1.lt hg, fun e => p1.notrow hrow (e ▸ hg)⟩
    refine ⟨.map (some b), rfl, ⟨hr, .inr ⟨b, rfl, ?_⟩, ⟨g2, (p1.keep fun g hg hl => hG.block g hl (hm2 g hg).2).mono (Nat.le_succ c), p2⟩, ?_, hok⟩, .inr ?_, hG.mono fun g e => .inl e⟩
    · show Mp w' b (c + 1) (encT (upd s.T x (some (s1, h1))))
      rw [encT_upd, encT_none hn]
      exact hM.mono (by omega)
    · rintro g hg hg2
      cases hg
      have := (hm2 b hg2).1
      omega
    · rintro g hg
      cases hg
      exact hb
  · refine (lay_there hrow hM hc x hx s1 h1).mono ?_
    rintro e w' ⟨rfl, hM', hG⟩
    refine ⟨.map (some b), rfl, ⟨hG.row hrow (fun e => hM.no_row hrow e.symm), .inr ⟨b, rfl, ?_⟩, ⟨g2, (p1.keep fun g hg hl => hG.block g hl (fun e => hap b rfl (e ▸ hg))).mono (Nat.le_succ c), p2⟩, hap, hok⟩, .inl rfl, hG.mono fun g e => .inr (.inl (by rw [e]; rfl))⟩
    show Mp w' b (c + 1) (encT (upd s.T x (some (s1, h1))))
    rw [encT_upd]
    exact hM'

theorem i64_div {x : Int} (h : I64 x) : I64 (x / 64) := by
  rw [i64_iff] at h ⊢
  omega

set_option maxRecDepth 100000 in
set_option maxHeartbeats 4000000 in
theorem has_any {w : World} {p c : Nat} {m1 m2 : Value} {s : St} (hV : Vt w p c m1 m2 s) (x : Int) (hx : I64 x) :
    Calls Try.prog 48 #[.agg #[m2], .int .i64 x] w fun e w' => e = .returned (.bool (paid s.U x)) ∧ Below w.heap.size w w' := by
  have HV : Hid (Vt w p c m1 m2 s) := hV
  have HX : Hid (I64 x) := hx
  obtain ⟨k, hk⟩ : ∃ k : Nat, (x % 64).toNat = k := ⟨_, rfl⟩
  have hk2 : k < 64 := by omega
  obtain ⟨wd, hwd⟩ : ∃ wd, wd = s.U (x / 64) := ⟨_, rfl⟩
  have hpd : paid s.U x = wd.getLsbD k := by rw [paid, hk, hwd]
  rw [hpd]
  obtain ⟨bw, hbw⟩ : ∃ z : Int, bits .and .u64 (wd.toNat : Int) ((2 : Int) ^ k) = z := ⟨_, rfl⟩
  have e3 := and_word wd k hk2
  rw [hbw] at e3
  have HE : Hid ((bw != 0) = wd.getLsbD k) := e3
  have HW : Hid (wd = s.U (x / 64)) := hwd
  obtain ⟨y, hy⟩ : ∃ y, y = x / 64 := ⟨_, rfl⟩
  have HY : Hid (y = x / 64) := hy
  have HP : Hid (∀ X, Calls Try.prog 62 #[.int .i64 x] X fun e w' => e = .returned (.tuple #[.int .i64 y, .int .u64 ((2 : Int) ^ k)]) ∧ Below X.heap.size X w') := fun X => by rw [hy, ← hk]; exact place_any x X
  clear hV hx hk hk2 hwd hpd e3 hy
  go_enter Try.func48, Try.ntmps48
  go_upto_region 1 with (refine wpList_boxG tSt rfl (.tmp 0) rfl [m2] rfl ?_; intro X1 q1 q2; have R2 : Hid (Row X1 w.heap.size [m2] tSt) := q1; have B1 : Hid (Below w.heap.size w X1) := q2; clear q1 q2)
  obtain ⟨b2, hb2⟩ : ∃ b, b = w.heap.size := ⟨_, rfl⟩
  rw [← hb2] at R2 ⊢
  clear hb2
  go_upto_region 2 with (go_at_call 62; refine Calls.mono (HP.out X1) ?_; rintro e X2 ⟨rfl, q⟩; have B2 : Hid (Below X1.heap.size X1 X2) := q; clear q)
  have R3 : Hid (Row X2 b2 [m2] tSt) := Row.below R2.out B2.out R2.out.lt
  have c0 := R3.out.cell 0 _ rfl
  have B3 : Hid (Below w.heap.size w X2) := B1.out.trans (B2.out.mono B1.out.size)
  have HL : Hid ((Instr.lookup tM2 m2 (.int .i64 y) false).run Try.prog X2 = .ok (.int .u64 (wd.toNat : Int)) X2) := by
    obtain ⟨g2, p1, p2⟩ := (HV.out.be B3.out).pd
    have h := p1.look und_M2 zero_U (i64_div HX.out)
    rw [p2 _ (i64_div HX.out), ← HW.out, ← HY.out] at h
    exact h
  go_wp2_with (refine wpList_lookR rfl tM2 (.tmp 13) (.tmp 14) false rfl m2 (.int .i64 y) _ rfl rfl HL.out ?_)
  go_ret
  exact ⟨by show Ending.returned (.bool (bw != 0)) = _; rw [HE.out], B3.out⟩

set_option maxRecDepth 100000 in
set_option maxHeartbeats 4000000 in
theorem put_there {w : World} {p c b : Nat} {L : Nat} {m1 : Value} {f : Int → Option Value} (hr : Row w p (vcs m1 (.map (some b)) L) tV) (hM : Mp w b c f) (hc : c < maxLen) (x : Int) (hx : I64 x) (wd : BitVec 64) (hf : (f (x / 64)).getD (.int .u64 0) = .int .u64 (wd.toNat : Int)) :
    Calls Try.prog 53 #[.pointer (some ⟨p, 1, none⟩), .int .i64 x] w fun e w' => e = .returned (.tuple #[]) ∧ Mp w' b (c + 1) (upd f (x / 64) (some (vw (wd ||| BitVec.twoPow 64 (x % 64).toNat)))) ∧ Gro (· = b) w w' := by
  have RR : Hid (Row w p (vcs m1 (.map (some b)) L) tV) := hr
  have HM : Hid (Mp w b c f) := hM
  have HC : Hid (c < maxLen) := hc
  have HX : Hid (I64 x) := hx
  have HF : Hid ((f (x / 64)).getD (.int .u64 0) = .int .u64 (wd.toNat : Int)) := hf
  obtain ⟨k, hk⟩ : ∃ k : Nat, (x % 64).toNat = k := ⟨_, rfl⟩
  have hk2 : k < 64 := by omega
  obtain ⟨bw, hbw⟩ : ∃ z : Int, bits .or .u64 (wd.toNat : Int) ((2 : Int) ^ k) = z := ⟨_, rfl⟩
  have HE : Hid (bw = ((wd ||| BitVec.twoPow 64 k).toNat : Int)) := hbw.symm.trans (or_word wd k hk2)
  have HK : Hid ((x % 64).toNat = k) := hk
  obtain ⟨y, hy⟩ : ∃ y, y = x / 64 := ⟨_, rfl⟩
  have HY : Hid (y = x / 64) := hy
  have HP : Hid (∀ X, Calls Try.prog 62 #[.int .i64 x] X fun e w' => e = .returned (.tuple #[.int .i64 y, .int .u64 ((2 : Int) ^ k)]) ∧ Below X.heap.size X w') := fun X => by rw [hy, ← hk]; exact place_any x X
  clear hr hM hc hx hk hk2 hf hy
  go_enter Try.func53, Try.ntmps53
  have c0 := RR.out.cell 1 _ rfl
  have eqm := eqMs und_M2 b
  go_upto_region 2 with fail
  clear c0 eqm
  go_upto_region 3 with (go_at_call 62; refine Calls.mono (HP.out w) ?_; rintro e X2 ⟨rfl, q⟩; have B2 : Hid (Below w.heap.size w X2) := q; clear q)
  have R3 : Hid (Row X2 p (vcs m1 (.map (some b)) L) tV) := Row.below RR.out B2.out RR.out.lt
  have M3 : Hid (Mp X2 b c (f)) := HM.out.block (B2.out.block _ HM.out.lt)
  have c1 := R3.out.cell 1 _ rfl
  have HL : Hid ((Instr.lookup tM2 (.map (some b)) (.int .i64 y) false).run Try.prog X2 = .ok (.int .u64 (wd.toNat : Int)) X2) := by
    have h := M3.out.look und_M2 zero_U (HY.out ▸ i64_div HX.out)
    rw [HY.out] at h ⊢
    rw [HF.out] at h
    exact h
  go_wp2_with (first
    | (refine wpList_lookR rfl tM2 (.tmp 23) (.tmp 24) false rfl (.map (some b)) (.int .i64 y) _ rfl rfl HL.out ?_)
    | (refine wpList_laid rfl tM2 31 (.tmp 23) (.tmp 24) (.tmp 27) rfl und_M2 b c (f) y (.int .u64 bw) rfl rfl rfl M3.out HC.out (HY.out ▸ i64_div HX.out) ?_; intro X3 q1 q2; have M4 : Hid (Mp X3 b (c + 1) (upd (f) y (some (.int .u64 bw)))) := q1; have G4 : Hid (Gro (· = b) X2 X3) := q2; clear q1 q2))
  exact bodyPost_end (results_none Try.results53 _ _ _) rfl ⟨rfl, by rw [HK.out, ← HY.out, vw, ← HE.out]; exact M4.out, (Gro.of_below B2.out).trans G4.out⟩

set_option maxRecDepth 100000 in
set_option maxHeartbeats 4000000 in
theorem put_new {w : World} {p : Nat} {L : Nat} {m1 : Value} (hr : Row w p (vcs m1 (.map none) L) tV) (x : Int) (hx : I64 x) (wd : BitVec 64) (hf : Value.int .u64 0 = .int .u64 (wd.toNat : Int)) :
    Calls Try.prog 53 #[.pointer (some ⟨p, 1, none⟩), .int .i64 x] w fun e w' => ∃ b, e = .returned (.tuple #[]) ∧ w.heap.size ≤ b ∧ Row w' p (vcs m1 (.map (some b)) L) tV ∧ Mp w' b 1 (upd (fun _ => none) (x / 64) (some (vw (wd ||| BitVec.twoPow 64 (x % 64).toNat)))) ∧ Gro (· = p) w w' := by
  have R0 : Hid (Row w p (vcs m1 (.map none) L) tV) := hr
  have HX : Hid (I64 x) := hx
  have HF : Hid (((fun _ => none : Int → Option Value) (x / 64)).getD (.int .u64 0) = .int .u64 (wd.toNat : Int)) := hf
  have HC : Hid (0 < maxLen) := by show _ < _; decide
  obtain ⟨k, hk⟩ : ∃ k : Nat, (x % 64).toNat = k := ⟨_, rfl⟩
  have hk2 : k < 64 := by omega
  obtain ⟨bw, hbw⟩ : ∃ z : Int, bits .or .u64 (wd.toNat : Int) ((2 : Int) ^ k) = z := ⟨_, rfl⟩
  have HE : Hid (bw = ((wd ||| BitVec.twoPow 64 k).toNat : Int)) := hbw.symm.trans (or_word wd k hk2)
  have HK : Hid ((x % 64).toNat = k) := hk
  obtain ⟨y, hy⟩ : ∃ y, y = x / 64 := ⟨_, rfl⟩
  have HY : Hid (y = x / 64) := hy
  have HP : Hid (∀ X, Calls Try.prog 62 #[.int .i64 x] X fun e w' => e = .returned (.tuple #[.int .i64 y, .int .u64 ((2 : Int) ^ k)]) ∧ Below X.heap.size X w') := fun X => by rw [hy, ← hk]; exact place_any x X
  clear hr hx hk hk2 hf hy
  go_enter Try.func53, Try.ntmps53
  have c0 := R0.out.cell 1 _ rfl
  have eqm := eqMn und_M2
  go_upto_region 2 with (first
    | (refine wpList_makeM rfl tM2 rfl ?_; intro Y1 q1 q2; have N1 : Hid (Mp Y1 w.heap.size 0 (fun _ => none)) := q1; have B1 : Hid (Below w.heap.size w Y1) := q2; have R2 : Hid (Row Y1 p (vcs m1 (.map none) L) tV) := Row.below R0.out q2 R0.out.lt; clear q1 q2)
    | (refine wpList_set1 rfl tM2 (.tmp 14) (.tmp 12) rfl p 1 (.map (some w.heap.size)) (vcs m1 (.map none) L) tV rfl rfl rfl R2.out (by simp [vcs]) info_M2 rfl ?_; intro Y2 q1 q2; have RR : Hid (Row Y2 p (vcs m1 (.map (some w.heap.size)) L) tV) := q1; have G3 : Hid (Gro (· = p) Y1 Y2) := q2; clear q1 q2))
  have N2 : Hid (Mp Y2 w.heap.size 0 (fun _ => none)) := N1.out.block (G3.out.block _ N1.out.lt (N1.out.no_row R2.out))
  have G5 : Hid (Gro (· = p) w Y2) := (Gro.of_below B1.out).trans G3.out
  obtain ⟨b, hb⟩ : ∃ b, b = w.heap.size := ⟨_, rfl⟩
  rw [← hb] at RR N2 ⊢
  have HB : Hid (w.heap.size ≤ b) := by show _ ≤ _; omega
  clear hb c0 eqm N1 B1 R2 G3
  go_upto_region 3 with (go_at_call 62; refine Calls.mono (HP.out Y2) ?_; rintro e X2 ⟨rfl, q⟩; have B2 : Hid (Below Y2.heap.size Y2 X2) := q; clear q)
  have R3 : Hid (Row X2 p (vcs m1 (.map (some b)) L) tV) := Row.below RR.out B2.out RR.out.lt
  have M3 : Hid (Mp X2 b 0 (fun _ => none)) := N2.out.block (B2.out.block _ N2.out.lt)
  have c1 := R3.out.cell 1 _ rfl
  have HL : Hid ((Instr.lookup tM2 (.map (some b)) (.int .i64 y) false).run Try.prog X2 = .ok (.int .u64 (wd.toNat : Int)) X2) := by
    have h := M3.out.look und_M2 zero_U (HY.out ▸ i64_div HX.out)
    rw [HY.out] at h ⊢
    rw [HF.out] at h
    exact h
  go_wp2_with (first
    | (refine wpList_lookR rfl tM2 (.tmp 23) (.tmp 24) false rfl (.map (some b)) (.int .i64 y) _ rfl rfl HL.out ?_)
    | (refine wpList_laid rfl tM2 31 (.tmp 23) (.tmp 24) (.tmp 27) rfl und_M2 b 0 (fun _ => none) y (.int .u64 bw) rfl rfl rfl M3.out HC.out (HY.out ▸ i64_div HX.out) ?_; intro X3 q1 q2; have M4 : Hid (Mp X3 b (0 + 1) (upd (fun _ => none) y (some (.int .u64 bw)))) := q1; have G4 : Hid (Gro (· = b) X2 X3) := q2; clear q1 q2))
  exact bodyPost_end (results_none Try.results53 _ _ _) rfl ⟨rfl, b, HB.out, G4.out.row R3.out (fun e => M3.out.no_row R3.out e.symm), by rw [HK.out, ← HY.out, vw, ← HE.out]; exact M4.out, (G5.out.below B2.out).then G4.out (fun g e => .inr (by have := HB.out; omega))⟩

theorem put_any {w : World} {p c : Nat} {m1 m2 : Value} {s : St} (hV : Vt w p c m1 m2 s) (hc : c < maxLen) (x : Int) (hx : I64 x) :
    Calls Try.prog 53 #[.pointer (some ⟨p, 1, none⟩), .int .i64 x] w fun e w' => ∃ m2', e = .returned (.tuple #[]) ∧ Vt w' p (c + 1) m1 m2' { s with U := puts s.U x } ∧ Nw w m2 m2' ∧ Gro (Vb p m1 m2) w w' := by
  obtain ⟨g2, p1, p2⟩ := hV.pd
  have hrow := hV.row
  have hap := hV.ap
  have hz : (g2 (x / 64)).getD (.int .u64 0) = .int .u64 ((s.U (x / 64)).toNat : Int) := p2 _ (i64_div hx)
  have hP : ∀ (g : Int → Option Value), (∀ y, I64 y → (g y).getD (.int .u64 0) = vw (s.U y)) → ∀ y, I64 y → (upd g (x / 64) (some (vw (s.U (x / 64) ||| BitVec.twoPow 64 (x % 64).toNat))) y).getD (.int .u64 0) = vw (puts s.U x y) := fun g hg y hy => by
    unfold puts
    by_cases e : y = x / 64
    · subst e; rw [upd_at, upd_at]; rfl
    · rw [upd_ne _ _ e, upd_ne _ _ e]; exact hg y hy
  rcases p1 with ⟨rfl, hn⟩ | ⟨b, rfl, hM⟩
  · rw [hn] at hz
    refine (put_new hrow x hx _ hz).mono ?_
    rintro e w' ⟨b, rfl, hb, hr, hM, hG⟩
    have hm1 : ∀ g, Own1 m1 g → g < w.heap.size ∧ g ≠ p := fun g hg => ⟨hV.tk.lt hg, fun e => hV.tk.notrow hrow (e ▸ hg)⟩
    refine ⟨.map (some b), rfl, ⟨hr, (hV.tk.keep fun g hg hl => hG.block g hl (hm1 g hg).2).mono (Nat.le_succ c), ⟨_, .inr ⟨b, rfl, hM.mono (by omega)⟩, hP _ fun y hy => by have := p2 y hy; rw [hn] at this; exact this⟩, ?_, ⟨hV.ok.t, hV.ok.l⟩⟩, .inr ?_, hG.mono fun g e => .inl e⟩
    · rintro g hg hg2
      cases hg2
      have := (hm1 b hg).1
      omega
    · rintro g hg
      cases hg
      exact hb
  · refine (put_there hrow hM hc x hx _ hz).mono ?_
    rintro e w' ⟨rfl, hM', hG⟩
    exact ⟨.map (some b), rfl, ⟨hG.row hrow (fun e => hM.no_row hrow e.symm), (hV.tk.keep fun g hg hl => hG.block g hl (fun e => hap g hg (by rw [e]; rfl))).mono (Nat.le_succ c), ⟨_, .inr ⟨b, rfl, hM'⟩, hP _ p2⟩, hap, ⟨hV.ok.t, hV.ok.l⟩⟩, .inl rfl, hG.mono fun g e => .inr (.inr (by rw [e]; rfl))⟩

end Go.Proofs.Ytkbdnebmekhcdaa

namespace Go.Proofs.Ytkbdnebmekhcdaa
open Go Go.RowKit Go.Maps
open Wd

theorem fnd_cases {T : Int → Option (Bool × Nat)} {x : Int} {s1 : Bool} {h1 : Nat} {E : Int} (h : fnd T x = (s1, h1, E)) : (E = 0 ∧ 0 ≤ x ∧ x < 64 ∧ T x = some (s1, h1)) ∨ (E = 141 ∧ s1 = false ∧ h1 = 0 ∧ 0 ≤ x ∧ x < 64 ∧ T x = none) ∨ (E = 140 ∧ s1 = false ∧ h1 = 0) := by
  unfold fnd at h
  split at h
  · simp only [Prod.mk.injEq] at h
    exact .inr (.inr ⟨h.2.2.symm, h.1.symm, h.2.1.symm⟩)
  · split at h
    · simp only [Prod.mk.injEq] at h
      exact .inr (.inl ⟨h.2.2.symm, h.1.symm, h.2.1.symm, by omega, by omega, by assumption⟩)
    · rename_i q hq
      simp only [Prod.mk.injEq] at h
      exact .inl ⟨h.2.2.symm, by omega, by omega, by rw [hq, ← h.1, ← h.2.1]⟩
theorem fnd_lt {s : St} (hs : s.Ok) {x : Int} {s1 : Bool} {h1 : Nat} {E : Int} (h : fnd s.T x = (s1, h1, E)) : h1 < 2 ^ 256 := by
  rcases fnd_cases h with ⟨_, _, _, h⟩ | ⟨_, _, h, _⟩ | ⟨_, _, h⟩
  · exact hs.t x _ h
  · rw [h]; decide
  · rw [h]; decide
/-! ### what each call does to the state, and answers -/
def sList (s : St) (x : Int) : St × Int :=
  if (fnd s.T x).2.2 = 0 then (s, 142) else if (fnd s.T x).2.2 = 141 then ({ s with T := upd s.T x (some (false, 0)) }, 0) else (s, (fnd s.T x).2.2)
def sStop (s : St) (x : Int) (b : Bool) : St × Int :=
  if (fnd s.T x).2.2 ≠ 0 then (s, (fnd s.T x).2.2) else if (fnd s.T x).1 = b then (s, 143) else ({ s with T := upd s.T x (some (b, (fnd s.T x).2.1)) }, 0)
def sDep (s : St) (x : Int) (m : Nat) : St × Int :=
  if (fnd s.T x).2.2 ≠ 0 then (s, (fnd s.T x).2.2) else if (fnd s.T x).1 = true then (s, 143) else if m = 0 then (s, 144) else if addE (fnd s.T x).2.1 m ≠ 0 then (s, 145) else ({ s with T := upd s.T x (some ((fnd s.T x).1, addR (fnd s.T x).2.1 m)) }, 0)
def sPay (s : St) (i x : Int) (m : Nat) : St × Int :=
  if i < 0 ∨ 1099511627776 ≤ i then (s, 148) else if (fnd s.T x).2.2 ≠ 0 then (s, (fnd s.T x).2.2) else if paid s.U i = true then (s, 147) else if subE (fnd s.T x).2.1 m ≠ 0 then (s, 146) else ({ s with T := upd s.T x (some ((fnd s.T x).1, subR (fnd s.T x).2.1 m)), U := puts s.U i }, 0)
def sLock (s : St) (m : Nat) : St × Int := if addE s.L m ≠ 0 then (s, 145) else ({ s with L := addR s.L m }, 0)
def sFree (s : St) (m : Nat) : St × Int := if subE s.L m ≠ 0 then (s, 149) else ({ s with L := subR s.L m }, 0)

/-- Behind a call: its answer, the state it leaves, what stays. -/
def VtC (w : World) (p c : Nat) (m1 m2 : Value) (r : St × Int) (e : Ending) (w' : World) : Prop :=
  e = .returned (.int .i64 r.2) ∧ ∃ m1' m2', Vt w' p (c + 2) m1' m2' r.1 ∧ Nw w m1 m1' ∧ Nw w m2 m2' ∧ Gro (Vb p m1 m2) w w'
section
variable {w X : World} {p c : Nat} {m1 m2 : Value} {s s' : St} {E : Int}
theorem VtC.same (hV : Vt w p c m1 m2 s) (hB : Below w.heap.size w X) : VtC w p c m1 m2 (s, E) (.returned (.int .i64 E)) X :=
  ⟨rfl, m1, m2, (hV.be hB).mono (by omega), .inl rfl, .inl rfl, Gro.of_below hB⟩
theorem Nw.be {m m' : Value} (h : Nw X m m') (hs : w.heap.size ≤ X.heap.size) : Nw w m m' := by
  rcases h with h | h
  · exact .inl h
  · exact .inr fun g hg => Nat.le_trans hs (h g hg)
theorem VtC.laid {Y : World} {m1' : Value} (hB : Below w.heap.size w X) (hV : Vt Y p (c + 1) m1' m2 s') (hN : Nw X m1 m1') (hG : Gro (Vb p m1 m2) X Y) : VtC w p c m1 m2 (s', 0) (.returned (.int .i64 0)) Y :=
  ⟨rfl, m1', m2, hV.mono (by omega), hN.be hB.size, .inl rfl, (Gro.of_below hB).trans hG⟩
theorem VtC.put {Y Z : World} {m1' m2' : Value} (hB : Below w.heap.size w X) (hN : Nw X m1 m1') (hG : Gro (Vb p m1 m2) X Y) (hV : Vt Z p (c + 1 + 1) m1' m2' s') (hN2 : Nw Y m2 m2') (hG2 : Gro (Vb p m1' m2) Y Z) : VtC w p c m1 m2 (s', 0) (.returned (.int .i64 0)) Z :=
  ⟨rfl, m1', m2', hV.mono (by omega), hN.be hB.size, hN2.be (Nat.le_trans hB.size hG.size), ((Gro.of_below hB).trans hG).then hG2 fun g hg => by
    rcases hg with h | h | h
    · exact .inl (.inl h)
    · rcases hN with q | q
      · rw [q] at h; exact .inl (.inr (.inl h))
      · exact .inr (Nat.le_trans hB.size (q g h))
    · exact .inl (.inr (.inr h))⟩
end
theorem hcs_put {cc : List Value} {r : Nat} (h : Wc cc r) (s : Bool) (m : Nat) : (hcs s m).take 1 ++ cc ++ (hcs s m).drop (1 + cc.length) = hcs s r := by
  rw [h.len, h]
  rfl
theorem hcs_rng {w : World} {b : Nat} {s : Bool} {m : Nat} {t : TypeId} {cc : List Value} (h : Row w b (hcs s m) t) (hc : Wc cc m) : w.rangeAt b 1 cc := by
  rw [hc]
  exact h.range 1 _ (fun j v hv => by rw [Nat.add_comm]; exact hv)
theorem isz_c {ca : List Value} {a : Nat} (Ha : Wc ca a) (ha : a < 2 ^ 256) {B : Bool} (hB : decide (a = 0) = B) (w : World) : Calls Try.prog 50 #[.agg ca.toArray] w fun e w' => e = .returned (.bool B) ∧ Below w.heap.size w w' := by
  subst hB; rw [Ha]
  exact isZero_any a ha w
theorem addR_lt' (a b : Nat) : addR a b < 2 ^ 256 := by unfold addR; split <;> omega
theorem subR_lt' (a b : Nat) (h : a < 2 ^ 256) : subR a b < 2 ^ 256 := by unfold subR; split <;> omega
theorem addE_cases (a b : Nat) : addE a b = 0 ∨ addE a b = 22 := by unfold addE; split <;> simp
theorem subE_cases (a b : Nat) : subE a b = 0 ∨ subE a b = 23 := by unfold subE; split <;> simp

set_option maxRecDepth 100000 in
set_option maxHeartbeats 4000000 in
theorem list_any {w : World} {p c : Nat} {m1 m2 : Value} {s : St} (hV : Vt w p c m1 m2 s) (hc : c + 1 < maxLen) (x : Int) :
    Calls Try.prog 23 #[.pointer (some ⟨p, 0, none⟩), .int .i64 x] w (VtC w p c m1 m2 (sList s x)) := by
  have HV : Hid (Vt w p c m1 m2 s) := hV
  have HC : Hid (c + 1 < maxLen) := hc
  obtain ⟨s1, h1, E, hf⟩ : ∃ s1 h1 E, fnd s.T x = (s1, h1, E) := ⟨_, _, _, rfl⟩
  have HF : Hid (fnd s.T x = (s1, h1, E)) := hf
  have hE := fnd_cases hf
  unfold sList
  rw [hf]
  clear hV hc hf
  go_enter Try.func23, Try.ntmps23
  go_upto_region 2 with (first
    | (go_at_call 47; refine Calls.mono (find_any HV.out x s1 h1 E HF.out) ?_; rintro e X2 ⟨rfl, q⟩; have B2 : Hid (Below w.heap.size w X2) := q; clear q)
    | (refine wpList_allocH rfl rfl ?_; intro X3 q1 q2; have R3 : Hid (Row X3 X2.heap.size (hcs false 0) tH) := q1; have B3 : Hid (Below w.heap.size w X3) := B2.out.trans (q2.mono B2.out.size); clear q1 q2)
    | (refine wpList_storeL rfl tH (.tmp 5) (.tmp 11) rfl X2.heap.size (hcs s1 h1) (hcs false 0) tH rfl rfl R3.out ((hcs_len _ _).trans (hcs_len _ _).symm) (hcs_info _ _) (hcs_all _ _) ?_; intro X4 q1 q2; have R4 : Hid (Row X4 X2.heap.size (hcs s1 h1) tH) := q1; have B4 : Hid (Below w.heap.size w X4) := gro_new B3.out B2.out.size q2; clear q1 q2))
  obtain ⟨bh, hbh⟩ : ∃ b, b = X2.heap.size := ⟨_, rfl⟩
  rw [← hbh] at R4 ⊢
  have HBbh : Hid (w.heap.size ≤ bh) := by show _ ≤ _; rw [hbh]; exact B2.out.size
  clear hbh B2 B3 R3
  rcases hE with ⟨rfl, _⟩ | ⟨rfl, _, _, hx0, hx1, _⟩ | ⟨rfl, _⟩
  · go_wp2_with fail
    go_ret
    exact VtC.same HV.out B4.out
  · have HX : Hid (I64 x) := (i64_iff x).2 (by omega)
    have V4 : Hid (Vt X4 p c m1 m2 s) := HV.out.be B4.out
    clear hx0 hx1
    go_wp2_with (go_at_call 49; refine Calls.mono (lay_any V4.out (by have := HC.out; omega) x HX.out false 0 (by decide)) ?_; rintro e X5 ⟨m1', rfl, v5, n5, g5⟩; have V5 : Hid (Vt X5 p (c + 1) m1' m2 { s with T := upd s.T x (some (false, 0)) }) := v5; have N5 : Hid (Nw X4 m1 m1') := n5; have G5 : Hid (Gro (Vb p m1 m2) X4 X5) := g5; clear v5 n5 g5)
    go_ret
    exact VtC.laid B4.out V5.out N5.out G5.out
  · go_wp2_with fail
    go_ret
    exact VtC.same HV.out B4.out


end Go.Proofs.Ytkbdnebmekhcdaa
