/-
  LadderPlays: look at New, refused.
-/
import Derived.Test.YtfdbjcdcfmnicaaLpR
namespace Go.Proofs.Ytfdbjcdcfmnicaa
open Go Go.RowKit
open Sha

set_option maxRecDepth 100000 in
set_option maxHeartbeats 16000000 in
theorem look_new_no {w0 w : World} {q : Nat} {B : Int} {Ls : List (Nat × Value × La)} {Es : List (Value × La)} {T : Value} {ts : List (Value × Nat)} (h : Pl w0 w q B Ls Es T ts) {k p : Nat} {v e : Value} {st : La} (hk : Ls[k]? = some (p, v, st)) (he : Es[k]? = some (e, st)) (s : Sp16) (hs : s.Ok) (_hB0 : 0 ≤ B) (hnew : newE s.c s.wd ≠ 0) (hkd : s.kd = 12) (S : List Value) (hS : S = s.cells) :
    Calls Try.prog 18 #[.pointer (some ⟨q, 0, none⟩), .int .i64 (k : Int), .agg S.toArray] w fun r w' => r = .returned (.bool true) ∧ Pl w0 w' q B Ls Es T ts := by
  have HWD : Hid (S[93]? = some (.int .i64 s.wd)) := by rw [hS]; exact Sp16.at_wd hs
  obtain ⟨Lc, hLc⟩ : ∃ M, M = s.c.cells := ⟨_, rfl⟩
  have HIC : Hid ((Try.prog.info? tC).map (·.size) = some Lc.length) := by show _ = _; rw [hLc]; exact Cm.info hs.c
  have HRC : Hid (∀ (j : Nat) (u : Value), Lc[j]? = some u → S[3 + j]? = some u) := fun j u hj => by rw [hS]; rw [hLc] at hj; exact Sp16.c_range s j u hj
  obtain ⟨E, hE⟩ : ∃ E, newE s.c s.wd = E := ⟨_, rfl⟩
  obtain ⟨Lz, hLz⟩ : ∃ M, M = newV s.c s.wd := ⟨_, rfl⟩
  have HZN : Hid (Lz.length = 70) := by show _ = _; rw [hLz]; unfold newV; rw [if_neg hnew]; exact zRL_len
  have HZO : Hid (Lz.toArray.all (·.oneCell') = true) := by show _ = _; rw [hLz]; unfold newV; rw [if_neg hnew]; decide +kernel
  have hE0 : E ≠ 0 := by rw [← hE]; exact hnew
  have hE1 : (E != 0) = true := by simpa using hE0
  have HNW : Hid (∀ W, Calls Try.prog 21 #[.agg Lc.toArray, .int .i64 s.wd] W fun e w' => e = .returned (.tuple #[.pointer none, .int .i64 E]) ∧ Below W.heap.size W w') := fun W => new_no s.c hs.c s.wd Lc hLc E hE hE0 W
  have HRN : Hid (∀ W, Calls Try.prog 55 #[.agg Lc.toArray, .int .i64 s.wd] W fun e w' => e = .returned (.tuple #[.agg Lz.toArray, .int .i64 E]) ∧ Below W.heap.size W w') := fun W => by rw [hLz]; exact rnew_any s.c hs.c s.wd Lc hLc E hE W
  clear hE
  have HZI : Hid ((Try.prog.info? tRL).map (·.size) = some Lz.length) := by show _ = _; rw [HZN.out]; exact info_RL
  have hk3 : k < 3 := by have := (List.getElem?_eq_some_iff.1 hk).1; rw [h.l3] at this; exact this
  have HK3 : Hid (k < 3) := hk3
  have HPL : Hid (Pl w0 w q B Ls Es T ts) := h
  have HLK : Hid (Ls[k]? = some (p, v, st)) := hk
  have HEK : Hid (Es[k]? = some (e, st)) := he
  have HNR : Hid (S[91]? = some (.int .i64 s.nr)) := by rw [hS]; exact Sp16.at_nr hs
  have HKD : Hid (S[0]? = some (.int .i64 12)) := by rw [hS, ← hkd]; exact Sp16.at_kd s
  have HCP0 : Hid (∀ W, Pl w0 W q B Ls Es T ts → W.cell? ⟨q, k, none⟩ = some (.pointer (some ⟨p, 0, none⟩))) := fun W hP => hP.row.cell k _ (prc_p (by rw [List.getElem?_map, hk]; rfl))
  obtain ⟨L, hL⟩ : ∃ L, L = st.dc e := ⟨_, rfl⟩
  have HIL : Hid ((Try.prog.info? tRL).map (·.size) = some L.length) := by show _ = _; rw [hL]; exact La.dinfo (h.rf _ (List.mem_of_getElem? he)).ok.cf _
  have HRD0 : Hid (∀ W, Pl w0 W q B Ls Es T ts → W.rangeAt q (3 + k * 70) L) := fun W hP => hP.row.range (3 + k * 70) _ (fun j u hj => prc_d (by rw [List.length_map]; exact hP.l3) hP.d70 (by rw [List.getElem?_map, he]; rfl) j u (by rw [hL] at hj; exact hj))
  clear hLc hLz hnew _hB0
  clear h hk he hs hkd hS hk3 hL
  go_enter Try.func18, Try.ntmps18
  go_upto_region 34 with (refine wpList_bxG tSt rfl (.tmp 2) rfl S rfl ?_; intro X1 q1 q2 q3; clear q3; have ck : X1.cell? ⟨w.heap.size, 0, none⟩ = some (.int .i64 12) := q1.cell 0 _ HKD.out; have RS : Hid (Row X1 w.heap.size S tSt) := q1; have HP1 : Hid (Pl w0 X1 q B Ls Es T ts) := HPL.out.below q2; clear q1 q2; simp only [Act.put, List.setIfInBounds_toArray, List.set_cons_zero, List.set_cons_succ])
  obtain ⟨bS, hbS⟩ : ∃ b, b = w.heap.size := ⟨_, rfl⟩
  rw [← hbS] at RS ⊢
  clear hbS ck HPL
  have rs1 := RS.out
  have cw1 : X1.cell? ⟨bS, 93, none⟩ = some (.int .i64 s.wd) := rs1.cell 93 _ HWD.out
  clear rs1
  go_upto_region 35 with (first
        | (refine wpList_ldS rfl tC (.tmp 220) rfl bS 3 rfl Lc _ (RS.out.range 3 _ HRC.out) Try.underlying25 rfl HIC.out ?_; simp only [Act.put, List.setIfInBounds_toArray, List.set_cons_zero, List.set_cons_succ])
        | (go_at_call 21; refine Calls.mono (HNW.out _) ?_; rintro r X2 ⟨rfl, q3⟩; have HP2 : Hid (Pl w0 X2 q B Ls Es T ts) := HP1.out.below q3; have RS2 : Hid (Row X2 bS S tSt) := Row.below RS.out q3 RS.out.lt; clear q3 cw1))
  have cw2 : X2.cell? ⟨bS, 93, none⟩ = some (.int .i64 s.wd) := RS2.out.cell 93 _ HWD.out
  go_upto_region 36 with (first
        | (refine wpList_ldS rfl tC (.tmp 228) rfl bS 3 rfl Lc _ (RS2.out.range 3 _ HRC.out) Try.underlying25 rfl HIC.out ?_; simp only [Act.put, List.setIfInBounds_toArray, List.set_cons_zero, List.set_cons_succ])
        | (go_at_call 55; refine Calls.mono (HRN.out _) ?_; rintro r X3 ⟨rfl, q3⟩; have HP3 : Hid (Pl w0 X3 q B Ls Es T ts) := HP2.out.below q3; clear q3)
        | (refine wpList_alRL rfl rfl ?_; intro X4 q1 q2 q3; clear q3; have RZ : Hid (Row X4 X3.heap.size zRL tRL) := q1; have HP4 : Hid (Pl w0 X4 q B Ls Es T ts) := HP3.out.below q2; clear q1 q2; simp only [Act.put, List.setIfInBounds_toArray, List.set_cons_zero, List.set_cons_succ])
        | (refine wpList_stL rfl tRL (.tmp 27) (.tmp 233) rfl X3.heap.size Lz zRL tRL rfl rfl RZ.out (HZN.out.trans zRL_len.symm) HZI.out HZO.out ?_; intro X5 q1 q2; have R5 : Hid (Row X5 X3.heap.size Lz tRL) := q1; have HP5 : Hid (Pl w0 X5 q B Ls Es T ts) := HP4.out.fresh HP3.out q2 (fun g z => by { rw [z]; exact Nat.le_refl _ }); clear q1 q2 RZ; simp only [Act.put]))
  clear cw2 HNW HRN
  clear HP1 HP2 HP3 HP4
  go_wp2_with fail
  go_ret
  exact ⟨by simp, HP5.out⟩

end Go.Proofs.Ytfdbjcdcfmnicaa
