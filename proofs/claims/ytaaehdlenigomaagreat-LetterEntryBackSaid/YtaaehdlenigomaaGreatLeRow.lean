/-
  The law LetterEntryBack: its row.
-/
import Derived.Test.YtaaehdlenigomaaGreatLeQ
import Derived.Test.YtaaehdlenigomaaGreatLeS
import Derived.Test.YtaaehdlenigomaaGreatLeU
namespace Go.Proofs.YtaaehdlenigomaaGreat.lb
open Go Go.RowKit Go.ChangeShapes Go.WideShapes Go.ChangeAt
open Sha

set_option maxRecDepth 100000 in
theorem contract (H : Type) (enc : TypeId × Value → H) (W : World) (base : Nat) (args : Array Value) (ds gs : List (DataW H)) (before : List MemPlace)
    (hval : ∀ (j : Nat) t v, Tryz.f3.params[j]? = some t → args[j]? = some v → Value.okWide Tryz.prog W .any base t v)
    (hW : DataW.Whole enc Tryz.prog Tryz.f3.params.toList Rows.letterEntryBackSpec.vars false W args.toList ds gs before)
    (hsz : (DataW.weightsEach Tryz.prog (Tryz.f3.params.toList ++ (OpenSpec.ofChange Rows.letterEntryBackSpec).bare.plain.varTypes Tryz.prog) (ds ++ gs)).all (· ≤ reachBytes) = true) :
    Calls Tryz.prog 3 args W fun e W' => ∃ v, e = .returned v ∧ Rows.letterEntryBackSpec.post enc Tryz.prog Tryz.f3 false true false false W args v W' := by
  have hW' := hW
  obtain ⟨p, q, hA0, hV, rfl, hfz, hnd⟩ := hW
  have hA : DataW.TrodAll enc Tryz.prog W 0 (fun _ => true) true Tryz.f3.params.toList args.toList ds p := hA0
  rw [Tryz.params3] at hA hval hsz
  obtain ⟨v0, vs0, d0, ds0, p0, q0, hargs, rfl, rfl, h0, r0⟩ := trodAll_cons hA
  obtain ⟨v1, vs1, d1, ds1, p1, q1, rfl, rfl, rfl, h1, r1⟩ := trodAll_cons r0
  obtain ⟨v2, vs2, d2, ds2, p2, q2, rfl, rfl, rfl, h2, r2⟩ := trodAll_cons r1
  obtain ⟨rfl, rfl, rfl⟩ := trodAll_nil r2
  obtain rfl : args = #[v0, v1, v2] := by cases args; simp_all
  obtain ⟨rfl, rfl⟩ := trodVars_none hV
  have k0 := h0
  have lt0 : ∀ x ∈ p0, x.block < W.heap.size := by obtain ⟨m, hm⟩ := k0; exact DataW.trod_lt m _ _ _ hm
  obtain ⟨ca0, rfl, hca0⟩ := okWide_struct Tryz.underlying30 (hval 0 30 v0 rfl rfl)
  rw [cellsRaw] at hca0
  obtain ⟨kk, tk, nm, gs, fr, rc, am, zx, zy, es0, btk, bgs, lfr, lrc, lam, qam⟩ := (fun ⟨fuel, hf⟩ => raw_f (by simpa [Value.cells] using hca0) hf : (∃ _, _) → _) h0
  obtain rfl : ca0 = (raw kk tk nm gs fr rc am zx zy).toArray := by rw [← es0]; simp [Value.cells]
  have k1 := h1
  have lt1 : ∀ x ∈ p1, x.block < W.heap.size := by obtain ⟨m, hm⟩ := k1; exact DataW.trod_lt m _ _ _ hm
  obtain ⟨a1, len1, cap1, rfl⟩ := okWide_slice Tryz.underlying28 (hval 1 28 v1 rfl rfl)
  obtain ⟨b1, B1, cb1, eb1, sl1, nil1, hb1⟩ := (fun ⟨fuel, hf⟩ => bytes_f hf : (∃ _, _) → _) h1
  replace hb1 := hb1 (fun mm hmm => of_decide_eq_true (List.all_eq_true.1 hsz mm (DataW.weights_mem_each (j := 1) (t := 28) rfl rfl _ hmm)))
  simp only [Value.slice.injEq] at eb1
  obtain ⟨rfl, rfl, rfl⟩ := eb1
  have k2 := h2
  have lt2 : ∀ x ∈ p2, x.block < W.heap.size := by obtain ⟨m, hm⟩ := k2; exact DataW.trod_lt m _ _ _ hm
  obtain ⟨ca2, rfl, hca2⟩ := okWide_struct Tryz.underlying32 (hval 2 32 v2 rfl rfl)
  rw [cellsBear] at hca2
  obtain ⟨sd, t0, dp, es2, lsd, bt⟩ := (fun ⟨fuel, hf⟩ => bear_f (by simpa [Value.cells] using hca2) hf : (∃ _, _) → _) h2
  obtain rfl : ca2 = (bear sd t0 dp).toArray := by rw [← es2]; simp [Value.cells]
  clear hA0
  have walk : Calls Tryz.prog 3 #[.agg (raw kk tk nm gs fr rc am zx zy).toArray, .slice a1 b1.length cap1, .agg (bear sd t0 dp).toArray] W fun e w' => e = .returned (.bool true) ∧ Below W.heap.size W w' := by
    cases dp
    · exact back_c kk tk nm gs t0 fr rc sd am zx zy _ _ lsd bt rfl rfl a1 b1.length cap1 b1 rfl W (fun W' hb => SlAt.be sl1 hb)
    · by_cases hz : am = (List.replicate 4 0)
      · exact back_z kk tk nm gs t0 fr rc sd am zx zy _ _ hz lfr lrc lam qam btk bgs lsd bt rfl rfl a1 b1.length cap1 W
      · exact back_d kk tk nm gs t0 fr rc sd am zx zy _ _ hz lfr lrc lam qam btk bgs lsd bt rfl rfl a1 b1.length cap1 W
  refine (walk).mono fun e W' ⟨he, bel⟩ => ?_
  subst he
  exact ⟨_, rfl, _, _, _, [], _, [], hW', trodAll_mk1 (shut_bool Tryz.underlying4 _), (trodAll_cons_mk (Below.trod laidOut (by kernel_rfl) (of_decide_eq_true (by kernel_rfl)) k0 bel lt0) (trodAll_cons_mk (Below.trod laidOut (by kernel_rfl) (of_decide_eq_true (by kernel_rfl)) k1 bel lt1) (trodAll_cons_mk (Below.trod laidOut (by kernel_rfl) (of_decide_eq_true (by kernel_rfl)) k2 bel lt2) trodAll_mk0))), rfl, bel.frame _, fun h => by cases h⟩

theorem laid_met (os : Os) : laidMet Tryz.prog Rows.letterEntryBackRow.laid (({ World.holding Tryz.prog os ⟨#[], #[], []⟩ with heap := (World.holding Tryz.prog os ⟨#[], #[], []⟩).heap } : World).forCall (fun _ _ => 0) ⟨#[], #[.agg (raw 0 0 0 0 (List.replicate 20 0#8) (List.replicate 20 0#8) (List.replicate 4 0) (.slice none 0 0) (.slice none 0 0)).toArray, .slice none 0 0, .agg (bear (List.replicate 20 0#8) 0 false).toArray], []⟩).memory :=
  laidMet_of_run' 8 (by kernel_rfl) (by kernel_rfl)
theorem reads (os : Os) {H : Type} (enc : TypeId × Value → H) : ∃ places, DataW.whole enc Tryz.prog (({ World.holding Tryz.prog os ⟨#[], #[], []⟩ with heap := (World.holding Tryz.prog os ⟨#[], #[], []⟩).heap } : World).forCall (fun _ _ => 0) ⟨#[], #[.agg (raw 0 0 0 0 (List.replicate 20 0#8) (List.replicate 20 0#8) (List.replicate 4 0) (.slice none 0 0) (.slice none 0 0)).toArray, .slice none 0 0, .agg (bear (List.replicate 20 0#8) 0 false).toArray], []⟩).memory Tryz.f3.params.toList Rows.letterEntryBackSpec.vars false (#[.agg (raw 0 0 0 0 (List.replicate 20 0#8) (List.replicate 20 0#8) (List.replicate 4 0) (.slice none 0 0) (.slice none 0 0)).toArray, .slice none 0 0, .agg (bear (List.replicate 20 0#8) 0 false).toArray] : Array Value).toList 8 = some ([.agg [.lit (.int .i64 0), .lit (.int .i64 0), .lit (.int .i64 0), .lit (.int .i64 0), .agg (List.replicate 20 (.lit (.int .u8 0))), .agg (List.replicate 20 (.lit (.int .u8 0))), .agg (List.replicate 4 (.lit (.int .u64 0))), .nil, .nil], .nil, .agg [.agg (List.replicate 20 (.lit (.int .u8 0))), .lit (.int .i64 0), .lit (.bool false)]], [], places) :=
  ⟨[], by kernel_rfl⟩

set_option maxRecDepth 100000 in
theorem lifted (os : Os) (started : os.Started) (H : Type) (enc : TypeId × Value → H) (F : Stop.Interp) :
    ReturnsInHanded {} Tryz.checked os 3 .any ((OpenSpec.ofChange Rows.letterEntryBackSpec).preRow enc Tryz.prog Tryz.f3 Rows.letterEntryBackRow.domain false Rows.letterEntryBackRow.laid) (((OpenSpec.ofChange Rows.letterEntryBackSpec).at F).post enc Tryz.prog Tryz.f3 false true false false) := by
  obtain ⟨places, hx⟩ := reads os enc
  refine returnsInHanded_of_row (C := Tryz.checked) (s := OpenSpec.ofChange Rows.letterEntryBackSpec) own started (by kernel_rfl) Tryz.func3
    (witness_row_at (enc := enc) (C := Tryz.checked) false ({ World.holding Tryz.prog os ⟨#[], #[], []⟩ with heap := (World.holding Tryz.prog os ⟨#[], #[], []⟩).heap } : World) #[.agg (raw 0 0 0 0 (List.replicate 20 0#8) (List.replicate 20 0#8) (List.replicate 4 0) (.slice none 0 0) (.slice none 0 0)).toArray, .slice none 0 0, .agg (bear (List.replicate 20 0#8) 0 false).toArray] rfl (by kernel_rfl) (by kernel_rfl) (by kernel_rfl)
      (OpenSpec.preRow_of_cond 8 hx (by kernel_rfl) (fun k hk => by cases hk) (by kernel_rfl) (laid_met os))) ?_
  intro W base args ds gs before hval hW _ hc hsz hL _ _
  exact contract H enc W base args ds gs before hval hW hsz

theorem said : Rows.LetterEntryBackSaid :=
  OpenClaim.holds_of_cond 3 Tryz.f3 rfl rfl rfl rfl rfl rfl rfl ⟨rfl, rfl, rfl, rfl, rfl⟩ rfl rfl rfl rfl rfl (by kernel_rfl) Tryz.func3 (by kernel_rfl)
    (of_decide_eq_true (by kernel_rfl)) (by unfold Func.isWrapper; first | (rw [if_pos (by decide +kernel)]; kernel_rfl) | (rw [if_neg (by decide +kernel)]; exact ⟨rfl, rfl⟩))
    (fun os started H enc _ F => by rw [OpenClaim.pre_eq_preRow]; exact lifted os started H enc F)


end Go.Proofs.YtaaehdlenigomaaGreat.lb
