/-
  The law EscrowRefused: its row.
-/
import Derived.Test.YtefjonidpmpjbaaEsRow
import Derived.Test.YtefjonidpmpjbaaErD

namespace Go.Proofs.Ytefjonidpmpjbaa
open Go Go.RowKit Go.ChangeShapes Go.WideShapes Go.ChangeAt
open Wd

theorem cellsStep : Try.prog.cellsOf 35 = 8 := by kernel_rfl
theorem bytesStep : Try.prog.bytesOf 35 = 64 := by kernel_rfl
theorem mem_weightsAll {H : Type} (P : Program) (e : TypeId) (n : Nat) : ∀ (l : List (DataW H)) (d : DataW H), d ∈ l → n ∈ d.weights P e → n ∈ DataW.weightsAll P e l
  | [], d, h, _ => by cases h
  | a :: l, d, h, hn => by
    rw [DataW.weightsAll, List.mem_append]
    rcases List.mem_cons.1 h with rfl | h
    · exact .inl hn
    · exact .inr (mem_weightsAll P e n l d h hn)
section
variable {H : Type} {enc : TypeId × Value → H} {W : World} {base : Nat} {held : Bool} {n : Nat}
set_option maxRecDepth 100000 in
theorem step_f {cs : List Value} (hl : cs.length = 8) {y : DataW H × List MemPlace} (g : DataW.trod enc Try.prog W base (fun _ => true) held n 35 cs = some y) : ∃ r : Stv, cs = r.cells ∧ ((∀ m ∈ y.1.weights Try.prog 35, m ≤ reachBytes) → r.Ok) := by
  obtain ⟨xs, k, hk, hxy, _, hxl, hff⟩ := DataW.trod_struct Try.underlying35 g
  change ∀ (i : Nat) (f : Field), _ → DataW.trod enc Try.prog W base (fun _ => true) held k f.type ((cs.drop f.offset).take (Try.prog.cellsOf f.type)) = xs[i]? at hff
  obtain ⟨y0, y1, y2, y3, y4, rfl⟩ : ∃ y0 y1 y2 y3 y4, xs = [y0, y1, y2, y3, y4] := by
    match xs, hxl with
    | [y0, y1, y2, y3, y4], _ => exact ⟨y0, y1, y2, y3, y4, rfl⟩
  have g0 := hff 0 _ rfl
  change DataW.trod enc Try.prog W base (fun _ => true) held k 3 ((cs.drop 0).take (Try.prog.cellsOf 3)) = some y0 at g0
  rw [cellsI, one_take cs 0 (by omega)] at g0
  obtain ⟨z0, e0, w0⟩ := int_f g0
  have g1 := hff 1 _ rfl
  change DataW.trod enc Try.prog W base (fun _ => true) held k 3 ((cs.drop 1).take (Try.prog.cellsOf 3)) = some y1 at g1
  rw [cellsI, one_take cs 1 (by omega)] at g1
  obtain ⟨z1, e1, w1⟩ := int_f g1
  have g2 := hff 2 _ rfl
  change DataW.trod enc Try.prog W base (fun _ => true) held k 3 ((cs.drop 2).take (Try.prog.cellsOf 3)) = some y2 at g2
  rw [cellsI, one_take cs 2 (by omega)] at g2
  obtain ⟨z2, e2, w2⟩ := int_f g2
  have g3 := hff 3 _ rfl
  change DataW.trod enc Try.prog W base (fun _ => true) held k 3 ((cs.drop 3).take (Try.prog.cellsOf 3)) = some y3 at g3
  rw [cellsI, one_take cs 3 (by omega)] at g3
  obtain ⟨z3, e3, w3⟩ := int_f g3
  have g4 := hff 4 _ rfl
  change DataW.trod enc Try.prog W base (fun _ => true) held k 33 ((cs.drop 4).take (Try.prog.cellsOf 33)) = some y4 at g4
  rw [cellsWide] at g4
  obtain ⟨m, hm, e4⟩ := wide_at (by rw [List.length_take, List.length_drop, hl]; rfl) g4
  refine ⟨⟨z0, z1, z2, z3, m⟩, ?_, fun _ => ⟨w0, w1, w2, w3, hm⟩⟩
  unfold Stv.cells
  simp only
  rw [← e0, ← e1, ← e2, ← e3, ← e4]
  match cs, hl with
  | [c0, c1, c2, c3, c4, c5, c6, c7], _ => rfl
set_option maxRecDepth 100000 in
theorem steps_f {v : Value} {y : DataW H × List MemPlace} (g : DataW.trod enc Try.prog W base (fun _ => true) held n 22 [v] = some y) : ∃ (rs : List Stv) (A : Option Addr) (cap : Nat), v = .slice A rs.length cap ∧ ((∀ m ∈ y.1.weights Try.prog 22, m ≤ reachBytes) → rs.length < 4398046511104 ∧ (∀ i r, rs[i]? = some r → r.Ok ∧ ∃ b o, A = some ⟨b, o, none⟩ ∧ W.rangeAt b (o + i * 8) r.cells)) := by
  have hrb : reachBytes = 140737488351232 := rfl
  rcases Deep.open_slice Try.underlying22 g with ⟨hcs, _⟩ | ⟨ad, l, c', m, k, D, Pl, hcs, _, hl, hm, hmm, hx, hr⟩
  · simp only [List.cons.injEq, and_true] at hcs
    exact ⟨[], none, 0, hcs, fun _ => ⟨by simp, fun i r h => by simp at h⟩⟩
  · simp only [List.cons.injEq, and_true] at hcs
    simp only [if_true] at hmm
    subst hmm
    have each : ∀ i, i < l → ∃ r : Stv, ((∀ m ∈ (D i).weights Try.prog 35, m ≤ reachBytes) → r.Ok) ∧ ∀ q u, r.cells[q]? = some u → W.cell? (ad.add (i * 8 + q)) = some u := by
      intro i hi
      obtain ⟨cs', h1, h2⟩ := hr i (by omega)
      rw [cellsStep] at h1
      obtain ⟨_, hlen, hcell⟩ := World.cells?_some h1
      obtain ⟨r, e, hok⟩ := step_f (by simpa using hlen) h2
      refine ⟨r, hok, fun q u hq => ?_⟩
      have hq5 : q < 8 := by have := (List.getElem?_eq_some_iff.1 hq).1; rwa [Stv.len] at this
      have e2 := hcell q hq5
      rw [Deep.add_add] at e2
      rw [e2, e]; exact hq
    obtain ⟨f, hf⟩ : ∃ f : Nat → Stv, ∀ i, i < l → ((∀ m ∈ (D i).weights Try.prog 35, m ≤ reachBytes) → (f i).Ok) ∧ ∀ q u, (f i).cells[q]? = some u → W.cell? (ad.add (i * 8 + q)) = some u := by
      refine ⟨fun i => if h : i < l then (each i h).choose else ⟨0, 0, 0, 0, 0⟩, fun i hi => ?_⟩
      simp only [hi, dif_pos]
      exact (each i hi).choose_spec
    refine ⟨(List.range l).map f, some ad, m, by simp [hcs], fun hw => ⟨?_, fun i r hr => ?_⟩⟩
    · have := hw ((((List.range l).map D).length + ((List.range (m - l)).map fun j => D (l + j)).length) * 64) (by
        rw [hx]
        simp only [DataW.weights, Try.underlying22, bytesStep]
        exact List.mem_cons_self)
      simp only [List.length_map, List.length_range] at this ⊢
      omega
    simp only [List.getElem?_map, Option.map_eq_some_iff] at hr
    obtain ⟨i', hi', rfl⟩ := hr
    have hil : i < l := by have := (List.getElem?_eq_some_iff.1 hi').1; simpa using this
    obtain rfl : i = i' := by rw [List.getElem?_range hil] at hi'; exact Option.some.inj hi'
    obtain ⟨q1, q2⟩ := hf i hil
    obtain ⟨b, off, spot⟩ := ad
    have h1 := (hf 0 (by omega)).2 0 (.int .i64 (f 0).wh) rfl
    have hspot : spot = none := by simpa [Addr.add] using World.cell?_spot h1
    subst hspot
    refine ⟨q1 (fun m9 hm9 => hw m9 ?_), b, off, rfl, fun j u hu => ?_⟩
    · rw [hx]
      simp only [DataW.weights, Try.underlying22, List.mem_cons, List.mem_append]
      exact .inr (.inl (mem_weightsAll _ _ _ _ (D i) (List.mem_map.2 ⟨i, List.mem_range.2 hil, rfl⟩) hm9))
    · have := q2 j u hu
      rw [Addr.add_mid, show off + (i * 8 + j) = off + i * 8 + j by omega] at this
      exact this
end

end Go.Proofs.Ytefjonidpmpjbaa

namespace Go.Proofs.Ytefjonidpmpjbaa.er
open Go Go.RowKit Go.ChangeShapes Go.WideShapes Go.ChangeAt
open Wd

set_option maxRecDepth 100000 in
theorem contract (H : Type) (enc : TypeId × Value → H) (W : World) (base : Nat) (args : Array Value) (ds gs : List (DataW H)) (before : List MemPlace)
    (hval : ∀ (j : Nat) t v, Try.f6.params[j]? = some t → args[j]? = some v → Value.okWide Try.prog W .any base t v)
    (hW : DataW.Whole enc Try.prog Try.f6.params.toList Rows.escrowRefusedSpec.vars false W args.toList ds gs before)
    (hsz : (DataW.weightsEach Try.prog (Try.f6.params.toList ++ (OpenSpec.ofChange Rows.escrowRefusedSpec).bare.plain.varTypes Try.prog) (ds ++ gs)).all (· ≤ reachBytes) = true) :
    Calls Try.prog 6 args W fun e W' => ∃ v, e = .returned v ∧ Rows.escrowRefusedSpec.post enc Try.prog Try.f6 false true false false W args v W' := by
  have hW' := hW
  obtain ⟨p, q, hA0, hV, rfl, hfz, hnd⟩ := hW
  have hA : DataW.TrodAll enc Try.prog W 0 (fun _ => true) true Try.f6.params.toList args.toList ds p := hA0
  rw [Try.params6] at hA hval hsz
  obtain ⟨v0, vs0, d0, ds0, p0, q0, hargs, rfl, rfl, h0, r0⟩ := trodAll_cons hA
  obtain ⟨rfl, rfl, rfl⟩ := trodAll_nil r0
  obtain rfl : args = #[v0] := by cases args; simp_all
  obtain ⟨rfl, rfl⟩ := trodVars_none hV
  have k0 := h0
  have lt0 : ∀ x ∈ p0, x.block < W.heap.size := by obtain ⟨m, hm⟩ := k0; exact DataW.trod_lt m _ _ _ hm
  obtain ⟨a0, len0, cap0, rfl⟩ := okWide_slice Try.underlying22 (hval 0 22 v0 rfl rfl)
  obtain ⟨rs0, B0, cb0, eb0, hb0⟩ := (fun ⟨fuel, hf⟩ => steps_f hf : (∃ _, _) → _) h0
  replace hb0 := hb0 (fun mm hmm => of_decide_eq_true (List.all_eq_true.1 hsz mm (DataW.weights_mem_each (j := 0) (t := 22) rfl rfl _ hmm)))
  simp only [Value.slice.injEq] at eb0
  obtain ⟨rfl, rfl, rfl⟩ := eb0
  clear hA0
  refine (refused5_walk rs0 a0 rs0.length cap0 rfl hb0.1 W hb0.2).mono fun e W' ⟨he, bel⟩ => ?_
  subst he
  exact ⟨_, rfl, _, _, _, [], _, [], hW', trodAll_mk1 (shut_bool Try.underlying4 _), (trodAll_cons_mk (Below.trod laidOut (by kernel_rfl) (of_decide_eq_true (by kernel_rfl)) k0 bel lt0) trodAll_mk0), rfl, bel.frame _, fun h => by cases h⟩

theorem laid_met (os : Os) : laidMet Try.prog Rows.escrowRefusedRow.laid (({ World.holding Try.prog os ⟨#[], #[], []⟩ with heap := (World.holding Try.prog os ⟨#[], #[], []⟩).heap } : World).forCall (fun _ _ => 0) ⟨#[], #[.slice none 0 0], []⟩).memory :=
  laidMet_of_run' 8 (by kernel_rfl) (by kernel_rfl)
theorem reads (os : Os) {H : Type} (enc : TypeId × Value → H) : ∃ places, DataW.whole enc Try.prog (({ World.holding Try.prog os ⟨#[], #[], []⟩ with heap := (World.holding Try.prog os ⟨#[], #[], []⟩).heap } : World).forCall (fun _ _ => 0) ⟨#[], #[.slice none 0 0], []⟩).memory Try.f6.params.toList Rows.escrowRefusedSpec.vars false (#[.slice none 0 0] : Array Value).toList 8 = some ([.nil], [], places) :=
  ⟨[], by kernel_rfl⟩

set_option maxRecDepth 100000 in
theorem lifted (os : Os) (started : os.Started) (H : Type) (enc : TypeId × Value → H) (F : Stop.Interp) :
    ReturnsInHanded {} Try.checked os 6 .any ((OpenSpec.ofChange Rows.escrowRefusedSpec).preRow enc Try.prog Try.f6 Rows.escrowRefusedRow.domain false Rows.escrowRefusedRow.laid) (((OpenSpec.ofChange Rows.escrowRefusedSpec).at F).post enc Try.prog Try.f6 false true false false) := by
  obtain ⟨places, hx⟩ := reads os enc
  refine returnsInHanded_of_row (C := Try.checked) (s := OpenSpec.ofChange Rows.escrowRefusedSpec) own started (by kernel_rfl) Try.func6
    (witness_row_at (enc := enc) (C := Try.checked) false ({ World.holding Try.prog os ⟨#[], #[], []⟩ with heap := (World.holding Try.prog os ⟨#[], #[], []⟩).heap } : World) #[.slice none 0 0] rfl (by kernel_rfl) (by kernel_rfl) (by kernel_rfl)
      (OpenSpec.preRow_of_cond 8 hx (by kernel_rfl) (fun k hk => by cases hk) (by kernel_rfl) (laid_met os))) ?_
  intro W base args ds gs before hval hW _ hc hsz hL _ _
  exact contract H enc W base args ds gs before hval hW hsz

theorem said : Rows.EscrowRefusedSaid :=
  OpenClaim.holds_of_cond 6 Try.f6 rfl rfl rfl rfl rfl rfl rfl ⟨rfl, rfl, rfl, rfl, rfl⟩ rfl rfl rfl rfl rfl (by kernel_rfl) Try.func6 (by kernel_rfl)
    (of_decide_eq_true (by kernel_rfl)) (by unfold Func.isWrapper; first | (rw [if_pos (by decide +kernel)]; kernel_rfl) | (rw [if_neg (by decide +kernel)]; exact ⟨rfl, rfl⟩))
    (fun os started H enc _ F => by rw [OpenClaim.pre_eq_preRow]; exact lifted os started H enc F)


end Go.Proofs.Ytefjonidpmpjbaa.er
