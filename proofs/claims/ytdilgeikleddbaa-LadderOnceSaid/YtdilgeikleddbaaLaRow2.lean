/-
  the Ladder laws: what came in, with the bound in bytes.
-/
import Derived.Test.YtdilgeikleddbaaLaRow
namespace Go.Proofs.Ytdilgeikleddbaa
open Go Go.RowKit Go.ChangeShapes Go.WideShapes Go.ChangeAt
open Sha

section
variable {H : Type} {enc : TypeId × Value → H} {W : World} {base : Nat} {held : Bool} {n : Nat}
set_option maxRecDepth 100000 in
theorem steps16_g {v : Value} {y : DataW H × List MemPlace} (g : DataW.trod enc Try.prog W base (fun _ => true) held n 35 [v] = some y) : ∃ (rs : List Sp16) (A : Option Addr) (cap : Nat), v = .slice A rs.length cap ∧ SsAt W A rs ∧ ((∀ m ∈ y.1.weights Try.prog 35, m ≤ reachBytes) → rs.length * 168 ≤ 140737488351232) := by
  have hrb : reachBytes = 140737488351232 := rfl
  rcases Deep.open_slice Try.underlying35 g with ⟨hcs, _⟩ | ⟨ad, l, c', m, k, D, Pl, hcs, _, hl, hm, hmm, hx, hr⟩
  · simp only [List.cons.injEq, and_true] at hcs
    exact ⟨[], none, 0, hcs, (fun i r h => by simp at h), fun _ => by simp⟩
  · simp only [List.cons.injEq, and_true] at hcs
    simp only [if_true] at hmm
    subst hmm
    have each : ∀ i, i < l → ∃ r : Sp16, r.Ok ∧ ∀ q u, r.cells[q]? = some u → W.cell? (ad.add (i * 94 + q)) = some u := by
      intro i hi
      obtain ⟨cs', h1, h2⟩ := hr i (by omega)
      rw [cellsStL] at h1
      obtain ⟨_, hlen, hcell⟩ := World.cells?_some h1
      obtain ⟨r, hok, e⟩ := step16_f (by simpa using hlen) h2
      refine ⟨r, hok, fun q u hq => ?_⟩
      have hq5 : q < 94 := by have := (List.getElem?_eq_some_iff.1 hq).1; rwa [Sp16.len hok] at this
      have e2 := hcell q hq5
      rw [Deep.add_add] at e2
      rw [e2, e]; exact hq
    obtain ⟨f, hf⟩ : ∃ f : Nat → Sp16, ∀ i, i < l → (f i).Ok ∧ ∀ q u, (f i).cells[q]? = some u → W.cell? (ad.add (i * 94 + q)) = some u := by
      refine ⟨fun i => if h : i < l then (each i h).choose else ⟨0, 0, 0, zC, [], 0, 0, 0, 0, 0⟩, fun i hi => ?_⟩
      simp only [hi, dif_pos]
      exact (each i hi).choose_spec
    refine ⟨(List.range l).map f, some ad, m, by simp [hcs], fun i r hr => ?_, fun hw => ?_⟩
    · simp only [List.getElem?_map, Option.map_eq_some_iff] at hr
      obtain ⟨i', hi', rfl⟩ := hr
      have hil : i < l := by have := (List.getElem?_eq_some_iff.1 hi').1; simpa using this
      obtain rfl : i = i' := by rw [List.getElem?_range hil] at hi'; exact Option.some.inj hi'
      obtain ⟨q1, q2⟩ := hf i hil
      obtain ⟨b, off, spot⟩ := ad
      have h1 := (hf 0 (by omega)).2 0 (.int .i64 (f 0).kd) rfl
      have hspot : spot = none := by simpa [Addr.add] using World.cell?_spot h1
      subst hspot
      refine ⟨q1, b, off, rfl, fun j u hu => ?_⟩
      have := q2 j u hu
      rw [Addr.add_mid, show off + (i * 94 + j) = off + i * 94 + j by omega] at this
      exact this
    · have := hw ((((List.range l).map D).length + ((List.range (m - l)).map fun j => D (l + j)).length) * 168) (by
        rw [hx]
        simp only [DataW.weights, Try.underlying35, bytesStL]
        exact List.mem_cons_self)
      simp only [List.length_map, List.length_range] at this ⊢
      omega
set_option maxRecDepth 100000 in
theorem script_g {cs : List Value} (hcl : cs.length = 68) {y : DataW H × List MemPlace} (g : DataW.trod enc Try.prog W base (fun _ => true) held n 37 cs = some y) : ∃ (c : Cm) (win : Int) (rs : List Sp16) (A : Option Addr) (cap : Nat), c.Wf ∧ B64 win ∧ cs = scr c win (.slice A rs.length cap) ∧ SsAt W A rs ∧ ((∀ m ∈ y.1.weights Try.prog 37, m ≤ reachBytes) → rs.length * 168 ≤ 140737488351232) := by
  obtain ⟨xs, k, hk, hxy, _, hxl, hff⟩ := DataW.trod_struct Try.underlying37 g
  change ∀ (i : Nat) (f : Field), _ → DataW.trod enc Try.prog W base (fun _ => true) held k f.type ((cs.drop f.offset).take (Try.prog.cellsOf f.type)) = xs[i]? at hff
  obtain ⟨y0, y1, y2, rfl⟩ : ∃ y0 y1 y2, xs = [y0, y1, y2] := by
    match xs, hxl with
    | [y0, y1, y2], _ => exact ⟨y0, y1, y2, rfl⟩
  have g0 := hff 0 _ rfl
  change DataW.trod enc Try.prog W base (fun _ => true) held k 25 ((cs.drop 0).take (Try.prog.cellsOf 25)) = some y0 at g0
  rw [cellsCmL] at g0
  obtain ⟨c, l0, e0⟩ := commit_f (by rw [List.length_take, List.length_drop]; omega) g0
  have g1 := hff 1 _ rfl
  change DataW.trod enc Try.prog W base (fun _ => true) held k 3 ((cs.drop 66).take (Try.prog.cellsOf 3)) = some y1 at g1
  rw [cellsIntL, one_takeL cs 66 (by omega)] at g1
  obtain ⟨win, e1, b1⟩ := intL_f g1
  have g2 := hff 2 _ rfl
  change DataW.trod enc Try.prog W base (fun _ => true) held k 35 ((cs.drop 67).take (Try.prog.cellsOf 35)) = some y2 at g2
  rw [cellsSlL, one_takeL cs 67 (by omega)] at g2
  obtain ⟨rs, A, cap, e2, hss, hw2⟩ := steps16_g g2
  refine ⟨c, win, rs, A, cap, l0, b1, ?_, hss, fun hw => hw2 (fun m hm => hw m ?_)⟩
  · have h0 := cut_atL cs 0 66
    rw [e0, List.drop_zero] at h0
    rw [h0, cut_atL cs 66 1, one_takeL cs 66 (by omega), e1, cut_atL cs 67 1, one_takeL cs 67 (by omega), e2, List.drop_eq_nil_of_le (by omega : cs.length ≤ 67 + 1)]
    rfl
  · rw [hxy]
    simp only [List.map_cons, List.map_nil, DataW.weights, Try.underlying37, DataW.weightsEach, List.mem_append]
    exact .inr (.inr (.inl hm))
end

end Go.Proofs.Ytdilgeikleddbaa
