/-
  the Ladder laws: what came in, with the bounds of On and To.
-/
import Derived.Test.YtfdbjcdcfmnicaaLaRow
namespace Go.Proofs.Ytfdbjcdcfmnicaa
open Go Go.RowKit Go.ChangeShapes Go.WideShapes Go.ChangeAt
open Sha

section
variable {H : Type} {enc : TypeId × Value → H} {W : World} {base : Nat} {held : Bool} {n : Nat}
set_option maxRecDepth 100000 in
theorem step16_h {cs : List Value} (hcl : cs.length = 94) {y : DataW H × List MemPlace} (g : DataW.trod enc Try.prog W base (fun _ => true) held n 53 cs = some y) : ∃ r : Sp16, (r.Ok ∧ B64 r.on ∧ B64 r.«to») ∧ cs = r.cells := by
  obtain ⟨xs, k, hk, hxy, _, hxl, hff⟩ := DataW.trod_struct Try.underlying53 g
  change ∀ (i : Nat) (f : Field), _ → DataW.trod enc Try.prog W base (fun _ => true) held k f.type ((cs.drop f.offset).take (Try.prog.cellsOf f.type)) = xs[i]? at hff
  obtain ⟨y0, y1, y2, y3, y4, y5, y6, y7, y8, y9, rfl⟩ : ∃ y0 y1 y2 y3 y4 y5 y6 y7 y8 y9, xs = [y0, y1, y2, y3, y4, y5, y6, y7, y8, y9] := by
    match xs, hxl with
    | [y0, y1, y2, y3, y4, y5, y6, y7, y8, y9], _ => exact ⟨y0, y1, y2, y3, y4, y5, y6, y7, y8, y9, rfl⟩
  have g0 := hff 0 _ rfl
  change DataW.trod enc Try.prog W base (fun _ => true) held k 3 ((cs.drop 0).take (Try.prog.cellsOf 3)) = some y0 at g0
  rw [cellsIntL, one_takeL cs 0 (by omega)] at g0
  obtain ⟨z0, e0, b0⟩ := intL_f g0
  have g1 := hff 1 _ rfl
  change DataW.trod enc Try.prog W base (fun _ => true) held k 3 ((cs.drop 1).take (Try.prog.cellsOf 3)) = some y1 at g1
  rw [cellsIntL, one_takeL cs 1 (by omega)] at g1
  obtain ⟨z1, e1, b1⟩ := intL_f g1
  have g2 := hff 2 _ rfl
  change DataW.trod enc Try.prog W base (fun _ => true) held k 3 ((cs.drop 2).take (Try.prog.cellsOf 3)) = some y2 at g2
  rw [cellsIntL, one_takeL cs 2 (by omega)] at g2
  obtain ⟨z2, e2, b2⟩ := intL_f g2
  have g3 := hff 3 _ rfl
  change DataW.trod enc Try.prog W base (fun _ => true) held k 25 ((cs.drop 3).take (Try.prog.cellsOf 25)) = some y3 at g3
  rw [cellsCmL] at g3
  obtain ⟨c, l3, e3⟩ := commit_f (by rw [List.length_take, List.length_drop]; omega) g3
  have g4 := hff 4 _ rfl
  change DataW.trod enc Try.prog W base (fun _ => true) held k 51 ((cs.drop 69).take (Try.prog.cellsOf 51)) = some y4 at g4
  rw [cellsAdL] at g4
  obtain ⟨ad, l4, e4⟩ := adL_f g4
  have g5 := hff 5 _ rfl
  change DataW.trod enc Try.prog W base (fun _ => true) held k 3 ((cs.drop 89).take (Try.prog.cellsOf 3)) = some y5 at g5
  rw [cellsIntL, one_takeL cs 89 (by omega)] at g5
  obtain ⟨z5, e5, b5⟩ := intL_f g5
  have g6 := hff 6 _ rfl
  change DataW.trod enc Try.prog W base (fun _ => true) held k 3 ((cs.drop 90).take (Try.prog.cellsOf 3)) = some y6 at g6
  rw [cellsIntL, one_takeL cs 90 (by omega)] at g6
  obtain ⟨z6, e6, b6⟩ := intL_f g6
  have g7 := hff 7 _ rfl
  change DataW.trod enc Try.prog W base (fun _ => true) held k 3 ((cs.drop 91).take (Try.prog.cellsOf 3)) = some y7 at g7
  rw [cellsIntL, one_takeL cs 91 (by omega)] at g7
  obtain ⟨z7, e7, b7⟩ := intL_f g7
  have g8 := hff 8 _ rfl
  change DataW.trod enc Try.prog W base (fun _ => true) held k 3 ((cs.drop 92).take (Try.prog.cellsOf 3)) = some y8 at g8
  rw [cellsIntL, one_takeL cs 92 (by omega)] at g8
  obtain ⟨z8, e8, b8⟩ := intL_f g8
  have g9 := hff 9 _ rfl
  change DataW.trod enc Try.prog W base (fun _ => true) held k 3 ((cs.drop 93).take (Try.prog.cellsOf 3)) = some y9 at g9
  rw [cellsIntL, one_takeL cs 93 (by omega)] at g9
  obtain ⟨z9, e9, b9⟩ := intL_f g9
  refine ⟨⟨z0, z1, z2, c, ad, z5, z6, z7, z8, z9⟩, ⟨⟨l3, l4⟩, b1, b2⟩, ?_⟩
  have h0 := cut_atL cs 0 1
  rw [one_takeL cs 0 (by omega), e0, List.drop_zero] at h0
  rw [h0, cut_atL cs 1 1, one_takeL cs 1 (by omega), e1, cut_atL cs 2 1, one_takeL cs 2 (by omega), e2, cut_atL cs 3 66, e3, cut_atL cs 69 20, e4, cut_atL cs 89 1, one_takeL cs 89 (by omega), e5, cut_atL cs 90 1, one_takeL cs 90 (by omega), e6, cut_atL cs 91 1, one_takeL cs 91 (by omega), e7, cut_atL cs 92 1, one_takeL cs 92 (by omega), e8, cut_atL cs 93 1, one_takeL cs 93 (by omega), e9, List.drop_eq_nil_of_le (by omega : cs.length ≤ 93 + 1)]
  rfl
set_option maxRecDepth 100000 in
theorem steps16_h {v : Value} {y : DataW H × List MemPlace} (g : DataW.trod enc Try.prog W base (fun _ => true) held n 35 [v] = some y) : ∃ (rs : List Sp16) (A : Option Addr) (cap : Nat), v = .slice A rs.length cap ∧ SsAt W A rs ∧ (∀ s ∈ rs, B64 s.on ∧ B64 s.«to») ∧ ((∀ m ∈ y.1.weights Try.prog 35, m ≤ reachBytes) → rs.length * 168 ≤ 140737488351232) := by
  have hrb : reachBytes = 140737488351232 := rfl
  rcases Deep.open_slice Try.underlying35 g with ⟨hcs, _⟩ | ⟨ad, l, c', m, k, D, Pl, hcs, _, hl, hm, hmm, hx, hr⟩
  · simp only [List.cons.injEq, and_true] at hcs
    exact ⟨[], none, 0, hcs, (fun i r h => by simp at h), (fun s h => by cases h), fun _ => by simp⟩
  · simp only [List.cons.injEq, and_true] at hcs
    simp only [if_true] at hmm
    subst hmm
    have each : ∀ i, i < l → ∃ r : Sp16, (r.Ok ∧ B64 r.on ∧ B64 r.«to») ∧ ∀ q u, r.cells[q]? = some u → W.cell? (ad.add (i * 94 + q)) = some u := by
      intro i hi
      obtain ⟨cs', h1, h2⟩ := hr i (by omega)
      rw [cellsStL] at h1
      obtain ⟨_, hlen, hcell⟩ := World.cells?_some h1
      obtain ⟨r, hok, e⟩ := step16_h (by simpa using hlen) h2
      refine ⟨r, hok, fun q u hq => ?_⟩
      have hq5 : q < 94 := by have := (List.getElem?_eq_some_iff.1 hq).1; rwa [Sp16.len hok.1] at this
      have e2 := hcell q hq5
      rw [Deep.add_add] at e2
      rw [e2, e]; exact hq
    obtain ⟨f, hf⟩ : ∃ f : Nat → Sp16, ∀ i, i < l → ((f i).Ok ∧ B64 (f i).on ∧ B64 (f i).«to») ∧ ∀ q u, (f i).cells[q]? = some u → W.cell? (ad.add (i * 94 + q)) = some u := by
      refine ⟨fun i => if h : i < l then (each i h).choose else ⟨0, 0, 0, zC, [], 0, 0, 0, 0, 0⟩, fun i hi => ?_⟩
      simp only [hi, dif_pos]
      exact (each i hi).choose_spec
    refine ⟨(List.range l).map f, some ad, m, by simp [hcs], fun i r hr => ?_, fun r hr => ?_, fun hw => ?_⟩
    · simp only [List.getElem?_map, Option.map_eq_some_iff] at hr
      obtain ⟨i', hi', rfl⟩ := hr
      have hil : i < l := by have := (List.getElem?_eq_some_iff.1 hi').1; simpa using this
      obtain rfl : i = i' := by rw [List.getElem?_range hil] at hi'; exact Option.some.inj hi'
      obtain ⟨q1, q2⟩ := hf i hil
      obtain ⟨b, off, spot⟩ := ad
      have h1 := (hf 0 (by omega)).2 0 (.int .i64 (f 0).kd) rfl
      have hspot : spot = none := by simpa [Addr.add] using World.cell?_spot h1
      subst hspot
      refine ⟨q1.1, b, off, rfl, fun j u hu => ?_⟩
      have := q2 j u hu
      rw [Addr.add_mid, show off + (i * 94 + j) = off + i * 94 + j by omega] at this
      exact this
    · obtain ⟨i, hi, rfl⟩ := List.mem_map.1 hr
      exact (hf i (List.mem_range.1 hi)).1.2
    · have := hw ((((List.range l).map D).length + ((List.range (m - l)).map fun j => D (l + j)).length) * 168) (by
        rw [hx]
        simp only [DataW.weights, Try.underlying35, bytesStL]
        exact List.mem_cons_self)
      simp only [List.length_map, List.length_range] at this ⊢
      omega
set_option maxRecDepth 100000 in
theorem script_h {cs : List Value} (hcl : cs.length = 68) {y : DataW H × List MemPlace} (g : DataW.trod enc Try.prog W base (fun _ => true) held n 37 cs = some y) : ∃ (c : Cm) (win : Int) (rs : List Sp16) (A : Option Addr) (cap : Nat), c.Wf ∧ B64 win ∧ cs = scr c win (.slice A rs.length cap) ∧ SsAt W A rs ∧ (∀ s ∈ rs, B64 s.on ∧ B64 s.«to») ∧ ((∀ m ∈ y.1.weights Try.prog 37, m ≤ reachBytes) → rs.length * 168 ≤ 140737488351232) := by
  obtain ⟨xs, k, hk, hxy, _, hxl, hff⟩ := DataW.trod_struct Try.underlying37 g
  change ∀ (i : Nat) (f : Field), _ → DataW.trod enc Try.prog W base (fun _ => true) held k f.type ((cs.drop f.offset).take (Try.prog.cellsOf f.type)) = xs[i]? at hff
  obtain ⟨y0, y1, y2, rfl⟩ : ∃ y0 y1 y2, xs = [y0, y1, y2] := by
    match xs, hxl with
    | [y0, y1, y2], _ => exact ⟨y0, y1, y2, rfl⟩
  have g0 := hff 0 _ rfl
  change DataW.trod enc Try.prog W base (fun _ => true) held k 25 ((cs.drop 0).take (Try.prog.cellsOf 25)) = some y0 at g0
  rw [cellsCmL] at g0
  obtain ⟨c, l0, e0⟩ := commit_f (by rw [List.length_take, List.length_drop]; omega) g0
  have g1 := hff 1 _ rfl
  change DataW.trod enc Try.prog W base (fun _ => true) held k 3 ((cs.drop 66).take (Try.prog.cellsOf 3)) = some y1 at g1
  rw [cellsIntL, one_takeL cs 66 (by omega)] at g1
  obtain ⟨win, e1, b1⟩ := intL_f g1
  have g2 := hff 2 _ rfl
  change DataW.trod enc Try.prog W base (fun _ => true) held k 35 ((cs.drop 67).take (Try.prog.cellsOf 35)) = some y2 at g2
  rw [cellsSlL, one_takeL cs 67 (by omega)] at g2
  obtain ⟨rs, A, cap, e2, hss, hob, hw2⟩ := steps16_h g2
  refine ⟨c, win, rs, A, cap, l0, b1, ?_, hss, hob, fun hw => hw2 (fun m hm => hw m ?_)⟩
  · have h0 := cut_atL cs 0 66
    rw [e0, List.drop_zero] at h0
    rw [h0, cut_atL cs 66 1, one_takeL cs 66 (by omega), e1, cut_atL cs 67 1, one_takeL cs 67 (by omega), e2, List.drop_eq_nil_of_le (by omega : cs.length ≤ 67 + 1)]
    rfl
  · rw [hxy]
    simp only [List.map_cons, List.map_nil, DataW.weights, Try.underlying37, DataW.weightsEach, List.mem_append]
    exact .inr (.inr (.inl hm))
end

end Go.Proofs.Ytfdbjcdcfmnicaa
