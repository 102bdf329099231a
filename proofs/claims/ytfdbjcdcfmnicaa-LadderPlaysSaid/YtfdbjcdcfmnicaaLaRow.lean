/-
  the Ladder laws: what came in.
-/
import Derived.Test.YtfdbjcdcfmnicaaRowB
import Derived.Test.YtfdbjcdcfmnicaaLaC
namespace Go.Proofs.Ytfdbjcdcfmnicaa
open Go Go.RowKit Go.ChangeShapes Go.WideShapes Go.ChangeAt
open Sha

theorem cellsIntL : Try.prog.cellsOf 3 = 1 := by kernel_rfl
theorem cellsDgL : Try.prog.cellsOf 23 = 32 := by kernel_rfl
theorem cellsAdL : Try.prog.cellsOf 51 = 20 := by kernel_rfl
theorem cellsCmL : Try.prog.cellsOf 25 = 66 := by kernel_rfl
theorem cellsStL : Try.prog.cellsOf 53 = 94 := by kernel_rfl
theorem bytesStL : Try.prog.bytesOf 53 = 168 := by kernel_rfl
theorem cellsScL : Try.prog.cellsOf 37 = 68 := by kernel_rfl
theorem cellsSlL : Try.prog.cellsOf 35 = 1 := by kernel_rfl
def iOfL : Value → Int
  | .int _ n => n
  | _ => 0
theorem mapM_eachL {α β : Type} {f : α → Option β} : ∀ (L : List α) (ys : List β), L.mapM f = some ys → ∀ i ∈ L, ∃ y, f i = some y
  | [], _, _, i, hi => by cases hi
  | a :: L, ys, h, i, hi => by
    rw [List.mapM_cons] at h
    simp only [bind, Option.bind_eq_some_iff, pure, Option.some.injEq] at h
    obtain ⟨y, hy, zs, hz, _⟩ := h
    rcases List.mem_cons.1 hi with rfl | hi
    · exact ⟨y, hy⟩
    · exact mapM_eachL L zs hz i hi
theorem one_takeL (cs : List Value) (k : Nat) (h : k < cs.length) : (cs.drop k).take 1 = [cs.getD k undef] := by
  rw [List.drop_eq_getElem_cons h]
  simp only [List.take_succ_cons, List.take_zero, List.getD_eq_getElem?_getD, List.getElem?_eq_getElem h, Option.getD_some]
theorem cut_atL (cs : List Value) (a n : Nat) : cs.drop a = (cs.drop a).take n ++ cs.drop (a + n) := by
  rw [← List.drop_drop, List.take_append_drop]
def B64 (z : Int) : Prop := -9223372036854775808 ≤ z ∧ z ≤ 9223372036854775807
/-- A step that came in. -/
structure Sp16 where
  kd : Int
  on : Int
  «to» : Int
  c : Cm
  ad : List (BitVec 8)
  ib : Int
  now : Int
  nr : Int
  fs : Int
  wd : Int
def Sp16.cells (s : Sp16) : List Value := .int .i64 s.kd :: .int .i64 s.on :: .int .i64 s.«to» :: (s.c.cells ++ (vB s.ad ++ [.int .i64 s.ib, .int .i64 s.now, .int .i64 s.nr, .int .i64 s.fs, .int .i64 s.wd]))
structure Sp16.Ok (s : Sp16) : Prop where
  c : s.c.Wf
  a : s.ad.length = 20
theorem Sp16.len {s : Sp16} (h : s.Ok) : s.cells.length = 94 := by
  unfold Sp16.cells; simp only [List.length_cons, List.length_append, vB_length, Cm.len h.c, h.a, List.length_nil]
/-- Steps in memory. -/
def SsAt (w : World) (A : Option Addr) (l : List Sp16) : Prop := ∀ (i : Nat) (s : Sp16), l[i]? = some s → s.Ok ∧ ∃ b o, A = some ⟨b, o, none⟩ ∧ w.rangeAt b (o + i * 94) s.cells
section
variable {H : Type} {enc : TypeId × Value → H} {W : World} {base : Nat} {held : Bool} {n : Nat}
theorem intL_f {v : Value} {y : DataW H × List MemPlace} (g : DataW.trod enc Try.prog W base (fun _ => true) held n 3 [v] = some y) : ∃ z, v = .int .i64 z ∧ B64 z := by
  obtain ⟨z, e, _, wz⟩ := DataW.trod_int Try.underlying3 g
  simp only [List.cons.injEq, and_true] at e
  exact ⟨z, e, bounds_i64 wz⟩
theorem dgL_f {cs : List Value} {y : DataW H × List MemPlace} (g : DataW.trod enc Try.prog W base (fun _ => true) held n 23 cs = some y) : ∃ l : List (BitVec 8), l.length = 32 ∧ cs = vB l := by
  cases n with
  | zero => simp [DataW.trod] at g
  | succ m =>
    rw [DataW.trod_step] at g
    unfold DataW.trodStep at g
    simp only [Try.underlying23] at g
    split at g
    · rename_i h2
      rw [cellsDgL] at h2
      simp only [Option.map_eq_some_iff] at g
      obtain ⟨ys, hy, _⟩ := g
      have each := mapM_eachL _ _ hy
      have key : ∀ i (h : i < cs.length), ∃ z, cs[i] = .int .u8 z ∧ 0 ≤ z ∧ z ≤ 255 := fun i h => by
        obtain ⟨y, hy⟩ := each i (List.mem_range.2 (by omega))
        rw [cellsU8, Nat.mul_one] at hy
        obtain ⟨z, hz, _, wz⟩ := DataW.trod_int Try.underlying5 hy
        have hb := bounds_u8 wz
        refine ⟨z, ?_, hb.1, hb.2⟩
        rw [List.drop_eq_getElem_cons h] at hz
        simp only [List.take_succ_cons, List.take_zero, List.cons.injEq, and_true] at hz
        exact hz
      refine ⟨cs.map (fun v => BitVec.ofInt 8 (iOfL v)), by simp; omega, ?_⟩
      unfold vB
      rw [List.map_map]
      refine (List.ext_getElem (by simp) fun i h1 h2 => ?_)
      obtain ⟨z, hz, hz0, hz1⟩ := key i h1
      rw [List.getElem_map, hz]
      simp only [Function.comp_apply, iOfL]
      unfold c
      rw [BitVec.toNat_ofInt]
      congr 1
      omega
    · cases g
theorem adL_f {cs : List Value} {y : DataW H × List MemPlace} (g : DataW.trod enc Try.prog W base (fun _ => true) held n 51 cs = some y) : ∃ l : List (BitVec 8), l.length = 20 ∧ cs = vB l := by
  cases n with
  | zero => simp [DataW.trod] at g
  | succ m =>
    rw [DataW.trod_step] at g
    unfold DataW.trodStep at g
    simp only [Try.underlying51] at g
    split at g
    · rename_i h2
      rw [cellsAdL] at h2
      simp only [Option.map_eq_some_iff] at g
      obtain ⟨ys, hy, _⟩ := g
      have each := mapM_eachL _ _ hy
      have key : ∀ i (h : i < cs.length), ∃ z, cs[i] = .int .u8 z ∧ 0 ≤ z ∧ z ≤ 255 := fun i h => by
        obtain ⟨y, hy⟩ := each i (List.mem_range.2 (by omega))
        rw [cellsU8, Nat.mul_one] at hy
        obtain ⟨z, hz, _, wz⟩ := DataW.trod_int Try.underlying5 hy
        have hb := bounds_u8 wz
        refine ⟨z, ?_, hb.1, hb.2⟩
        rw [List.drop_eq_getElem_cons h] at hz
        simp only [List.take_succ_cons, List.take_zero, List.cons.injEq, and_true] at hz
        exact hz
      refine ⟨cs.map (fun v => BitVec.ofInt 8 (iOfL v)), by simp; omega, ?_⟩
      unfold vB
      rw [List.map_map]
      refine (List.ext_getElem (by simp) fun i h1 h2 => ?_)
      obtain ⟨z, hz, hz0, hz1⟩ := key i h1
      rw [List.getElem_map, hz]
      simp only [Function.comp_apply, iOfL]
      unfold c
      rw [BitVec.toNat_ofInt]
      congr 1
      omega
    · cases g
set_option maxRecDepth 100000 in
theorem commit_f {cs : List Value} (hcl : cs.length = 66) {y : DataW H × List MemPlace} (g : DataW.trod enc Try.prog W base (fun _ => true) held n 25 cs = some y) : ∃ c : Cm, c.Wf ∧ cs = c.cells := by
  obtain ⟨xs, k, hk, hxy, _, hxl, hff⟩ := DataW.trod_struct Try.underlying25 g
  change ∀ (i : Nat) (f : Field), _ → DataW.trod enc Try.prog W base (fun _ => true) held k f.type ((cs.drop f.offset).take (Try.prog.cellsOf f.type)) = xs[i]? at hff
  obtain ⟨y0, y1, y2, y3, rfl⟩ : ∃ y0 y1 y2 y3, xs = [y0, y1, y2, y3] := by
    match xs, hxl with
    | [y0, y1, y2, y3], _ => exact ⟨y0, y1, y2, y3, rfl⟩
  have g0 := hff 0 _ rfl
  change DataW.trod enc Try.prog W base (fun _ => true) held k 3 ((cs.drop 0).take (Try.prog.cellsOf 3)) = some y0 at g0
  rw [cellsIntL, one_takeL cs 0 (by omega)] at g0
  obtain ⟨zn, e0, b0⟩ := intL_f g0
  have g1 := hff 1 _ rfl
  change DataW.trod enc Try.prog W base (fun _ => true) held k 23 ((cs.drop 1).take (Try.prog.cellsOf 23)) = some y1 at g1
  rw [cellsDgL] at g1
  obtain ⟨s, l1, e1⟩ := dgL_f g1
  have g2 := hff 2 _ rfl
  change DataW.trod enc Try.prog W base (fun _ => true) held k 23 ((cs.drop 33).take (Try.prog.cellsOf 23)) = some y2 at g2
  rw [cellsDgL] at g2
  obtain ⟨o, l2, e2⟩ := dgL_f g2
  have g3 := hff 3 _ rfl
  change DataW.trod enc Try.prog W base (fun _ => true) held k 3 ((cs.drop 65).take (Try.prog.cellsOf 3)) = some y3 at g3
  rw [cellsIntL, one_takeL cs 65 (by omega)] at g3
  obtain ⟨zk, e3, b3⟩ := intL_f g3
  refine ⟨⟨zn, s, o, zk⟩, ⟨l1, l2⟩, ?_⟩
  have h0 := cut_atL cs 0 1
  rw [one_takeL cs 0 (by omega), e0, List.drop_zero] at h0
  rw [h0, cut_atL cs 1 32, e1, cut_atL cs 33 32, e2, cut_atL cs 65 1, one_takeL cs 65 (by omega), e3, List.drop_eq_nil_of_le (by omega : cs.length ≤ 65 + 1)]
  rfl
set_option maxRecDepth 100000 in
theorem step16_f {cs : List Value} (hcl : cs.length = 94) {y : DataW H × List MemPlace} (g : DataW.trod enc Try.prog W base (fun _ => true) held n 53 cs = some y) : ∃ r : Sp16, r.Ok ∧ cs = r.cells := by
  obtain ⟨xs, k, hk, hxy, _, hxl, hff⟩ := DataW.trod_struct Try.underlying53 g
  change ∀ (i : Nat) (f : Field), _ → DataW.trod enc Try.prog W base (fun _ => true) held k f.type ((cs.drop f.offset).take (Try.prog.cellsOf f.type)) = xs[i]? at hff
  obtain ⟨y0, y1, y2, y3, y4, y5, y6, y7, y8, y9, rfl⟩ : ∃ y0 y1 y2 y3 y4 y5 y6 y7 y8 y9, xs = [y0, y1, y2, y3, y4, y5, y6, y7, y8, y9] := by
    match xs, hxl with
    | [y0, y1, y2, y3, y4, y5, y6, y7, y8, y9], _ => exact ⟨y0, y1, y2, y3, y4, y5, y6, y7, y8, y9, rfl⟩
  have g0 := hff 0 _ rfl
  change DataW.trod enc Try.prog W base (fun _ => true) held k 3 ((cs.drop 0).take (Try.prog.cellsOf 3)) = some y0 at g0
  rw [cellsIntL, one_takeL cs 0 (by omega)] at g0
  obtain ⟨z0, e0, b0⟩ := intL_f g0
  have g1 := hff 1 _ rfl
  change DataW.trod enc Try.prog W base (fun _ => true) held k 3 ((cs.drop 1).take (Try.prog.cellsOf 3)) = some y1 at g1
  rw [cellsIntL, one_takeL cs 1 (by omega)] at g1
  obtain ⟨z1, e1, b1⟩ := intL_f g1
  have g2 := hff 2 _ rfl
  change DataW.trod enc Try.prog W base (fun _ => true) held k 3 ((cs.drop 2).take (Try.prog.cellsOf 3)) = some y2 at g2
  rw [cellsIntL, one_takeL cs 2 (by omega)] at g2
  obtain ⟨z2, e2, b2⟩ := intL_f g2
  have g3 := hff 3 _ rfl
  change DataW.trod enc Try.prog W base (fun _ => true) held k 25 ((cs.drop 3).take (Try.prog.cellsOf 25)) = some y3 at g3
  rw [cellsCmL] at g3
  obtain ⟨c, l3, e3⟩ := commit_f (by rw [List.length_take, List.length_drop]; omega) g3
  have g4 := hff 4 _ rfl
  change DataW.trod enc Try.prog W base (fun _ => true) held k 51 ((cs.drop 69).take (Try.prog.cellsOf 51)) = some y4 at g4
  rw [cellsAdL] at g4
  obtain ⟨ad, l4, e4⟩ := adL_f g4
  have g5 := hff 5 _ rfl
  change DataW.trod enc Try.prog W base (fun _ => true) held k 3 ((cs.drop 89).take (Try.prog.cellsOf 3)) = some y5 at g5
  rw [cellsIntL, one_takeL cs 89 (by omega)] at g5
  obtain ⟨z5, e5, b5⟩ := intL_f g5
  have g6 := hff 6 _ rfl
  change DataW.trod enc Try.prog W base (fun _ => true) held k 3 ((cs.drop 90).take (Try.prog.cellsOf 3)) = some y6 at g6
  rw [cellsIntL, one_takeL cs 90 (by omega)] at g6
  obtain ⟨z6, e6, b6⟩ := intL_f g6
  have g7 := hff 7 _ rfl
  change DataW.trod enc Try.prog W base (fun _ => true) held k 3 ((cs.drop 91).take (Try.prog.cellsOf 3)) = some y7 at g7
  rw [cellsIntL, one_takeL cs 91 (by omega)] at g7
  obtain ⟨z7, e7, b7⟩ := intL_f g7
  have g8 := hff 8 _ rfl
  change DataW.trod enc Try.prog W base (fun _ => true) held k 3 ((cs.drop 92).take (Try.prog.cellsOf 3)) = some y8 at g8
  rw [cellsIntL, one_takeL cs 92 (by omega)] at g8
  obtain ⟨z8, e8, b8⟩ := intL_f g8
  have g9 := hff 9 _ rfl
  change DataW.trod enc Try.prog W base (fun _ => true) held k 3 ((cs.drop 93).take (Try.prog.cellsOf 3)) = some y9 at g9
  rw [cellsIntL, one_takeL cs 93 (by omega)] at g9
  obtain ⟨z9, e9, b9⟩ := intL_f g9
  refine ⟨⟨z0, z1, z2, c, ad, z5, z6, z7, z8, z9⟩, ⟨l3, l4⟩, ?_⟩
  have h0 := cut_atL cs 0 1
  rw [one_takeL cs 0 (by omega), e0, List.drop_zero] at h0
  rw [h0, cut_atL cs 1 1, one_takeL cs 1 (by omega), e1, cut_atL cs 2 1, one_takeL cs 2 (by omega), e2, cut_atL cs 3 66, e3, cut_atL cs 69 20, e4, cut_atL cs 89 1, one_takeL cs 89 (by omega), e5, cut_atL cs 90 1, one_takeL cs 90 (by omega), e6, cut_atL cs 91 1, one_takeL cs 91 (by omega), e7, cut_atL cs 92 1, one_takeL cs 92 (by omega), e8, cut_atL cs 93 1, one_takeL cs 93 (by omega), e9, List.drop_eq_nil_of_le (by omega : cs.length ≤ 93 + 1)]
  rfl
set_option maxRecDepth 100000 in
theorem steps16_f {v : Value} {y : DataW H × List MemPlace} (g : DataW.trod enc Try.prog W base (fun _ => true) held n 35 [v] = some y) : ∃ (rs : List Sp16) (A : Option Addr) (cap : Nat), v = .slice A rs.length cap ∧ SsAt W A rs ∧ ((∀ m ∈ y.1.weights Try.prog 35, m ≤ reachBytes) → rs.length < 35184372088832) := by
  have hrb : reachBytes = 140737488351232 := rfl
  rcases Deep.open_slice Try.underlying35 g with ⟨hcs, _⟩ | ⟨ad, l, c', m, k, D, Pl, hcs, _, hl, hm, hmm, hx, hr⟩
  · simp only [List.cons.injEq, and_true] at hcs
    exact ⟨[], none, 0, hcs, (fun i r h => by simp at h), fun _ => by simp⟩
  · simp only [List.cons.injEq, and_true] at hcs
    simp only [if_true] at hmm
    subst hmm
    have each : ∀ i, i < l → ∃ r : Sp16, r.Ok ∧ ∀ q u, r.cells[q]? = some u → W.cell? (ad.add (i * 94 + q)) = some u := by
      intro i hi
      obtain ⟨cs', h1, h2⟩ := hr i (by omega)
      rw [cellsStL] at h1
      obtain ⟨_, hlen, hcell⟩ := World.cells?_some h1
      obtain ⟨r, hok, e⟩ := step16_f (by simpa using hlen) h2
      refine ⟨r, hok, fun q u hq => ?_⟩
      have hq5 : q < 94 := by have := (List.getElem?_eq_some_iff.1 hq).1; rwa [Sp16.len hok] at this
      have e2 := hcell q hq5
      rw [Deep.add_add] at e2
      rw [e2, e]; exact hq
    obtain ⟨f, hf⟩ : ∃ f : Nat → Sp16, ∀ i, i < l → (f i).Ok ∧ ∀ q u, (f i).cells[q]? = some u → W.cell? (ad.add (i * 94 + q)) = some u := by
      refine ⟨fun i => if h : i < l then (each i h).choose else ⟨0, 0, 0, zC, [], 0, 0, 0, 0, 0⟩, fun i hi => ?_⟩
      simp only [hi, dif_pos]
      exact (each i hi).choose_spec
    refine ⟨(List.range l).map f, some ad, m, by simp [hcs], fun i r hr => ?_, fun hw => ?_⟩
    · simp only [List.getElem?_map, Option.map_eq_some_iff] at hr
      obtain ⟨i', hi', rfl⟩ := hr
      have hil : i < l := by have := (List.getElem?_eq_some_iff.1 hi').1; simpa using this
      obtain rfl : i = i' := by rw [List.getElem?_range hil] at hi'; exact Option.some.inj hi'
      obtain ⟨q1, q2⟩ := hf i hil
      obtain ⟨b, off, spot⟩ := ad
      have h1 := (hf 0 (by omega)).2 0 (.int .i64 (f 0).kd) rfl
      have hspot : spot = none := by simpa [Addr.add] using World.cell?_spot h1
      subst hspot
      refine ⟨q1, b, off, rfl, fun j u hu => ?_⟩
      have := q2 j u hu
      rw [Addr.add_mid, show off + (i * 94 + j) = off + i * 94 + j by omega] at this
      exact this
    · have := hw ((((List.range l).map D).length + ((List.range (m - l)).map fun j => D (l + j)).length) * 168) (by
        rw [hx]
        simp only [DataW.weights, Try.underlying35, bytesStL]
        exact List.mem_cons_self)
      simp only [List.length_map, List.length_range] at this ⊢
      omega
def scr (c : Cm) (win : Int) (v : Value) : List Value := c.cells ++ [.int .i64 win, v]
set_option maxRecDepth 100000 in
theorem script_f {cs : List Value} (hcl : cs.length = 68) {y : DataW H × List MemPlace} (g : DataW.trod enc Try.prog W base (fun _ => true) held n 37 cs = some y) : ∃ (c : Cm) (win : Int) (rs : List Sp16) (A : Option Addr) (cap : Nat), c.Wf ∧ B64 win ∧ cs = scr c win (.slice A rs.length cap) ∧ SsAt W A rs ∧ ((∀ m ∈ y.1.weights Try.prog 37, m ≤ reachBytes) → rs.length < 35184372088832) := by
  obtain ⟨xs, k, hk, hxy, _, hxl, hff⟩ := DataW.trod_struct Try.underlying37 g
  change ∀ (i : Nat) (f : Field), _ → DataW.trod enc Try.prog W base (fun _ => true) held k f.type ((cs.drop f.offset).take (Try.prog.cellsOf f.type)) = xs[i]? at hff
  obtain ⟨y0, y1, y2, rfl⟩ : ∃ y0 y1 y2, xs = [y0, y1, y2] := by
    match xs, hxl with
    | [y0, y1, y2], _ => exact ⟨y0, y1, y2, rfl⟩
  have g0 := hff 0 _ rfl
  change DataW.trod enc Try.prog W base (fun _ => true) held k 25 ((cs.drop 0).take (Try.prog.cellsOf 25)) = some y0 at g0
  rw [cellsCmL] at g0
  obtain ⟨c, l0, e0⟩ := commit_f (by rw [List.length_take, List.length_drop]; omega) g0
  have g1 := hff 1 _ rfl
  change DataW.trod enc Try.prog W base (fun _ => true) held k 3 ((cs.drop 66).take (Try.prog.cellsOf 3)) = some y1 at g1
  rw [cellsIntL, one_takeL cs 66 (by omega)] at g1
  obtain ⟨win, e1, b1⟩ := intL_f g1
  have g2 := hff 2 _ rfl
  change DataW.trod enc Try.prog W base (fun _ => true) held k 35 ((cs.drop 67).take (Try.prog.cellsOf 35)) = some y2 at g2
  rw [cellsSlL, one_takeL cs 67 (by omega)] at g2
  obtain ⟨rs, A, cap, e2, hss, hw2⟩ := steps16_f g2
  refine ⟨c, win, rs, A, cap, l0, b1, ?_, hss, fun hw => hw2 (fun m hm => hw m ?_)⟩
  · have h0 := cut_atL cs 0 66
    rw [e0, List.drop_zero] at h0
    rw [h0, cut_atL cs 66 1, one_takeL cs 66 (by omega), e1, cut_atL cs 67 1, one_takeL cs 67 (by omega), e2, List.drop_eq_nil_of_le (by omega : cs.length ≤ 67 + 1)]
    rfl
  · rw [hxy]
    simp only [List.map_cons, List.map_nil, DataW.weights, Try.underlying37, DataW.weightsEach, List.mem_append]
    exact .inr (.inr (.inl hm))
end

end Go.Proofs.Ytfdbjcdcfmnicaa
