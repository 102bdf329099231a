import Derived.Test.YtabcglakdlkdcaaMkFp
/-
  bytes that came in.
-/
namespace Go.Proofs.Ytabcglakdlkdcaa
open Go Go.RowKit Go.ChangeShapes Go.WideShapes Go.ChangeAt
open Sha

theorem own : ownKnob Try.prog.godebug = none := by kernel_rfl
theorem laidOut : laidOutB Try.prog = true := by kernel_rfl
theorem cellsU8 : Try.prog.cellsOf 5 = 1 := by kernel_rfl
theorem bytesU8 : Try.prog.bytesOf 5 = 1 := by kernel_rfl
/-- A slice of bytes by its cells. -/
theorem bytes_of {W : World} {A : Option Addr} {L C : Nat} {Z : List Int} (hL : L ≤ C) (hZ : Z.length = C) (hw : ∀ n ∈ Z, (Lit.int .u8 n).wf = true) (h0 : A = none → C = 0) (hc : ∀ a', A = some a' → ∀ c, c < C → W.cell? (a'.add c) = some (.int .u8 (Z.getD c 0))) :
    ((Z.take L).map (BitVec.ofInt 8)).length = L ∧ SlAt W (.slice A L C) ((Z.take L).map (BitVec.ofInt 8)) := by
  have hl : ((Z.take L).map (BitVec.ofInt 8)).length = L := by simp; omega
  refine ⟨hl, ?_⟩
  by_cases hz : L = 0
  · subst hz; exact .inl ⟨by simp, _, _, rfl⟩
  · cases A with
    | none => have := h0 rfl; omega
    | some y =>
      obtain ⟨b, off, spot⟩ := y
      have hcell := hc _ rfl
      have h1 := hcell 0 (by omega)
      have hspot : spot = none := by simpa [Addr.add] using World.cell?_spot h1
      subst hspot
      refine .inr ⟨b, off, C, by rw [hl], by rw [hl]; exact hL, fun i v hv => ?_⟩
      have hi : i < L := by have := (List.getElem?_eq_some_iff.1 hv).1; rw [vB_length, hl] at this; exact this
      have h2 := hcell i (by omega)
      rw [Addr.add_mid] at h2
      rw [h2]
      have hw := hw (Z.getD i 0) (by rw [List.getD_eq_getElem?_getD, List.getElem?_eq_getElem (by omega)]; exact List.getElem_mem _)
      have hb := bounds_u8 hw
      rw [vB_get _ i (by rw [hl]; exact hi)] at hv
      rw [← hv]
      have e : ((Z.take L).map (BitVec.ofInt 8)).getD i 0 = BitVec.ofInt 8 (Z.getD i 0) := by
        simp [List.getElem?_take_of_lt hi, List.getElem?_eq_getElem (show i < Z.length by omega)]
      rw [e]
      unfold c
      rw [show ((BitVec.ofInt 8 (Z.getD i 0)).toNat : Int) = Z.getD i 0 from by rw [BitVec.toNat_ofInt]; omega]

section
variable {H : Type} {enc : TypeId × Value → H} {W : World} {base : Nat} {held : Bool} {n : Nat}
theorem bytes_f {v : Value} {y : DataW H × List MemPlace} (g : DataW.trod enc Try.prog W base (fun _ => true) held n 22 [v] = some y) : ∃ (d : List (BitVec 8)) (A : Option Addr) (cap : Nat), v = .slice A d.length cap ∧ SlAt W (.slice A d.length cap) d ∧ (A = none → cap = 0) ∧ ((∀ m ∈ y.1.weights Try.prog 22, m ≤ reachBytes) → d.length ≤ 140737488351232) := by
  have hrb : reachBytes = 140737488351232 := rfl
  rcases open_ints Try.underlying22 Try.underlying5 cellsU8 g with ⟨hcs, hy⟩ | ⟨a', L, C, Z, hcs, _, hl, hm, hz, hy, hcell, hwz⟩
  · simp only [List.cons.injEq, and_true] at hcs
    exact ⟨[], none, 0, hcs, .inl ⟨rfl, _, _, rfl⟩, fun _ => rfl, fun _ => Nat.zero_le _⟩
  · simp only [List.cons.injEq, and_true] at hcs
    simp only [if_true] at hz
    obtain ⟨hlen, hsl⟩ := bytes_of (W := W) (A := some a') hl hz hwz (fun h => by cases h) (fun a'' ha c hc => by cases ha; exact hcell c (by rw [hz]; exact hc))
    refine ⟨(Z.take L).map (BitVec.ofInt 8), some a', C, by rw [hlen]; exact hcs, by rw [hlen]; exact hsl, (fun h => by cases h), fun hw => ?_⟩
    have := hw (((Z.take L).length + (Z.drop L).length) * 1) (by
        rw [hy]
        simp only [DataW.weights, Try.underlying22, lits, List.length_map, bytesU8]
        exact List.mem_cons_self)
    simp only [List.length_take, List.length_drop, Nat.mul_one] at this
    rw [hlen]; omega
end

end Go.Proofs.Ytabcglakdlkdcaa
/-
  what came in: a play.
-/
namespace Go.Proofs.Ytabcglakdlkdcaa
open Go Go.RowKit Go.ChangeShapes Go.WideShapes Go.ChangeAt
open Sha
open Wd

theorem cellsIntL : Try.prog.cellsOf 3 = 1 := by kernel_rfl
theorem cellsErL : Try.prog.cellsOf 36 = 1 := by kernel_rfl
theorem cellsU64L : Try.prog.cellsOf 25 = 1 := by kernel_rfl
theorem cellsWdL : Try.prog.cellsOf 27 = 4 := by kernel_rfl
theorem cellsAdL : Try.prog.cellsOf 24 = 20 := by kernel_rfl
theorem cellsYrL : Try.prog.cellsOf tYr = 5 := by kernel_rfl
theorem cellsWsL : Try.prog.cellsOf 28 = 1 := by kernel_rfl
theorem cellsYsL : Try.prog.cellsOf tYs = 1 := by kernel_rfl
theorem cellsBsL : Try.prog.cellsOf 22 = 1 := by kernel_rfl
theorem cellsClL : Try.prog.cellsOf 30 = 48 := by kernel_rfl
theorem cellsPlL : Try.prog.cellsOf 33 = 50 := by kernel_rfl
theorem bytesWdL : Try.prog.bytesOf 27 = 32 := by kernel_rfl
theorem bytesYrL : Try.prog.bytesOf tYr = 40 := by kernel_rfl
def iOfL : Value → Int
  | .int _ n => n
  | _ => 0
theorem mapM_eachL {α β : Type} {f : α → Option β} : ∀ (L : List α) (ys : List β), L.mapM f = some ys → ∀ i ∈ L, ∃ y, f i = some y
  | [], _, _, i, hi => by cases hi
  | a :: L, ys, h, i, hi => by
    rw [List.mapM_cons] at h
    simp only [bind, Option.bind_eq_some_iff, pure, Option.some.injEq] at h
    obtain ⟨y, hy, zs, hz, _⟩ := h
    rcases List.mem_cons.1 hi with rfl | hi
    · exact ⟨y, hy⟩
    · exact mapM_eachL L zs hz i hi
theorem one_takeL (cs : List Value) (k : Nat) (h : k < cs.length) : (cs.drop k).take 1 = [cs.getD k undef] := by
  rw [List.drop_eq_getElem_cons h]
  simp only [List.take_succ_cons, List.take_zero, List.getD_eq_getElem?_getD, List.getElem?_eq_getElem h, Option.getD_some]
theorem cut_atL (cs : List Value) (a n : Nat) : cs.drop a = (cs.drop a).take n ++ cs.drop (a + n) := by
  rw [← List.drop_drop, List.take_append_drop]
def B64 (z : Int) : Prop := -9223372036854775808 ≤ z ∧ z ≤ 9223372036854775807
theorem parts_inM (xs : List Value) (hl : xs.length = 4) (key : ∀ i (h : i < xs.length), ∃ z : Int, xs[i] = .int .u64 z ∧ 0 ≤ z ∧ z ≤ 18446744073709551615) : ∃ n, n < 2 ^ 256 ∧ xs = vQ (dgs n 4) := by
  obtain ⟨l, hll, hlt, hx⟩ : ∃ l : List Nat, l.length = 4 ∧ (∀ y ∈ l, y < 18446744073709551616) ∧ xs = vQ l := by
    refine ⟨xs.map (fun v => (intOf v).toNat), by simp [hl], fun y hy => ?_, ?_⟩
    · obtain ⟨v, hv, rfl⟩ := List.mem_map.1 hy
      obtain ⟨i, hi, rfl⟩ := List.mem_iff_getElem.1 hv
      obtain ⟨z, hz, z0, z1⟩ := key i hi
      rw [hz]
      simp only [intOf]
      omega
    · unfold vQ
      rw [List.map_map]
      refine List.ext_getElem (by simp) fun i h1 h2 => ?_
      obtain ⟨z, hz, z0, z1⟩ := key i h1
      rw [List.getElem_map, hz]
      simp only [Function.comp_apply, intOf]
      congr 1
      omega
  refine ⟨num l, ?_, ?_⟩
  · have := num_lt l hlt
    rw [hll] at this
    simpa using this
  · have := dgs_num l hlt
    rw [hll] at this
    rw [this]
    exact hx
theorem flat_get {α : Type} (f : α → List Value) (sz : Nat) (hf : ∀ a, (f a).length = sz) (els : List α) (i : Nat) (x : α) (h : els[i]? = some x) (j : Nat) (hj : j < sz) : (els.flatMap f)[i * sz + j]? = (f x)[j]? := by
  induction els generalizing i with
  | nil => cases h
  | cons y r ih =>
    rw [List.flatMap_cons]
    cases i with
    | zero =>
      obtain rfl : y = x := by simpa using h
      rw [List.getElem?_append_left (by rw [hf]; omega), Nat.zero_mul, Nat.zero_add]
    | succ k =>
      have e : (k + 1) * sz + j = sz + (k * sz + j) := by rw [Nat.add_mul, Nat.one_mul]; omega
      rw [List.getElem?_append_right (by rw [hf, e]; omega), hf, e, Nat.add_sub_cancel_left]
      exact ih k (by simpa using h)
theorem flat_len {α : Type} (f : α → List Value) (sz : Nat) (hf : ∀ a, (f a).length = sz) (els : List α) : (els.flatMap f).length = els.length * sz := by
  induction els with
  | nil => simp
  | cons y r ih => rw [List.flatMap_cons, List.length_append, hf, ih, List.length_cons, Nat.add_mul, Nat.one_mul, Nat.add_comm]
section
variable {H : Type} {enc : TypeId × Value → H} {W : World} {base : Nat} {held : Bool} {n : Nat}
theorem intL_f {v : Value} {y : DataW H × List MemPlace} (g : DataW.trod enc Try.prog W base (fun _ => true) held n 3 [v] = some y) : ∃ z, v = .int .i64 z ∧ B64 z := by
  obtain ⟨z, e, _, wz⟩ := DataW.trod_int Try.underlying3 g
  simp only [List.cons.injEq, and_true] at e
  exact ⟨z, e, bounds_i64 wz⟩
theorem erL_f {v : Value} {y : DataW H × List MemPlace} (g : DataW.trod enc Try.prog W base (fun _ => true) held n 36 [v] = some y) : ∃ z, v = .int .i64 z ∧ B64 z := by
  obtain ⟨z, e, _, wz⟩ := DataW.trod_int Try.underlying36 g
  simp only [List.cons.injEq, and_true] at e
  exact ⟨z, e, bounds_i64 wz⟩
theorem adL_f {cs : List Value} {y : DataW H × List MemPlace} (g : DataW.trod enc Try.prog W base (fun _ => true) held n 24 cs = some y) : ∃ l : List (BitVec 8), l.length = 20 ∧ cs = vB l := by
  cases n with
  | zero => simp [DataW.trod] at g
  | succ m =>
    rw [DataW.trod_step] at g
    unfold DataW.trodStep at g
    simp only [Try.underlying24] at g
    split at g
    · rename_i h2
      rw [cellsAdL] at h2
      simp only [Option.map_eq_some_iff] at g
      obtain ⟨ys, hy, _⟩ := g
      have each := mapM_eachL _ _ hy
      have key : ∀ i (h : i < cs.length), ∃ z, cs[i] = .int .u8 z ∧ 0 ≤ z ∧ z ≤ 255 := fun i h => by
        obtain ⟨y, hy⟩ := each i (List.mem_range.2 (by omega))
        rw [cellsU8, Nat.mul_one] at hy
        obtain ⟨z, hz, _, wz⟩ := DataW.trod_int Try.underlying5 hy
        have hb := bounds_u8 wz
        refine ⟨z, ?_, hb.1, hb.2⟩
        rw [List.drop_eq_getElem_cons h] at hz
        simp only [List.take_succ_cons, List.take_zero, List.cons.injEq, and_true] at hz
        exact hz
      refine ⟨cs.map (fun v => BitVec.ofInt 8 (iOfL v)), by simp; omega, ?_⟩
      unfold vB
      rw [List.map_map]
      refine (List.ext_getElem (by simp) fun i h1 h2 => ?_)
      obtain ⟨z, hz, hz0, hz1⟩ := key i h1
      rw [List.getElem_map, hz]
      simp only [Function.comp_apply, iOfL]
      unfold c
      rw [BitVec.toNat_ofInt]
      congr 1
      omega
    · cases g
theorem wd_f {cs : List Value} {y : DataW H × List MemPlace} (g : DataW.trod enc Try.prog W base (fun _ => true) held n 27 cs = some y) : ∃ m, m < 2 ^ 256 ∧ cs = wq m := by
  cases n with
  | zero => simp [DataW.trod] at g
  | succ m =>
    rw [DataW.trod_step] at g
    unfold DataW.trodStep at g
    simp only [Try.underlying27] at g
    split at g
    · rename_i h2
      rw [cellsWdL] at h2
      simp only [Option.map_eq_some_iff] at g
      obtain ⟨ys, hy, _⟩ := g
      have each := mapM_eachL _ _ hy
      have key : ∀ i (h : i < cs.length), ∃ z : Int, cs[i] = .int .u64 z ∧ 0 ≤ z ∧ z ≤ 18446744073709551615 := fun i h => by
        obtain ⟨y, hy⟩ := each i (List.mem_range.2 (by omega))
        rw [cellsU64L, Nat.mul_one] at hy
        obtain ⟨z, hz, _, wz⟩ := DataW.trod_int Try.underlying25 hy
        have hb := bounds_u64 wz
        refine ⟨z, ?_, hb.1, hb.2⟩
        rw [List.drop_eq_getElem_cons h] at hz
        simp only [List.take_succ_cons, List.take_zero, List.cons.injEq, and_true] at hz
        exact hz
      exact parts_inM cs h2 key
    · cases g
set_option maxRecDepth 100000 in
theorem reply_f {cs : List Value} (hcl : cs.length = 5) {y : DataW H × List MemPlace} (g : DataW.trod enc Try.prog W base (fun _ => true) held n tYr cs = some y) : ∃ p : Nat × Int, p.1 < 2 ^ 256 ∧ cs = ry p := by
  obtain ⟨xs, k, hk, hxy, _, hxl, hff⟩ := DataW.trod_struct Try.underlying45 g
  change ∀ (i : Nat) (f : Field), _ → DataW.trod enc Try.prog W base (fun _ => true) held k f.type ((cs.drop f.offset).take (Try.prog.cellsOf f.type)) = xs[i]? at hff
  obtain ⟨y0, y1, rfl⟩ : ∃ y0 y1, xs = [y0, y1] := by
    match xs, hxl with
    | [y0, y1], _ => exact ⟨y0, y1, rfl⟩
  have g0 := hff 0 _ rfl
  change DataW.trod enc Try.prog W base (fun _ => true) held k 27 ((cs.drop 0).take (Try.prog.cellsOf 27)) = some y0 at g0
  rw [cellsWdL] at g0
  obtain ⟨m0, l0, e0⟩ := wd_f g0
  have g1 := hff 1 _ rfl
  change DataW.trod enc Try.prog W base (fun _ => true) held k 36 ((cs.drop 4).take (Try.prog.cellsOf 36)) = some y1 at g1
  rw [cellsErL, one_takeL cs 4 (by omega)] at g1
  obtain ⟨z1, e1, _⟩ := erL_f g1
  refine ⟨(m0, z1), l0, ?_⟩
  have h0 := cut_atL cs 0 4
  rw [e0, List.drop_zero] at h0
  rw [h0, cut_atL cs 4 1, one_takeL cs 4 (by omega), e1, List.drop_eq_nil_of_le (by omega : cs.length ≤ 4 + 1)]
  rfl
/-- A list that came in, of whatever elements. -/
theorem list_f {α : Type} (tt te : TypeId) (sz bt : Nat) (hu : Try.prog.underlying tt = some (.slice te)) (hce : Try.prog.cellsOf te = sz) (hbe : Try.prog.bytesOf te = bt) (hsz : 0 < sz) (f : α → List Value) (dflt : α) (hf : ∀ a, (f a).length = sz) (Ok : α → Prop) (elem : ∀ (k : Nat) (cs : List Value) (y : DataW H × List MemPlace), cs.length = sz → DataW.trod enc Try.prog W base (fun _ => true) held k te cs = some y → ∃ a, Ok a ∧ cs = f a) {v : Value} {y : DataW H × List MemPlace} (g : DataW.trod enc Try.prog W base (fun _ => true) held n tt [v] = some y) :
    ∃ (els : List α) (A : Option Addr) (cap : Nat), v = .slice A els.length cap ∧ (∀ a ∈ els, Ok a) ∧ Sin W sz A els.length cap (els.flatMap f) ∧ ((∀ m ∈ y.1.weights Try.prog tt, m ≤ reachBytes) → els.length * bt ≤ reachBytes) := by
  rcases Deep.open_slice hu g with ⟨hcs, _⟩ | ⟨ad, l, c', m, k, D, Pl, hcs, _, hl, hm, hmm, hx, hr⟩
  · simp only [List.cons.injEq, and_true] at hcs
    exact ⟨[], none, 0, hcs, (fun a ha => by cases ha), .inl ⟨rfl, rfl, fun _ => rfl⟩, fun _ => by simp⟩
  · simp only [List.cons.injEq, and_true] at hcs
    simp only [if_true] at hmm
    subst hmm
    have each : ∀ i, i < l → ∃ a, Ok a ∧ ∀ q u, (f a)[q]? = some u → W.cell? (ad.add (i * sz + q)) = some u := by
      intro i hi
      obtain ⟨cs', h1, h2⟩ := hr i (by omega)
      rw [hce] at h1
      obtain ⟨_, hlen, hcell⟩ := World.cells?_some h1
      obtain ⟨a, hok, e⟩ := elem _ _ _ (by simpa using hlen) h2
      refine ⟨a, hok, fun q u hq => ?_⟩
      have hq5 : q < sz := by have := (List.getElem?_eq_some_iff.1 hq).1; rwa [hf] at this
      have e2 := hcell q hq5
      rw [Deep.add_add] at e2
      rw [e2, e]; exact hq
    obtain ⟨ff, hff⟩ : ∃ ff : Nat → α, ∀ i, i < l → Ok (ff i) ∧ ∀ q u, (f (ff i))[q]? = some u → W.cell? (ad.add (i * sz + q)) = some u := by
      refine ⟨fun i => if h : i < l then (each i h).choose else dflt, fun i hi => ?_⟩
      simp only [hi, dif_pos]
      exact (each i hi).choose_spec
    refine ⟨(List.range l).map ff, some ad, m, by simp [hcs], fun a ha => ?_, ?_, fun hw => ?_⟩
    · obtain ⟨i, hi, rfl⟩ := List.mem_map.1 ha
      exact (hff i (List.mem_range.1 hi)).1
    · by_cases hl0 : l = 0
      · subst hl0
        exact .inl ⟨by simp, by simp, fun h => by cases h⟩
      · obtain ⟨b, off, spot⟩ := ad
        have hne : (f (ff 0))[0]? ≠ none := by rw [Ne, List.getElem?_eq_none_iff, hf]; omega
        obtain ⟨u0, hu0⟩ := Option.ne_none_iff_exists'.1 hne
        have h1 := (hff 0 (by omega)).2 0 u0 hu0
        have hspot : spot = none := by simpa [Addr.add] using World.cell?_spot h1
        subst hspot
        refine .inr ⟨b, off, rfl, flat_len f sz hf _, fun j u hj => ?_⟩
        have hjl : j < l * sz := by have := (List.getElem?_eq_some_iff.1 hj).1; rwa [flat_len f sz hf, List.length_map, List.length_range] at this
        have hdm := Nat.div_add_mod j sz
        have hml := Nat.mod_lt j hsz
        have hil : j / sz < l := Nat.div_lt_of_lt_mul (by rw [Nat.mul_comm]; exact hjl)
        have hget : ((List.range l).map ff)[j / sz]? = some (ff (j / sz)) := by rw [List.getElem?_map, List.getElem?_range hil]; rfl
        have e := flat_get f sz hf _ (j / sz) _ hget (j % sz) hml
        have ej : j / sz * sz + j % sz = j := by rw [Nat.mul_comm]; exact hdm
        rw [ej] at e
        have := (hff (j / sz) hil).2 (j % sz) u (by rw [← e]; exact hj)
        rw [ej, Addr.add_mid] at this
        exact this
    · have := hw ((((List.range l).map D).length + ((List.range (m - l)).map fun j => D (l + j)).length) * bt) (by
        rw [hx]
        simp only [DataW.weights, hu, hbe]
        exact List.mem_cons_self)
      simp only [List.length_map, List.length_range] at this ⊢
      exact Nat.le_trans (Nat.mul_le_mul_right _ (Nat.le_add_right _ _)) this
theorem wides_f {v : Value} {y : DataW H × List MemPlace} (g : DataW.trod enc Try.prog W base (fun _ => true) held n 28 [v] = some y) : ∃ (ags : List Nat) (A : Option Addr) (cap : Nat), v = .slice A ags.length cap ∧ (∀ a ∈ ags, a < 2 ^ 256) ∧ Sin W 4 A ags.length cap (fw ags) ∧ ((∀ m ∈ y.1.weights Try.prog 28, m ≤ reachBytes) → ags.length * 32 ≤ reachBytes) :=
  list_f 28 27 4 32 Try.underlying28 cellsWdL bytesWdL (by decide) wq 0 wq_len (fun a => a < 2 ^ 256) (fun k cs y _ h => wd_f h) g
theorem replies_f {v : Value} {y : DataW H × List MemPlace} (g : DataW.trod enc Try.prog W base (fun _ => true) held n tYs [v] = some y) : ∃ (rs : List (Nat × Int)) (A : Option Addr) (cap : Nat), v = .slice A rs.length cap ∧ (∀ p ∈ rs, p.1 < 2 ^ 256) ∧ Sin W 5 A rs.length cap (frs rs) ∧ ((∀ m ∈ y.1.weights Try.prog tYs, m ≤ reachBytes) → rs.length * 40 ≤ reachBytes) :=
  list_f tYs tYr 5 40 Try.underlying31 cellsYrL bytesYrL (by decide) ry (0, 0) ry_len (fun p => p.1 < 2 ^ 256) (fun k cs y hl h => reply_f hl h) g
theorem code_f {v : Value} {y : DataW H × List MemPlace} (g : DataW.trod enc Try.prog W base (fun _ => true) held n 22 [v] = some y) : ∃ (d : List (BitVec 8)) (A : Option Addr) (cap : Nat), v = .slice A d.length cap ∧ Sin W 1 A d.length cap (vB d) ∧ ((∀ m ∈ y.1.weights Try.prog 22, m ≤ reachBytes) → d.length ≤ 140737488351232) := by
  obtain ⟨d, A, cap, h1, h2, h3, h4⟩ := bytes_f g
  refine ⟨d, A, cap, h1, ?_, h4⟩
  rcases h2 with ⟨h2, _⟩ | ⟨b, off, C, h5, h6, h7⟩
  · exact .inl ⟨by rw [h2]; rfl, by rw [h2]; rfl, h3⟩
  · simp only [Value.slice.injEq] at h5
    obtain ⟨rfl, _, rfl⟩ := h5
    exact .inr ⟨b, off, rfl, by rw [vB_len, Nat.mul_one], h7⟩
set_option maxRecDepth 100000 in
theorem call_f {cs : List Value} (hcl : cs.length = 48) {y : DataW H × List MemPlace} (g : DataW.trod enc Try.prog W base (fun _ => true) held n 30 cs = some y) : ∃ (c : Ca) (ags : List Nat) (A : Option Addr) (cap : Nat), c.Wf ∧ cs = c.cs (.slice A ags.length cap) ∧ (∀ a ∈ ags, a < 2 ^ 256) ∧ Sin W 4 A ags.length cap (fw ags) ∧ ((∀ m ∈ y.1.weights Try.prog 30, m ≤ reachBytes) → ags.length * 32 ≤ reachBytes) := by
  obtain ⟨xs, k, hk, hxy, _, hxl, hff⟩ := DataW.trod_struct Try.underlying30 g
  change ∀ (i : Nat) (f : Field), _ → DataW.trod enc Try.prog W base (fun _ => true) held k f.type ((cs.drop f.offset).take (Try.prog.cellsOf f.type)) = xs[i]? at hff
  obtain ⟨y0, y1, y2, y3, y4, y5, y6, rfl⟩ : ∃ y0 y1 y2 y3 y4 y5 y6, xs = [y0, y1, y2, y3, y4, y5, y6] := by
    match xs, hxl with
    | [y0, y1, y2, y3, y4, y5, y6], _ => exact ⟨y0, y1, y2, y3, y4, y5, y6, rfl⟩
  have g0 := hff 0 _ rfl
  change DataW.trod enc Try.prog W base (fun _ => true) held k 24 ((cs.drop 0).take (Try.prog.cellsOf 24)) = some y0 at g0
  rw [cellsAdL] at g0
  obtain ⟨sf, l0, e0⟩ := adL_f g0
  have g1 := hff 1 _ rfl
  change DataW.trod enc Try.prog W base (fun _ => true) held k 24 ((cs.drop 20).take (Try.prog.cellsOf 24)) = some y1 at g1
  rw [cellsAdL] at g1
  obtain ⟨cr, l1, e1⟩ := adL_f g1
  have g2 := hff 2 _ rfl
  change DataW.trod enc Try.prog W base (fun _ => true) held k 3 ((cs.drop 40).take (Try.prog.cellsOf 3)) = some y2 at g2
  rw [cellsIntL, one_takeL cs 40 (by omega)] at g2
  obtain ⟨tok, e2, b2⟩ := intL_f g2
  have g3 := hff 3 _ rfl
  change DataW.trod enc Try.prog W base (fun _ => true) held k 27 ((cs.drop 41).take (Try.prog.cellsOf 27)) = some y3 at g3
  rw [cellsWdL] at g3
  obtain ⟨amt, l3, e3⟩ := wd_f g3
  have g4 := hff 4 _ rfl
  change DataW.trod enc Try.prog W base (fun _ => true) held k 28 ((cs.drop 45).take (Try.prog.cellsOf 28)) = some y4 at g4
  rw [cellsWsL, one_takeL cs 45 (by omega)] at g4
  obtain ⟨ags, A, cap, e4, l4, s4, w4⟩ := wides_f g4
  have g5 := hff 5 _ rfl
  change DataW.trod enc Try.prog W base (fun _ => true) held k 3 ((cs.drop 46).take (Try.prog.cellsOf 3)) = some y5 at g5
  rw [cellsIntL, one_takeL cs 46 (by omega)] at g5
  obtain ⟨tm, e5, b5⟩ := intL_f g5
  have g6 := hff 6 _ rfl
  change DataW.trod enc Try.prog W base (fun _ => true) held k 3 ((cs.drop 47).take (Try.prog.cellsOf 3)) = some y6 at g6
  rw [cellsIntL, one_takeL cs 47 (by omega)] at g6
  obtain ⟨gas, e6, b6⟩ := intL_f g6
  refine ⟨⟨sf, cr, tok, amt, tm, gas⟩, ags, A, cap, ⟨l0, l1, l3⟩, ?_, l4, s4, fun hw => w4 (fun m hm => hw m ?_)⟩
  · have h0 := cut_atL cs 0 20
    rw [e0, List.drop_zero] at h0
    rw [h0, cut_atL cs 20 20, e1, cut_atL cs 40 1, one_takeL cs 40 (by omega), e2, cut_atL cs 41 4, e3, cut_atL cs 45 1, one_takeL cs 45 (by omega), e4, cut_atL cs 46 1, one_takeL cs 46 (by omega), e5, cut_atL cs 47 1, one_takeL cs 47 (by omega), e6, List.drop_eq_nil_of_le (by omega : cs.length ≤ 47 + 1)]
    rfl
  · rw [hxy]
    simp only [List.map_cons, List.map_nil, DataW.weights, Try.underlying30, DataW.weightsEach, List.mem_append]
    exact .inr (.inr (.inr (.inr (.inl hm))))
set_option maxRecDepth 100000 in
theorem play_f {cs : List Value} (hcl : cs.length = 50) {y : DataW H × List MemPlace} (g : DataW.trod enc Try.prog W base (fun _ => true) held n 33 cs = some y) : ∃ (pd : List (BitVec 8)) (Ak : Option Addr) (ck : Nat) (c : Ca) (ags : List Nat) (Aa : Option Addr) (ca : Nat) (rs : List (Nat × Int)) (Ar : Option Addr) (cr0 : Nat), c.Wf ∧ cs = .slice Ak pd.length ck :: (c.cs (.slice Aa ags.length ca) ++ [.slice Ar rs.length cr0]) ∧ (∀ a ∈ ags, a < 2 ^ 256) ∧ (∀ p ∈ rs, p.1 < 2 ^ 256) ∧ Sin W 1 Ak pd.length ck (vB pd) ∧ Sin W 4 Aa ags.length ca (fw ags) ∧ Sin W 5 Ar rs.length cr0 (frs rs) ∧ ((∀ m ∈ y.1.weights Try.prog 33, m ≤ reachBytes) → pd.length ≤ 140737488351232 ∧ ags.length * 32 ≤ reachBytes ∧ rs.length * 40 ≤ reachBytes) := by
  obtain ⟨xs, k, hk, hxy, _, hxl, hff⟩ := DataW.trod_struct Try.underlying33 g
  change ∀ (i : Nat) (f : Field), _ → DataW.trod enc Try.prog W base (fun _ => true) held k f.type ((cs.drop f.offset).take (Try.prog.cellsOf f.type)) = xs[i]? at hff
  obtain ⟨y0, y1, y2, rfl⟩ : ∃ y0 y1 y2, xs = [y0, y1, y2] := by
    match xs, hxl with
    | [y0, y1, y2], _ => exact ⟨y0, y1, y2, rfl⟩
  have g0 := hff 0 _ rfl
  change DataW.trod enc Try.prog W base (fun _ => true) held k 22 ((cs.drop 0).take (Try.prog.cellsOf 22)) = some y0 at g0
  rw [cellsBsL, one_takeL cs 0 (by omega)] at g0
  obtain ⟨pd, Ak, ck, e0, s0, w0⟩ := code_f g0
  have g1 := hff 1 _ rfl
  change DataW.trod enc Try.prog W base (fun _ => true) held k 30 ((cs.drop 1).take (Try.prog.cellsOf 30)) = some y1 at g1
  rw [cellsClL] at g1
  obtain ⟨c, ags, Aa, ca, hc, e1, l1, s1, w1⟩ := call_f (by rw [List.length_take, List.length_drop]; omega) g1
  have g2 := hff 2 _ rfl
  change DataW.trod enc Try.prog W base (fun _ => true) held k tYs ((cs.drop 49).take (Try.prog.cellsOf tYs)) = some y2 at g2
  rw [cellsYsL, one_takeL cs 49 (by omega)] at g2
  obtain ⟨rs, Ar, cr0, e2, l2, s2, w2⟩ := replies_f g2
  refine ⟨pd, Ak, ck, c, ags, Aa, ca, rs, Ar, cr0, hc, ?_, l1, l2, s0, s1, s2, fun hw => ⟨w0 (fun m hm => hw m ?_), w1 (fun m hm => hw m ?_), w2 (fun m hm => hw m ?_)⟩⟩
  · have h0 := cut_atL cs 0 1
    rw [one_takeL cs 0 (by omega), e0, List.drop_zero] at h0
    rw [h0, cut_atL cs 1 48, e1, cut_atL cs 49 1, one_takeL cs 49 (by omega), e2, List.drop_eq_nil_of_le (by omega : cs.length ≤ 49 + 1)]
    rfl
  · rw [hxy]
    simp only [List.map_cons, List.map_nil, DataW.weights, Try.underlying33, DataW.weightsEach, List.mem_append]
    exact .inl hm
  · rw [hxy]
    simp only [List.map_cons, List.map_nil, DataW.weights, Try.underlying33, DataW.weightsEach, List.mem_append]
    exact .inr (.inl hm)
  · rw [hxy]
    simp only [List.map_cons, List.map_nil, DataW.weights, Try.underlying33, DataW.weightsEach, List.mem_append]
    exact .inr (.inr (.inl hm))
end

end Go.Proofs.Ytabcglakdlkdcaa
/-
  The law MachineMeters: its row.
-/
namespace Go.Proofs.Ytabcglakdlkdcaa.mme
open Go Go.RowKit Go.ChangeShapes Go.WideShapes Go.ChangeAt
open Sha

def pz : List Value := Value.slice none 0 0 :: (List.replicate 40 (Value.int .u8 0) ++ [Value.int .i64 0, .int .u64 0, .int .u64 0, .int .u64 0, .int .u64 0, .slice none 0 0, .int .i64 0, .int .i64 0, .slice none 0 0])
set_option maxRecDepth 100000 in
theorem contract (H : Type) (enc : TypeId × Value → H) (W : World) (base : Nat) (args : Array Value) (ds gs : List (DataW H)) (before : List MemPlace)
    (hval : ∀ (j : Nat) t v, Try.f3.params[j]? = some t → args[j]? = some v → Value.okWide Try.prog W .any base t v)
    (hW : DataW.Whole enc Try.prog Try.f3.params.toList Rows.machineMetersSpec.vars false W args.toList ds gs before)
    (hsz : (DataW.weightsEach Try.prog (Try.f3.params.toList ++ (OpenSpec.ofChange Rows.machineMetersSpec).bare.plain.varTypes Try.prog) (ds ++ gs)).all (· ≤ reachBytes) = true) :
    Calls Try.prog 3 args W fun e W' => ∃ v, e = .returned v ∧ Rows.machineMetersSpec.post enc Try.prog Try.f3 false true false false W args v W' := by
  have hW' := hW
  obtain ⟨p, q, hA0, hV, rfl, hfz, hnd⟩ := hW
  have hA : DataW.TrodAll enc Try.prog W 0 (fun _ => true) true Try.f3.params.toList args.toList ds p := hA0
  rw [Try.params3] at hA hval hsz
  obtain ⟨v0, vs0, d0, ds0, p0, q0, hargs, rfl, rfl, h0, r0⟩ := trodAll_cons hA
  obtain ⟨v1, vs1, d1, ds1, p1, q1, rfl, rfl, rfl, h1, r1⟩ := trodAll_cons r0
  obtain ⟨rfl, rfl, rfl⟩ := trodAll_nil r1
  obtain rfl : args = #[v0, v1] := by cases args; simp_all
  obtain ⟨rfl, rfl⟩ := trodVars_none hV
  have k0 := h0
  have lt0 : ∀ x ∈ p0, x.block < W.heap.size := by obtain ⟨m, hm⟩ := k0; exact DataW.trod_lt m _ _ _ hm
  obtain ⟨ca0, rfl, hca0⟩ := okWide_struct Try.underlying33 (hval 0 33 v0 rfl rfl)
  rw [cellsPlL] at hca0
  obtain ⟨pd0, Ak0, ck0, c0, ags0, Aa0, cg0, rs0, Ar0, cr0, wc0, es0, la0, lr0, sk0, sa0, sr0, hb0⟩ := (fun ⟨fuel, hf⟩ => play_f (by simpa [Value.cells] using hca0) hf : (∃ _, _) → _) h0
  replace hb0 := hb0 (fun mm hmm => of_decide_eq_true (List.all_eq_true.1 hsz mm (DataW.weights_mem_each (j := 0) (t := 33) rfl rfl _ hmm)))
  have hrb0 : reachBytes = 140737488351232 := rfl
  rw [hrb0] at hb0
  obtain rfl : ca0 = (Value.slice Ak0 pd0.length ck0 :: (c0.cs (.slice Aa0 ags0.length cg0) ++ [.slice Ar0 rs0.length cr0])).toArray := by rw [← es0]; simp [Value.cells]
  have mk0 : pd0.length ≤ maxLen ∧ pd0.length * 1 ≤ 140737488355328 := ⟨by unfold maxLen; omega, by omega⟩
  have ma0 : ags0.length ≤ maxLen ∧ ags0.length * 32 ≤ 140737488355328 := ⟨by unfold maxLen; omega, by omega⟩
  have mr0 : rs0.length ≤ maxLen ∧ rs0.length * 40 ≤ 140737488355328 := ⟨by unfold maxLen; omega, by omega⟩
  have k1 := h1
  have lt1 : ∀ x ∈ p1, x.block < W.heap.size := by obtain ⟨m, hm⟩ := k1; exact DataW.trod_lt m _ _ _ hm
  obtain ⟨z1, rfl⟩ := okWide_int Try.underlying3 (hval 1 3 v1 rfl rfl)
  have bz1 : B64 z1 := by
    obtain ⟨fuel, hf⟩ := h1
    obtain ⟨z, ez, b⟩ := intL_f (v := .int .i64 z1) hf
    obtain rfl : z1 = z := by simpa using ez
    exact b
  clear hA0
  refine (meters_walk pd0 pd0.length rfl c0 wc0 ags0 rs0 la0 lr0 Ak0 Aa0 Ar0 ck0 cg0 cr0 _ rfl z1 W sk0 mk0 sa0 ma0 sr0 mr0).mono fun e W' ⟨he, bel⟩ => ?_
  subst he
  exact ⟨_, rfl, _, _, _, [], _, [], hW', trodAll_mk1 (shut_bool Try.underlying4 _), (trodAll_cons_mk (Below.trod laidOut (by kernel_rfl) (of_decide_eq_true (by kernel_rfl)) k0 bel lt0) (trodAll_cons_mk (Below.trod laidOut (by kernel_rfl) (of_decide_eq_true (by kernel_rfl)) k1 bel lt1) trodAll_mk0)), rfl, bel.frame _, fun h => by cases h⟩

theorem laid_met (os : Os) : laidMet Try.prog Rows.machineMetersRow.laid (({ World.holding Try.prog os ⟨#[], #[], []⟩ with heap := (World.holding Try.prog os ⟨#[], #[], []⟩).heap } : World).forCall (fun _ _ => 0) ⟨#[], #[.agg pz.toArray, .int .i64 0], []⟩).memory :=
  laidMet_of_run' 8 (by kernel_rfl) (by kernel_rfl)
theorem reads (os : Os) {H : Type} (enc : TypeId × Value → H) : ∃ places, DataW.whole enc Try.prog (({ World.holding Try.prog os ⟨#[], #[], []⟩ with heap := (World.holding Try.prog os ⟨#[], #[], []⟩).heap } : World).forCall (fun _ _ => 0) ⟨#[], #[.agg pz.toArray, .int .i64 0], []⟩).memory Try.f3.params.toList Rows.machineMetersSpec.vars false (#[.agg pz.toArray, .int .i64 0] : Array Value).toList 8 = some ([.agg [.nil, .agg [.agg (List.replicate 20 (.lit (.int .u8 0))), .agg (List.replicate 20 (.lit (.int .u8 0))), .lit (.int .i64 0), .agg (List.replicate 4 (.lit (.int .u64 0))), .nil, .lit (.int .i64 0), .lit (.int .i64 0)], .nil], .lit (.int .i64 0)], [], places) :=
  ⟨[], by kernel_rfl⟩

set_option maxRecDepth 100000 in
theorem lifted (os : Os) (started : os.Started) (H : Type) (enc : TypeId × Value → H) (F : Stop.Interp) :
    ReturnsInHanded {} Try.checked os 3 .any ((OpenSpec.ofChange Rows.machineMetersSpec).preRow enc Try.prog Try.f3 Rows.machineMetersRow.domain false Rows.machineMetersRow.laid) (((OpenSpec.ofChange Rows.machineMetersSpec).at F).post enc Try.prog Try.f3 false true false false) := by
  obtain ⟨places, hx⟩ := reads os enc
  refine returnsInHanded_of_row (C := Try.checked) (s := OpenSpec.ofChange Rows.machineMetersSpec) own started (by kernel_rfl) Try.func3
    (witness_row_at (enc := enc) (C := Try.checked) false ({ World.holding Try.prog os ⟨#[], #[], []⟩ with heap := (World.holding Try.prog os ⟨#[], #[], []⟩).heap } : World) #[.agg pz.toArray, .int .i64 0] rfl (by kernel_rfl) (by kernel_rfl) (by kernel_rfl)
      (OpenSpec.preRow_of_cond 8 hx (by kernel_rfl) (fun k hk => by cases hk) (by kernel_rfl) (laid_met os))) ?_
  intro W base args ds gs before hval hW _ hc hsz hL _ _
  exact contract H enc W base args ds gs before hval hW hsz

theorem said : Rows.MachineMetersSaid :=
  OpenClaim.holds_of_cond 3 Try.f3 rfl rfl rfl rfl rfl rfl rfl ⟨rfl, rfl, rfl, rfl, rfl⟩ rfl rfl rfl rfl rfl (by kernel_rfl) Try.func3 (by kernel_rfl)
    (of_decide_eq_true (by kernel_rfl)) (by unfold Func.isWrapper; first | (rw [if_pos (by decide +kernel)]; kernel_rfl) | (rw [if_neg (by decide +kernel)]; exact ⟨rfl, rfl⟩))
    (fun os started H enc _ F => by rw [OpenClaim.pre_eq_preRow]; exact lifted os started H enc F)

end Go.Proofs.Ytabcglakdlkdcaa.mme
