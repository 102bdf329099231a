/-
  The law EscrowPlays: its row.
-/
import Derived.Test.YtkbdnebmekhcdaaEsM
import Derived.Test.YtkbdnebmekhcdaaWText
import Derived.Test.YtkbdnebmekhcdaaRows
import Derived.ProofKit
import Derived.OpenShut
import Derived.ShutString
import Derived.ChangeOld
import Derived.SizedLaws
import Derived.Deep.DeepHandedRow
import Derived.Lib.LaidTab
import Derived.ChangeMaps5
import Derived.Deep.Matrix
import Derived.Deep.SlicePairs
import Derived.Test.YtkbdnebmekhcdaaEpI

namespace Go.Proofs.Ytkbdnebmekhcdaa
open Go Go.RowKit Go.Maps
open Wd

theorem upd_upd {α : Type} (f : Int → α) (x : Int) (a b : α) : upd (upd f x a) x b = upd f x b := by
  funext y
  unfold upd
  by_cases h : y = x <;> simp [h]
/-- One token listed. -/
def gs (tk : Int) (st : Bool) (m : Nat) (U : Int → BitVec 64) (L : Nat) : St := ⟨upd (fun _ => none) tk (some (st, m)), U, L⟩
theorem gs_fnd {tk : Int} (h0 : 0 ≤ tk) (h1 : tk < 64) (st : Bool) (m : Nat) (U : Int → BitVec 64) (L : Nat) : fnd (gs tk st m U L).T tk = (st, m, 0) := by
  unfold fnd gs
  rw [if_neg (by omega)]
  simp only [upd_at]
theorem gs_upd (tk : Int) (st st' : Bool) (m m' : Nat) (U U' : Int → BitVec 64) (L L' : Nat) : (⟨upd (gs tk st m U L).T tk (some (st', m')), U', L'⟩ : St) = gs tk st' m' U' L' := by
  unfold gs
  simp only [upd_upd]

theorem gives_walk (t i : Int) (ht : I64 t) (hi : I64 i) (a b : Nat) (ha : a < 2 ^ 256) (hb : b < 2 ^ 256) (w : World) :
    Calls Try.prog 7 #[.agg (gcs t i a b).toArray] w fun e w' => e = .returned (.bool true) ∧ Below w.heap.size w w' := by
  obtain ⟨tk, htk⟩ : ∃ x, pk t 64 = x := ⟨_, rfl⟩
  obtain ⟨ix, hix⟩ : ∃ x, pk i 1099511627776 = x := ⟨_, rfl⟩
  have rt := pk_range t 64 (by decide)
  have ri := pk_range i 1099511627776 (by decide)
  rw [htk] at rt
  rw [hix] at ri
  obtain ⟨jx, hjx⟩ : ∃ x, x = ix / 2 + 549755813888 * (1 - ix / 549755813888) := ⟨_, rfl⟩
  have hj : 0 ≤ jx ∧ jx < 1099511627776 ∧ jx ≠ ix := by omega
  have e2 : ix.tdiv 2 = ix / 2 := Int.tdiv_eq_ediv_of_nonneg ri.1
  have e3 : ix.tdiv 549755813888 = ix / 549755813888 := Int.tdiv_eq_ediv_of_nonneg ri.1
  have hI : I64 ix := (i64_iff ix).2 (by omega)
  have q1 : IntKind.i64.wrap (ix.tdiv 2) = ix / 2 := by rw [e2, IntKind.wrap_i64]; omega
  have q2 : IntKind.i64.wrap (ix.tdiv 549755813888) = ix / 549755813888 := by rw [e3, IntKind.wrap_i64]; omega
  have q3 : IntKind.i64.wrap (1 - ix / 549755813888) = 1 - ix / 549755813888 := by rw [IntKind.wrap_i64]; omega
  have q4 : IntKind.i64.wrap (549755813888 * (1 - ix / 549755813888)) = 549755813888 * (1 - ix / 549755813888) := by rw [IntKind.wrap_i64]; omega
  have q5 : IntKind.i64.wrap (ix / 2 + 549755813888 * (1 - ix / 549755813888)) = jx := by rw [hjx, IntKind.wrap_i64]; omega
  have f1 : sList k0 tk = (gs tk false 0 (fun _ => 0) 0, 0) := by
    have hf : fnd k0.T tk = (false, 0, 141) := by unfold fnd; rw [if_neg (by omega)]; rfl
    unfold sList
    rw [hf]
    rfl
  have hcase : a < b ∨ b ≤ a := by omega
  have hA0 : (decide (a = 0) = true ∧ a = 0) ∨ (decide (a = 0) = false ∧ a ≠ 0) := by
    by_cases h : a = 0
    · exact .inl ⟨decide_eq_true h, h⟩
    · exact .inr ⟨decide_eq_false h, h⟩
  have f2 : sDep (gs tk false 0 (fun _ => 0) 0) tk a = (gs tk false a (fun _ => 0) 0, if decide (a = 0) then 144 else 0) := by
    unfold sDep
    rw [gs_fnd rt.1 rt.2]
    rcases hA0 with ⟨h, h'⟩ | ⟨h, h'⟩
    · rw [h, h']; rfl
    · rw [h]
      have hE : addE 0 a = 0 := by unfold addE; rw [if_pos (by omega)]
      have hR : addR 0 a = a := by unfold addR; rw [if_pos (by omega)]; omega
      simp only [ne_eq, not_true_eq_false, if_false, Bool.false_eq_true, h', hE, hR]
      rw [gs_upd]
      rfl
  have zr : ∀ x, paid (fun _ => 0) x = false := fun x => by unfold paid; simp
  have f4 : ∀ m U, sStop (gs tk false m U 0) tk true = (gs tk true m U 0, 0) := fun m U => by
    unfold sStop
    rw [gs_fnd rt.1 rt.2]
    simp only [ne_eq, not_true_eq_false, if_false, Bool.false_eq_true]
    rw [gs_upd]
    rfl
  have f6 : ∀ m U, paid U jx = false → sPay (gs tk true m U 0) jx tk m = (gs tk true 0 (puts U jx) 0, 0) := fun m U hU => by
    unfold sPay
    rw [gs_fnd rt.1 rt.2, if_neg (by omega)]
    have hE : subE m m = 0 := by unfold subE; rw [if_neg (by omega)]
    have hR : subR m m = 0 := by unfold subR; rw [if_neg (by omega)]; omega
    have hU' : paid (gs tk true m U 0).U jx = false := hU
    simp only [ne_eq, not_true_eq_false, if_false, Bool.false_eq_true, hU', hE, hR]
    rw [gs_upd]
    rfl
  have f7 : ∀ U, sLock (gs tk true 0 U 0) a = (gs tk true 0 U a, 0) := fun U => by
    unfold sLock
    have hE : addE (gs tk true 0 U 0).L a = 0 := by show addE 0 a = 0; unfold addE; rw [if_pos (by omega)]
    have hR : addR (gs tk true 0 U 0).L a = a := by show addR 0 a = a; unfold addR; rw [if_pos (by omega)]; omega
    rw [hE, hR]
    rfl
  rcases hcase with h | h
  · have hcv : cmpR a b = -1 := by unfold cmpR; rw [if_neg (by omega), if_pos h]
    have f3 : sPay (gs tk false a (fun _ => 0) 0) ix tk b = (gs tk false a (fun _ => 0) 0, 146) := by
      unfold sPay
      rw [gs_fnd rt.1 rt.2, if_neg (by omega)]
      have hE : subE a b = 23 := by unfold subE; rw [if_pos h]
      have hU' : paid (gs tk false a (fun _ => 0) 0).U ix = false := zr ix
      simp only [ne_eq, not_true_eq_false, if_false, Bool.false_eq_true, hU', hE]
      rfl
    have f8 : sFree (gs tk true 0 (puts (fun _ => 0) jx) a) b = (gs tk true 0 (puts (fun _ => 0) jx) a, 149) := by
      unfold sFree
      have hE : subE (gs tk true 0 (puts (fun _ => 0) jx) a).L b = 23 := by show subE a b = 23; unfold subE; rw [if_pos h]
      rw [hE]
      rfl
    exact gives_core t i ht hi a b ha hb tk ix htk hix _ _ _ _ _ _ _ _ _ _ _ _ _ _ _ jx a ha _ true f1 f2 f3 (f4 a _) (gs_fnd rt.1 rt.2 _ _ _ _) (f6 a _ (zr jx)) (f7 _) f8 (gs_fnd rt.1 rt.2 _ _ _ _) (zr ix) hI rfl hcv (by decide) rfl rfl rfl q1 q2 q3 q4 q5 w
  · have hcv : ¬ cmpR a b < 0 := by unfold cmpR; split; decide; rw [if_neg (by omega)]; decide
    have hm : a - b < 2 ^ 256 := by omega
    have f3 : sPay (gs tk false a (fun _ => 0) 0) ix tk b = (gs tk false (a - b) (puts (fun _ => 0) ix) 0, 0) := by
      unfold sPay
      rw [gs_fnd rt.1 rt.2, if_neg (by omega)]
      have hE : subE a b = 0 := by unfold subE; rw [if_neg (by omega)]
      have hR : subR a b = a - b := by unfold subR; rw [if_neg (by omega)]
      have hU' : paid (gs tk false a (fun _ => 0) 0).U ix = false := zr ix
      simp only [ne_eq, not_true_eq_false, if_false, Bool.false_eq_true, hU', hE, hR]
      rw [gs_upd]
      rfl
    have hpj : paid (puts (fun _ => 0) ix) jx = false := by rw [paid_puts, zr, decide_eq_false hj.2.2]; rfl
    have hpi : paid (puts (fun _ => 0) ix) ix = true := by rw [paid_puts, decide_eq_true rfl]; rfl
    have f8 : ∀ U, sFree (gs tk true 0 U a) b = (gs tk true 0 U (a - b), 0) := fun U => by
      unfold sFree
      have hE : subE (gs tk true 0 U a).L b = 0 := by show subE a b = 0; unfold subE; rw [if_neg (by omega)]
      have hR : subR (gs tk true 0 U a).L b = a - b := by show subR a b = a - b; unfold subR; rw [if_neg (by omega)]
      rw [hE, hR]
      rfl
    exact gives_core t i ht hi a b ha hb tk ix htk hix _ _ _ _ _ _ _ _ _ _ _ _ _ _ _ jx (a - b) hm _ false f1 f2 f3 (f4 _ _) (gs_fnd rt.1 rt.2 _ _ _ _) (f6 _ _ hpj) (f7 _) (f8 _) (gs_fnd rt.1 rt.2 _ _ _ _) hpi hI rfl rfl (decide_eq_false hcv) rfl rfl rfl q1 q2 q3 q4 q5 w


end Go.Proofs.Ytkbdnebmekhcdaa

namespace Go.Proofs.Ytkbdnebmekhcdaa
open Go Go.RowKit Go.ChangeShapes Go.WideShapes Go.ChangeAt
open Wd

theorem own : ownKnob Try.prog.godebug = none := by kernel_rfl
theorem laidOut : laidOutB Try.prog = true := by kernel_rfl
theorem cellsU64 : Try.prog.cellsOf 31 = 1 := by kernel_rfl
theorem cellsWide : Try.prog.cellsOf 33 = 4 := by kernel_rfl
theorem mapM_each {α β : Type} {f : α → Option β} : ∀ (L : List α) (ys : List β), L.mapM f = some ys → ∀ i ∈ L, ∃ y, f i = some y
  | [], _, _, i, hi => by cases hi
  | a :: L, ys, h, i, hi => by
    rw [List.mapM_cons] at h
    simp only [bind, Option.bind_eq_some_iff, pure, Option.some.injEq] at h
    obtain ⟨y, hy, zs, hz, _⟩ := h
    rcases List.mem_cons.1 hi with rfl | hi
    · exact ⟨y, hy⟩
    · exact mapM_each L zs hz i hi

theorem parts_in (xs : List Value) (hl : xs.length = 4) (key : ∀ i (h : i < xs.length), ∃ z : Int, xs[i] = .int .u64 z ∧ 0 ≤ z ∧ z ≤ 18446744073709551615) : ∃ n, n < 2 ^ 256 ∧ xs = vQ (dgs n 4) := by
  obtain ⟨l, hll, hlt, hx⟩ : ∃ l : List Nat, l.length = 4 ∧ (∀ y ∈ l, y < 18446744073709551616) ∧ xs = vQ l := by
    refine ⟨xs.map (fun v => (intOf v).toNat), by simp [hl], fun y hy => ?_, ?_⟩
    · obtain ⟨v, hv, rfl⟩ := List.mem_map.1 hy
      obtain ⟨i, hi, rfl⟩ := List.mem_iff_getElem.1 hv
      obtain ⟨z, hz, z0, z1⟩ := key i hi
      rw [hz]
      simp only [intOf]
      omega
    · unfold vQ
      rw [List.map_map]
      refine List.ext_getElem (by simp) fun i h1 h2 => ?_
      obtain ⟨z, hz, z0, z1⟩ := key i h1
      rw [List.getElem_map, hz]
      simp only [Function.comp_apply, intOf]
      congr 1
      omega
  refine ⟨num l, ?_, ?_⟩
  · have := num_lt l hlt
    rw [hll] at this
    simpa using this
  · have := dgs_num l hlt
    rw [hll] at this
    rw [this]
    exact hx
set_option maxRecDepth 100000 in
/-- A number that came in. -/
theorem wide_in {H : Type} {enc : TypeId × Value → H} {W : World} {base : Nat} {sp : Nat → Bool} {held : Bool} {v : Value} {d : DataW H} {ps : List MemPlace} {r : Reach} {b0 : Nat} (hval : Value.okWide Try.prog W r b0 33 v) (hd : DataW.Trod enc Try.prog W base sp held 33 v d ps) :
    ∃ n, n < 2 ^ 256 ∧ v = .agg (vQ (dgs n 4)).toArray := by
  simp only [Value.okWide, Try.underlying33] at hval
  obtain ⟨xs, rfl, h2, _⟩ := hval
  rw [cellsWide] at h2
  obtain ⟨fuel, hf⟩ := hd
  cases fuel with
  | zero => simp [DataW.trod] at hf
  | succ m =>
    rw [DataW.trod_step] at hf
    unfold DataW.trodStep at hf
    simp only [Try.underlying33, Value.cells] at hf
    rw [if_pos (by rw [cellsWide]; simpa using h2)] at hf
    simp only [Option.map_eq_some_iff] at hf
    obtain ⟨ys, hy, _⟩ := hf
    have each := mapM_each _ _ hy
    have key : ∀ i (h : i < xs.toList.length), ∃ z : Int, xs.toList[i] = .int .u64 z ∧ 0 ≤ z ∧ z ≤ 18446744073709551615 := fun i h => by
      obtain ⟨y, hy⟩ := each i (List.mem_range.2 (by simp at h; omega))
      rw [cellsU64, Nat.mul_one] at hy
      obtain ⟨z, hz, _, wz⟩ := DataW.trod_int Try.underlying31 hy
      have hb := bounds_u64 wz
      refine ⟨z, ?_, hb.1, hb.2⟩
      rw [List.drop_eq_getElem_cons h] at hz
      simp at hz
      simpa using hz
    obtain ⟨n, hn, hx⟩ := parts_in xs.toList (by simpa using h2) key
    exact ⟨n, hn, by congr 1; apply Array.ext'; exact hx⟩


end Go.Proofs.Ytkbdnebmekhcdaa

namespace Go.Proofs.Ytkbdnebmekhcdaa
open Go Go.RowKit Go.ChangeShapes Go.WideShapes Go.ChangeAt
open Wd

theorem cellsI : Try.prog.cellsOf 3 = 1 := by kernel_rfl
theorem cellsGift : Try.prog.cellsOf 57 = 10 := by kernel_rfl
theorem one_take (cs : List Value) (k : Nat) (h : k < cs.length) : (cs.drop k).take 1 = [cs.getD k undef] := by
  rw [List.drop_eq_getElem_cons h]
  simp only [List.take_succ_cons, List.take_zero, List.getD_eq_getElem?_getD, List.getElem?_eq_getElem h, Option.getD_some]
set_option maxRecDepth 100000 in
section
variable {H : Type} {enc : TypeId × Value → H} {W : World} {base : Nat} {held : Bool} {fuel n : Nat} {cs : List Value} {x : DataW H × List MemPlace}
theorem wide_at {sp : Nat → Bool} (hl : cs.length = 4) (h : DataW.trod enc Try.prog W base sp held fuel 33 cs = some x) : ∃ n, n < 2 ^ 256 ∧ cs = vQ (dgs n 4) := by
  cases fuel with
  | zero => simp [DataW.trod] at h
  | succ m =>
    rw [DataW.trod_step] at h
    unfold DataW.trodStep at h
    simp only [Try.underlying33] at h
    rw [if_pos (by rw [cellsWide]; exact hl)] at h
    simp only [Option.map_eq_some_iff] at h
    obtain ⟨ys, hy, _⟩ := h
    have each := mapM_each _ _ hy
    refine parts_in cs hl (fun i h => ?_)
    obtain ⟨y, hy⟩ := each i (List.mem_range.2 (by omega))
    rw [cellsU64, Nat.mul_one] at hy
    obtain ⟨z, hz, _, wz⟩ := DataW.trod_int Try.underlying31 hy
    have hb := bounds_u64 wz
    refine ⟨z, ?_, hb.1, hb.2⟩
    rw [List.drop_eq_getElem_cons h, List.take_succ_cons, List.take_zero] at hz
    exact (List.cons.inj hz).1
theorem int_f {v : Value} {y : DataW H × List MemPlace} (g : DataW.trod enc Try.prog W base (fun _ => true) held n 3 [v] = some y) : ∃ z, v = .int .i64 z ∧ I64 z := by
  obtain ⟨z, e, _, wz⟩ := DataW.trod_int Try.underlying3 g
  simp only [List.cons.injEq, and_true] at e
  exact ⟨z, e, wz⟩
theorem gift_f {cs : List Value} (hl : cs.length = 10) {y : DataW H × List MemPlace} (g : DataW.trod enc Try.prog W base (fun _ => true) held n 57 cs = some y) : ∃ (t i : Int) (a b : Nat), I64 t ∧ I64 i ∧ a < 2 ^ 256 ∧ b < 2 ^ 256 ∧ cs = gcs t i a b := by
  obtain ⟨xs, k, hk, hxy, _, hxl, hff⟩ := DataW.trod_struct Try.underlying57 g
  change ∀ (i : Nat) (f : Field), _ → DataW.trod enc Try.prog W base (fun _ => true) held k f.type ((cs.drop f.offset).take (Try.prog.cellsOf f.type)) = xs[i]? at hff
  obtain ⟨y0, y1, y2, y3, rfl⟩ : ∃ y0 y1 y2 y3, xs = [y0, y1, y2, y3] := by
    match xs, hxl with
    | [y0, y1, y2, y3], _ => exact ⟨y0, y1, y2, y3, rfl⟩
  have g0 := hff 0 _ rfl
  change DataW.trod enc Try.prog W base (fun _ => true) held k 3 ((cs.drop 0).take (Try.prog.cellsOf 3)) = some y0 at g0
  rw [cellsI, one_take cs 0 (by omega)] at g0
  obtain ⟨z0, e0, w0⟩ := int_f g0
  have g1 := hff 1 _ rfl
  change DataW.trod enc Try.prog W base (fun _ => true) held k 3 ((cs.drop 1).take (Try.prog.cellsOf 3)) = some y1 at g1
  rw [cellsI, one_take cs 1 (by omega)] at g1
  obtain ⟨z1, e1, w1⟩ := int_f g1
  have g2 := hff 2 _ rfl
  change DataW.trod enc Try.prog W base (fun _ => true) held k 33 ((cs.drop 2).take (Try.prog.cellsOf 33)) = some y2 at g2
  rw [cellsWide] at g2
  obtain ⟨a, ha, e2⟩ := wide_at (by rw [List.length_take, List.length_drop, hl]; rfl) g2
  have g3 := hff 3 _ rfl
  change DataW.trod enc Try.prog W base (fun _ => true) held k 33 ((cs.drop 6).take (Try.prog.cellsOf 33)) = some y3 at g3
  rw [cellsWide] at g3
  obtain ⟨b, hb, e3⟩ := wide_at (by rw [List.length_take, List.length_drop, hl]; rfl) g3
  refine ⟨z0, z1, a, b, w0, w1, ha, hb, ?_⟩
  unfold gcs
  rw [← e0, ← e1, ← e2, ← e3]
  match cs, hl with
  | [c0, c1, c2, c3, c4, c5, c6, c7, c8, c9], _ => rfl
end

end Go.Proofs.Ytkbdnebmekhcdaa

namespace Go.Proofs.Ytkbdnebmekhcdaa
open Go Go.RowKit Go.ChangeShapes Go.WideShapes Go.ChangeAt
open Wd

theorem cellsStep : Try.prog.cellsOf 35 = 8 := by kernel_rfl
theorem bytesStep : Try.prog.bytesOf 35 = 64 := by kernel_rfl
theorem mem_weightsAll {H : Type} (P : Program) (e : TypeId) (n : Nat) : ∀ (l : List (DataW H)) (d : DataW H), d ∈ l → n ∈ d.weights P e → n ∈ DataW.weightsAll P e l
  | [], d, h, _ => by cases h
  | a :: l, d, h, hn => by
    rw [DataW.weightsAll, List.mem_append]
    rcases List.mem_cons.1 h with rfl | h
    · exact .inl hn
    · exact .inr (mem_weightsAll P e n l d h hn)
section
variable {H : Type} {enc : TypeId × Value → H} {W : World} {base : Nat} {held : Bool} {n : Nat}
set_option maxRecDepth 100000 in
theorem step_f {cs : List Value} (hl : cs.length = 8) {y : DataW H × List MemPlace} (g : DataW.trod enc Try.prog W base (fun _ => true) held n 35 cs = some y) : ∃ r : Stv, cs = r.cells ∧ ((∀ m ∈ y.1.weights Try.prog 35, m ≤ reachBytes) → r.Ok) := by
  obtain ⟨xs, k, hk, hxy, _, hxl, hff⟩ := DataW.trod_struct Try.underlying35 g
  change ∀ (i : Nat) (f : Field), _ → DataW.trod enc Try.prog W base (fun _ => true) held k f.type ((cs.drop f.offset).take (Try.prog.cellsOf f.type)) = xs[i]? at hff
  obtain ⟨y0, y1, y2, y3, y4, rfl⟩ : ∃ y0 y1 y2 y3 y4, xs = [y0, y1, y2, y3, y4] := by
    match xs, hxl with
    | [y0, y1, y2, y3, y4], _ => exact ⟨y0, y1, y2, y3, y4, rfl⟩
  have g0 := hff 0 _ rfl
  change DataW.trod enc Try.prog W base (fun _ => true) held k 3 ((cs.drop 0).take (Try.prog.cellsOf 3)) = some y0 at g0
  rw [cellsI, one_take cs 0 (by omega)] at g0
  obtain ⟨z0, e0, w0⟩ := int_f g0
  have g1 := hff 1 _ rfl
  change DataW.trod enc Try.prog W base (fun _ => true) held k 3 ((cs.drop 1).take (Try.prog.cellsOf 3)) = some y1 at g1
  rw [cellsI, one_take cs 1 (by omega)] at g1
  obtain ⟨z1, e1, w1⟩ := int_f g1
  have g2 := hff 2 _ rfl
  change DataW.trod enc Try.prog W base (fun _ => true) held k 3 ((cs.drop 2).take (Try.prog.cellsOf 3)) = some y2 at g2
  rw [cellsI, one_take cs 2 (by omega)] at g2
  obtain ⟨z2, e2, w2⟩ := int_f g2
  have g3 := hff 3 _ rfl
  change DataW.trod enc Try.prog W base (fun _ => true) held k 3 ((cs.drop 3).take (Try.prog.cellsOf 3)) = some y3 at g3
  rw [cellsI, one_take cs 3 (by omega)] at g3
  obtain ⟨z3, e3, w3⟩ := int_f g3
  have g4 := hff 4 _ rfl
  change DataW.trod enc Try.prog W base (fun _ => true) held k 33 ((cs.drop 4).take (Try.prog.cellsOf 33)) = some y4 at g4
  rw [cellsWide] at g4
  obtain ⟨m, hm, e4⟩ := wide_at (by rw [List.length_take, List.length_drop, hl]; rfl) g4
  refine ⟨⟨z0, z1, z2, z3, m⟩, ?_, fun _ => ⟨w0, w1, w2, w3, hm⟩⟩
  unfold Stv.cells
  simp only
  rw [← e0, ← e1, ← e2, ← e3, ← e4]
  match cs, hl with
  | [c0, c1, c2, c3, c4, c5, c6, c7], _ => rfl
set_option maxRecDepth 100000 in
theorem steps_f {v : Value} {y : DataW H × List MemPlace} (g : DataW.trod enc Try.prog W base (fun _ => true) held n 22 [v] = some y) : ∃ (rs : List Stv) (A : Option Addr) (cap : Nat), v = .slice A rs.length cap ∧ ((∀ m ∈ y.1.weights Try.prog 22, m ≤ reachBytes) → rs.length < 2199023255500 ∧ (∀ i r, rs[i]? = some r → r.Ok ∧ ∃ b o, A = some ⟨b, o, none⟩ ∧ W.rangeAt b (o + i * 8) r.cells)) := by
  have hrb : reachBytes = 140737488351232 := rfl
  rcases Deep.open_slice Try.underlying22 g with ⟨hcs, _⟩ | ⟨ad, l, c', m, k, D, Pl, hcs, _, hl, hm, hmm, hx, hr⟩
  · simp only [List.cons.injEq, and_true] at hcs
    exact ⟨[], none, 0, hcs, fun _ => ⟨by simp, fun i r h => by simp at h⟩⟩
  · simp only [List.cons.injEq, and_true] at hcs
    simp only [if_true] at hmm
    subst hmm
    have each : ∀ i, i < l → ∃ r : Stv, ((∀ m ∈ (D i).weights Try.prog 35, m ≤ reachBytes) → r.Ok) ∧ ∀ q u, r.cells[q]? = some u → W.cell? (ad.add (i * 8 + q)) = some u := by
      intro i hi
      obtain ⟨cs', h1, h2⟩ := hr i (by omega)
      rw [cellsStep] at h1
      obtain ⟨_, hlen, hcell⟩ := World.cells?_some h1
      obtain ⟨r, e, hok⟩ := step_f (by simpa using hlen) h2
      refine ⟨r, hok, fun q u hq => ?_⟩
      have hq5 : q < 8 := by have := (List.getElem?_eq_some_iff.1 hq).1; rwa [Stv.len] at this
      have e2 := hcell q hq5
      rw [Deep.add_add] at e2
      rw [e2, e]; exact hq
    obtain ⟨f, hf⟩ : ∃ f : Nat → Stv, ∀ i, i < l → ((∀ m ∈ (D i).weights Try.prog 35, m ≤ reachBytes) → (f i).Ok) ∧ ∀ q u, (f i).cells[q]? = some u → W.cell? (ad.add (i * 8 + q)) = some u := by
      refine ⟨fun i => if h : i < l then (each i h).choose else ⟨0, 0, 0, 0, 0⟩, fun i hi => ?_⟩
      simp only [hi, dif_pos]
      exact (each i hi).choose_spec
    refine ⟨(List.range l).map f, some ad, m, by simp [hcs], fun hw => ⟨?_, fun i r hr => ?_⟩⟩
    · have := hw ((((List.range l).map D).length + ((List.range (m - l)).map fun j => D (l + j)).length) * 64) (by
        rw [hx]
        simp only [DataW.weights, Try.underlying22, bytesStep]
        exact List.mem_cons_self)
      simp only [List.length_map, List.length_range] at this ⊢
      omega
    simp only [List.getElem?_map, Option.map_eq_some_iff] at hr
    obtain ⟨i', hi', rfl⟩ := hr
    have hil : i < l := by have := (List.getElem?_eq_some_iff.1 hi').1; simpa using this
    obtain rfl : i = i' := by rw [List.getElem?_range hil] at hi'; exact Option.some.inj hi'
    obtain ⟨q1, q2⟩ := hf i hil
    obtain ⟨b, off, spot⟩ := ad
    have h1 := (hf 0 (by omega)).2 0 (.int .i64 (f 0).wh) rfl
    have hspot : spot = none := by simpa [Addr.add] using World.cell?_spot h1
    subst hspot
    refine ⟨q1 (fun m9 hm9 => hw m9 ?_), b, off, rfl, fun j u hu => ?_⟩
    · rw [hx]
      simp only [DataW.weights, Try.underlying22, List.mem_cons, List.mem_append]
      exact .inr (.inl (mem_weightsAll _ _ _ _ (D i) (List.mem_map.2 ⟨i, List.mem_range.2 hil, rfl⟩) hm9))
    · have := q2 j u hu
      rw [Addr.add_mid, show off + (i * 8 + j) = off + i * 8 + j by omega] at this
      exact this
end

end Go.Proofs.Ytkbdnebmekhcdaa

namespace Go.Proofs.Ytkbdnebmekhcdaa.ep
open Go Go.RowKit Go.ChangeShapes Go.WideShapes Go.ChangeAt
open Wd

set_option maxRecDepth 100000 in
theorem contract (H : Type) (enc : TypeId × Value → H) (W : World) (base : Nat) (args : Array Value) (ds gs : List (DataW H)) (before : List MemPlace)
    (hval : ∀ (j : Nat) t v, Try.f3.params[j]? = some t → args[j]? = some v → Value.okWide Try.prog W .any base t v)
    (hW : DataW.Whole enc Try.prog Try.f3.params.toList Rows.escrowPlaysSpec.vars false W args.toList ds gs before)
    (hsz : (DataW.weightsEach Try.prog (Try.f3.params.toList ++ (OpenSpec.ofChange Rows.escrowPlaysSpec).bare.plain.varTypes Try.prog) (ds ++ gs)).all (· ≤ reachBytes) = true) :
    Calls Try.prog 3 args W fun e W' => ∃ v, e = .returned v ∧ Rows.escrowPlaysSpec.post enc Try.prog Try.f3 false true false false W args v W' := by
  have hW' := hW
  obtain ⟨p, q, hA0, hV, rfl, hfz, hnd⟩ := hW
  have hA : DataW.TrodAll enc Try.prog W 0 (fun _ => true) true Try.f3.params.toList args.toList ds p := hA0
  rw [Try.params3] at hA hval hsz
  obtain ⟨v0, vs0, d0, ds0, p0, q0, hargs, rfl, rfl, h0, r0⟩ := trodAll_cons hA
  obtain ⟨rfl, rfl, rfl⟩ := trodAll_nil r0
  obtain rfl : args = #[v0] := by cases args; simp_all
  obtain ⟨rfl, rfl⟩ := trodVars_none hV
  have k0 := h0
  have lt0 : ∀ x ∈ p0, x.block < W.heap.size := by obtain ⟨m, hm⟩ := k0; exact DataW.trod_lt m _ _ _ hm
  obtain ⟨a0, len0, cap0, rfl⟩ := okWide_slice Try.underlying22 (hval 0 22 v0 rfl rfl)
  obtain ⟨rs0, B0, cb0, eb0, hb0⟩ := (fun ⟨fuel, hf⟩ => steps_f hf : (∃ _, _) → _) h0
  replace hb0 := hb0 (fun mm hmm => of_decide_eq_true (List.all_eq_true.1 hsz mm (DataW.weights_mem_each (j := 0) (t := 22) rfl rfl _ hmm)))
  simp only [Value.slice.injEq] at eb0
  obtain ⟨rfl, rfl, rfl⟩ := eb0
  clear hA0
  refine (plays5_walk rs0 a0 rs0.length cap0 rfl hb0.1 W hb0.2).mono fun e W' ⟨he, bel⟩ => ?_
  subst he
  exact ⟨_, rfl, _, _, _, [], _, [], hW', trodAll_mk1 (shut_bool Try.underlying4 _), (trodAll_cons_mk (Below.trod laidOut (by kernel_rfl) (of_decide_eq_true (by kernel_rfl)) k0 bel lt0) trodAll_mk0), rfl, bel.frame _, fun h => by cases h⟩

theorem laid_met (os : Os) : laidMet Try.prog Rows.escrowPlaysRow.laid (({ World.holding Try.prog os ⟨#[], #[], []⟩ with heap := (World.holding Try.prog os ⟨#[], #[], []⟩).heap } : World).forCall (fun _ _ => 0) ⟨#[], #[.slice none 0 0], []⟩).memory :=
  laidMet_of_run' 8 (by kernel_rfl) (by kernel_rfl)
theorem reads (os : Os) {H : Type} (enc : TypeId × Value → H) : ∃ places, DataW.whole enc Try.prog (({ World.holding Try.prog os ⟨#[], #[], []⟩ with heap := (World.holding Try.prog os ⟨#[], #[], []⟩).heap } : World).forCall (fun _ _ => 0) ⟨#[], #[.slice none 0 0], []⟩).memory Try.f3.params.toList Rows.escrowPlaysSpec.vars false (#[.slice none 0 0] : Array Value).toList 8 = some ([.nil], [], places) :=
  ⟨[], by kernel_rfl⟩

set_option maxRecDepth 100000 in
theorem lifted (os : Os) (started : os.Started) (H : Type) (enc : TypeId × Value → H) (F : Stop.Interp) :
    ReturnsInHanded {} Try.checked os 3 .any ((OpenSpec.ofChange Rows.escrowPlaysSpec).preRow enc Try.prog Try.f3 Rows.escrowPlaysRow.domain false Rows.escrowPlaysRow.laid) (((OpenSpec.ofChange Rows.escrowPlaysSpec).at F).post enc Try.prog Try.f3 false true false false) := by
  obtain ⟨places, hx⟩ := reads os enc
  refine returnsInHanded_of_row (C := Try.checked) (s := OpenSpec.ofChange Rows.escrowPlaysSpec) own started (by kernel_rfl) Try.func3
    (witness_row_at (enc := enc) (C := Try.checked) false ({ World.holding Try.prog os ⟨#[], #[], []⟩ with heap := (World.holding Try.prog os ⟨#[], #[], []⟩).heap } : World) #[.slice none 0 0] rfl (by kernel_rfl) (by kernel_rfl) (by kernel_rfl)
      (OpenSpec.preRow_of_cond 8 hx (by kernel_rfl) (fun k hk => by cases hk) (by kernel_rfl) (laid_met os))) ?_
  intro W base args ds gs before hval hW _ hc hsz hL _ _
  exact contract H enc W base args ds gs before hval hW hsz

theorem said : Rows.EscrowPlaysSaid :=
  OpenClaim.holds_of_cond 3 Try.f3 rfl rfl rfl rfl rfl rfl rfl ⟨rfl, rfl, rfl, rfl, rfl⟩ rfl rfl rfl rfl rfl (by kernel_rfl) Try.func3 (by kernel_rfl)
    (of_decide_eq_true (by kernel_rfl)) (by unfold Func.isWrapper; first | (rw [if_pos (by decide +kernel)]; kernel_rfl) | (rw [if_neg (by decide +kernel)]; exact ⟨rfl, rfl⟩))
    (fun os started H enc _ F => by rw [OpenClaim.pre_eq_preRow]; exact lifted os started H enc F)


end Go.Proofs.Ytkbdnebmekhcdaa.ep
