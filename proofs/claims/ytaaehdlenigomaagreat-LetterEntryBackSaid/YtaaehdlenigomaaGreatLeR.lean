/-
  LetterEntryBack: a Raw, bytes, a Bearer that came in.
-/
import Derived.Test.YtaaehdlenigomaaGreatLtJ
import Derived.Test.YtaaehdlenigomaaGreatRows
import Derived.ProofKit
import Derived.OpenShut
import Derived.ShutString
import Derived.ChangeOld
import Derived.SizedLaws
import Derived.ChangeMaps5
import Derived.Deep.Matrix
import Derived.Deep.DeepHandedRow
import Derived.Lib.LaidTab
namespace Go.Proofs.YtaaehdlenigomaaGreat.lb
open Go Go.RowKit Go.ChangeShapes Go.WideShapes Go.ChangeAt
open Sha

theorem own : ownKnob Tryz.prog.godebug = none := by kernel_rfl
theorem laidOut : laidOutB Tryz.prog = true := by kernel_rfl
theorem cellsInt : Tryz.prog.cellsOf 3 = 1 := by kernel_rfl
theorem cellsBool : Tryz.prog.cellsOf 4 = 1 := by kernel_rfl
theorem cellsU8 : Tryz.prog.cellsOf 5 = 1 := by kernel_rfl
theorem bytesU8 : Tryz.prog.bytesOf 5 = 1 := by kernel_rfl
theorem cellsU64 : Tryz.prog.cellsOf 24 = 1 := by kernel_rfl
theorem cellsWide : Tryz.prog.cellsOf 26 = 4 := by kernel_rfl
theorem cellsAdr : Tryz.prog.cellsOf 23 = 20 := by kernel_rfl
theorem cellsRaw : Tryz.prog.cellsOf 30 = 50 := by kernel_rfl
theorem cellsBear : Tryz.prog.cellsOf 32 = 22 := by kernel_rfl
def iOf : Value → Int
  | .int _ n => n
  | _ => 0
theorem mapM_each {α β : Type} {f : α → Option β} : ∀ (L : List α) (ys : List β), L.mapM f = some ys → ∀ i ∈ L, ∃ y, f i = some y
  | [], _, _, i, hi => by cases hi
  | a :: L, ys, h, i, hi => by
    rw [List.mapM_cons] at h
    simp only [bind, Option.bind_eq_some_iff, pure, Option.some.injEq] at h
    obtain ⟨y, hy, zs, hz, _⟩ := h
    rcases List.mem_cons.1 hi with rfl | hi
    · exact ⟨y, hy⟩
    · exact mapM_each L zs hz i hi

/-- A slice of bytes by its cells. -/
theorem bytes_of {W : World} {A : Option Addr} {L C : Nat} {Z : List Int} (hL : L ≤ C) (hZ : Z.length = C) (hw : ∀ n ∈ Z, (Lit.int .u8 n).wf = true) (h0 : A = none → C = 0) (hc : ∀ a', A = some a' → ∀ c, c < C → W.cell? (a'.add c) = some (.int .u8 (Z.getD c 0))) :
    ((Z.take L).map (BitVec.ofInt 8)).length = L ∧ SlAt W (.slice A L C) ((Z.take L).map (BitVec.ofInt 8)) := by
  have hl : ((Z.take L).map (BitVec.ofInt 8)).length = L := by simp; omega
  refine ⟨hl, ?_⟩
  by_cases hz : L = 0
  · subst hz; exact .inl ⟨by simp, _, _, rfl⟩
  · cases A with
    | none => have := h0 rfl; omega
    | some y =>
      obtain ⟨b, off, spot⟩ := y
      have hcell := hc _ rfl
      have h1 := hcell 0 (by omega)
      have hspot : spot = none := by simpa [Addr.add] using World.cell?_spot h1
      subst hspot
      refine .inr ⟨b, off, C, by rw [hl], by rw [hl]; exact hL, fun i v hv => ?_⟩
      have hi : i < L := by have := (List.getElem?_eq_some_iff.1 hv).1; rw [vB_length, hl] at this; exact this
      have h2 := hcell i (by omega)
      rw [Addr.add_mid] at h2
      rw [h2]
      have hw := hw (Z.getD i 0) (by rw [List.getD_eq_getElem?_getD, List.getElem?_eq_getElem (by omega)]; exact List.getElem_mem _)
      have hb := bounds_u8 hw
      rw [vB_get _ i (by rw [hl]; exact hi)] at hv
      rw [← hv]
      have e : ((Z.take L).map (BitVec.ofInt 8)).getD i 0 = BitVec.ofInt 8 (Z.getD i 0) := by
        simp [List.getElem?_take_of_lt hi, List.getElem?_eq_getElem (show i < Z.length by omega)]
      rw [e]
      unfold c
      rw [show ((BitVec.ofInt 8 (Z.getD i 0)).toNat : Int) = Z.getD i 0 from by rw [BitVec.toNat_ofInt]; omega]

section
variable {H : Type} {enc : TypeId × Value → H} {W : World} {base : Nat} {held : Bool} {n : Nat}
theorem int_f {v : Value} {y : DataW H × List MemPlace} (g : DataW.trod enc Tryz.prog W base (fun _ => true) held n 3 [v] = some y) : ∃ z, v = .int .i64 z ∧ -9223372036854775808 ≤ z ∧ z ≤ 9223372036854775807 := by
  obtain ⟨z, e, _, wz⟩ := DataW.trod_int Tryz.underlying3 g
  simp only [List.cons.injEq, and_true] at e
  exact ⟨z, e, bounds_i64 wz⟩
theorem bytes_f {v : Value} {y : DataW H × List MemPlace} (g : DataW.trod enc Tryz.prog W base (fun _ => true) held n 28 [v] = some y) : ∃ (d : List (BitVec 8)) (A : Option Addr) (cap : Nat), v = .slice A d.length cap ∧ SlAt W (.slice A d.length cap) d ∧ (A = none → cap = 0) ∧ ((∀ m ∈ y.1.weights Tryz.prog 28, m ≤ reachBytes) → d.length ≤ 140737488351232) := by
  have hrb : reachBytes = 140737488351232 := rfl
  rcases open_ints Tryz.underlying28 Tryz.underlying5 cellsU8 g with ⟨hcs, hy⟩ | ⟨a', L, C, Z, hcs, _, hl, hm, hz, hy, hcell, hwz⟩
  · simp only [List.cons.injEq, and_true] at hcs
    exact ⟨[], none, 0, hcs, .inl ⟨rfl, _, _, rfl⟩, fun _ => rfl, fun _ => Nat.zero_le _⟩
  · simp only [List.cons.injEq, and_true] at hcs
    simp only [if_true] at hz
    obtain ⟨hlen, hsl⟩ := bytes_of (W := W) (A := some a') hl hz hwz (fun h => by cases h) (fun a'' ha c hc => by cases ha; exact hcell c (by rw [hz]; exact hc))
    refine ⟨(Z.take L).map (BitVec.ofInt 8), some a', C, by rw [hlen]; exact hcs, by rw [hlen]; exact hsl, (fun h => by cases h), fun hw => ?_⟩
    have := hw (((Z.take L).length + (Z.drop L).length) * 1) (by
        rw [hy]
        simp only [DataW.weights, Tryz.underlying28, lits, List.length_map, bytesU8]
        exact List.mem_cons_self)
    simp only [List.length_take, List.length_drop, Nat.mul_one] at this
    rw [hlen]; omega
theorem bool_f {v : Value} {y : DataW H × List MemPlace} (g : DataW.trod enc Tryz.prog W base (fun _ => true) held n 4 [v] = some y) : ∃ b, v = .bool b := by
  obtain ⟨b, e, _⟩ := DataW.trod_bool Tryz.underlying4 g
  simp only [List.cons.injEq, and_true] at e
  exact ⟨b, e⟩
set_option maxRecDepth 100000 in
theorem wide_f {cs : List Value} {y : DataW H × List MemPlace} (hl : cs.length = 4) (h : DataW.trod enc Tryz.prog W base (fun _ => true) held n 26 cs = some y) : ∃ a b c d : Nat, cs = vQ [a, b, c, d] ∧ a < 18446744073709551616 ∧ b < 18446744073709551616 ∧ c < 18446744073709551616 ∧ d < 18446744073709551616 := by
  cases n with
  | zero => simp [DataW.trod] at h
  | succ m =>
    rw [DataW.trod_step] at h
    unfold DataW.trodStep at h
    simp only [Tryz.underlying26] at h
    rw [if_pos (by rw [cellsWide]; exact hl)] at h
    simp only [Option.map_eq_some_iff] at h
    obtain ⟨ys, hy, _⟩ := h
    have each := mapM_each _ _ hy
    have one : ∀ i, i < 4 → ∃ z : Nat, cs[i]? = some (.int .u64 (z : Int)) ∧ z < 18446744073709551616 := fun i h => by
      obtain ⟨y, hy⟩ := each i (List.mem_range.2 (by omega))
      rw [cellsU64, Nat.mul_one] at hy
      obtain ⟨z, hz, _, wz⟩ := DataW.trod_int Tryz.underlying24 hy
      have hb := bounds_u64 wz
      have hi : i < cs.length := by omega
      rw [List.drop_eq_getElem_cons hi, List.take_succ_cons, List.take_zero] at hz
      exact ⟨z.toNat, by rw [List.getElem?_eq_getElem hi, (List.cons.inj hz).1]; congr 2; omega, by omega⟩
    obtain ⟨a, ha, ba⟩ := one 0 (by decide)
    obtain ⟨b, hb, bb⟩ := one 1 (by decide)
    obtain ⟨c, hc, bc⟩ := one 2 (by decide)
    obtain ⟨d, hd, bd⟩ := one 3 (by decide)
    refine ⟨a, b, c, d, ?_, ba, bb, bc, bd⟩
    obtain ⟨x0, x1, x2, x3, rfl⟩ : ∃ x0 x1 x2 x3, cs = [x0, x1, x2, x3] := by
      match cs, hl with
      | [x0, x1, x2, x3], _ => exact ⟨x0, x1, x2, x3, rfl⟩
    simp only [List.getElem?_cons_zero, List.getElem?_cons_succ, Option.some.injEq] at ha hb hc hd
    rw [ha, hb, hc, hd]
    rfl
/-- An address. -/
theorem adr_f {cs : List Value} {y : DataW H × List MemPlace} (g : DataW.trod enc Tryz.prog W base (fun _ => true) held n 23 cs = some y) : ∃ l : List (BitVec 8), l.length = 20 ∧ cs = vB l := by
  cases n with
  | zero => simp [DataW.trod] at g
  | succ m =>
    rw [DataW.trod_step] at g
    unfold DataW.trodStep at g
    simp only [Tryz.underlying23] at g
    split at g
    · rename_i h2
      rw [cellsAdr] at h2
      simp only [Option.map_eq_some_iff] at g
      obtain ⟨ys, hy, _⟩ := g
      have each := mapM_each _ _ hy
      have key : ∀ i (h : i < cs.length), ∃ z, cs[i] = .int .u8 z ∧ 0 ≤ z ∧ z ≤ 255 := fun i h => by
        obtain ⟨y, hy⟩ := each i (List.mem_range.2 (by omega))
        rw [cellsU8, Nat.mul_one] at hy
        obtain ⟨z, hz, _, wz⟩ := DataW.trod_int Tryz.underlying5 hy
        have hb := bounds_u8 wz
        refine ⟨z, ?_, hb.1, hb.2⟩
        rw [List.drop_eq_getElem_cons h] at hz
        simp only [List.take_succ_cons, List.take_zero, List.cons.injEq, and_true] at hz
        exact hz
      refine ⟨cs.map (fun v => BitVec.ofInt 8 (iOf v)), by simp; omega, ?_⟩
      unfold vB
      rw [List.map_map]
      refine (List.ext_getElem (by simp) fun i h1 h2 => ?_)
      obtain ⟨z, hz, hz0, hz1⟩ := key i h1
      rw [List.getElem_map, hz]
      simp only [Function.comp_apply, iOf]
      unfold c
      rw [BitVec.toNat_ofInt]
      congr 1
      omega
    · cases g
end
theorem one_take (cs : List Value) (k : Nat) (h : k < cs.length) : (cs.drop k).take 1 = [cs.getD k undef] := by
  rw [List.drop_eq_getElem_cons h]
  simp only [List.take_succ_cons, List.take_zero, List.getD_eq_getElem?_getD, List.getElem?_eq_getElem h, Option.getD_some]
theorem cut_at (cs : List Value) (a n : Nat) : cs.drop a = (cs.drop a).take n ++ cs.drop (a + n) := by
  rw [← List.drop_drop, List.take_append_drop]
/-- A Raw's cells. -/
def raw (k tk nm gs : Int) (fr rc : List (BitVec 8)) (am : List Nat) (x y : Value) : List Value := .int .i64 k :: .int .i64 tk :: .int .i64 nm :: .int .i64 gs :: (vB fr ++ (vB rc ++ (vQ am ++ [x, y])))
/-- A Bearer's cells. -/
def bear (sd : List (BitVec 8)) (t : Int) (b : Bool) : List Value := vB sd ++ [.int .i64 t, .bool b]
set_option maxRecDepth 100000 in
theorem raw_f {H : Type} {enc : TypeId × Value → H} {W : World} {base : Nat} {held : Bool} {fuel : Nat} {cs : List Value} {y : DataW H × List MemPlace} (hcl : cs.length = 50) (hf : DataW.trod enc Tryz.prog W base (fun _ => true) held fuel 30 cs = some y) :
    ∃ (k tk nm gs : Int) (fr rc : List (BitVec 8)) (am : List Nat) (x z : Value), cs = raw k tk nm gs fr rc am x z ∧ (-9223372036854775808 ≤ tk ∧ tk ≤ 9223372036854775807) ∧ (-9223372036854775808 ≤ gs ∧ gs ≤ 9223372036854775807) ∧ fr.length = 20 ∧ rc.length = 20 ∧ am.length = 4 ∧ ∀ x ∈ am, x < 18446744073709551616 := by
  obtain ⟨xs, k, hk, hxy, _, hxl, hff⟩ := DataW.trod_struct Tryz.underlying30 hf
  change ∀ (i : Nat) (f : Field), _ → DataW.trod enc Tryz.prog W base (fun _ => true) held k f.type ((cs.drop f.offset).take (Tryz.prog.cellsOf f.type)) = xs[i]? at hff
  obtain ⟨y0, y1, y2, y3, y4, y5, y6, y7, y8, rfl⟩ : ∃ y0 y1 y2 y3 y4 y5 y6 y7 y8, xs = [y0, y1, y2, y3, y4, y5, y6, y7, y8] := by
    match xs, hxl with
    | [y0, y1, y2, y3, y4, y5, y6, y7, y8], _ => exact ⟨y0, y1, y2, y3, y4, y5, y6, y7, y8, rfl⟩
  have g0 := hff 0 _ rfl
  change DataW.trod enc Tryz.prog W base (fun _ => true) held k 3 ((cs.drop 0).take (Tryz.prog.cellsOf 3)) = some y0 at g0
  rw [cellsInt, one_take cs 0 (by omega)] at g0
  obtain ⟨kk, e0, b0, c0⟩ := int_f g0
  have g1 := hff 1 _ rfl
  change DataW.trod enc Tryz.prog W base (fun _ => true) held k 3 ((cs.drop 1).take (Tryz.prog.cellsOf 3)) = some y1 at g1
  rw [cellsInt, one_take cs 1 (by omega)] at g1
  obtain ⟨tk, e1, b1, c1⟩ := int_f g1
  have g2 := hff 2 _ rfl
  change DataW.trod enc Tryz.prog W base (fun _ => true) held k 3 ((cs.drop 2).take (Tryz.prog.cellsOf 3)) = some y2 at g2
  rw [cellsInt, one_take cs 2 (by omega)] at g2
  obtain ⟨nm, e2, b2, c2⟩ := int_f g2
  have g3 := hff 3 _ rfl
  change DataW.trod enc Tryz.prog W base (fun _ => true) held k 3 ((cs.drop 3).take (Tryz.prog.cellsOf 3)) = some y3 at g3
  rw [cellsInt, one_take cs 3 (by omega)] at g3
  obtain ⟨gs, e3, b3, c3⟩ := int_f g3
  have g4 := hff 4 _ rfl
  change DataW.trod enc Tryz.prog W base (fun _ => true) held k 23 ((cs.drop 4).take (Tryz.prog.cellsOf 23)) = some y4 at g4
  rw [cellsAdr] at g4
  obtain ⟨fr, l4, e4⟩ := adr_f g4
  have g5 := hff 5 _ rfl
  change DataW.trod enc Tryz.prog W base (fun _ => true) held k 23 ((cs.drop 24).take (Tryz.prog.cellsOf 23)) = some y5 at g5
  rw [cellsAdr] at g5
  obtain ⟨rc, l5, e5⟩ := adr_f g5
  have g6 := hff 6 _ rfl
  change DataW.trod enc Tryz.prog W base (fun _ => true) held k 26 ((cs.drop 44).take (Tryz.prog.cellsOf 26)) = some y6 at g6
  rw [cellsWide] at g6
  obtain ⟨m0, m1, m2, m3, e6, q0, q1, q2, q3⟩ := wide_f (by simp only [List.length_take, List.length_drop]; omega) g6
  obtain ⟨x8, hx8⟩ : ∃ x, cs.getD 48 undef = x := ⟨_, rfl⟩
  obtain ⟨x9, hx9⟩ : ∃ x, cs.getD 49 undef = x := ⟨_, rfl⟩
  refine ⟨kk, tk, nm, gs, fr, rc, [m0, m1, m2, m3], x8, x9, ?_, ⟨b1, c1⟩, ⟨b3, c3⟩, l4, l5, rfl, by simp only [List.mem_cons, List.not_mem_nil, or_false]; rintro x (rfl | rfl | rfl | rfl) <;> assumption⟩
  have h0 := cut_at cs 0 1
  rw [one_take cs 0 (by omega), e0, List.drop_zero] at h0
  rw [h0, cut_at cs 1 1, one_take cs 1 (by omega), e1, cut_at cs 2 1, one_take cs 2 (by omega), e2, cut_at cs 3 1, one_take cs 3 (by omega), e3, cut_at cs 4 20, e4, cut_at cs 24 20, e5, cut_at cs 44 4, e6, cut_at cs 48 1, one_take cs 48 (by omega), hx8, cut_at cs 49 1, one_take cs 49 (by omega), hx9, List.drop_eq_nil_of_le (by omega : cs.length ≤ 49 + 1)]
  rfl
set_option maxRecDepth 100000 in
theorem bear_f {H : Type} {enc : TypeId × Value → H} {W : World} {base : Nat} {held : Bool} {fuel : Nat} {cs : List Value} {y : DataW H × List MemPlace} (hcl : cs.length = 22) (hf : DataW.trod enc Tryz.prog W base (fun _ => true) held fuel 32 cs = some y) :
    ∃ (sd : List (BitVec 8)) (t : Int) (b : Bool), cs = bear sd t b ∧ sd.length = 20 ∧ (-9223372036854775808 ≤ t ∧ t ≤ 9223372036854775807) := by
  obtain ⟨xs, k, hk, hxy, _, hxl, hff⟩ := DataW.trod_struct Tryz.underlying32 hf
  change ∀ (i : Nat) (f : Field), _ → DataW.trod enc Tryz.prog W base (fun _ => true) held k f.type ((cs.drop f.offset).take (Tryz.prog.cellsOf f.type)) = xs[i]? at hff
  obtain ⟨y0, y1, y2, rfl⟩ : ∃ y0 y1 y2, xs = [y0, y1, y2] := by
    match xs, hxl with
    | [y0, y1, y2], _ => exact ⟨y0, y1, y2, rfl⟩
  have g0 := hff 0 _ rfl
  change DataW.trod enc Tryz.prog W base (fun _ => true) held k 23 ((cs.drop 0).take (Tryz.prog.cellsOf 23)) = some y0 at g0
  rw [cellsAdr] at g0
  obtain ⟨sd, l0, e0⟩ := adr_f g0
  have g1 := hff 1 _ rfl
  change DataW.trod enc Tryz.prog W base (fun _ => true) held k 3 ((cs.drop 20).take (Tryz.prog.cellsOf 3)) = some y1 at g1
  rw [cellsInt, one_take cs 20 (by omega)] at g1
  obtain ⟨t, e1, b1, c1⟩ := int_f g1
  have g2 := hff 2 _ rfl
  change DataW.trod enc Tryz.prog W base (fun _ => true) held k 4 ((cs.drop 21).take (Tryz.prog.cellsOf 4)) = some y2 at g2
  rw [cellsBool, one_take cs 21 (by omega)] at g2
  obtain ⟨b, e2⟩ := bool_f g2
  refine ⟨sd, t, b, ?_, l0, b1, c1⟩
  have h0 := cut_at cs 0 20
  rw [e0, List.drop_zero] at h0
  rw [h0, cut_at cs 20 1, one_take cs 20 (by omega), e1, cut_at cs 21 1, one_take cs 21 (by omega), e2, List.drop_eq_nil_of_le (by omega : cs.length ≤ 21 + 1)]
  rfl

end Go.Proofs.YtaaehdlenigomaaGreat.lb
