/-
  A list of Steps that came in.
-/
import Derived.Test.YtmkmdbpibpbcjaaXInt
import Derived.Test.YtmkmdbpibpbcjaaRows
import Derived.ProofKit
import Derived.OpenShut
import Derived.ShutString
import Derived.ChangeOld
import Derived.SizedLaws
import Derived.Deep.DeepHandedRow
import Derived.Lib.LaidTab
import Derived.Test.YtmkmdbpibpbcjaaXLaysK
import Derived.Test.YtmkmdbpibpbcjaaXRd2
import Derived.ChangeMaps5
import Derived.Deep.Matrix

namespace Go.Proofs.Ytmkmdbpibpbcjaa
open Go Go.RowKit Go.ChangeShapes Go.WideShapes Go.ChangeAt
open Sha

theorem own : ownKnob Try.prog.godebug = none := by kernel_rfl
theorem laidOut : laidOutB Try.prog = true := by kernel_rfl
theorem cellsInt : Try.prog.cellsOf 3 = 1 := by kernel_rfl
theorem bytesInt : Try.prog.bytesOf 3 = 8 := by kernel_rfl
theorem ints_in {H : Type} {enc : TypeId × Value → H} {W : World} {base : Nat} {held : Bool} {fuel : Nat} {a : Option Addr} {len cap : Nat} {x : DataW H × List MemPlace} {ts : List TypeId} {ds : List (DataW H)} {j : Nat}
    (h : DataW.trod enc Try.prog W base (fun _ => true) held fuel 31 (Value.slice a len cap).cells.toList = some x)
    (hsz : (DataW.weightsEach Try.prog ts ds).all (· ≤ reachBytes) = true) (ht : ts[j]? = some 31) (hd : ds[j]? = some x.1) :
    ∃ zs : List Int, zs.length = len ∧ len * 8 ≤ reachBytes ∧ (∀ i, i < len → zs.getD i 0 < 9223372036854775808) ∧ InAt W a zs := by
  rcases open_ints Try.underlying31 Try.underlying3 cellsInt h with ⟨hcs, _⟩ | ⟨y, l, c', zs, hcs, _, hl, hm, hz, hx, hcell, hwz⟩
  · simp [Value.cells] at hcs
    obtain ⟨rfl, rfl, rfl⟩ := hcs
    exact ⟨[], rfl, Nat.zero_le _, fun i hi => by omega, .inl rfl⟩
  · simp [Value.cells] at hcs
    obtain ⟨rfl, rfl, rfl⟩ := hcs
    simp only [if_true] at hz
    have hreach := sized_slice hsz (j := j) (t := 31) (e := 3) ht (by rw [hd, hx]) Try.underlying31
    rw [bytesInt] at hreach
    simp only [lits, List.length_map, List.length_take, List.length_drop] at hreach
    refine ⟨zs.take len, by simp; omega, by omega, fun i hi => ?_, ?_⟩
    · have e : (zs.take len).getD i 0 = zs.getD i 0 := by simp [List.getElem?_take_of_lt hi]
      rw [e]
      have := (bounds_i64 (hwz (zs.getD i 0) (by rw [List.getD_eq_getElem?_getD, List.getElem?_eq_getElem (by omega)]; exact List.getElem_mem _))).2
      omega
    by_cases h0 : len = 0
    · subst h0; exact .inl (by simp)
    · obtain ⟨b, off, spot⟩ := y
      have hc := hcell 0 (by omega)
      have hspot : spot = none := by simpa [Addr.add] using World.cell?_spot hc
      subst hspot
      refine .inr ⟨b, off, rfl, fun i v hv => ?_⟩
      have hi : i < len := by have := (List.getElem?_eq_some_iff.1 hv).1; simp [vI] at this; omega
      have h1 := hcell i (by omega)
      rw [Addr.add_mid] at h1
      rw [h1]
      rw [← hv]
      simp [vI, List.getElem?_take_of_lt hi, List.getElem?_eq_getElem (show i < zs.length by omega)]

end Go.Proofs.Ytmkmdbpibpbcjaa

namespace Go.Proofs.Ytmkmdbpibpbcjaa
open Go Go.RowKit Go.ChangeShapes Go.WideShapes Go.ChangeAt
open Sha

theorem cellsU8 : Try.prog.cellsOf 5 = 1 := by kernel_rfl
theorem bytesU8 : Try.prog.bytesOf 5 = 1 := by kernel_rfl
theorem cellsU64 : Try.prog.cellsOf 28 = 1 := by kernel_rfl
theorem cellsWide : Try.prog.cellsOf 30 = 4 := by kernel_rfl
theorem cellsS : Try.prog.cellsOf 27 = 1 := by kernel_rfl
theorem cellsIs : Try.prog.cellsOf 31 = 1 := by kernel_rfl
theorem cellsStep : Try.prog.cellsOf 33 = 8 := by kernel_rfl
theorem mapM_each {α β : Type} {f : α → Option β} : ∀ (L : List α) (ys : List β), L.mapM f = some ys → ∀ i ∈ L, ∃ y, f i = some y
  | [], _, _, i, hi => by cases hi
  | a :: L, ys, h, i, hi => by
    rw [List.mapM_cons] at h
    simp only [bind, Option.bind_eq_some_iff, pure, Option.some.injEq] at h
    obtain ⟨y, hy, zs, hz, _⟩ := h
    rcases List.mem_cons.1 hi with rfl | hi
    · exact ⟨y, hy⟩
    · exact mapM_each L zs hz i hi

/-- A slice of bytes by its cells. -/
theorem bytes_of {W : World} {A : Option Addr} {L C : Nat} {Z : List Int} (hL : L ≤ C) (hZ : Z.length = C) (hw : ∀ n ∈ Z, (Lit.int .u8 n).wf = true) (h0 : A = none → C = 0) (hc : ∀ a', A = some a' → ∀ c, c < C → W.cell? (a'.add c) = some (.int .u8 (Z.getD c 0))) :
    ((Z.take L).map (BitVec.ofInt 8)).length = L ∧ SlAt W (.slice A L C) ((Z.take L).map (BitVec.ofInt 8)) := by
  have hl : ((Z.take L).map (BitVec.ofInt 8)).length = L := by simp; omega
  refine ⟨hl, ?_⟩
  by_cases hz : L = 0
  · subst hz; exact .inl ⟨by simp, _, _, rfl⟩
  · cases A with
    | none => have := h0 rfl; omega
    | some y =>
      obtain ⟨b, off, spot⟩ := y
      have hcell := hc _ rfl
      have h1 := hcell 0 (by omega)
      have hspot : spot = none := by simpa [Addr.add] using World.cell?_spot h1
      subst hspot
      refine .inr ⟨b, off, C, by rw [hl], by rw [hl]; exact hL, fun i v hv => ?_⟩
      have hi : i < L := by have := (List.getElem?_eq_some_iff.1 hv).1; rw [vB_length, hl] at this; exact this
      have h2 := hcell i (by omega)
      rw [Addr.add_mid] at h2
      rw [h2]
      have hw := hw (Z.getD i 0) (by rw [List.getD_eq_getElem?_getD, List.getElem?_eq_getElem (by omega)]; exact List.getElem_mem _)
      have hb := bounds_u8 hw
      rw [vB_get _ i (by rw [hl]; exact hi)] at hv
      rw [← hv]
      have e : ((Z.take L).map (BitVec.ofInt 8)).getD i 0 = BitVec.ofInt 8 (Z.getD i 0) := by
        simp [List.getElem?_take_of_lt hi, List.getElem?_eq_getElem (show i < Z.length by omega)]
      rw [e]
      unfold c
      rw [show ((BitVec.ofInt 8 (Z.getD i 0)).toNat : Int) = Z.getD i 0 from by rw [BitVec.toNat_ofInt]; omega]

section
variable {H : Type} {enc : TypeId × Value → H} {W : World} {base : Nat} {held : Bool} {n : Nat}
/-- A number. -/
theorem int_f {v : Value} {y : DataW H × List MemPlace} (g : DataW.trod enc Try.prog W base (fun _ => true) held n 3 [v] = some y) : ∃ z, v = .int .i64 z ∧ -9223372036854775808 ≤ z ∧ z ≤ 9223372036854775807 := by
  obtain ⟨z, e, _, wz⟩ := DataW.trod_int Try.underlying3 g
  simp only [List.cons.injEq, and_true] at e
  exact ⟨z, e, bounds_i64 wz⟩
theorem bytes_f {v : Value} {y : DataW H × List MemPlace} (g : DataW.trod enc Try.prog W base (fun _ => true) held n 27 [v] = some y) : ∃ (d : List (BitVec 8)) (A : Option Addr) (cap : Nat), v = .slice A d.length cap ∧ SlAt W (.slice A d.length cap) d ∧ (A = none → cap = 0) ∧ ((∀ m ∈ y.1.weights Try.prog 27, m ≤ reachBytes) → d.length ≤ 140737488351232) := by
  have hrb : reachBytes = 140737488351232 := rfl
  rcases open_ints Try.underlying27 Try.underlying5 cellsU8 g with ⟨hcs, hy⟩ | ⟨a', L, C, Z, hcs, _, hl, hm, hz, hy, hcell, hwz⟩
  · simp only [List.cons.injEq, and_true] at hcs
    exact ⟨[], none, 0, hcs, .inl ⟨rfl, _, _, rfl⟩, fun _ => rfl, fun _ => Nat.zero_le _⟩
  · simp only [List.cons.injEq, and_true] at hcs
    simp only [if_true] at hz
    obtain ⟨hlen, hsl⟩ := bytes_of (W := W) (A := some a') hl hz hwz (fun h => by cases h) (fun a'' ha c hc => by cases ha; exact hcell c (by rw [hz]; exact hc))
    refine ⟨(Z.take L).map (BitVec.ofInt 8), some a', C, by rw [hlen]; exact hcs, by rw [hlen]; exact hsl, (fun h => by cases h), fun hw => ?_⟩
    have := hw (((Z.take L).length + (Z.drop L).length) * 1) (by
        rw [hy]
        simp only [DataW.weights, Try.underlying27, lits, List.length_map, bytesU8]
        exact List.mem_cons_self)
    simp only [List.length_take, List.length_drop, Nat.mul_one] at this
    rw [hlen]; omega
theorem ints_f {v : Value} {y : DataW H × List MemPlace} (g : DataW.trod enc Try.prog W base (fun _ => true) held n 31 [v] = some y) : ∃ (A : Option Addr) (l cap : Nat), v = .slice A l cap ∧ ((∀ m ∈ y.1.weights Try.prog 31, m ≤ reachBytes) → l ≤ 140737488351232) := by
  have hrb : reachBytes = 140737488351232 := rfl
  rcases open_ints Try.underlying31 Try.underlying3 cellsInt g with ⟨hcs, hy⟩ | ⟨a', L, C, Z, hcs, _, hl, hm, hz, hy, hcell, hwz⟩
  · simp only [List.cons.injEq, and_true] at hcs
    exact ⟨none, 0, 0, hcs, fun _ => Nat.zero_le _⟩
  · simp only [List.cons.injEq, and_true] at hcs
    simp only [if_true] at hz
    refine ⟨some a', L, C, hcs, fun hw => ?_⟩
    have := hw (((Z.take L).length + (Z.drop L).length) * 8) (by
        rw [hy]
        simp only [DataW.weights, Try.underlying31, lits, List.length_map, bytesInt]
        exact List.mem_cons_self)
    simp only [List.length_take, List.length_drop] at this
    omega
set_option maxRecDepth 100000 in
theorem wide_f {cs : List Value} {y : DataW H × List MemPlace} (hl : cs.length = 4) (h : DataW.trod enc Try.prog W base (fun _ => true) held n 30 cs = some y) : ∃ a b c d : Nat, cs = q4 a b c d ∧ a < 18446744073709551616 ∧ b < 18446744073709551616 ∧ c < 18446744073709551616 ∧ d < 18446744073709551616 := by
  cases n with
  | zero => simp [DataW.trod] at h
  | succ m =>
    rw [DataW.trod_step] at h
    unfold DataW.trodStep at h
    simp only [Try.underlying30] at h
    rw [if_pos (by rw [cellsWide]; exact hl)] at h
    simp only [Option.map_eq_some_iff] at h
    obtain ⟨ys, hy, _⟩ := h
    have each := mapM_each _ _ hy
    have one : ∀ i, i < 4 → ∃ z : Nat, cs[i]? = some (.int .u64 (z : Int)) ∧ z < 18446744073709551616 := fun i h => by
      obtain ⟨y, hy⟩ := each i (List.mem_range.2 (by omega))
      rw [cellsU64, Nat.mul_one] at hy
      obtain ⟨z, hz, _, wz⟩ := DataW.trod_int Try.underlying28 hy
      have hb := bounds_u64 wz
      have hi : i < cs.length := by omega
      rw [List.drop_eq_getElem_cons hi, List.take_succ_cons, List.take_zero] at hz
      exact ⟨z.toNat, by rw [List.getElem?_eq_getElem hi, (List.cons.inj hz).1]; congr 2; omega, by omega⟩
    obtain ⟨a, ha, ba⟩ := one 0 (by decide)
    obtain ⟨b, hb, bb⟩ := one 1 (by decide)
    obtain ⟨c, hc, bc⟩ := one 2 (by decide)
    obtain ⟨d, hd, bd⟩ := one 3 (by decide)
    refine ⟨a, b, c, d, ?_, ba, bb, bc, bd⟩
    obtain ⟨x0, x1, x2, x3, rfl⟩ : ∃ x0 x1 x2 x3, cs = [x0, x1, x2, x3] := by
      match cs, hl with
      | [x0, x1, x2, x3], _ => exact ⟨x0, x1, x2, x3, rfl⟩
    simp only [List.getElem?_cons_zero, List.getElem?_cons_succ, Option.some.injEq] at ha hb hc hd
    rw [ha, hb, hc, hd]
end
theorem one_take (cs : List Value) (k : Nat) (h : k < cs.length) : (cs.drop k).take 1 = [cs.getD k undef] := by
  rw [List.drop_eq_getElem_cons h]
  simp only [List.take_succ_cons, List.take_zero, List.getD_eq_getElem?_getD, List.getElem?_eq_getElem h, Option.getD_some]

end Go.Proofs.Ytmkmdbpibpbcjaa

namespace Go.Proofs.Ytmkmdbpibpbcjaa
open Go Go.RowKit Go.ChangeShapes Go.WideShapes Go.ChangeAt
open Sha

/-- A Step. -/
structure SV where
  K : Int
  N : Int
  d : List (BitVec 8)
  B : Option Addr
  cb : Nat
  m0 : Nat
  m1 : Nat
  m2 : Nat
  m3 : Nat
  L : Option Addr
  ns : List Int
  cl : Nat
def sv0 : SV := ⟨0, 0, [], none, 0, 0, 0, 0, 0, none, [], 0⟩
def SV.cells (s : SV) : List Value := sc s.K s.N (.slice s.B s.d.length s.cb) s.m0 s.m1 s.m2 s.m3 (.slice s.L s.ns.length s.cl)
theorem SV.len (s : SV) : s.cells.length = 8 := rfl
/-- What is known of it. -/
structure SV.ok (W : World) (s : SV) : Prop where
  k1 : -9223372036854775808 ≤ s.K
  k2 : s.K ≤ 9223372036854775807
  n1 : -9223372036854775808 ≤ s.N
  n2 : s.N ≤ 9223372036854775807
  sl : SlAt W (.slice s.B s.d.length s.cb) s.d
  nil : s.B = none → s.cb = 0
  dl : s.d.length ≤ 140737488351232
  h0 : s.m0 < 18446744073709551616
  h1 : s.m1 < 18446744073709551616
  h2 : s.m2 < 18446744073709551616
  h3 : s.m3 < 18446744073709551616
  li : InAt W s.L s.ns
  ll : s.ns.length * 8 ≤ 140737488351232
  lc : s.ns.length ≤ s.cl
  lnil : s.L = none → s.cl = 0
  lb : ∀ i, i < s.ns.length → -9223372036854775808 ≤ s.ns.getD i 0 ∧ s.ns.getD i 0 < 9223372036854775808
theorem SV.ok.be {W W' : World} {s : SV} (h : s.ok W) (k : Below W.heap.size W W') : s.ok W' := { h with sl := h.sl.be k, li := h.li.be k }
/-- The list, wherever it lies. -/
structure Sps (W : World) (A : Option Addr) (n : Nat) (ss : List SV) : Prop where
  num : ss.length = n
  each : ∀ i, i < n → (ss.getD i sv0).ok W
  at' : 0 < n → ∃ b o, A = some ⟨b, o, none⟩ ∧ ∀ i, i < n → ∀ q v, (ss.getD i sv0).cells[q]? = some v → W.cell? ⟨b, o + i * 8 + q, none⟩ = some v
theorem Sps.be {W W' : World} {A : Option Addr} {n : Nat} {ss : List SV} (h : Sps W A n ss) (k : Below W.heap.size W W') : Sps W' A n ss :=
  ⟨h.num, fun i hi => (h.each i hi).be k, fun hn => by
    obtain ⟨b, o, e, hc⟩ := h.at' hn
    exact ⟨b, o, e, fun i hi q v hq => cell_be (hc i hi q v hq) k⟩⟩

section
variable {H : Type} {enc : TypeId × Value → H} {W : World} {base : Nat} {held : Bool} {n : Nat}
theorem ints_g {v : Value} {y : DataW H × List MemPlace} (g : DataW.trod enc Try.prog W base (fun _ => true) held n 31 [v] = some y) : ∃ (A : Option Addr) (zs : List Int) (cap : Nat), v = .slice A zs.length cap ∧ zs.length ≤ cap ∧ (A = none → cap = 0) ∧ InAt W A zs ∧ (∀ i, i < zs.length → -9223372036854775808 ≤ zs.getD i 0 ∧ zs.getD i 0 < 9223372036854775808) ∧ ((∀ m ∈ y.1.weights Try.prog 31, m ≤ reachBytes) → zs.length * 8 ≤ 140737488351232) := by
  have hrb : reachBytes = 140737488351232 := rfl
  rcases open_ints Try.underlying31 Try.underlying3 cellsInt g with ⟨hcs, hy⟩ | ⟨a', L, C, Z, hcs, _, hl, hm, hz, hy, hcell, hwz⟩
  · simp only [List.cons.injEq, and_true] at hcs
    exact ⟨none, [], 0, hcs, Nat.le_refl _, fun _ => rfl, .inl rfl, (fun i hi => by simp at hi), fun _ => Nat.zero_le _⟩
  · simp only [List.cons.injEq, and_true] at hcs
    simp only [if_true] at hz
    have hlen : (Z.take L).length = L := by simp; omega
    refine ⟨some a', Z.take L, C, by rw [hlen]; exact hcs, by rw [hlen]; exact hl, (fun h => by cases h), ?_, fun i hi => ?_, fun hw => ?_⟩
    · by_cases h0 : L = 0
      · subst h0; exact .inl (by simp)
      · obtain ⟨b, off, spot⟩ := a'
        have hc := hcell 0 (by omega)
        have hspot : spot = none := by simpa [Addr.add] using World.cell?_spot hc
        subst hspot
        refine .inr ⟨b, off, rfl, fun i v hv => ?_⟩
        have hi : i < L := by have := (List.getElem?_eq_some_iff.1 hv).1; simp [vI] at this; omega
        have h1 := hcell i (by omega)
        rw [Addr.add_mid] at h1
        rw [h1]
        rw [← hv]
        simp [vI, List.getElem?_take_of_lt hi, List.getElem?_eq_getElem (show i < Z.length by omega)]
    · rw [hlen] at hi
      have e : (Z.take L).getD i 0 = Z.getD i 0 := by simp [List.getElem?_take_of_lt hi]
      rw [e]
      have := bounds_i64 (hwz (Z.getD i 0) (by rw [List.getD_eq_getElem?_getD, List.getElem?_eq_getElem (by omega)]; exact List.getElem_mem _))
      omega
    · have := hw (((Z.take L).length + (Z.drop L).length) * 8) (by
        rw [hy]
        simp only [DataW.weights, Try.underlying31, lits, List.length_map, bytesInt]
        exact List.mem_cons_self)
      simp only [List.length_take, List.length_drop] at this
      rw [hlen]; omega
end

set_option maxRecDepth 100000 in
/-- The cells of a Step. -/
theorem step_f {H : Type} {enc : TypeId × Value → H} {W : World} {base : Nat} {held : Bool} {n : Nat} {cs : List Value} {y : DataW H × List MemPlace} (hcl : cs.length = 8) (hf : DataW.trod enc Try.prog W base (fun _ => true) held n 33 cs = some y) :
    ∃ s : SV, cs = s.cells ∧ ((∀ m ∈ y.1.weights Try.prog 33, m ≤ reachBytes) → s.ok W) := by
  obtain ⟨xs, k, hk, hxy, _, hxl, hff⟩ := DataW.trod_struct Try.underlying33 hf
  change ∀ (i : Nat) (f : Field), _ → DataW.trod enc Try.prog W base (fun _ => true) held k f.type ((cs.drop f.offset).take (Try.prog.cellsOf f.type)) = xs[i]? at hff
  obtain ⟨y0, y1, y2, y3, y4, rfl⟩ : ∃ y0 y1 y2 y3 y4, xs = [y0, y1, y2, y3, y4] := by
    match xs, hxl with
    | [y0, y1, y2, y3, y4], _ => exact ⟨y0, y1, y2, y3, y4, rfl⟩
  have g0 := hff 0 _ rfl
  change DataW.trod enc Try.prog W base (fun _ => true) held k 3 ((cs.drop 0).take (Try.prog.cellsOf 3)) = some y0 at g0
  rw [cellsInt, one_take cs 0 (by omega)] at g0
  obtain ⟨K, e0, K1, K2⟩ := int_f g0
  have g1 := hff 1 _ rfl
  change DataW.trod enc Try.prog W base (fun _ => true) held k 3 ((cs.drop 1).take (Try.prog.cellsOf 3)) = some y1 at g1
  rw [cellsInt, one_take cs 1 (by omega)] at g1
  obtain ⟨N, e1, N1, N2⟩ := int_f g1
  have g2 := hff 2 _ rfl
  change DataW.trod enc Try.prog W base (fun _ => true) held k 27 ((cs.drop 2).take (Try.prog.cellsOf 27)) = some y2 at g2
  rw [cellsS, one_take cs 2 (by omega)] at g2
  obtain ⟨d, B, cb, e2, sl, nil, wt⟩ := bytes_f g2
  have g3 := hff 3 _ rfl
  change DataW.trod enc Try.prog W base (fun _ => true) held k 30 ((cs.drop 3).take (Try.prog.cellsOf 30)) = some y3 at g3
  rw [cellsWide] at g3
  obtain ⟨m0, m1, m2, m3, e3, b0, b1, b2, b3⟩ := wide_f (by simp; omega) g3
  have g4 := hff 4 _ rfl
  change DataW.trod enc Try.prog W base (fun _ => true) held k 31 ((cs.drop 7).take (Try.prog.cellsOf 31)) = some y4 at g4
  rw [cellsIs, one_take cs 7 (by omega)] at g4
  obtain ⟨L, zs, cl, e4, lc, lnil, li, lb, wl⟩ := ints_g g4
  have hx1 := congrArg Prod.fst hxy
  simp only at hx1
  refine ⟨⟨K, N, d, B, cb, m0, m1, m2, m3, L, zs, cl⟩, ?_, fun hw => ⟨K1, K2, N1, N2, sl, nil, ?_, b0, b1, b2, b3, li, ?_, lc, lnil, lb⟩⟩
  · obtain ⟨x0, x1, x2, x3, x4, x5, x6, x7, rfl⟩ : ∃ x0 x1 x2 x3 x4 x5 x6 x7, cs = [x0, x1, x2, x3, x4, x5, x6, x7] := by
      match cs, hcl with
      | [x0, x1, x2, x3, x4, x5, x6, x7], _ => exact ⟨x0, x1, x2, x3, x4, x5, x6, x7, rfl⟩
    simp only [List.getD_cons_zero, List.getD_cons_succ] at e0 e1 e2 e4
    simp only [q4, List.drop_succ_cons, List.drop_zero, List.take_succ_cons, List.take_zero, List.cons.injEq, and_true] at e3
    rw [e0, e1, e2, e4, e3.1, e3.2.1, e3.2.2.1, e3.2.2.2]
    rfl
  · exact wt (fun mm hmm => hw mm (by
      rw [hx1]
      simp only [List.map_cons, List.map_nil, DataW.weights, Try.underlying33, DataW.weightsEach, List.mem_append]
      exact .inr (.inr (.inl hmm))))
  · exact wl (fun mm hmm => hw mm (by
      rw [hx1]
      simp only [List.map_cons, List.map_nil, DataW.weights, Try.underlying33, DataW.weightsEach, List.mem_append]
      exact .inr (.inr (.inr (.inr (.inl hmm))))))

theorem bytesStep : Try.prog.bytesOf 33 = 96 := by kernel_rfl
theorem weights_all {H : Type} {t : TypeId} : ∀ (L : List (DataW H)) (x : DataW H), x ∈ L → ∀ m, m ∈ x.weights Try.prog t → m ∈ DataW.weightsAll Try.prog t L
  | [], x, h => by cases h
  | y :: L, x, h => fun m hm => by
    simp only [DataW.weightsAll, List.mem_append]
    rcases List.mem_cons.1 h with rfl | h
    · exact .inl hm
    · exact .inr (weights_all L x h m hm)
theorem range_getD {α : Type} (f : Nat → α) (z : α) (n i : Nat) (h : i < n) : ((List.range n).map f).getD i z = f i := by simp [h]

set_option maxRecDepth 100000 in
theorem steps_in {H : Type} {enc : TypeId × Value → H} {W : World} {base : Nat} {held : Bool} {fuel : Nat} {a : Option Addr} {len cap : Nat} {x : DataW H × List MemPlace} {ts : List TypeId} {ds : List (DataW H)} {j : Nat}
    (h : DataW.trod enc Try.prog W base (fun _ => true) held fuel 23 (Value.slice a len cap).cells.toList = some x)
    (hsz : (DataW.weightsEach Try.prog ts ds).all (· ≤ reachBytes) = true) (ht : ts[j]? = some 23) (hd : ds[j]? = some x.1) :
    ∃ ss : List SV, Sps W a len ss ∧ len ≤ 1466015503658 := by
  have hrb : reachBytes = 140737488351232 := rfl
  rcases Deep.open_slice Try.underlying23 h with ⟨hcs, _⟩ | ⟨y, l, c', m, n, D, Pl, hcs, _, hl, hm, hmm, hx, hr⟩
  · simp [Value.cells] at hcs
    obtain ⟨rfl, rfl, rfl⟩ := hcs
    exact ⟨[], ⟨rfl, fun i hi => by omega, fun h => by omega⟩, by omega⟩
  · simp [Value.cells] at hcs
    obtain ⟨rfl, rfl, rfl⟩ := hcs
    simp only [if_true] at hmm
    subst hmm
    have hds : ds[j]? = some (.slice ((List.range len).map D) ((List.range (m - len)).map fun j => D (len + j))) := by rw [hd, hx]
    have hreach := sized_slice hsz (j := j) (t := 23) (e := 33) ht hds Try.underlying23
    rw [bytesStep] at hreach
    simp only [List.length_map, List.length_range] at hreach
    have each : ∀ i, i < len → ∃ s : SV, (∀ q v, s.cells[q]? = some v → W.cell? (y.add (i * 8 + q)) = some v) ∧ s.ok W := by
      intro i hi
      obtain ⟨cs', h1, h2⟩ := hr i (by omega)
      rw [cellsStep] at h1
      obtain ⟨_, hlen, hcell⟩ := World.cells?_some h1
      obtain ⟨s, hs, hok⟩ := step_f hlen h2
      refine ⟨s, fun q v hq => ?_, hok (fun mm hmm => ?_)⟩
      · have hq8 : q < 8 := by have := (List.getElem?_eq_some_iff.1 hq).1; rw [SV.len] at this; exact this
        have e := hcell q (by omega)
        rw [Deep.add_add] at e
        rw [e, hs]
        simpa using hq
      · have hmem := List.all_eq_true.1 hsz mm (DataW.weights_mem_each ht hds _ (by
          simp only [DataW.weights, Try.underlying23, List.mem_cons, List.mem_append]
          exact .inr (.inl (weights_all _ (D i) (List.mem_map.2 ⟨i, List.mem_range.2 hi, rfl⟩) _ hmm))))
        exact of_decide_eq_true hmem
    haveI : Inhabited SV := ⟨sv0⟩
    obtain ⟨f, hf⟩ := Deep.choose_lt each
    refine ⟨(List.range len).map f, ⟨by simp, fun i hi => ?_, fun hn => ?_⟩, by omega⟩
    · rw [range_getD _ _ _ _ hi]
      exact (hf i hi).2
    · obtain ⟨b, off, spot⟩ := y
      have h1 := (hf 0 hn).1 0 _ rfl
      have hspot : spot = none := by simpa [Addr.add] using World.cell?_spot h1
      subst hspot
      refine ⟨b, off, rfl, fun i hi q v hq => ?_⟩
      rw [range_getD _ _ _ _ hi] at hq
      have := (hf i hi).1 q v hq
      rw [Addr.add_mid, ← Nat.add_assoc] at this
      exact this

end Go.Proofs.Ytmkmdbpibpbcjaa
