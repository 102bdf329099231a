/-
  The law InboxOne: row and card.
-/
import Derived.Test.YtfjhecmnbodkfaaGreatDoorQEq
import Derived.Test.YtfjhecmnbodkfaaGreatDoorRows
import Derived.ProofKit
import Derived.OpenShut
import Derived.ShutString
import Derived.ChangeOld
import Derived.SizedLaws
import Derived.Deep.DeepHandedRow
import Derived.Lib.LaidTab
import Derived.Test.YtfjhecmnbodkfaaGreatDoorIbK
import Derived.ChangeMaps5
import Derived.Deep.Matrix
import Derived.Test.YtfjhecmnbodkfaaGreatDoorIoH
import Derived.Test.YtfjhecmnbodkfaaGreatDoorIoI
import Derived.Test.YtfjhecmnbodkfaaGreatDoorQRSum
import Derived.Stop.LaidErr
import Derived.Test.YtfjhecmnbodkfaaGreatDoorCards
import Derived.Test.YtfjhecmnbodkfaaGreatDoorTie

namespace Go.Proofs.YtfjhecmnbodkfaaGreatDoor
open Go Go.RowKit Go.ChangeShapes Go.WideShapes Go.ChangeAt
open Sha

theorem own : ownKnob Tryz.prog.godebug = none := by kernel_rfl
theorem laidOut : laidOutB Tryz.prog = true := by kernel_rfl
theorem gTab : Tryz.prog.globalNamed "causeway/digest.cubeRoots" = some 1 := by kernel_rfl
theorem gTabType : (Tryz.prog.globals[1]?).map (·.type) = some 173 := by kernel_rfl
theorem cellsTab : Tryz.prog.cellsOf 173 = 64 := by kernel_rfl
theorem cellsU32 : Tryz.prog.cellsOf 139 = 1 := by kernel_rfl
theorem cellsU8 : Tryz.prog.cellsOf 5 = 1 := by kernel_rfl
theorem bytesU8 : Tryz.prog.bytesOf 5 = 1 := by kernel_rfl

theorem tab_of {W : World} (h : Lib.TabIs Tryz.prog W "causeway/digest.cubeRoots" .u32 (K.map u)) : Tab W 1 := fun i hi => by
  have := h.cell gTab i (by simpa [K_length] using hi)
  rw [this]
  rw [List.getD_eq_getElem?_getD, List.getElem?_map, List.getElem?_eq_getElem (by rw [K_length]; exact hi)]
  simp [show i < K.length by rw [K_length]; exact hi]

end Go.Proofs.YtfjhecmnbodkfaaGreatDoor

namespace Go.Proofs.YtfjhecmnbodkfaaGreatDoor
open Go Go.RowKit Go.ChangeShapes Go.WideShapes Go.ChangeAt
open Sha

theorem cellsInt : Tryz.prog.cellsOf 3 = 1 := by kernel_rfl
theorem cellsBool : Tryz.prog.cellsOf 4 = 1 := by kernel_rfl
theorem cellsU64 : Tryz.prog.cellsOf 41 = 1 := by kernel_rfl
theorem cellsWide : Tryz.prog.cellsOf 43 = 4 := by kernel_rfl
theorem cellsAdr : Tryz.prog.cellsOf 40 = 20 := by kernel_rfl
def iOf : Value → Int
  | .int _ n => n
  | _ => 0
theorem mapM_each {α β : Type} {f : α → Option β} : ∀ (L : List α) (ys : List β), L.mapM f = some ys → ∀ i ∈ L, ∃ y, f i = some y
  | [], _, _, i, hi => by cases hi
  | a :: L, ys, h, i, hi => by
    rw [List.mapM_cons] at h
    simp only [bind, Option.bind_eq_some_iff, pure, Option.some.injEq] at h
    obtain ⟨y, hy, zs, hz, _⟩ := h
    rcases List.mem_cons.1 hi with rfl | hi
    · exact ⟨y, hy⟩
    · exact mapM_each L zs hz i hi

/-- A slice of bytes by its cells. -/
theorem bytes_of {W : World} {A : Option Addr} {L C : Nat} {Z : List Int} (hL : L ≤ C) (hZ : Z.length = C) (hw : ∀ n ∈ Z, (Lit.int .u8 n).wf = true) (h0 : A = none → C = 0) (hc : ∀ a', A = some a' → ∀ c, c < C → W.cell? (a'.add c) = some (.int .u8 (Z.getD c 0))) :
    ((Z.take L).map (BitVec.ofInt 8)).length = L ∧ SlAt W (.slice A L C) ((Z.take L).map (BitVec.ofInt 8)) := by
  have hl : ((Z.take L).map (BitVec.ofInt 8)).length = L := by simp; omega
  refine ⟨hl, ?_⟩
  by_cases hz : L = 0
  · subst hz; exact .inl ⟨by simp, _, _, rfl⟩
  · cases A with
    | none => have := h0 rfl; omega
    | some y =>
      obtain ⟨b, off, spot⟩ := y
      have hcell := hc _ rfl
      have h1 := hcell 0 (by omega)
      have hspot : spot = none := by simpa [Addr.add] using World.cell?_spot h1
      subst hspot
      refine .inr ⟨b, off, C, by rw [hl], by rw [hl]; exact hL, fun i v hv => ?_⟩
      have hi : i < L := by have := (List.getElem?_eq_some_iff.1 hv).1; rw [vB_length, hl] at this; exact this
      have h2 := hcell i (by omega)
      rw [Addr.add_mid] at h2
      rw [h2]
      have hw := hw (Z.getD i 0) (by rw [List.getD_eq_getElem?_getD, List.getElem?_eq_getElem (by omega)]; exact List.getElem_mem _)
      have hb := bounds_u8 hw
      rw [vB_get _ i (by rw [hl]; exact hi)] at hv
      rw [← hv]
      have e : ((Z.take L).map (BitVec.ofInt 8)).getD i 0 = BitVec.ofInt 8 (Z.getD i 0) := by
        simp [List.getElem?_take_of_lt hi, List.getElem?_eq_getElem (show i < Z.length by omega)]
      rw [e]
      unfold c
      rw [show ((BitVec.ofInt 8 (Z.getD i 0)).toNat : Int) = Z.getD i 0 from by rw [BitVec.toNat_ofInt]; omega]

section
variable {H : Type} {enc : TypeId × Value → H} {W : World} {base : Nat} {held : Bool} {n : Nat}
theorem int_f {v : Value} {y : DataW H × List MemPlace} (g : DataW.trod enc Tryz.prog W base (fun _ => true) held n 3 [v] = some y) : ∃ z, v = .int .i64 z ∧ -9223372036854775808 ≤ z ∧ z ≤ 9223372036854775807 := by
  obtain ⟨z, e, _, wz⟩ := DataW.trod_int Tryz.underlying3 g
  simp only [List.cons.injEq, and_true] at e
  exact ⟨z, e, bounds_i64 wz⟩
theorem bytes_f {v : Value} {y : DataW H × List MemPlace} (g : DataW.trod enc Tryz.prog W base (fun _ => true) held n 44 [v] = some y) : ∃ (d : List (BitVec 8)) (A : Option Addr) (cap : Nat), v = .slice A d.length cap ∧ SlAt W (.slice A d.length cap) d ∧ (A = none → cap = 0) ∧ ((∀ m ∈ y.1.weights Tryz.prog 44, m ≤ reachBytes) → d.length ≤ 140737488351232) := by
  have hrb : reachBytes = 140737488351232 := rfl
  rcases open_ints Tryz.underlying44 Tryz.underlying5 cellsU8 g with ⟨hcs, hy⟩ | ⟨a', L, C, Z, hcs, _, hl, hm, hz, hy, hcell, hwz⟩
  · simp only [List.cons.injEq, and_true] at hcs
    exact ⟨[], none, 0, hcs, .inl ⟨rfl, _, _, rfl⟩, fun _ => rfl, fun _ => Nat.zero_le _⟩
  · simp only [List.cons.injEq, and_true] at hcs
    simp only [if_true] at hz
    obtain ⟨hlen, hsl⟩ := bytes_of (W := W) (A := some a') hl hz hwz (fun h => by cases h) (fun a'' ha c hc => by cases ha; exact hcell c (by rw [hz]; exact hc))
    refine ⟨(Z.take L).map (BitVec.ofInt 8), some a', C, by rw [hlen]; exact hcs, by rw [hlen]; exact hsl, (fun h => by cases h), fun hw => ?_⟩
    have := hw (((Z.take L).length + (Z.drop L).length) * 1) (by
        rw [hy]
        simp only [DataW.weights, Tryz.underlying44, lits, List.length_map, bytesU8]
        exact List.mem_cons_self)
    simp only [List.length_take, List.length_drop, Nat.mul_one] at this
    rw [hlen]; omega
theorem bool_f {v : Value} {y : DataW H × List MemPlace} (g : DataW.trod enc Tryz.prog W base (fun _ => true) held n 4 [v] = some y) : ∃ b, v = .bool b := by
  obtain ⟨b, e, _⟩ := DataW.trod_bool Tryz.underlying4 g
  simp only [List.cons.injEq, and_true] at e
  exact ⟨b, e⟩
set_option maxRecDepth 100000 in
theorem wide_f {cs : List Value} {y : DataW H × List MemPlace} (hl : cs.length = 4) (h : DataW.trod enc Tryz.prog W base (fun _ => true) held n 43 cs = some y) : ∃ a b c d : Nat, cs = vQ [a, b, c, d] ∧ a < 18446744073709551616 ∧ b < 18446744073709551616 ∧ c < 18446744073709551616 ∧ d < 18446744073709551616 := by
  cases n with
  | zero => simp [DataW.trod] at h
  | succ m =>
    rw [DataW.trod_step] at h
    unfold DataW.trodStep at h
    simp only [Tryz.underlying43] at h
    rw [if_pos (by rw [cellsWide]; exact hl)] at h
    simp only [Option.map_eq_some_iff] at h
    obtain ⟨ys, hy, _⟩ := h
    have each := mapM_each _ _ hy
    have one : ∀ i, i < 4 → ∃ z : Nat, cs[i]? = some (.int .u64 (z : Int)) ∧ z < 18446744073709551616 := fun i h => by
      obtain ⟨y, hy⟩ := each i (List.mem_range.2 (by omega))
      rw [cellsU64, Nat.mul_one] at hy
      obtain ⟨z, hz, _, wz⟩ := DataW.trod_int Tryz.underlying41 hy
      have hb := bounds_u64 wz
      have hi : i < cs.length := by omega
      rw [List.drop_eq_getElem_cons hi, List.take_succ_cons, List.take_zero] at hz
      exact ⟨z.toNat, by rw [List.getElem?_eq_getElem hi, (List.cons.inj hz).1]; congr 2; omega, by omega⟩
    obtain ⟨a, ha, ba⟩ := one 0 (by decide)
    obtain ⟨b, hb, bb⟩ := one 1 (by decide)
    obtain ⟨c, hc, bc⟩ := one 2 (by decide)
    obtain ⟨d, hd, bd⟩ := one 3 (by decide)
    refine ⟨a, b, c, d, ?_, ba, bb, bc, bd⟩
    obtain ⟨x0, x1, x2, x3, rfl⟩ : ∃ x0 x1 x2 x3, cs = [x0, x1, x2, x3] := by
      match cs, hl with
      | [x0, x1, x2, x3], _ => exact ⟨x0, x1, x2, x3, rfl⟩
    simp only [List.getElem?_cons_zero, List.getElem?_cons_succ, Option.some.injEq] at ha hb hc hd
    rw [ha, hb, hc, hd]
    rfl
/-- An address. -/
theorem adr_f {cs : List Value} {y : DataW H × List MemPlace} (g : DataW.trod enc Tryz.prog W base (fun _ => true) held n 40 cs = some y) : ∃ l : List (BitVec 8), l.length = 20 ∧ cs = vB l := by
  cases n with
  | zero => simp [DataW.trod] at g
  | succ m =>
    rw [DataW.trod_step] at g
    unfold DataW.trodStep at g
    simp only [Tryz.underlying40] at g
    split at g
    · rename_i h2
      rw [cellsAdr] at h2
      simp only [Option.map_eq_some_iff] at g
      obtain ⟨ys, hy, _⟩ := g
      have each := mapM_each _ _ hy
      have key : ∀ i (h : i < cs.length), ∃ z, cs[i] = .int .u8 z ∧ 0 ≤ z ∧ z ≤ 255 := fun i h => by
        obtain ⟨y, hy⟩ := each i (List.mem_range.2 (by omega))
        rw [cellsU8, Nat.mul_one] at hy
        obtain ⟨z, hz, _, wz⟩ := DataW.trod_int Tryz.underlying5 hy
        have hb := bounds_u8 wz
        refine ⟨z, ?_, hb.1, hb.2⟩
        rw [List.drop_eq_getElem_cons h] at hz
        simp only [List.take_succ_cons, List.take_zero, List.cons.injEq, and_true] at hz
        exact hz
      refine ⟨cs.map (fun v => BitVec.ofInt 8 (iOf v)), by simp; omega, ?_⟩
      unfold vB
      rw [List.map_map]
      refine (List.ext_getElem (by simp) fun i h1 h2 => ?_)
      obtain ⟨z, hz, hz0, hz1⟩ := key i h1
      rw [List.getElem_map, hz]
      simp only [Function.comp_apply, iOf]
      unfold c
      rw [BitVec.toNat_ofInt]
      congr 1
      omega
    · cases g
end
theorem one_take (cs : List Value) (k : Nat) (h : k < cs.length) : (cs.drop k).take 1 = [cs.getD k undef] := by
  rw [List.drop_eq_getElem_cons h]
  simp only [List.take_succ_cons, List.take_zero, List.getD_eq_getElem?_getD, List.getElem?_eq_getElem h, Option.getD_some]
theorem cut_at (cs : List Value) (a n : Nat) : cs.drop a = (cs.drop a).take n ++ cs.drop (a + n) := by
  rw [← List.drop_drop, List.take_append_drop]

theorem cellsSl : Tryz.prog.cellsOf 44 = 1 := by kernel_rfl
theorem cellsRaw15 : Tryz.prog.cellsOf 100 = 49 := by kernel_rfl
theorem bytesRaw15 : Tryz.prog.bytesOf 100 = 128 := by kernel_rfl
theorem mem_weightsAll {H : Type} (P : Program) (e : TypeId) (n : Nat) : ∀ (l : List (DataW H)) (d : DataW H), d ∈ l → n ∈ d.weights P e → n ∈ DataW.weightsAll P e l
  | [], d, h, _ => by cases h
  | a :: l, d, h, hn => by
    rw [DataW.weightsAll, List.mem_append]
    rcases List.mem_cons.1 h with rfl | h
    · exact .inl hn
    · exact .inr (mem_weightsAll P e n l d h hn)
/-- A Raw that came in, with its Body's place. -/
structure Rwx where
  r : Rwi
  A : Option Addr
  c : Nat
def Rwx.cells (x : Rwx) : List Value := x.r.cells (.slice x.A x.r.d.length x.c)
structure Rwx.Ok (x : Rwx) (W : World) : Prop where
  ok : x.r.Ok
  len : x.r.d.length ≤ 140737488355328
  sl : SlAt W (.slice x.A x.r.d.length x.c) x.r.d
section
variable {H : Type} {enc : TypeId × Value → H} {W : World} {base : Nat} {held : Bool} {n : Nat}
set_option maxRecDepth 100000 in
theorem raw15_f {cs : List Value} (hcl : cs.length = 49) {y : DataW H × List MemPlace} (g : DataW.trod enc Tryz.prog W base (fun _ => true) held n 100 cs = some y) : ∃ r : Rwx, cs = r.cells ∧ r.cells.length = 49 ∧ ((∀ m ∈ y.1.weights Tryz.prog 100, m ≤ reachBytes) → r.Ok W) := by
  obtain ⟨xs, k, hk, hxy, _, hxl, hff⟩ := DataW.trod_struct Tryz.underlying100 g
  change ∀ (i : Nat) (f : Field), _ → DataW.trod enc Tryz.prog W base (fun _ => true) held k f.type ((cs.drop f.offset).take (Tryz.prog.cellsOf f.type)) = xs[i]? at hff
  obtain ⟨y0, y1, y2, y3, y4, y5, y6, y7, rfl⟩ : ∃ y0 y1 y2 y3 y4 y5 y6 y7, xs = [y0, y1, y2, y3, y4, y5, y6, y7] := by
    match xs, hxl with
    | [y0, y1, y2, y3, y4, y5, y6, y7], _ => exact ⟨y0, y1, y2, y3, y4, y5, y6, y7, rfl⟩
  have g0 := hff 0 _ rfl
  change DataW.trod enc Tryz.prog W base (fun _ => true) held k 4 ((cs.drop 0).take (Tryz.prog.cellsOf 4)) = some y0 at g0
  rw [cellsBool, one_take cs 0 (by omega)] at g0
  obtain ⟨dp, e0⟩ := bool_f g0
  have g1 := hff 1 _ rfl
  change DataW.trod enc Tryz.prog W base (fun _ => true) held k 40 ((cs.drop 1).take (Tryz.prog.cellsOf 40)) = some y1 at g1
  rw [cellsAdr] at g1
  obtain ⟨sd, l1, e1⟩ := adr_f g1
  have g2 := hff 2 _ rfl
  change DataW.trod enc Tryz.prog W base (fun _ => true) held k 3 ((cs.drop 21).take (Tryz.prog.cellsOf 3)) = some y2 at g2
  rw [cellsInt, one_take cs 21 (by omega)] at g2
  obtain ⟨la, e2, b2, c2⟩ := int_f g2
  have g3 := hff 3 _ rfl
  change DataW.trod enc Tryz.prog W base (fun _ => true) held k 3 ((cs.drop 22).take (Tryz.prog.cellsOf 3)) = some y3 at g3
  rw [cellsInt, one_take cs 22 (by omega)] at g3
  obtain ⟨tk, e3, b3, c3⟩ := int_f g3
  have g4 := hff 4 _ rfl
  change DataW.trod enc Tryz.prog W base (fun _ => true) held k 40 ((cs.drop 23).take (Tryz.prog.cellsOf 40)) = some y4 at g4
  rw [cellsAdr] at g4
  obtain ⟨rc, l4, e4⟩ := adr_f g4
  have g5 := hff 5 _ rfl
  change DataW.trod enc Tryz.prog W base (fun _ => true) held k 43 ((cs.drop 43).take (Tryz.prog.cellsOf 43)) = some y5 at g5
  rw [cellsWide] at g5
  obtain ⟨m0, m1, m2, m3, e5, q0, q1, q2, q3⟩ := wide_f (by simp only [List.length_take, List.length_drop]; omega) g5
  have g6 := hff 6 _ rfl
  change DataW.trod enc Tryz.prog W base (fun _ => true) held k 3 ((cs.drop 47).take (Tryz.prog.cellsOf 3)) = some y6 at g6
  rw [cellsInt, one_take cs 47 (by omega)] at g6
  obtain ⟨gs, e6, b6, c6⟩ := int_f g6
  have g7 := hff 7 _ rfl
  change DataW.trod enc Tryz.prog W base (fun _ => true) held k 44 ((cs.drop 48).take (Tryz.prog.cellsOf 44)) = some y7 at g7
  rw [cellsSl, one_take cs 48 (by omega)] at g7
  obtain ⟨d, A, c, e7, sl7, nil7, wt7⟩ := bytes_f g7
  have hcs : cs = Rwx.cells ⟨⟨dp, sd, la, tk, rc, [m0, m1, m2, m3], gs, d⟩, A, c⟩ := by
    have h0 := cut_at cs 0 1
    rw [one_take cs 0 (by omega), e0, List.drop_zero] at h0
    rw [h0, cut_at cs 1 20, e1, cut_at cs 21 1, one_take cs 21 (by omega), e2, cut_at cs 22 1, one_take cs 22 (by omega), e3, cut_at cs 23 20, e4, cut_at cs 43 4, e5, cut_at cs 47 1, one_take cs 47 (by omega), e6, cut_at cs 48 1, one_take cs 48 (by omega), e7, List.drop_eq_nil_of_le (by omega : cs.length ≤ 48 + 1)]
    rfl
  refine ⟨_, hcs, by rw [← hcs]; exact hcl, fun hw => ?_⟩
  rw [hxy] at hw
  simp only [List.map_cons, List.map_nil, DataW.weights, Tryz.underlying100, DataW.weightsEach, List.mem_append] at hw
  have hd := wt7 (fun m hm => hw m (.inr (.inr (.inr (.inr (.inr (.inr (.inr (.inl hm)))))))))
  exact ⟨⟨l1, l4, rfl, by simp only [List.mem_cons, List.not_mem_nil, or_false]; rintro x (rfl | rfl | rfl | rfl) <;> assumption, ⟨b2, c2⟩, ⟨b3, c3⟩, ⟨b6, c6⟩⟩, Nat.le_trans hd (by decide), sl7⟩
set_option maxRecDepth 100000 in
theorem raws15_f {v : Value} {y : DataW H × List MemPlace} (g : DataW.trod enc Tryz.prog W base (fun _ => true) held n 64 [v] = some y) : ∃ (rs : List Rwi) (A : Option Addr) (cap : Nat), v = .slice A rs.length cap ∧ ((∀ m ∈ y.1.weights Tryz.prog 64, m ≤ reachBytes) → rs.length < 140737488355328 ∧ RsAt W A rs) := by
  have hrb : reachBytes = 140737488351232 := rfl
  rcases Deep.open_slice Tryz.underlying64 g with ⟨hcs, _⟩ | ⟨ad, l, c', m, k, D, Pl, hcs, _, hl, hm, hmm, hx, hr⟩
  · simp only [List.cons.injEq, and_true] at hcs
    exact ⟨[], none, 0, hcs, fun _ => ⟨by simp, fun i r h => by simp at h⟩⟩
  · simp only [List.cons.injEq, and_true] at hcs
    simp only [if_true] at hmm
    subst hmm
    have each : ∀ i, i < l → ∃ r : Rwx, ((∀ m ∈ (D i).weights Tryz.prog 100, m ≤ reachBytes) → r.Ok W) ∧ ∀ q u, r.cells[q]? = some u → W.cell? (ad.add (i * 49 + q)) = some u := by
      intro i hi
      obtain ⟨cs', h1, h2⟩ := hr i (by omega)
      rw [cellsRaw15] at h1
      obtain ⟨_, hlen, hcell⟩ := World.cells?_some h1
      obtain ⟨r, e, hrl, hok⟩ := raw15_f (by simpa using hlen) h2
      refine ⟨r, hok, fun q u hq => ?_⟩
      have hq5 : q < 49 := by have := (List.getElem?_eq_some_iff.1 hq).1; omega
      have e2 := hcell q hq5
      rw [Deep.add_add] at e2
      rw [e2, e]; exact hq
    obtain ⟨f, hf⟩ : ∃ f : Nat → Rwx, ∀ i, i < l → ((∀ m ∈ (D i).weights Tryz.prog 100, m ≤ reachBytes) → (f i).Ok W) ∧ ∀ q u, (f i).cells[q]? = some u → W.cell? (ad.add (i * 49 + q)) = some u := by
      refine ⟨fun i => if h : i < l then (each i h).choose else ⟨⟨false, [], 0, 0, [], [], 0, []⟩, none, 0⟩, fun i hi => ?_⟩
      simp only [hi, dif_pos]
      exact (each i hi).choose_spec
    refine ⟨(List.range l).map (fun i => (f i).r), some ad, m, by simp [hcs], fun hw => ⟨?_, fun i r hr => ?_⟩⟩
    · have := hw ((((List.range l).map D).length + ((List.range (m - l)).map fun j => D (l + j)).length) * 128) (by
        rw [hx]
        simp only [DataW.weights, Tryz.underlying64, bytesRaw15]
        exact List.mem_cons_self)
      simp only [List.length_map, List.length_range] at this ⊢
      omega
    simp only [List.getElem?_map, Option.map_eq_some_iff] at hr
    obtain ⟨i', hi', rfl⟩ := hr
    have hil : i < l := by have := (List.getElem?_eq_some_iff.1 hi').1; simpa using this
    obtain rfl : i = i' := by rw [List.getElem?_range hil] at hi'; exact Option.some.inj hi'
    obtain ⟨q1, q2⟩ := hf i hil
    obtain ⟨b, off, spot⟩ := ad
    have h1 := (hf 0 (by omega)).2 0 (.bool (f 0).r.dp) rfl
    have hspot : spot = none := by simpa [Addr.add] using World.cell?_spot h1
    subst hspot
    have hok := q1 (fun m9 hm9 => hw m9 (by
      rw [hx]
      simp only [DataW.weights, Tryz.underlying64, List.mem_cons, List.mem_append]
      exact .inr (.inl (mem_weightsAll _ _ _ _ (D i) (List.mem_map.2 ⟨i, List.mem_range.2 hil, rfl⟩) hm9))))
    refine ⟨hok.ok, hok.len, b, off, (f i).A, (f i).c, rfl, fun j u hu => ?_, hok.sl⟩
    have := q2 j u hu
    rw [Addr.add_mid, show off + (i * 49 + j) = off + i * 49 + j by omega] at this
    exact this
end

end Go.Proofs.YtfjhecmnbodkfaaGreatDoor

namespace Go.Proofs.YtfjhecmnbodkfaaGreatDoor
open Go Go.RowKit Go.ChangeShapes Go.WideShapes Go.ChangeAt
open Sha

theorem cellsDg15 : Tryz.prog.cellsOf 51 = 32 := by kernel_rfl
set_option maxRecDepth 100000 in
/-- A digest that came in. -/
theorem dig15_in {H : Type} {enc : TypeId × Value → H} {W : World} {base : Nat} {sp : Nat → Bool} {held : Bool} {v : Value} {d : DataW H} {ps : List MemPlace} {r : Reach} {b0 : Nat} (hval : Value.okWide Tryz.prog W r b0 51 v) (hd : DataW.Trod enc Tryz.prog W base sp held 51 v d ps) :
    ∃ l : List (BitVec 8), l.length = 32 ∧ v = .agg (vB l).toArray := by
  simp only [Value.okWide, Tryz.underlying51] at hval
  obtain ⟨xs, rfl, h2, _⟩ := hval
  rw [cellsDg15] at h2
  obtain ⟨fuel, hf⟩ := hd
  cases fuel with
  | zero => simp [DataW.trod] at hf
  | succ m =>
    rw [DataW.trod_step] at hf
    unfold DataW.trodStep at hf
    simp only [Tryz.underlying51, Value.cells] at hf
    rw [if_pos (by rw [cellsDg15]; simpa using h2)] at hf
    simp only [Option.map_eq_some_iff] at hf
    obtain ⟨ys, hy, _⟩ := hf
    have each := mapM_each _ _ hy
    have key : ∀ i (h : i < xs.toList.length), ∃ z, xs.toList[i] = .int .u8 z ∧ 0 ≤ z ∧ z ≤ 255 := fun i h => by
      obtain ⟨y, hy⟩ := each i (List.mem_range.2 (by simp at h; omega))
      rw [cellsU8, Nat.mul_one] at hy
      obtain ⟨z, hz, _, wz⟩ := DataW.trod_int Tryz.underlying5 hy
      have hb := bounds_u8 wz
      refine ⟨z, ?_, hb.1, hb.2⟩
      rw [List.drop_eq_getElem_cons h] at hz
      simp at hz
      simpa using hz
    refine ⟨xs.toList.map (fun v => BitVec.ofInt 8 (iOf v)), by simp; omega, ?_⟩
    congr 1
    apply Array.ext'
    show xs.toList = vB _
    unfold vB
    rw [List.map_map]
    refine (List.ext_getElem (by simp) fun i h1 h2 => ?_)
    obtain ⟨z, hz, hz0, hz1⟩ := key i h1
    rw [List.getElem_map, hz]
    simp only [Function.comp_apply, iOf]
    unfold c
    rw [BitVec.toNat_ofInt]
    congr 1
    omega

theorem one_walk (rs rs2 : List Rwi) (A0 A20 : Option Addr) (N N2 c0 c20 : Nat) (hN : N = rs.length) (hN2 : N2 = rs2.length) (hNb : N < 140737488355328) (hNb2 : N2 < 140737488355328) (K0 : List (BitVec 8)) (hK0 : K0.length = 32) (w : World) (hG : Given w) (h0 : RsAt w A0 rs) (h20 : RsAt w A20 rs2) :
    Calls Tryz.prog 5 #[.slice A0 N c0, .slice A20 N2 c20, .agg (vB K0).toArray] w fun r w' => r = .returned (.bool true) ∧ Below w.heap.size w w' := by
  by_cases hc : min N2 100 < min N 100
  · exact one_gt rs rs2 A0 A20 N N2 c0 c20 hN hN2 hNb hNb2 _ _ rfl rfl hc K0 hK0 _ rfl w hG h0 h20
  · exact one_le rs rs2 A0 A20 N N2 c0 c20 hN hN2 hNb hNb2 _ _ rfl rfl hc K0 hK0 _ rfl w hG h0 h20

end Go.Proofs.YtfjhecmnbodkfaaGreatDoor

namespace Go.Proofs.YtfjhecmnbodkfaaGreatDoor
open Go Go.RowKit
open Sha

theorem gCon : Tryz.prog.globalNamed "causeway/causewayref01.constants" = some 2 := by kernel_rfl
theorem gConType : (Tryz.prog.globals[2]?).map (·.type) = some 173 := by kernel_rfl
theorem gBeg : Tryz.prog.globalNamed "causeway/causewayref01.beginning" = some 0 := by kernel_rfl
theorem gBegType : (Tryz.prog.globals[0]?).map (·.type) = some 140 := by kernel_rfl
theorem cellsArr8 : Tryz.prog.cellsOf 140 = 8 := by kernel_rfl

theorem tab_con {W : World} (h : Lib.TabIs Tryz.prog W "causeway/causewayref01.constants" .u32 (K.map u)) : Tab W 2 := fun i hi => by
  have := h.cell gCon i (by simpa [K_length] using hi)
  rw [this]
  rw [List.getD_eq_getElem?_getD, List.getElem?_map, List.getElem?_eq_getElem (by rw [K_length]; exact hi)]
  simp [show i < K.length by rw [K_length]; exact hi]

theorem given_of {W : World} (h : laidMet Tryz.prog [("causeway/causewayref01.constants", Lib.tabData .u32 (K.map u)), ("causeway/causewayref01.beginning", Lib.tabData .u32 (st0.list.map u)), ("causeway/digest.cubeRoots", Lib.tabData .u32 (K.map u))] W) : Given W := by
  have h1 := h.tail
  have h2 := h1.tail
  refine ⟨tab_con (Lib.tabIs_of_head gCon gConType Tryz.underlying173 Tryz.underlying139 cellsU32 cellsTab h), ?_, tab_of (Lib.tabIs_of_head gTab gTabType Tryz.underlying173 Tryz.underlying139 cellsU32 cellsTab h2)⟩
  have t := Lib.tabIs_of_head gBeg gBegType Tryz.underlying140 Tryz.underlying139 cellsU32 cellsArr8 h1
  intro j v hv
  have hj : j < st0.list.length := by have := (List.getElem?_eq_some_iff.1 hv).1; rwa [vW_length] at this
  have := t.cell gBeg j (by simpa using hj)
  rw [Nat.zero_add, this, ← hv, vW_get _ _ hj]
  rw [List.getD_eq_getElem?_getD, List.getElem?_map, List.getElem?_eq_getElem hj]
  simp [hj]

end Go.Proofs.YtfjhecmnbodkfaaGreatDoor

namespace Go.Proofs.YtfjhecmnbodkfaaGreatDoor.ione
open Go Go.RowKit Go.ChangeShapes Go.WideShapes Go.ChangeAt
open Sha

/-- What the row's list gives. -/
theorem table {W : World} (h : laidMetH Tryz.prog Rows.inboxOneRow.laid W) : Given W := by
  have e : Rows.inboxOneRow.laid = [("causeway/causewayref01.constants", Lib.tabData .u32 (K.map u)), ("causeway/causewayref01.beginning", Lib.tabData .u32 (st0.list.map u)), ("causeway/digest.cubeRoots", Lib.tabData .u32 (K.map u))] := by kernel_rfl
  rw [e] at h
  exact given_of h

set_option maxRecDepth 100000 in
theorem contract (H : Type) (enc : TypeId × Value → H) (W : World) (base : Nat) (args : Array Value) (ds gs : List (DataW H)) (before : List MemPlace)
    (hval : ∀ (j : Nat) t v, Tryz.f5.params[j]? = some t → args[j]? = some v → Value.okWide Tryz.prog W .any base t v)
    (hW : DataW.Whole enc Tryz.prog Tryz.f5.params.toList Rows.inboxOneSpec.vars false W args.toList ds gs before)
    (hsz : (DataW.weightsEach Tryz.prog (Tryz.f5.params.toList ++ (OpenSpec.ofChange Rows.inboxOneSpec).bare.plain.varTypes Tryz.prog) (ds ++ gs)).all (· ≤ reachBytes) = true)
    (hL : laidMetH Tryz.prog Rows.inboxOneRow.laid W) :
    Calls Tryz.prog 5 args W fun e W' => ∃ v, e = .returned v ∧ Rows.inboxOneSpec.post enc Tryz.prog Tryz.f5 false true false false W args v W' := by
  have hW' := hW
  obtain ⟨p, q, hA0, hV, rfl, hfz, hnd⟩ := hW
  have hA : DataW.TrodAll enc Tryz.prog W 0 (fun _ => true) true Tryz.f5.params.toList args.toList ds p := hA0
  rw [Tryz.params5] at hA hval hsz
  obtain ⟨v0, vs0, d0, ds0, p0, q0, hargs, rfl, rfl, h0, r0⟩ := trodAll_cons hA
  obtain ⟨v1, vs1, d1, ds1, p1, q1, rfl, rfl, rfl, h1, r1⟩ := trodAll_cons r0
  obtain ⟨v2, vs2, d2, ds2, p2, q2, rfl, rfl, rfl, h2, r2⟩ := trodAll_cons r1
  obtain ⟨rfl, rfl, rfl⟩ := trodAll_nil r2
  obtain rfl : args = #[v0, v1, v2] := by cases args; simp_all
  obtain ⟨rfl, rfl⟩ := trodVars_none hV
  obtain ⟨a0, len0, cap0, rfl⟩ := okWide_slice Tryz.underlying64 (hval 0 64 v0 rfl rfl)
  have k0 := h0
  have lt0 : ∀ x ∈ p0, x.block < W.heap.size := by obtain ⟨m, hm⟩ := k0; exact DataW.trod_lt m _ _ _ hm
  obtain ⟨fuel0, hf0⟩ := h0
  obtain ⟨rs0, A0, c0, e0, hb0⟩ := raws15_f (v := .slice a0 len0 cap0) hf0
  simp only [Value.slice.injEq] at e0
  obtain ⟨rfl, rfl, rfl⟩ := e0
  replace hb0 := hb0 (fun mm hmm => of_decide_eq_true (List.all_eq_true.1 hsz mm (DataW.weights_mem_each (j := 0) (t := 64) rfl rfl _ hmm)))
  obtain ⟨a1, len1, cap1, rfl⟩ := okWide_slice Tryz.underlying64 (hval 1 64 v1 rfl rfl)
  have k1 := h1
  have lt1 : ∀ x ∈ p1, x.block < W.heap.size := by obtain ⟨m, hm⟩ := k1; exact DataW.trod_lt m _ _ _ hm
  obtain ⟨fuel1, hf1⟩ := h1
  obtain ⟨rs1, A1, c1, e1, hb1⟩ := raws15_f (v := .slice a1 len1 cap1) hf1
  simp only [Value.slice.injEq] at e1
  obtain ⟨rfl, rfl, rfl⟩ := e1
  replace hb1 := hb1 (fun mm hmm => of_decide_eq_true (List.all_eq_true.1 hsz mm (DataW.weights_mem_each (j := 1) (t := 64) rfl rfl _ hmm)))
  have k2 := h2
  have lt2 : ∀ x ∈ p2, x.block < W.heap.size := by obtain ⟨m, hm⟩ := k2; exact DataW.trod_lt m _ _ _ hm
  obtain ⟨b2, hb2, rfl⟩ := dig15_in (hval 2 51 v2 rfl rfl) h2
  clear hA0
  refine (one_walk rs0 rs1 a0 a1 rs0.length rs1.length cap0 cap1 rfl rfl hb0.1 hb1.1 b2 hb2 W (table hL) hb0.2 hb1.2).mono fun e W' ⟨he, bel⟩ => ?_
  subst he
  exact ⟨_, rfl, _, _, _, [], _, [], hW', trodAll_mk1 (shut_bool Tryz.underlying4 _), (trodAll_cons_mk (Below.trod laidOut (by kernel_rfl) (of_decide_eq_true (by kernel_rfl)) k0 bel lt0) (trodAll_cons_mk (Below.trod laidOut (by kernel_rfl) (of_decide_eq_true (by kernel_rfl)) k1 bel lt1) (trodAll_cons_mk (Below.trod laidOut (by kernel_rfl) (of_decide_eq_true (by kernel_rfl)) k2 bel lt2) trodAll_mk0))), rfl, bel.frame _, fun h => by cases h⟩

theorem laid_met (os : Os) : laidMet Tryz.prog Rows.inboxOneRow.laid (({ World.holding Tryz.prog os ⟨#[], #[], []⟩ with heap := ((((World.holding Tryz.prog os ⟨#[], #[], []⟩).heap.modify 2 fun | .cells _ t frozen => .cells (vW K).toArray t frozen | o => o).modify 0 fun | .cells _ t frozen => .cells (vW st0.list).toArray t frozen | o => o).modify 1 fun | .cells _ t frozen => .cells (vW K).toArray t frozen | o => o) } : World).forCall (fun _ _ => 0) ⟨#[], #[.slice none 0 0, .slice none 0 0, .agg (vB (List.replicate 32 0#8)).toArray], []⟩).memory :=
  laidMet_of_run' 8 (by kernel_rfl) (by kernel_rfl)
theorem reads (os : Os) {H : Type} (enc : TypeId × Value → H) : ∃ places, DataW.whole enc Tryz.prog (({ World.holding Tryz.prog os ⟨#[], #[], []⟩ with heap := ((((World.holding Tryz.prog os ⟨#[], #[], []⟩).heap.modify 2 fun | .cells _ t frozen => .cells (vW K).toArray t frozen | o => o).modify 0 fun | .cells _ t frozen => .cells (vW st0.list).toArray t frozen | o => o).modify 1 fun | .cells _ t frozen => .cells (vW K).toArray t frozen | o => o) } : World).forCall (fun _ _ => 0) ⟨#[], #[.slice none 0 0, .slice none 0 0, .agg (vB (List.replicate 32 0#8)).toArray], []⟩).memory Tryz.f5.params.toList Rows.inboxOneSpec.vars false (#[.slice none 0 0, .slice none 0 0, .agg (vB (List.replicate 32 0#8)).toArray] : Array Value).toList 8 = some ([.nil, .nil, .agg (List.replicate 32 (.lit (.int .u8 0)))], [], places) :=
  ⟨[], by kernel_rfl⟩

set_option maxRecDepth 100000 in
theorem lifted (os : Os) (started : os.Started) (H : Type) (enc : TypeId × Value → H) (F : Stop.Interp) :
    ReturnsInHanded {} Tryz.checked os 5 .any ((OpenSpec.ofChange Rows.inboxOneSpec).preRow enc Tryz.prog Tryz.f5 Rows.inboxOneRow.domain false Rows.inboxOneRow.laid) (((OpenSpec.ofChange Rows.inboxOneSpec).at F).post enc Tryz.prog Tryz.f5 false true false false) := by
  obtain ⟨places, hx⟩ := reads os enc
  refine returnsInHanded_of_row (C := Tryz.checked) (s := OpenSpec.ofChange Rows.inboxOneSpec) own started (by kernel_rfl) Tryz.func5
    (witness_row_at (enc := enc) (C := Tryz.checked) false ({ World.holding Tryz.prog os ⟨#[], #[], []⟩ with heap := ((((World.holding Tryz.prog os ⟨#[], #[], []⟩).heap.modify 2 fun | .cells _ t frozen => .cells (vW K).toArray t frozen | o => o).modify 0 fun | .cells _ t frozen => .cells (vW st0.list).toArray t frozen | o => o).modify 1 fun | .cells _ t frozen => .cells (vW K).toArray t frozen | o => o) } : World) #[.slice none 0 0, .slice none 0 0, .agg (vB (List.replicate 32 0#8)).toArray] rfl (by kernel_rfl) (by kernel_rfl) (by kernel_rfl)
      (OpenSpec.preRow_of_cond 8 hx (by kernel_rfl) (fun k hk => by cases hk) (by kernel_rfl) (laid_met os))) ?_
  intro W base args ds gs before hval hW _ hc hsz hL _ _
  exact contract H enc W base args ds gs before hval hW hsz hL

theorem said : Rows.InboxOneSaid :=
  OpenClaim.holds_of_cond 5 Tryz.f5 rfl rfl rfl rfl rfl rfl rfl ⟨rfl, rfl, rfl, rfl, rfl⟩ rfl rfl rfl rfl rfl (by kernel_rfl) Tryz.func5 (by kernel_rfl)
    (of_decide_eq_true (by kernel_rfl)) (by unfold Func.isWrapper; first | (rw [if_pos (by decide +kernel)]; kernel_rfl) | (rw [if_neg (by decide +kernel)]; exact ⟨rfl, rfl⟩))
    (fun os started H enc _ F => by rw [OpenClaim.pre_eq_preRow]; exact lifted os started H enc F)

theorem plain (f : FuncId) (fn : Func) (hf : Tryz.pinned.checked.prog.funcNamed "causeway/causewaylaw15.InboxOne" = some f) (hfn : Tryz.pinned.checked.prog.funcs[f]? = some fn) :
    true = Tryz.pinned.checked.prog.looks [] ∧ ∀ (j : Nat) t, fn.params[j]? = some t → Tryz.pinned.checked.prog.wantsStandIn t = false := by
  obtain rfl : f = 5 := Option.some.inj ((show Tryz.prog.funcNamed "causeway/causewaylaw15.InboxOne" = some 5 by kernel_rfl).symm.trans hf) |>.symm
  obtain rfl : fn = Tryz.f5 := (Option.some.inj (Tryz.func5.symm.trans hfn)).symm
  refine ⟨by kernel_rfl, fun j t ht => ?_⟩
  rw [Tryz.params5] at ht
  have ht' : t = 64 ∨ t = 51 := by have := Array.mem_of_getElem? ht; simp at this; first | omega | exact this | exact this.symm | (rcases this with h | h | h <;> simp [h])
  rcases ht' with rfl | rfl
  · exact (show Tryz.prog.wantsStandIn 64 = false by kernel_rfl)
  · exact (show Tryz.prog.wantsStandIn 51 = false by kernel_rfl)

/-- THE CARD. -/
theorem card : Rows.InboxOneCardSaid :=
  Claim7.holds_tied_plain_at .later [] _ _ _ _ said (fun _ h => by cases h) (by kernel_rfl) (fun _ h => by cases h) inboxOne_row_tie rfl ⟨rfl, rfl⟩ (by kernel_rfl) rfl plain (by kernel_rfl)

end Go.Proofs.YtfjhecmnbodkfaaGreatDoor.ione
