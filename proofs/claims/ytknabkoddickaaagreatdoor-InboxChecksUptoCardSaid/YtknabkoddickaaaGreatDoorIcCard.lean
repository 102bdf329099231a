/-
  The law InboxChecks: row and card.
-/
import Derived.Test.YtknabkoddickaaaGreatDoorQEq
import Derived.Test.YtknabkoddickaaaGreatDoorRows
import Derived.ProofKit
import Derived.OpenShut
import Derived.ShutString
import Derived.ChangeOld
import Derived.SizedLaws
import Derived.Deep.DeepHandedRow
import Derived.Lib.LaidTab
import Derived.Test.YtknabkoddickaaaGreatDoorIbK
import Derived.ChangeMaps5
import Derived.Deep.Matrix
import Derived.Test.YtknabkoddickaaaGreatDoorIcH
import Derived.Deep.SlicePairs
import Derived.Test.YtknabkoddickaaaGreatDoorQRSum
import Derived.Stop.LaidErr
import Derived.JoinedCond
import Derived.Test.YtknabkoddickaaaGreatDoorCards
import Derived.Test.YtknabkoddickaaaGreatDoorTie

namespace Go.Proofs.YtknabkoddickaaaGreatDoor
open Go Go.RowKit Go.ChangeShapes Go.WideShapes Go.ChangeAt
open Sha

theorem own : ownKnob Tryz.prog.godebug = none := by kernel_rfl
theorem laidOut : laidOutB Tryz.prog = true := by kernel_rfl
theorem gTab : Tryz.prog.globalNamed "causeway/digest.cubeRoots" = some 1 := by kernel_rfl
theorem gTabType : (Tryz.prog.globals[1]?).map (·.type) = some 166 := by kernel_rfl
theorem cellsTab : Tryz.prog.cellsOf 166 = 64 := by kernel_rfl
theorem cellsU32 : Tryz.prog.cellsOf 132 = 1 := by kernel_rfl
theorem cellsU8 : Tryz.prog.cellsOf 5 = 1 := by kernel_rfl
theorem tab_of {W : World} (h : Lib.TabIs Tryz.prog W "causeway/digest.cubeRoots" .u32 (K.map u)) : Tab W 1 := fun i hi => by
  have := h.cell gTab i (by simpa [K_length] using hi)
  rw [this]
  rw [List.getD_eq_getElem?_getD, List.getElem?_map, List.getElem?_eq_getElem (by rw [K_length]; exact hi)]
  simp [show i < K.length by rw [K_length]; exact hi]

end Go.Proofs.YtknabkoddickaaaGreatDoor

namespace Go.Proofs.YtknabkoddickaaaGreatDoor
open Go Go.RowKit Go.ChangeShapes Go.WideShapes Go.ChangeAt
open Sha

theorem cellsInt : Tryz.prog.cellsOf 3 = 1 := by kernel_rfl
theorem cellsU64 : Tryz.prog.cellsOf 41 = 1 := by kernel_rfl
theorem cellsWide : Tryz.prog.cellsOf 43 = 4 := by kernel_rfl
theorem cellsAdr : Tryz.prog.cellsOf 40 = 20 := by kernel_rfl
def iOf : Value → Int
  | .int _ n => n
  | _ => 0
theorem mapM_each {α β : Type} {f : α → Option β} : ∀ (L : List α) (ys : List β), L.mapM f = some ys → ∀ i ∈ L, ∃ y, f i = some y
  | [], _, _, i, hi => by cases hi
  | a :: L, ys, h, i, hi => by
    rw [List.mapM_cons] at h
    simp only [bind, Option.bind_eq_some_iff, pure, Option.some.injEq] at h
    obtain ⟨y, hy, zs, hz, _⟩ := h
    rcases List.mem_cons.1 hi with rfl | hi
    · exact ⟨y, hy⟩
    · exact mapM_each L zs hz i hi

/-- A slice of bytes by its cells. -/
theorem bytes_of {W : World} {A : Option Addr} {L C : Nat} {Z : List Int} (hL : L ≤ C) (hZ : Z.length = C) (hw : ∀ n ∈ Z, (Lit.int .u8 n).wf = true) (h0 : A = none → C = 0) (hc : ∀ a', A = some a' → ∀ c, c < C → W.cell? (a'.add c) = some (.int .u8 (Z.getD c 0))) :
    ((Z.take L).map (BitVec.ofInt 8)).length = L ∧ SlAt W (.slice A L C) ((Z.take L).map (BitVec.ofInt 8)) := by
  have hl : ((Z.take L).map (BitVec.ofInt 8)).length = L := by simp; omega
  refine ⟨hl, ?_⟩
  by_cases hz : L = 0
  · subst hz; exact .inl ⟨by simp, _, _, rfl⟩
  · cases A with
    | none => have := h0 rfl; omega
    | some y =>
      obtain ⟨b, off, spot⟩ := y
      have hcell := hc _ rfl
      have h1 := hcell 0 (by omega)
      have hspot : spot = none := by simpa [Addr.add] using World.cell?_spot h1
      subst hspot
      refine .inr ⟨b, off, C, by rw [hl], by rw [hl]; exact hL, fun i v hv => ?_⟩
      have hi : i < L := by have := (List.getElem?_eq_some_iff.1 hv).1; rw [vB_length, hl] at this; exact this
      have h2 := hcell i (by omega)
      rw [Addr.add_mid] at h2
      rw [h2]
      have hw := hw (Z.getD i 0) (by rw [List.getD_eq_getElem?_getD, List.getElem?_eq_getElem (by omega)]; exact List.getElem_mem _)
      have hb := bounds_u8 hw
      rw [vB_get _ i (by rw [hl]; exact hi)] at hv
      rw [← hv]
      have e : ((Z.take L).map (BitVec.ofInt 8)).getD i 0 = BitVec.ofInt 8 (Z.getD i 0) := by
        simp [List.getElem?_take_of_lt hi, List.getElem?_eq_getElem (show i < Z.length by omega)]
      rw [e]
      unfold c
      rw [show ((BitVec.ofInt 8 (Z.getD i 0)).toNat : Int) = Z.getD i 0 from by rw [BitVec.toNat_ofInt]; omega]

section
variable {H : Type} {enc : TypeId × Value → H} {W : World} {base : Nat} {held : Bool} {n : Nat}
theorem int_f {v : Value} {y : DataW H × List MemPlace} (g : DataW.trod enc Tryz.prog W base (fun _ => true) held n 3 [v] = some y) : ∃ z, v = .int .i64 z ∧ -9223372036854775808 ≤ z ∧ z ≤ 9223372036854775807 := by
  obtain ⟨z, e, _, wz⟩ := DataW.trod_int Tryz.underlying3 g
  simp only [List.cons.injEq, and_true] at e
  exact ⟨z, e, bounds_i64 wz⟩
set_option maxRecDepth 100000 in
theorem wide_f {cs : List Value} {y : DataW H × List MemPlace} (hl : cs.length = 4) (h : DataW.trod enc Tryz.prog W base (fun _ => true) held n 43 cs = some y) : ∃ a b c d : Nat, cs = vQ [a, b, c, d] ∧ a < 18446744073709551616 ∧ b < 18446744073709551616 ∧ c < 18446744073709551616 ∧ d < 18446744073709551616 := by
  cases n with
  | zero => simp [DataW.trod] at h
  | succ m =>
    rw [DataW.trod_step] at h
    unfold DataW.trodStep at h
    simp only [Tryz.underlying43] at h
    rw [if_pos (by rw [cellsWide]; exact hl)] at h
    simp only [Option.map_eq_some_iff] at h
    obtain ⟨ys, hy, _⟩ := h
    have each := mapM_each _ _ hy
    have one : ∀ i, i < 4 → ∃ z : Nat, cs[i]? = some (.int .u64 (z : Int)) ∧ z < 18446744073709551616 := fun i h => by
      obtain ⟨y, hy⟩ := each i (List.mem_range.2 (by omega))
      rw [cellsU64, Nat.mul_one] at hy
      obtain ⟨z, hz, _, wz⟩ := DataW.trod_int Tryz.underlying41 hy
      have hb := bounds_u64 wz
      have hi : i < cs.length := by omega
      rw [List.drop_eq_getElem_cons hi, List.take_succ_cons, List.take_zero] at hz
      exact ⟨z.toNat, by rw [List.getElem?_eq_getElem hi, (List.cons.inj hz).1]; congr 2; omega, by omega⟩
    obtain ⟨a, ha, ba⟩ := one 0 (by decide)
    obtain ⟨b, hb, bb⟩ := one 1 (by decide)
    obtain ⟨c, hc, bc⟩ := one 2 (by decide)
    obtain ⟨d, hd, bd⟩ := one 3 (by decide)
    refine ⟨a, b, c, d, ?_, ba, bb, bc, bd⟩
    obtain ⟨x0, x1, x2, x3, rfl⟩ : ∃ x0 x1 x2 x3, cs = [x0, x1, x2, x3] := by
      match cs, hl with
      | [x0, x1, x2, x3], _ => exact ⟨x0, x1, x2, x3, rfl⟩
    simp only [List.getElem?_cons_zero, List.getElem?_cons_succ, Option.some.injEq] at ha hb hc hd
    rw [ha, hb, hc, hd]
    rfl
/-- An address. -/
theorem adr_f {cs : List Value} {y : DataW H × List MemPlace} (g : DataW.trod enc Tryz.prog W base (fun _ => true) held n 40 cs = some y) : ∃ l : List (BitVec 8), l.length = 20 ∧ cs = vB l := by
  cases n with
  | zero => simp [DataW.trod] at g
  | succ m =>
    rw [DataW.trod_step] at g
    unfold DataW.trodStep at g
    simp only [Tryz.underlying40] at g
    split at g
    · rename_i h2
      rw [cellsAdr] at h2
      simp only [Option.map_eq_some_iff] at g
      obtain ⟨ys, hy, _⟩ := g
      have each := mapM_each _ _ hy
      have key : ∀ i (h : i < cs.length), ∃ z, cs[i] = .int .u8 z ∧ 0 ≤ z ∧ z ≤ 255 := fun i h => by
        obtain ⟨y, hy⟩ := each i (List.mem_range.2 (by omega))
        rw [cellsU8, Nat.mul_one] at hy
        obtain ⟨z, hz, _, wz⟩ := DataW.trod_int Tryz.underlying5 hy
        have hb := bounds_u8 wz
        refine ⟨z, ?_, hb.1, hb.2⟩
        rw [List.drop_eq_getElem_cons h] at hz
        simp only [List.take_succ_cons, List.take_zero, List.cons.injEq, and_true] at hz
        exact hz
      refine ⟨cs.map (fun v => BitVec.ofInt 8 (iOf v)), by simp; omega, ?_⟩
      unfold vB
      rw [List.map_map]
      refine (List.ext_getElem (by simp) fun i h1 h2 => ?_)
      obtain ⟨z, hz, hz0, hz1⟩ := key i h1
      rw [List.getElem_map, hz]
      simp only [Function.comp_apply, iOf]
      unfold c
      rw [BitVec.toNat_ofInt]
      congr 1
      omega
    · cases g
end
theorem one_take (cs : List Value) (k : Nat) (h : k < cs.length) : (cs.drop k).take 1 = [cs.getD k undef] := by
  rw [List.drop_eq_getElem_cons h]
  simp only [List.take_succ_cons, List.take_zero, List.getD_eq_getElem?_getD, List.getElem?_eq_getElem h, Option.getD_some]
theorem cut_at (cs : List Value) (a n : Nat) : cs.drop a = (cs.drop a).take n ++ cs.drop (a + n) := by
  rw [← List.drop_drop, List.take_append_drop]

theorem cellsSl : Tryz.prog.cellsOf 44 = 1 := by kernel_rfl
/-- A Raw that came in, with its Body's place. -/
structure Rwx where
  r : Rwi
  A : Option Addr
  c : Nat
def Rwx.cells (x : Rwx) : List Value := x.r.cells (.slice x.A x.r.d.length x.c)
structure Rwx.Ok (x : Rwx) (W : World) : Prop where
  ok : x.r.Ok
  len : x.r.d.length ≤ 140737488355328
  sl : SlAt W (.slice x.A x.r.d.length x.c) x.r.d
section
variable {H : Type} {enc : TypeId × Value → H} {W : World} {base : Nat} {held : Bool} {n : Nat}
end

end Go.Proofs.YtknabkoddickaaaGreatDoor

namespace Go.Proofs.YtknabkoddickaaaGreatDoor
open Go Go.RowKit Go.ChangeShapes Go.WideShapes Go.ChangeAt
open Sha

theorem cellsEnt15 : Tryz.prog.cellsOf 46 = 49 := by kernel_rfl
theorem bulk_one {H : Type} (d : DataW H) : 1 ≤ Rows.uptoBulk d := by
  cases d with
  | lit l => cases l <;> simp [Rows.uptoBulk]
  | nil => simp [Rows.uptoBulk]
  | ptr d => simp [Rows.uptoBulk]
  | slice elems spare => simp [Rows.uptoBulk]
  | agg parts => simp [Rows.uptoBulk]
  | iface t d => simp [Rows.uptoBulk]
  | map entries => simp [Rows.uptoBulk]
  | held h => simp [Rows.uptoBulk]
theorem bulk_part {H : Type} {d : DataW H} {l : List (DataW H)} (h : d ∈ l) : Rows.uptoBulk d ≤ Rows.uptoBulkAll l := by
  induction l with
  | nil => cases h
  | cons x r ih =>
    simp only [Rows.uptoBulkAll]
    cases List.mem_cons.1 h with
    | inl e => subst e; omega
    | inr e => have := ih e; omega
theorem bulk_len {H : Type} (l : List (DataW H)) : l.length ≤ Rows.uptoBulkAll l := by
  induction l with
  | nil => simp [Rows.uptoBulkAll]
  | cons x r ih => have := bulk_one x; simp only [Rows.uptoBulkAll, List.length_cons]; omega
theorem bulk_slice {H : Type} (l r : List (DataW H)) : l.length ≤ Rows.uptoBulk (.slice l r) ∧ ∀ d ∈ l, Rows.uptoBulk d ≤ Rows.uptoBulk (.slice l r) := by
  have h1 := bulk_len l
  refine ⟨by simp only [Rows.uptoBulk]; omega, fun d hd => ?_⟩
  have h2 := bulk_part hd
  simp only [Rows.uptoBulk]
  omega
theorem mapM_len {α β : Type} {f : α → Option β} : ∀ (L : List α) (ys : List β), L.mapM f = some ys → ys.length = L.length
  | [], ys, h => by
    simp only [List.mapM_nil, pure, Option.some.injEq] at h
    rw [← h]
    rfl
  | a :: L, ys, h => by
    rw [List.mapM_cons] at h
    simp only [bind, Option.bind_eq_some_iff, pure, Option.some.injEq] at h
    obtain ⟨y, hy, zs, hz, rfl⟩ := h
    rw [List.length_cons, List.length_cons, mapM_len L zs hz]
section
variable {H : Type} {enc : TypeId × Value → H} {W : World} {base : Nat} {held : Bool} {n : Nat}
set_option maxRecDepth 100000 in
theorem adr_fb {cs : List Value} {y : DataW H × List MemPlace} (g : DataW.trod enc Tryz.prog W base (fun _ => true) held n 40 cs = some y) : 20 ≤ Rows.uptoBulk y.1 := by
  cases n with
  | zero => simp [DataW.trod] at g
  | succ m =>
    rw [DataW.trod_step] at g
    unfold DataW.trodStep at g
    simp only [Tryz.underlying40] at g
    split at g
    · simp only [Option.map_eq_some_iff] at g
      obtain ⟨ys, hy, hyy⟩ := g
      have hl := mapM_len _ _ hy
      rw [List.length_range] at hl
      rw [← hyy]
      have := bulk_len (ys.map (fun x => x.1))
      simp only [Rows.uptoBulk]
      rw [List.length_map] at this
      omega
    · cases g
theorem bytes_fx {v : Value} {y : DataW H × List MemPlace} (g : DataW.trod enc Tryz.prog W base (fun _ => true) held n 44 [v] = some y) : ∃ (d : List (BitVec 8)) (A : Option Addr) (cap : Nat), v = .slice A d.length cap ∧ SlAt W (.slice A d.length cap) d ∧ (A = none → cap = 0) ∧ d.length ≤ cap ∧ d.length ≤ Rows.uptoBulk y.1 := by
  rcases open_ints Tryz.underlying44 Tryz.underlying5 cellsU8 g with ⟨hcs, hy⟩ | ⟨a', L, C, Z, hcs, _, hl, hm, hz, hy, hcell, hwz⟩
  · simp only [List.cons.injEq, and_true] at hcs
    exact ⟨[], none, 0, hcs, .inl ⟨rfl, _, _, rfl⟩, fun _ => rfl, Nat.zero_le _, Nat.zero_le _⟩
  · simp only [List.cons.injEq, and_true] at hcs
    simp only [if_true] at hz
    obtain ⟨hlen, hsl⟩ := bytes_of (W := W) (A := some a') hl hz hwz (fun h => by cases h) (fun a'' ha c hc => by cases ha; exact hcell c (by rw [hz]; exact hc))
    refine ⟨(Z.take L).map (BitVec.ofInt 8), some a', C, by rw [hlen]; exact hcs, by rw [hlen]; exact hsl, (fun h => by cases h), by rw [hlen]; exact hl, ?_⟩
    rw [hlen, hy]
    refine Nat.le_trans ?_ (bulk_slice _ _).1
    simp only [lits, List.length_map, List.length_take]
    omega
set_option maxRecDepth 100000 in
theorem entry15_fb {cs : List Value} (hcl : cs.length = 49) {y : DataW H × List MemPlace} (g : DataW.trod enc Tryz.prog W base (fun _ => true) held n 46 cs = some y) : ∃ (e : Ev) (A : Option Addr) (c : Nat), cs = e.cells (.slice A e.d.length c) ∧ e.Wf ∧ SlAt W (.slice A e.d.length c) e.d ∧ (A = none → c = 0) ∧ 40 ≤ Rows.uptoBulk y.1 ∧ e.d.length ≤ Rows.uptoBulk y.1 := by
  obtain ⟨xs, k, hk, hxy, _, hxl, hff⟩ := DataW.trod_struct Tryz.underlying46 g
  change ∀ (i : Nat) (f : Field), _ → DataW.trod enc Tryz.prog W base (fun _ => true) held k f.type ((cs.drop f.offset).take (Tryz.prog.cellsOf f.type)) = xs[i]? at hff
  obtain ⟨y0, y1, y2, y3, y4, y5, y6, y7, rfl⟩ : ∃ y0 y1 y2 y3 y4 y5 y6 y7, xs = [y0, y1, y2, y3, y4, y5, y6, y7] := by
    match xs, hxl with
    | [y0, y1, y2, y3, y4, y5, y6, y7], _ => exact ⟨y0, y1, y2, y3, y4, y5, y6, y7, rfl⟩
  have g0 := hff 0 _ rfl
  change DataW.trod enc Tryz.prog W base (fun _ => true) held k 3 ((cs.drop 0).take (Tryz.prog.cellsOf 3)) = some y0 at g0
  rw [cellsInt, one_take cs 0 (by omega)] at g0
  obtain ⟨kd, e0, _, _⟩ := int_f g0
  have g1 := hff 1 _ rfl
  change DataW.trod enc Tryz.prog W base (fun _ => true) held k 40 ((cs.drop 1).take (Tryz.prog.cellsOf 40)) = some y1 at g1
  rw [cellsAdr] at g1
  obtain ⟨sd, l1, e1⟩ := adr_f g1
  have g2 := hff 2 _ rfl
  change DataW.trod enc Tryz.prog W base (fun _ => true) held k 3 ((cs.drop 21).take (Tryz.prog.cellsOf 3)) = some y2 at g2
  rw [cellsInt, one_take cs 21 (by omega)] at g2
  obtain ⟨tm, e2, _, _⟩ := int_f g2
  have g3 := hff 3 _ rfl
  change DataW.trod enc Tryz.prog W base (fun _ => true) held k 3 ((cs.drop 22).take (Tryz.prog.cellsOf 3)) = some y3 at g3
  rw [cellsInt, one_take cs 22 (by omega)] at g3
  obtain ⟨tk, e3, _, _⟩ := int_f g3
  have g4 := hff 4 _ rfl
  change DataW.trod enc Tryz.prog W base (fun _ => true) held k 40 ((cs.drop 23).take (Tryz.prog.cellsOf 40)) = some y4 at g4
  rw [cellsAdr] at g4
  obtain ⟨rc, l4, e4⟩ := adr_f g4
  have g5 := hff 5 _ rfl
  change DataW.trod enc Tryz.prog W base (fun _ => true) held k 43 ((cs.drop 43).take (Tryz.prog.cellsOf 43)) = some y5 at g5
  rw [cellsWide] at g5
  obtain ⟨m0, m1, m2, m3, e5, q0, q1, q2, q3⟩ := wide_f (by simp only [List.length_take, List.length_drop]; omega) g5
  have g6 := hff 6 _ rfl
  change DataW.trod enc Tryz.prog W base (fun _ => true) held k 3 ((cs.drop 47).take (Tryz.prog.cellsOf 3)) = some y6 at g6
  rw [cellsInt, one_take cs 47 (by omega)] at g6
  obtain ⟨gs, e6, _, _⟩ := int_f g6
  have g7 := hff 7 _ rfl
  change DataW.trod enc Tryz.prog W base (fun _ => true) held k 44 ((cs.drop 48).take (Tryz.prog.cellsOf 44)) = some y7 at g7
  rw [cellsSl, one_take cs 48 (by omega)] at g7
  obtain ⟨d, A, c, e7, sl7, nil7, _, bu7⟩ := bytes_fx g7
  have hcs : cs = Ev.cells ⟨kd, sd, tm, tk, rc, [m0, m1, m2, m3], gs, d⟩ (.slice A d.length c) := by
    have h0 := cut_at cs 0 1
    rw [one_take cs 0 (by omega), e0, List.drop_zero] at h0
    rw [h0, cut_at cs 1 20, e1, cut_at cs 21 1, one_take cs 21 (by omega), e2, cut_at cs 22 1, one_take cs 22 (by omega), e3, cut_at cs 23 20, e4, cut_at cs 43 4, e5, cut_at cs 47 1, one_take cs 47 (by omega), e6, cut_at cs 48 1, one_take cs 48 (by omega), e7, List.drop_eq_nil_of_le (by omega : cs.length ≤ 48 + 1)]
    rfl
  refine ⟨_, A, c, hcs, ⟨l1, l4, rfl, by simp only [List.mem_cons, List.not_mem_nil, or_false]; rintro x (rfl | rfl | rfl | rfl) <;> assumption⟩, sl7, nil7, ?_⟩
  rw [hxy]
  have b0 := bulk_one y0.1
  have b1 := adr_fb g1
  have b2 := bulk_one y2.1
  have b3 := bulk_one y3.1
  have b4 := adr_fb g4
  simp only [Rows.uptoBulk, Rows.uptoBulkAll, List.map_cons, List.map_nil]
  exact ⟨by omega, by omega⟩
theorem bulk_mul40 {H : Type} (l : List (DataW H)) (h : ∀ d ∈ l, 40 ≤ Rows.uptoBulk d) : l.length * 40 ≤ Rows.uptoBulkAll l := by
  induction l with
  | nil => simp [Rows.uptoBulkAll]
  | cons x r ih =>
    have h1 := h x List.mem_cons_self
    have h2 := ih (fun d hd => h d (List.mem_cons_of_mem _ hd))
    simp only [Rows.uptoBulkAll, List.length_cons]
    omega
theorem ents_f {v : Value} {y : DataW H × List MemPlace} (g : DataW.trod enc Tryz.prog W base (fun _ => true) held n 52 [v] = some y) : ∃ (es : List Ev) (A : Option Addr) (cap : Nat), v = .slice A es.length cap ∧ es.length * 40 ≤ Rows.uptoBulk y.1 ∧ (∀ e ∈ es, e.Wf ∧ e.d.length ≤ Rows.uptoBulk y.1) ∧ EsAt W A es := by
  rcases Deep.open_slice Tryz.underlying52 g with ⟨hcs, _⟩ | ⟨ad, l, c', m, k, D, Pl, hcs, _, hl, hm, hmm, hx, hr⟩
  · simp only [List.cons.injEq, and_true] at hcs
    exact ⟨[], none, 0, hcs, by simp, (fun e he => by cases he), fun i r h => by simp at h⟩
  · simp only [List.cons.injEq, and_true] at hcs
    simp only [if_true] at hmm
    subst hmm
    have each : ∀ i, i < l → ∃ s : Ev × Option Addr × Nat, (s.1.Wf ∧ 40 ≤ Rows.uptoBulk (D i) ∧ s.1.d.length ≤ Rows.uptoBulk y.1) ∧ (SlAt W (.slice s.2.1 s.1.d.length s.2.2) s.1.d ∧ (s.2.1 = none → s.2.2 = 0)) ∧ ∀ q u, (s.1.cells (.slice s.2.1 s.1.d.length s.2.2))[q]? = some u → W.cell? (ad.add (i * 49 + q)) = some u := by
      intro i hi
      obtain ⟨cs', h1, h2⟩ := hr i (by omega)
      rw [cellsEnt15] at h1
      obtain ⟨_, hlen, hcell⟩ := World.cells?_some h1
      obtain ⟨e, A, c, ee, hwf, hsl, hnil, h5, h6⟩ := entry15_fb (by simpa using hlen) h2
      refine ⟨(e, A, c), ⟨hwf, h5, Nat.le_trans h6 ?_⟩, ⟨hsl, hnil⟩, fun q u hq => ?_⟩
      · rw [hx]
        exact (bulk_slice _ _).2 _ (List.mem_map.2 ⟨i, List.mem_range.2 hi, rfl⟩)
      · have hq49 : q < 49 := by have := (List.getElem?_eq_some_iff.1 hq).1; rw [Ev.len hwf] at this; exact this
        have e2 := hcell q hq49
        rw [Deep.add_add] at e2
        rw [e2, ee]; exact hq
    haveI : Inhabited (Ev × Option Addr × Nat) := ⟨(⟨0, [], 0, 0, [], [], 0, []⟩, none, 0)⟩
    obtain ⟨f, hf⟩ := Deep.choose_lt each
    refine ⟨(List.range l).map (fun i => (f i).1), some ad, m, by simp [hcs], ?_, fun e he => ?_, fun i r hr => ?_⟩
    · rw [hx]
      have := bulk_mul40 ((List.range l).map D) (fun d hd => by obtain ⟨i, hi, rfl⟩ := List.mem_map.1 hd; exact (hf i (List.mem_range.1 hi)).1.2.1)
      simp only [Rows.uptoBulk, List.length_map, List.length_range] at this ⊢
      omega
    · obtain ⟨i, hi, rfl⟩ := List.mem_map.1 he
      have := (hf i (List.mem_range.1 hi)).1
      exact ⟨this.1, this.2.2⟩
    · simp only [List.getElem?_map, Option.map_eq_some_iff] at hr
      obtain ⟨i', hi', rfl⟩ := hr
      have hil : i < l := by have := (List.getElem?_eq_some_iff.1 hi').1; simpa using this
      obtain rfl : i = i' := by rw [List.getElem?_range hil] at hi'; exact Option.some.inj hi'
      obtain ⟨_, ⟨q1, q3⟩, q2⟩ := hf i hil
      obtain ⟨b, off, spot⟩ := ad
      obtain ⟨⟨q0, _, _⟩, _, q02⟩ := hf 0 (by omega)
      have h1 := q02 0 _ (List.getElem?_eq_getElem (by rw [Ev.len q0]; decide))
      have hspot : spot = none := by simpa [Addr.add] using World.cell?_spot h1
      subst hspot
      refine ⟨b, off, (f i).2.1, (f i).2.2, rfl, fun j u hu => ?_, q1, q3⟩
      have := q2 j u hu
      rw [Addr.add_mid, show off + (i * 49 + j) = off + i * 49 + j by omega] at this
      exact this
end
theorem cellsDg15 : Tryz.prog.cellsOf 51 = 32 := by kernel_rfl
set_option maxRecDepth 100000 in
/-- A digest that came in. -/
theorem dig15_in {H : Type} {enc : TypeId × Value → H} {W : World} {base : Nat} {sp : Nat → Bool} {held : Bool} {v : Value} {d : DataW H} {ps : List MemPlace} {r : Reach} {b0 : Nat} (hval : Value.okWide Tryz.prog W r b0 51 v) (hd : DataW.Trod enc Tryz.prog W base sp held 51 v d ps) :
    ∃ l : List (BitVec 8), l.length = 32 ∧ v = .agg (vB l).toArray := by
  simp only [Value.okWide, Tryz.underlying51] at hval
  obtain ⟨xs, rfl, h2, _⟩ := hval
  rw [cellsDg15] at h2
  obtain ⟨fuel, hf⟩ := hd
  cases fuel with
  | zero => simp [DataW.trod] at hf
  | succ m =>
    rw [DataW.trod_step] at hf
    unfold DataW.trodStep at hf
    simp only [Tryz.underlying51, Value.cells] at hf
    rw [if_pos (by rw [cellsDg15]; simpa using h2)] at hf
    simp only [Option.map_eq_some_iff] at hf
    obtain ⟨ys, hy, _⟩ := hf
    have each := mapM_each _ _ hy
    have key : ∀ i (h : i < xs.toList.length), ∃ z, xs.toList[i] = .int .u8 z ∧ 0 ≤ z ∧ z ≤ 255 := fun i h => by
      obtain ⟨y, hy⟩ := each i (List.mem_range.2 (by simp at h; omega))
      rw [cellsU8, Nat.mul_one] at hy
      obtain ⟨z, hz, _, wz⟩ := DataW.trod_int Tryz.underlying5 hy
      have hb := bounds_u8 wz
      refine ⟨z, ?_, hb.1, hb.2⟩
      rw [List.drop_eq_getElem_cons h] at hz
      simp at hz
      simpa using hz
    refine ⟨xs.toList.map (fun v => BitVec.ofInt 8 (iOf v)), by simp; omega, ?_⟩
    congr 1
    apply Array.ext'
    show xs.toList = vB _
    unfold vB
    rw [List.map_map]
    refine (List.ext_getElem (by simp) fun i h1 h2 => ?_)
    obtain ⟨z, hz, hz0, hz1⟩ := key i h1
    rw [List.getElem_map, hz]
    simp only [Function.comp_apply, iOf]
    unfold c
    rw [BitVec.toNat_ofInt]
    congr 1
    omega

end Go.Proofs.YtknabkoddickaaaGreatDoor

namespace Go.Proofs.YtknabkoddickaaaGreatDoor
open Go Go.RowKit
open Sha

theorem gCon : Tryz.prog.globalNamed "causeway/causewayref01.constants" = some 2 := by kernel_rfl
theorem gConType : (Tryz.prog.globals[2]?).map (·.type) = some 166 := by kernel_rfl
theorem gBeg : Tryz.prog.globalNamed "causeway/causewayref01.beginning" = some 0 := by kernel_rfl
theorem gBegType : (Tryz.prog.globals[0]?).map (·.type) = some 133 := by kernel_rfl
theorem cellsArr8 : Tryz.prog.cellsOf 133 = 8 := by kernel_rfl

theorem tab_con {W : World} (h : Lib.TabIs Tryz.prog W "causeway/causewayref01.constants" .u32 (K.map u)) : Tab W 2 := fun i hi => by
  have := h.cell gCon i (by simpa [K_length] using hi)
  rw [this]
  rw [List.getD_eq_getElem?_getD, List.getElem?_map, List.getElem?_eq_getElem (by rw [K_length]; exact hi)]
  simp [show i < K.length by rw [K_length]; exact hi]

theorem given_of {W : World} (h : laidMet Tryz.prog [("causeway/causewayref01.constants", Lib.tabData .u32 (K.map u)), ("causeway/causewayref01.beginning", Lib.tabData .u32 (st0.list.map u)), ("causeway/digest.cubeRoots", Lib.tabData .u32 (K.map u))] W) : Given W := by
  have h1 := h.tail
  have h2 := h1.tail
  refine ⟨tab_con (Lib.tabIs_of_head gCon gConType Tryz.underlying166 Tryz.underlying132 cellsU32 cellsTab h), ?_, tab_of (Lib.tabIs_of_head gTab gTabType Tryz.underlying166 Tryz.underlying132 cellsU32 cellsTab h2)⟩
  have t := Lib.tabIs_of_head gBeg gBegType Tryz.underlying133 Tryz.underlying132 cellsU32 cellsArr8 h1
  intro j v hv
  have hj : j < st0.list.length := by have := (List.getElem?_eq_some_iff.1 hv).1; rwa [vW_length] at this
  have := t.cell gBeg j (by simpa using hj)
  rw [Nat.zero_add, this, ← hv, vW_get _ _ hj]
  rw [List.getD_eq_getElem?_getD, List.getElem?_map, List.getElem?_eq_getElem hj]
  simp [hj]

end Go.Proofs.YtknabkoddickaaaGreatDoor

namespace Go.Proofs.YtknabkoddickaaaGreatDoor.ichk
open Go Go.RowKit Go.ChangeShapes Go.WideShapes Go.ChangeAt
open Sha

/-- What the row's list gives. -/
theorem table {W : World} (h : laidMetH Tryz.prog Rows.inboxChecksUptoRow.laid W) : Given W := by
  have e : Rows.inboxChecksUptoRow.laid = [("causeway/causewayref01.constants", Lib.tabData .u32 (K.map u)), ("causeway/causewayref01.beginning", Lib.tabData .u32 (st0.list.map u)), ("causeway/digest.cubeRoots", Lib.tabData .u32 (K.map u))] := by kernel_rfl
  rw [e] at h
  exact given_of h

set_option maxRecDepth 100000 in
theorem contract (H : Type) (enc : TypeId × Value → H) (W : World) (base : Nat) (args : Array Value) (ds gs : List (DataW H)) (before : List MemPlace)
    (hval : ∀ (j : Nat) t v, Tryz.f4.params[j]? = some t → args[j]? = some v → Value.okWide Tryz.prog W .any base t v)
    (hW : DataW.Whole enc Tryz.prog Tryz.f4.params.toList Rows.inboxChecksSpec.vars false W args.toList ds gs before)
    (hk : Rows.uptoSmall H (ds ++ gs) = true)
    (hL : laidMetH Tryz.prog Rows.inboxChecksUptoRow.laid W) :
    Calls Tryz.prog 4 args W fun e W' => ∃ v, e = .returned v ∧ Rows.inboxChecksSpec.post enc Tryz.prog Tryz.f4 false true false false W args v W' := by
  have hW' := hW
  obtain ⟨p, q, hA0, hV, rfl, hfz, hnd⟩ := hW
  have hA : DataW.TrodAll enc Tryz.prog W 0 (fun _ => true) true Tryz.f4.params.toList args.toList ds p := hA0
  rw [Tryz.params4] at hA hval
  obtain ⟨v0, vs0, d0, ds0, p0, q0, hargs, rfl, rfl, h0, r0⟩ := trodAll_cons hA
  obtain ⟨v1, vs1, d1, ds1, p1, q1, rfl, rfl, rfl, h1, r1⟩ := trodAll_cons r0
  obtain ⟨v2, vs2, d2, ds2, p2, q2, rfl, rfl, rfl, h2, r2⟩ := trodAll_cons r1
  obtain ⟨rfl, rfl, rfl⟩ := trodAll_nil r2
  obtain rfl : args = #[v0, v1, v2] := by cases args; simp_all
  obtain ⟨rfl, rfl⟩ := trodVars_none hV
  have k0 := h0
  have lt0 : ∀ x ∈ p0, x.block < W.heap.size := by obtain ⟨m, hm⟩ := k0; exact DataW.trod_lt m _ _ _ hm
  obtain ⟨b0, hb0, rfl⟩ := dig15_in (hval 0 51 v0 rfl rfl) h0
  have hbk : Rows.uptoBulk d0 + (Rows.uptoBulk d1 + (Rows.uptoBulk d2 + 0)) ≤ 1048576 := by
    have := of_decide_eq_true hk
    simpa only [List.append_nil, Rows.uptoBulkAll] using this
  obtain ⟨a1, len1, cap1, rfl⟩ := okWide_slice Tryz.underlying52 (hval 1 52 v1 rfl rfl)
  have k1 := h1
  have lt1 : ∀ x ∈ p1, x.block < W.heap.size := by obtain ⟨m, hm⟩ := k1; exact DataW.trod_lt m _ _ _ hm
  obtain ⟨fuel1, hf1⟩ := h1
  obtain ⟨es, A1, c1, e1, hn1, hw1, ea1⟩ := ents_f (v := .slice a1 len1 cap1) hf1
  simp only [Value.slice.injEq] at e1
  obtain ⟨rfl, rfl, rfl⟩ := e1
  simp only at hn1 hw1
  have k2 := h2
  have lt2 : ∀ x ∈ p2, x.block < W.heap.size := by obtain ⟨m, hm⟩ := k2; exact DataW.trod_lt m _ _ _ hm
  obtain ⟨b2, hb2, rfl⟩ := dig15_in (hval 2 51 v2 rfl rfl) h2
  clear hA0
  refine (checks15_walk es (fun e he => (hw1 e he).1) a1 es.length cap1 rfl (by omega) (fun e he => by have := (hw1 e he).2; omega) b0 b2 hb0 hb2 _ _ rfl rfl W (table hL) ea1).mono fun e W' ⟨he, bel⟩ => ?_
  subst he
  exact ⟨_, rfl, _, _, _, [], _, [], hW', trodAll_mk1 (shut_bool Tryz.underlying4 _), (trodAll_cons_mk (Below.trod laidOut (by kernel_rfl) (of_decide_eq_true (by kernel_rfl)) k0 bel lt0) (trodAll_cons_mk (Below.trod laidOut (by kernel_rfl) (of_decide_eq_true (by kernel_rfl)) k1 bel lt1) (trodAll_cons_mk (Below.trod laidOut (by kernel_rfl) (of_decide_eq_true (by kernel_rfl)) k2 bel lt2) trodAll_mk0))), rfl, bel.frame _, fun h => by cases h⟩

theorem laid_met (os : Os) : laidMet Tryz.prog Rows.inboxChecksUptoRow.laid (({ World.holding Tryz.prog os ⟨#[], #[], []⟩ with heap := ((((World.holding Tryz.prog os ⟨#[], #[], []⟩).heap.modify 2 fun | .cells _ t frozen => .cells (vW K).toArray t frozen | o => o).modify 0 fun | .cells _ t frozen => .cells (vW st0.list).toArray t frozen | o => o).modify 1 fun | .cells _ t frozen => .cells (vW K).toArray t frozen | o => o) } : World).forCall (fun _ _ => 0) ⟨#[], #[.agg (vB (List.replicate 32 0#8)).toArray, .slice none 0 0, .agg (vB (List.replicate 32 0#8)).toArray], []⟩).memory :=
  laidMet_of_run' 8 (by kernel_rfl) (by kernel_rfl)
theorem reads (os : Os) {H : Type} (enc : TypeId × Value → H) : ∃ places, DataW.whole enc Tryz.prog (({ World.holding Tryz.prog os ⟨#[], #[], []⟩ with heap := ((((World.holding Tryz.prog os ⟨#[], #[], []⟩).heap.modify 2 fun | .cells _ t frozen => .cells (vW K).toArray t frozen | o => o).modify 0 fun | .cells _ t frozen => .cells (vW st0.list).toArray t frozen | o => o).modify 1 fun | .cells _ t frozen => .cells (vW K).toArray t frozen | o => o) } : World).forCall (fun _ _ => 0) ⟨#[], #[.agg (vB (List.replicate 32 0#8)).toArray, .slice none 0 0, .agg (vB (List.replicate 32 0#8)).toArray], []⟩).memory Tryz.f4.params.toList Rows.inboxChecksSpec.vars false (#[.agg (vB (List.replicate 32 0#8)).toArray, .slice none 0 0, .agg (vB (List.replicate 32 0#8)).toArray] : Array Value).toList 8 = some ([.agg (List.replicate 32 (.lit (.int .u8 0))), .nil, .agg (List.replicate 32 (.lit (.int .u8 0)))], [], places) :=
  ⟨[], by kernel_rfl⟩

set_option maxRecDepth 100000 in
theorem lifted (os : Os) (started : os.Started) (H : Type) (enc : TypeId × Value → H) (F : Stop.Interp) :
    ReturnsInHanded {} Tryz.checked os 4 .any ((Rows.OpenSpec.upto Rows.inboxChecksSpec).preRow enc Tryz.prog Tryz.f4 Rows.inboxChecksUptoRow.domain false Rows.inboxChecksUptoRow.laid) (((Rows.OpenSpec.upto Rows.inboxChecksSpec).at F).post enc Tryz.prog Tryz.f4 false true false false) := by
  obtain ⟨places, hx⟩ := reads os enc
  refine returnsInHanded_of_row (C := Tryz.checked) (s := Rows.OpenSpec.upto Rows.inboxChecksSpec) own started (by kernel_rfl) Tryz.func4
    (witness_row_at (enc := enc) (C := Tryz.checked) false ({ World.holding Tryz.prog os ⟨#[], #[], []⟩ with heap := ((((World.holding Tryz.prog os ⟨#[], #[], []⟩).heap.modify 2 fun | .cells _ t frozen => .cells (vW K).toArray t frozen | o => o).modify 0 fun | .cells _ t frozen => .cells (vW st0.list).toArray t frozen | o => o).modify 1 fun | .cells _ t frozen => .cells (vW K).toArray t frozen | o => o) } : World) #[.agg (vB (List.replicate 32 0#8)).toArray, .slice none 0 0, .agg (vB (List.replicate 32 0#8)).toArray] rfl (by kernel_rfl) (by kernel_rfl) (by kernel_rfl)
      (OpenSpec.preRow_of_cond 8 hx (by kernel_rfl) (fun k hk => by cases hk; kernel_rfl) (by kernel_rfl) (laid_met os))) ?_
  intro W base args ds gs before hval hW _ hc hsz hL _ _
  exact contract H enc W base args ds gs before hval hW (hc _ rfl) hL

theorem said : Rows.InboxChecksUptoSaid :=
  OpenClaim.holds_of_cond 4 Tryz.f4 rfl rfl rfl rfl rfl rfl rfl ⟨rfl, rfl, rfl, rfl, rfl⟩ rfl rfl rfl rfl rfl (by kernel_rfl) Tryz.func4 (by kernel_rfl)
    (of_decide_eq_true (by kernel_rfl)) (by unfold Func.isWrapper; first | (rw [if_pos (by decide +kernel)]; kernel_rfl) | (rw [if_neg (by decide +kernel)]; exact ⟨rfl, rfl⟩))
    (fun os started H enc _ F => by rw [OpenClaim.pre_eq_preRow]; exact lifted os started H enc F)

theorem plain (f : FuncId) (fn : Func) (hf : Tryz.pinned.checked.prog.funcNamed "causeway/causewaylaw15.InboxChecks" = some f) (hfn : Tryz.pinned.checked.prog.funcs[f]? = some fn) :
    true = Tryz.pinned.checked.prog.looks [] ∧ ∀ (j : Nat) t, fn.params[j]? = some t → Tryz.pinned.checked.prog.wantsStandIn t = false := by
  obtain rfl : f = 4 := Option.some.inj ((show Tryz.prog.funcNamed "causeway/causewaylaw15.InboxChecks" = some 4 by kernel_rfl).symm.trans hf) |>.symm
  obtain rfl : fn = Tryz.f4 := (Option.some.inj (Tryz.func4.symm.trans hfn)).symm
  refine ⟨by kernel_rfl, fun j t ht => ?_⟩
  rw [Tryz.params4] at ht
  have ht' : t = 51 ∨ t = 52 := by have := Array.mem_of_getElem? ht; simp at this; first | omega | exact this | exact this.symm | (rcases this with h | h | h <;> simp [h])
  rcases ht' with rfl | rfl
  · exact (show Tryz.prog.wantsStandIn 51 = false by kernel_rfl)
  · exact (show Tryz.prog.wantsStandIn 52 = false by kernel_rfl)

/-- THE CARD. -/
theorem card : Rows.InboxChecksUptoCardSaid :=
  Claim7.holds_tied_plain_at .later [] _ _ _ _ said (fun _ h => by cases h) (by kernel_rfl) (fun _ h => by cases h) inboxChecksUpto_row_tie rfl ⟨rfl, rfl⟩ (by kernel_rfl) rfl plain (by kernel_rfl)

end Go.Proofs.YtknabkoddickaaaGreatDoor.ichk
