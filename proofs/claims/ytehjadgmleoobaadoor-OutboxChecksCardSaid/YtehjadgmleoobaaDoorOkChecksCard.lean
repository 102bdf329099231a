/-
  The law OutboxChecks: row and card.
-/
import Derived.Test.YtehjadgmleoobaaDoorTEq
import Derived.Test.YtehjadgmleoobaaDoorRows
import Derived.ProofKit
import Derived.OpenShut
import Derived.ShutString
import Derived.ChangeOld
import Derived.SizedLaws
import Derived.Deep.DeepHandedRow
import Derived.Lib.LaidTab
import Derived.Test.YtehjadgmleoobaaDoorTRSum
import Derived.Stop.LaidErr
import Derived.Test.YtehjadgmleoobaaDoorTAwk
import Derived.ChangeMaps5
import Derived.Deep.Matrix
import Derived.Deep.SlicePairs
import Derived.Test.YtehjadgmleoobaaDoorOkB
import Derived.Test.YtehjadgmleoobaaDoorOkC
import Derived.Test.YtehjadgmleoobaaDoorCards
import Derived.Test.YtehjadgmleoobaaDoorTie

namespace Go.Proofs.YtehjadgmleoobaaDoor
open Go Go.RowKit Go.ChangeShapes Go.WideShapes Go.ChangeAt
open Sha

theorem own : ownKnob Tryd.prog.godebug = none := by kernel_rfl
theorem laidOut : laidOutB Tryd.prog = true := by kernel_rfl
theorem gTab : Tryd.prog.globalNamed "causeway/digest.cubeRoots" = some 2 := by kernel_rfl
theorem gTabType : (Tryd.prog.globals[2]?).map (·.type) = some 140 := by kernel_rfl
theorem cellsTab : Tryd.prog.cellsOf 140 = 64 := by kernel_rfl
theorem cellsU32 : Tryd.prog.cellsOf 129 = 1 := by kernel_rfl
theorem cellsU8 : Tryd.prog.cellsOf 5 = 1 := by kernel_rfl
theorem bytesU8 : Tryd.prog.bytesOf 5 = 1 := by kernel_rfl

theorem tab_of {W : World} (h : Lib.TabIs Tryd.prog W "causeway/digest.cubeRoots" .u32 (K.map u)) : Tab W 2 := fun i hi => by
  have := h.cell gTab i (by simpa [K_length] using hi)
  rw [this]
  rw [List.getD_eq_getElem?_getD, List.getElem?_map, List.getElem?_eq_getElem (by rw [K_length]; exact hi)]
  simp [show i < K.length by rw [K_length]; exact hi]

/-- A slice of bytes that came in. -/
theorem bytes_in {H : Type} {enc : TypeId × Value → H} {W : World} {base : Nat} {held : Bool} {fuel : Nat} {a : Option Addr} {len cap : Nat} {x : DataW H × List MemPlace} {ts : List TypeId} {ds : List (DataW H)} {j : Nat}
    (h : DataW.trod enc Tryd.prog W base (fun _ => true) held fuel 63 (Value.slice a len cap).cells.toList = some x)
    (hsz : (DataW.weightsEach Tryd.prog ts ds).all (· ≤ reachBytes) = true) (ht : ts[j]? = some 63) (hd : ds[j]? = some x.1) :
    ∃ d : List (BitVec 8), d.length = len ∧ len ≤ reachBytes ∧ cap ≤ reachBytes ∧ SlAtT W (.slice a len cap) d := by
  rcases open_ints Tryd.underlying63 Tryd.underlying5 cellsU8 h with ⟨hcs, _⟩ | ⟨y, l, c', zs, hcs, _, hl, hm, hz, hx, hcell, hwz⟩
  · simp [Value.cells] at hcs
    obtain ⟨rfl, rfl, rfl⟩ := hcs
    exact ⟨[], rfl, Nat.zero_le _, Nat.zero_le _, .inl ⟨rfl, _, _, rfl⟩⟩
  · simp [Value.cells] at hcs
    obtain ⟨rfl, rfl, rfl⟩ := hcs
    simp only [if_true] at hz
    have hreach := sized_slice hsz (j := j) (t := 63) (e := 5) ht (by rw [hd, hx]) Tryd.underlying63
    rw [bytesU8] at hreach
    simp only [lits, List.length_map, List.length_take, List.length_drop, Nat.mul_one] at hreach
    have hr2 : cap ≤ reachBytes := by omega
    refine ⟨(zs.take len).map (BitVec.ofInt 8), by simp; omega, by omega, hr2, ?_⟩
    by_cases h0 : len = 0
    · subst h0; exact .inl ⟨by simp, _, _, rfl⟩
    · obtain ⟨b, off, spot⟩ := y
      have hc := hcell 0 (by omega)
      have hspot : spot = none := by simpa [Addr.add] using World.cell?_spot hc
      subst hspot
      refine .inr ⟨b, off, cap, by simp; omega, by simp; omega, fun i v hv => ?_⟩
      have hi : i < len := by have := (List.getElem?_eq_some_iff.1 hv).1; simp [vB_length] at this; omega
      have h1 := hcell i (by omega)
      rw [Addr.add_mid] at h1
      rw [h1]
      have hw := hwz (zs.getD i 0) (by rw [List.getD_eq_getElem?_getD, List.getElem?_eq_getElem (by omega)]; exact List.getElem_mem _)
      have hb := bounds_u8 hw
      rw [vB_get _ i (by simp; omega)] at hv
      rw [← hv]
      have e : ((zs.take len).map (BitVec.ofInt 8)).getD i 0 = BitVec.ofInt 8 (zs.getD i 0) := by
        simp [List.getElem?_take_of_lt hi, List.getElem?_eq_getElem (show i < zs.length by omega)]
      rw [e]
      unfold c
      rw [show ((BitVec.ofInt 8 (zs.getD i 0)).toNat : Int) = zs.getD i 0 from by rw [BitVec.toNat_ofInt]; omega]

end Go.Proofs.YtehjadgmleoobaaDoor

namespace Go.Proofs.YtehjadgmleoobaaDoor
open Go Go.RowKit
open Sha

theorem gCon : Tryd.prog.globalNamed "causeway/causewayref01.constants" = some 1 := by kernel_rfl
theorem gConType : (Tryd.prog.globals[1]?).map (·.type) = some 140 := by kernel_rfl
theorem gBeg : Tryd.prog.globalNamed "causeway/causewayref01.beginning" = some 0 := by kernel_rfl
theorem gBegType : (Tryd.prog.globals[0]?).map (·.type) = some 130 := by kernel_rfl
theorem cellsArr8 : Tryd.prog.cellsOf 130 = 8 := by kernel_rfl

theorem tab_con {W : World} (h : Lib.TabIs Tryd.prog W "causeway/causewayref01.constants" .u32 (K.map u)) : Tab W 1 := fun i hi => by
  have := h.cell gCon i (by simpa [K_length] using hi)
  rw [this]
  rw [List.getD_eq_getElem?_getD, List.getElem?_map, List.getElem?_eq_getElem (by rw [K_length]; exact hi)]
  simp [show i < K.length by rw [K_length]; exact hi]

theorem given_of {W : World} (h : laidMet Tryd.prog [("causeway/causewayref01.constants", Lib.tabData .u32 (K.map u)), ("causeway/causewayref01.beginning", Lib.tabData .u32 (st0.list.map u)), ("causeway/digest.cubeRoots", Lib.tabData .u32 (K.map u))] W) : Given W := by
  have h1 := h.tail
  have h2 := h1.tail
  refine ⟨tab_con (Lib.tabIs_of_head gCon gConType Tryd.underlying140 Tryd.underlying129 cellsU32 cellsTab h), ?_, tab_of (Lib.tabIs_of_head gTab gTabType Tryd.underlying140 Tryd.underlying129 cellsU32 cellsTab h2)⟩
  have t := Lib.tabIs_of_head gBeg gBegType Tryd.underlying130 Tryd.underlying129 cellsU32 cellsArr8 h1
  intro j v hv
  have hj : j < st0.list.length := by have := (List.getElem?_eq_some_iff.1 hv).1; rwa [vW_length] at this
  have := t.cell gBeg j (by simpa using hj)
  rw [Nat.zero_add, this, ← hv, vW_get _ _ hj]
  rw [List.getD_eq_getElem?_getD, List.getElem?_map, List.getElem?_eq_getElem hj]
  simp [hj]

end Go.Proofs.YtehjadgmleoobaaDoor

namespace Go.Proofs.YtehjadgmleoobaaDoor
open Go Go.RowKit Go.ChangeShapes Go.WideShapes Go.ChangeAt
open Sha

theorem cellsDig : Tryd.prog.cellsOf 25 = 32 := by kernel_rfl
theorem bytesDig : Tryd.prog.bytesOf 25 = 32 := by kernel_rfl
theorem cellsI : Tryd.prog.cellsOf 3 = 1 := by kernel_rfl
theorem cellsS : Tryd.prog.cellsOf 63 = 1 := by kernel_rfl
theorem cellsDs : Tryd.prog.cellsOf 33 = 1 := by kernel_rfl
theorem mapM_each {α β : Type} {f : α → Option β} : ∀ (L : List α) (ys : List β), L.mapM f = some ys → ∀ i ∈ L, ∃ y, f i = some y
  | [], _, _, i, hi => by cases hi
  | a :: L, ys, h, i, hi => by
    rw [List.mapM_cons] at h
    simp only [bind, Option.bind_eq_some_iff, pure, Option.some.injEq] at h
    obtain ⟨y, hy, zs, hz, _⟩ := h
    rcases List.mem_cons.1 hi with rfl | hi
    · exact ⟨y, hy⟩
    · exact mapM_each L zs hz i hi

theorem weights_all {H : Type} {P : Program} {e : TypeId} : ∀ (l : List (DataW H)) (d : DataW H), d ∈ l → ∀ n ∈ d.weights P e, n ∈ DataW.weightsAll P e l
  | [], _, h, _, _ => by cases h
  | x :: r, d, h, n, hn => by
    simp only [DataW.weightsAll, List.mem_append]
    rcases List.mem_cons.1 h with rfl | h
    · exact .inl hn
    · exact .inr (weights_all r d h n hn)

/-- A slice of bytes by its cells. -/
theorem bytes_of {W : World} {A : Option Addr} {L C : Nat} {Z : List Int} (hL : L ≤ C) (hZ : Z.length = C) (hw : ∀ n ∈ Z, (Lit.int .u8 n).wf = true) (h0 : A = none → C = 0) (hc : ∀ a', A = some a' → ∀ c, c < C → W.cell? (a'.add c) = some (.int .u8 (Z.getD c 0))) :
    ((Z.take L).map (BitVec.ofInt 8)).length = L ∧ SlAtT W (.slice A L C) ((Z.take L).map (BitVec.ofInt 8)) := by
  have hl : ((Z.take L).map (BitVec.ofInt 8)).length = L := by simp; omega
  refine ⟨hl, ?_⟩
  by_cases hz : L = 0
  · subst hz; exact .inl ⟨by simp, _, _, rfl⟩
  · cases A with
    | none => have := h0 rfl; omega
    | some y =>
      obtain ⟨b, off, spot⟩ := y
      have hcell := hc _ rfl
      have h1 := hcell 0 (by omega)
      have hspot : spot = none := by simpa [Addr.add] using World.cell?_spot h1
      subst hspot
      refine .inr ⟨b, off, C, by rw [hl], by rw [hl]; exact hL, fun i v hv => ?_⟩
      have hi : i < L := by have := (List.getElem?_eq_some_iff.1 hv).1; rw [vB_length, hl] at this; exact this
      have h2 := hcell i (by omega)
      rw [Addr.add_mid] at h2
      rw [h2]
      have hw := hw (Z.getD i 0) (by rw [List.getD_eq_getElem?_getD, List.getElem?_eq_getElem (by omega)]; exact List.getElem_mem _)
      have hb := bounds_u8 hw
      rw [vB_get _ i (by rw [hl]; exact hi)] at hv
      rw [← hv]
      have e : ((Z.take L).map (BitVec.ofInt 8)).getD i 0 = BitVec.ofInt 8 (Z.getD i 0) := by
        simp [List.getElem?_take_of_lt hi, List.getElem?_eq_getElem (show i < Z.length by omega)]
      rw [e]
      unfold c
      rw [show ((BitVec.ofInt 8 (Z.getD i 0)).toNat : Int) = Z.getD i 0 from by rw [BitVec.toNat_ofInt]; omega]

theorem range_getD {α : Type} (n i : Nat) (f : Nat → α) (x : α) (h : i < n) : ((List.range n).map f).getD i x = f i := by
  simp [h]


section
variable {H : Type} {enc : TypeId × Value → H} {W : World} {base : Nat} {held : Bool} {n : Nat}
/-- A number. -/
theorem int_f {v : Value} {y : DataW H × List MemPlace} (g : DataW.trod enc Tryd.prog W base (fun _ => true) held n 3 [v] = some y) : ∃ z, v = .int .i64 z ∧ -9223372036854775808 ≤ z ∧ z ≤ 9223372036854775807 := by
  obtain ⟨z, e, _, wz⟩ := DataW.trod_int Tryd.underlying3 g
  simp only [List.cons.injEq, and_true] at e
  exact ⟨z, e, bounds_i64 wz⟩
/-- Bytes. -/
theorem bytes_f {v : Value} {y : DataW H × List MemPlace} (g : DataW.trod enc Tryd.prog W base (fun _ => true) held n 63 [v] = some y) : ∃ (d : List (BitVec 8)) (A : Option Addr) (cap : Nat), v = .slice A d.length cap ∧ SlAtT W (.slice A d.length cap) d ∧ (A = none → cap = 0) ∧ ((∀ m ∈ y.1.weights Tryd.prog 63, m ≤ reachBytes) → d.length ≤ 140737488351232) := by
  have hrb : reachBytes = 140737488351232 := rfl
  rcases open_ints Tryd.underlying63 Tryd.underlying5 cellsU8 g with ⟨hcs, hy⟩ | ⟨a', L, C, Z, hcs, _, hl, hm, hz, hy, hcell, hwz⟩
  · simp only [List.cons.injEq, and_true] at hcs
    exact ⟨[], none, 0, hcs, .inl ⟨rfl, _, _, rfl⟩, fun _ => rfl, fun _ => Nat.zero_le _⟩
  · simp only [List.cons.injEq, and_true] at hcs
    simp only [if_true] at hz
    obtain ⟨hlen, hsl⟩ := bytes_of (W := W) (A := some a') hl hz hwz (fun h => by cases h) (fun a'' ha c hc => by cases ha; exact hcell c (by rw [hz]; exact hc))
    refine ⟨(Z.take L).map (BitVec.ofInt 8), some a', C, by rw [hlen]; exact hcs, by rw [hlen]; exact hsl, (fun h => by cases h), fun hw => ?_⟩
    have := hw (((Z.take L).length + (Z.drop L).length) * 1) (by
        rw [hy]
        simp only [DataW.weights, Tryd.underlying63, lits, List.length_map, bytesU8]
        exact List.mem_cons_self)
    simp only [List.length_take, List.length_drop, Nat.mul_one] at this
    rw [hlen]; omega
/-- A digest. -/
theorem dig_f {cs : List Value} {y : DataW H × List MemPlace} (g : DataW.trod enc Tryd.prog W base (fun _ => true) held n 25 cs = some y) : ∃ l : List (BitVec 8), l.length = 32 ∧ cs = vB l := by
  cases n with
  | zero => simp [DataW.trod] at g
  | succ m =>
    rw [DataW.trod_step] at g
    unfold DataW.trodStep at g
    simp only [Tryd.underlying25] at g
    split at g
    · rename_i h2
      rw [cellsDig] at h2
      simp only [Option.map_eq_some_iff] at g
      obtain ⟨ys, hy, _⟩ := g
      have each := mapM_each _ _ hy
      have key : ∀ i (h : i < cs.length), ∃ z, cs[i] = .int .u8 z ∧ 0 ≤ z ∧ z ≤ 255 := fun i h => by
        obtain ⟨y, hy⟩ := each i (List.mem_range.2 (by omega))
        rw [cellsU8, Nat.mul_one] at hy
        obtain ⟨z, hz, _, wz⟩ := DataW.trod_int Tryd.underlying5 hy
        have hb := bounds_u8 wz
        refine ⟨z, ?_, hb.1, hb.2⟩
        rw [List.drop_eq_getElem_cons h] at hz
        simp only [List.take_succ_cons, List.take_zero, List.cons.injEq, and_true] at hz
        exact hz
      refine ⟨cs.map (fun v => BitVec.ofInt 8 (intOf v)), by simp; omega, ?_⟩
      unfold vB
      rw [List.map_map]
      refine (List.ext_getElem (by simp) fun i h1 h2 => ?_)
      obtain ⟨z, hz, hz0, hz1⟩ := key i h1
      rw [List.getElem_map, hz]
      simp only [Function.comp_apply, intOf]
      unfold c
      rw [BitVec.toNat_ofInt]
      congr 1
      omega
    · cases g
theorem flat_get (ds : List (List (BitVec 8))) (h : ∀ d ∈ ds, d.length = 32) (j : Nat) (v : Value) (hv : (ds.flatMap vB)[j]? = some v) : j / 32 < ds.length ∧ (vB (ds.getD (j / 32) []))[j % 32]? = some v := by
  induction ds generalizing j with
  | nil => simp at hv
  | cons d r ih =>
    have hd : (vB d).length = 32 := by rw [vB_length]; exact h d List.mem_cons_self
    rw [List.flatMap_cons] at hv
    by_cases hj : j < 32
    · rw [List.getElem?_append_left (by omega)] at hv
      rw [Nat.div_eq_of_lt hj, Nat.mod_eq_of_lt hj]
      exact ⟨by simp, by simpa using hv⟩
    · rw [List.getElem?_append_right (by omega), hd] at hv
      obtain ⟨h1, h2⟩ := ih (fun x hx => h x (List.mem_cons_of_mem _ hx)) (j - 32) hv
      have e1 : j / 32 = (j - 32) / 32 + 1 := by omega
      have e2 : j % 32 = (j - 32) % 32 := by omega
      rw [e1, e2]
      exact ⟨by simp; omega, by simpa using h2⟩
/-- A list of digests. -/
theorem digs_f {v : Value} {y : DataW H × List MemPlace} (g : DataW.trod enc Tryd.prog W base (fun _ => true) held n 33 [v] = some y) : ∃ (ds : List (List (BitVec 8))) (A : Option Addr) (cap : Nat), v = .slice A ds.length cap ∧ PAt W (.slice A ds.length cap) ds ∧ (A = none → cap = 0) ∧ ((∀ m ∈ y.1.weights Tryd.prog 33, m ≤ reachBytes) → ds.length * 32 ≤ 140737488351232) := by
  have hrb : reachBytes = 140737488351232 := rfl
  rcases Deep.open_slice Tryd.underlying33 g with ⟨hcs, _⟩ | ⟨ad, l, c', m, k, D, Pl, hcs, _, hl, hm, hmm, hx, hr⟩
  · simp only [List.cons.injEq, and_true] at hcs
    exact ⟨[], none, 0, hcs, ⟨(fun d hd => by cases hd), none, 0, rfl, Nat.le_refl _, .inl rfl⟩, fun _ => rfl, fun _ => by simp⟩
  · simp only [List.cons.injEq, and_true] at hcs
    simp only [if_true] at hmm
    subst hmm
    have each : ∀ i, i < l → ∃ d : List (BitVec 8), d.length = 32 ∧ ∀ q u, (vB d)[q]? = some u → W.cell? (ad.add (i * 32 + q)) = some u := by
      intro i hi
      obtain ⟨cs', h1, h2⟩ := hr i (by omega)
      rw [cellsDig] at h1
      obtain ⟨_, hlen, hcell⟩ := World.cells?_some h1
      obtain ⟨d, hd, e⟩ := dig_f h2
      refine ⟨d, hd, fun q u hq => ?_⟩
      have hq32 : q < 32 := by have := (List.getElem?_eq_some_iff.1 hq).1; rw [vB_length, hd] at this; exact this
      have e2 := hcell q hq32
      rw [Deep.add_add] at e2
      rw [e2, e]; exact hq
    obtain ⟨f, hf⟩ := Deep.choose_lt each
    have hlen : ((List.range l).map f).length = l := by simp
    have h32 : ∀ d ∈ (List.range l).map f, d.length = 32 := fun d hd => by
      obtain ⟨i, hi, rfl⟩ := List.mem_map.1 hd
      exact (hf i (List.mem_range.1 hi)).1
    refine ⟨(List.range l).map f, some ad, m, by rw [hlen]; exact hcs, ⟨h32, some ad, m, by rw [hlen], by rw [hlen]; exact hl, ?_⟩, (fun h => by cases h), fun hw => ?_⟩
    · by_cases h0 : l = 0
      · subst h0; exact .inl rfl
      · obtain ⟨b, off, spot⟩ := ad
        have h1 := (hf 0 (by omega)).2 0 _ (vB_get _ 0 (by rw [(hf 0 (by omega)).1]; decide))
        have hspot : spot = none := by simpa [Addr.add] using World.cell?_spot h1
        subst hspot
        refine .inr ⟨b, off, rfl, fun j u hu => ?_⟩
        obtain ⟨k1, k2⟩ := flat_get _ h32 j u hu
        rw [hlen] at k1
        rw [range_getD _ _ _ _ k1] at k2
        have := (hf (j / 32) k1).2 (j % 32) u k2
        rw [Addr.add_mid, show j / 32 * 32 + j % 32 = j by omega] at this
        exact this
    · have := hw ((((List.range l).map D).length + ((List.range (m - l)).map fun j => D (l + j)).length) * 32) (by
        rw [hx]
        simp only [DataW.weights, Tryd.underlying33, bytesDig]
        exact List.mem_cons_self)
      simp only [List.length_map, List.length_range] at this
      rw [hlen]; omega
end

end Go.Proofs.YtehjadgmleoobaaDoor

namespace Go.Proofs.YtehjadgmleoobaaDoor
open Go Go.RowKit Go.ChangeShapes Go.WideShapes Go.ChangeAt
open Sha

theorem cellsU64 : Tryd.prog.cellsOf 28 = 1 := by kernel_rfl
theorem cellsWide : Tryd.prog.cellsOf 30 = 4 := by kernel_rfl
theorem cellsAdr : Tryd.prog.cellsOf 27 = 20 := by kernel_rfl
theorem parts_l (xs : List Value) (hl : xs.length = 4) (key : ∀ i (h : i < xs.length), ∃ z : Int, xs[i] = .int .u64 z ∧ 0 ≤ z ∧ z ≤ 18446744073709551615) : ∃ l : List Nat, l.length = 4 ∧ (∀ y ∈ l, y < 18446744073709551616) ∧ xs = vQ l := by
  refine ⟨xs.map (fun v => (intOf v).toNat), by simp [hl], fun y hy => ?_, ?_⟩
  · obtain ⟨v, hv, rfl⟩ := List.mem_map.1 hy
    obtain ⟨i, hi, rfl⟩ := List.mem_iff_getElem.1 hv
    obtain ⟨z, hz, z0, z1⟩ := key i hi
    rw [hz]
    simp only [intOf]
    omega
  · unfold vQ
    rw [List.map_map]
    refine List.ext_getElem (by simp) fun i h1 h2 => ?_
    obtain ⟨z, hz, z0, z1⟩ := key i h1
    rw [List.getElem_map, hz]
    simp only [Function.comp_apply, intOf]
    congr 1
    omega
set_option maxRecDepth 100000 in
section
variable {H : Type} {enc : TypeId × Value → H} {W : World} {base : Nat} {held : Bool} {fuel n : Nat} {cs : List Value} {x : DataW H × List MemPlace}
theorem wide_l {sp : Nat → Bool} (hl : cs.length = 4) (h : DataW.trod enc Tryd.prog W base sp held fuel 30 cs = some x) : ∃ l : List Nat, l.length = 4 ∧ (∀ y ∈ l, y < 18446744073709551616) ∧ cs = vQ l := by
  cases fuel with
  | zero => simp [DataW.trod] at h
  | succ m =>
    rw [DataW.trod_step] at h
    unfold DataW.trodStep at h
    simp only [Tryd.underlying30] at h
    rw [if_pos (by rw [cellsWide]; exact hl)] at h
    simp only [Option.map_eq_some_iff] at h
    obtain ⟨ys, hy, _⟩ := h
    have each := mapM_each _ _ hy
    refine parts_l cs hl (fun i h => ?_)
    obtain ⟨y, hy⟩ := each i (List.mem_range.2 (by omega))
    rw [cellsU64, Nat.mul_one] at hy
    obtain ⟨z, hz, _, wz⟩ := DataW.trod_int Tryd.underlying28 hy
    have hb := bounds_u64 wz
    refine ⟨z, ?_, hb.1, hb.2⟩
    rw [List.drop_eq_getElem_cons h, List.take_succ_cons, List.take_zero] at hz
    exact (List.cons.inj hz).1
theorem adr_f {cs : List Value} {y : DataW H × List MemPlace} (g : DataW.trod enc Tryd.prog W base (fun _ => true) held n 27 cs = some y) : ∃ l : List (BitVec 8), l.length = 20 ∧ cs = vB l := by
  cases n with
  | zero => simp [DataW.trod] at g
  | succ m =>
    rw [DataW.trod_step] at g
    unfold DataW.trodStep at g
    simp only [Tryd.underlying27] at g
    split at g
    · rename_i h2
      rw [cellsAdr] at h2
      simp only [Option.map_eq_some_iff] at g
      obtain ⟨ys, hy, _⟩ := g
      have each := mapM_each _ _ hy
      have key : ∀ i (h : i < cs.length), ∃ z, cs[i] = .int .u8 z ∧ 0 ≤ z ∧ z ≤ 255 := fun i h => by
        obtain ⟨y, hy⟩ := each i (List.mem_range.2 (by omega))
        rw [cellsU8, Nat.mul_one] at hy
        obtain ⟨z, hz, _, wz⟩ := DataW.trod_int Tryd.underlying5 hy
        have hb := bounds_u8 wz
        refine ⟨z, ?_, hb.1, hb.2⟩
        rw [List.drop_eq_getElem_cons h] at hz
        simp only [List.take_succ_cons, List.take_zero, List.cons.injEq, and_true] at hz
        exact hz
      refine ⟨cs.map (fun v => BitVec.ofInt 8 (intOf v)), by simp; omega, ?_⟩
      unfold vB
      rw [List.map_map]
      refine (List.ext_getElem (by simp) fun i h1 h2 => ?_)
      obtain ⟨z, hz, hz0, hz1⟩ := key i h1
      rw [List.getElem_map, hz]
      simp only [Function.comp_apply, intOf]
      unfold c
      rw [BitVec.toNat_ofInt]
      congr 1
      omega
    · cases g
theorem one_take11 (cs : List Value) (k : Nat) (h : k < cs.length) : (cs.drop k).take 1 = [cs.getD k undef] := by
  rw [List.drop_eq_getElem_cons h]
  simp only [List.take_succ_cons, List.take_zero, List.getD_eq_getElem?_getD, List.getElem?_eq_getElem h, Option.getD_some]
theorem cellsLf : Tryd.prog.cellsOf 32 = 27 := by kernel_rfl
theorem cellsShn : Tryd.prog.cellsOf 35 = 61 := by kernel_rfl
theorem bytesShn : ∃ m, Tryd.prog.bytesOf 35 = m + 32 := ⟨Tryd.prog.bytesOf 35 - 32, by have : 32 ≤ Tryd.prog.bytesOf 35 := of_decide_eq_true (by kernel_rfl); omega⟩
theorem cut3 (cs : List Value) (a b c : Nat) (h : cs.length = a + b + c) : cs = cs.take a ++ ((cs.drop a).take b ++ (cs.drop (a + b)).take c) := by
  have e1 : (cs.drop (a + b)).take c = cs.drop (a + b) := List.take_of_length_le (by rw [List.length_drop]; omega)
  rw [e1, ← List.drop_drop, List.take_append_drop, List.take_append_drop]
theorem leaf_f {cs : List Value} (hl : cs.length = 27) {y : DataW H × List MemPlace} (g : DataW.trod enc Tryd.prog W base (fun _ => true) held n 32 cs = some y) : ∃ (ix en tk : Int) (rc : List (BitVec 8)) (am : List Nat), rc.length = 20 ∧ am.length = 4 ∧ (∀ x ∈ am, x < 18446744073709551616) ∧ cs = lf ix en tk rc am := by
  obtain ⟨xs, k, hk, hxy, _, hxl, hff⟩ := DataW.trod_struct Tryd.underlying32 g
  change ∀ (i : Nat) (f : Field), _ → DataW.trod enc Tryd.prog W base (fun _ => true) held k f.type ((cs.drop f.offset).take (Tryd.prog.cellsOf f.type)) = xs[i]? at hff
  obtain ⟨y0, y1, y2, y3, y4, rfl⟩ : ∃ y0 y1 y2 y3 y4, xs = [y0, y1, y2, y3, y4] := by
    match xs, hxl with
    | [y0, y1, y2, y3, y4], _ => exact ⟨y0, y1, y2, y3, y4, rfl⟩
  have g0 := hff 0 _ rfl
  change DataW.trod enc Tryd.prog W base (fun _ => true) held k 3 ((cs.drop 0).take (Tryd.prog.cellsOf 3)) = some y0 at g0
  rw [cellsI, one_take11 cs 0 (by omega)] at g0
  obtain ⟨z0, e0, _, _⟩ := int_f g0
  have g1 := hff 1 _ rfl
  change DataW.trod enc Tryd.prog W base (fun _ => true) held k 3 ((cs.drop 1).take (Tryd.prog.cellsOf 3)) = some y1 at g1
  rw [cellsI, one_take11 cs 1 (by omega)] at g1
  obtain ⟨z1, e1, _, _⟩ := int_f g1
  have g2 := hff 2 _ rfl
  change DataW.trod enc Tryd.prog W base (fun _ => true) held k 3 ((cs.drop 2).take (Tryd.prog.cellsOf 3)) = some y2 at g2
  rw [cellsI, one_take11 cs 2 (by omega)] at g2
  obtain ⟨z2, e2, _, _⟩ := int_f g2
  have g3 := hff 3 _ rfl
  change DataW.trod enc Tryd.prog W base (fun _ => true) held k 27 ((cs.drop 3).take (Tryd.prog.cellsOf 27)) = some y3 at g3
  rw [cellsAdr] at g3
  obtain ⟨rc, hrc, e3⟩ := adr_f g3
  have g4 := hff 4 _ rfl
  change DataW.trod enc Tryd.prog W base (fun _ => true) held k 30 ((cs.drop 23).take (Tryd.prog.cellsOf 30)) = some y4 at g4
  rw [cellsWide] at g4
  obtain ⟨am, ham, hq, e4⟩ := wide_l (by rw [List.length_take, List.length_drop, hl]; rfl) g4
  refine ⟨z0, z1, z2, rc, am, hrc, ham, hq, ?_⟩
  have hs : cs = [cs.getD 0 undef] ++ ([cs.getD 1 undef] ++ ([cs.getD 2 undef] ++ ((cs.drop 3).take 20 ++ (cs.drop 23).take 4))) := by
    have c1 := cut3 cs 3 20 4 hl
    have c2 : cs.take 3 = [cs.getD 0 undef] ++ ([cs.getD 1 undef] ++ [cs.getD 2 undef]) := by
      match cs, hl with
      | a :: b :: c :: r, _ => simp
    rw [c2] at c1
    simpa [List.append_assoc] using c1
  rw [hs, e0, e1, e2, e3, e4]
  rfl
theorem shn_f {cs : List Value} (hl : cs.length = 61) {y : DataW H × List MemPlace} (g : DataW.trod enc Tryd.prog W base (fun _ => true) held n 35 cs = some y) (hw : ∀ m ∈ y.1.weights Tryd.prog 35, m ≤ reachBytes) : ∃ s : Shn, s.Ok ∧ PAt W (.slice s.A s.ds.length s.cap) s.ds ∧ cs = shc s := by
  obtain ⟨xs, k, hk, hxy, _, hxl, hff⟩ := DataW.trod_struct Tryd.underlying35 g
  change ∀ (i : Nat) (f : Field), _ → DataW.trod enc Tryd.prog W base (fun _ => true) held k f.type ((cs.drop f.offset).take (Tryd.prog.cellsOf f.type)) = xs[i]? at hff
  obtain ⟨y0, y1, y2, y3, rfl⟩ : ∃ y0 y1 y2 y3, xs = [y0, y1, y2, y3] := by
    match xs, hxl with
    | [y0, y1, y2, y3], _ => exact ⟨y0, y1, y2, y3, rfl⟩
  have g0 := hff 0 _ rfl
  change DataW.trod enc Tryd.prog W base (fun _ => true) held k 25 ((cs.drop 0).take (Tryd.prog.cellsOf 25)) = some y0 at g0
  rw [cellsDig] at g0
  obtain ⟨root, hroot, e0⟩ := dig_f g0
  have g1 := hff 1 _ rfl
  change DataW.trod enc Tryd.prog W base (fun _ => true) held k 3 ((cs.drop 32).take (Tryd.prog.cellsOf 3)) = some y1 at g1
  rw [cellsI, one_take11 cs 32 (by omega)] at g1
  obtain ⟨z1, e1, _, _⟩ := int_f g1
  have g2 := hff 2 _ rfl
  change DataW.trod enc Tryd.prog W base (fun _ => true) held k 32 ((cs.drop 33).take (Tryd.prog.cellsOf 32)) = some y2 at g2
  rw [cellsLf] at g2
  obtain ⟨ix, en, tk, rc, am, hrc, ham, hq, e2⟩ := leaf_f (by rw [List.length_take, List.length_drop, hl]; rfl) g2
  have g3 := hff 3 _ rfl
  change DataW.trod enc Tryd.prog W base (fun _ => true) held k 33 ((cs.drop 60).take (Tryd.prog.cellsOf 33)) = some y3 at g3
  rw [cellsDs, one_take11 cs 60 (by omega)] at g3
  obtain ⟨ds, A, cap, e3, hpa, hnil, wt⟩ := digs_f g3
  refine ⟨⟨root, z1, ix, en, tk, rc, am, ds, A, cap⟩, ⟨hroot, hrc, ham, hq, wt (fun m hm => hw m ?_), hnil⟩, hpa, ?_⟩
  · rw [hxy]
    simp only [List.map_cons, List.map_nil, DataW.weights, Tryd.underlying35, DataW.weightsEach, List.mem_append]
    exact .inr (.inr (.inr (.inl hm)))
  · have c1 := cut3 cs 32 1 28 hl
    have c2 := cut3 (cs.drop 33) 27 1 0 (by rw [List.length_drop, hl])
    rw [List.drop_drop] at c2
    have c3 : (cs.drop (32 + 1)).take 28 = cs.drop 33 := List.take_of_length_le (by rw [List.length_drop]; omega)
    rw [c3, one_take11 cs 32 (by omega), e1] at c1
    rw [one_take11 cs (33 + 27) (by omega), e3, e2, List.take_zero, List.append_nil] at c2
    have e0' : cs.take 32 = vB root := by rw [← e0, List.drop_zero]
    rw [c2, e0'] at c1
    exact c1
/-- A list of them that came in. -/
theorem shns_f {v : Value} {y : DataW H × List MemPlace} (g : DataW.trod enc Tryd.prog W base (fun _ => true) held n 22 [v] = some y) (hw : ∀ m ∈ y.1.weights Tryd.prog 22, m ≤ reachBytes) : ∃ (ss : List Shn) (A : Option Addr) (cap : Nat), v = .slice A ss.length cap ∧ ss.length ≤ 4398046511104 ∧ Sa W A ss := by
  rcases Deep.open_slice Tryd.underlying22 g with ⟨hcs, _⟩ | ⟨ad, l, c', m, k, D, Pl, hcs, _, hl, hm, hmm, hx, hr⟩
  · simp only [List.cons.injEq, and_true] at hcs
    exact ⟨[], none, 0, hcs, Nat.zero_le _, fun i r h => by simp at h⟩
  · simp only [List.cons.injEq, and_true] at hcs
    simp only [if_true] at hmm
    subst hmm
    have each : ∀ i, i < l → ∃ s : Shn, s.Ok ∧ PAt W (.slice s.A s.ds.length s.cap) s.ds ∧ ∀ q u, (shc s)[q]? = some u → W.cell? (ad.add (i * 61 + q)) = some u := by
      intro i hi
      obtain ⟨cs', h1, h2⟩ := hr i (by omega)
      rw [cellsShn] at h1
      obtain ⟨_, hlen, hcell⟩ := World.cells?_some h1
      obtain ⟨s, hok, hpa, e⟩ := shn_f (by simpa using hlen) h2 (fun mm hmm => hw mm (by
        rw [hx]
        simp only [DataW.weights, Tryd.underlying22, List.mem_cons, List.mem_append]
        exact .inr (.inl (weights_all _ (D i) (List.mem_map.2 ⟨i, List.mem_range.2 hi, rfl⟩) _ hmm))))
      refine ⟨s, hok, hpa, fun q u hq => ?_⟩
      have hq26 : q < 61 := by have := (List.getElem?_eq_some_iff.1 hq).1; rw [shc_len hok] at this; exact this
      have e2 := hcell q hq26
      rw [Deep.add_add] at e2
      rw [e2, e]; exact hq
    haveI : Inhabited Shn := ⟨⟨[], 0, 0, 0, 0, [], [], [], none, 0⟩⟩
    obtain ⟨f, hf⟩ := Deep.choose_lt each
    have hlm : l ≤ 4398046511104 := by
      obtain ⟨m0, hm0⟩ := bytesShn
      have := hw ((((List.range l).map D).length + ((List.range (m - l)).map fun j => D (l + j)).length) * Tryd.prog.bytesOf 35) (by
        rw [hx]
        simp only [DataW.weights, Tryd.underlying22]
        exact List.mem_cons_self)
      simp only [List.length_map, List.length_range] at this
      have hrb : reachBytes = 140737488351232 := rfl
      rw [hm0, hrb] at this
      have h2 : l * 32 ≤ (l + (m - l)) * (m0 + 32) := Nat.mul_le_mul (by omega) (by omega)
      omega
    refine ⟨(List.range l).map f, some ad, m, by simp [hcs], by simpa using hlm, fun i r hr => ?_⟩
    simp only [List.getElem?_map, Option.map_eq_some_iff] at hr
    obtain ⟨i', hi', rfl⟩ := hr
    have hil : i < l := by have := (List.getElem?_eq_some_iff.1 hi').1; simpa using this
    obtain rfl : i = i' := by rw [List.getElem?_range hil] at hi'; exact Option.some.inj hi'
    obtain ⟨q1, qp, q2⟩ := hf i hil
    obtain ⟨b, off, spot⟩ := ad
    obtain ⟨q0, _, q02⟩ := hf 0 (by omega)
    have h1 := q02 0 _ (List.getElem?_eq_getElem (by rw [shc_len q0]; decide))
    have hspot : spot = none := by simpa [Addr.add] using World.cell?_spot h1
    subst hspot
    refine ⟨q1, qp, b, off, rfl, fun j u hu => ?_⟩
    have := q2 j u hu
    rw [Addr.add_mid, show off + (i * 61 + j) = off + i * 61 + j by omega] at this
    exact this
end

end Go.Proofs.YtehjadgmleoobaaDoor

namespace Go.Proofs.YtehjadgmleoobaaDoor.ochecks
open Go Go.RowKit Go.ChangeShapes Go.WideShapes Go.ChangeAt
open Sha

/-- What the row's list gives. -/
theorem table {W : World} (h : laidMetH Tryd.prog Rows.outboxChecksRow.laid W) : Given W := by
  have e : Rows.outboxChecksRow.laid = [("causeway/causewayref01.constants", Lib.tabData .u32 (K.map u)), ("causeway/causewayref01.beginning", Lib.tabData .u32 (st0.list.map u)), ("causeway/digest.cubeRoots", Lib.tabData .u32 (K.map u))] := by kernel_rfl
  rw [e] at h
  exact given_of h

set_option maxRecDepth 100000 in
theorem contract (H : Type) (enc : TypeId × Value → H) (W : World) (base : Nat) (args : Array Value) (ds gs : List (DataW H)) (before : List MemPlace)
    (hval : ∀ (j : Nat) t v, Tryd.f3.params[j]? = some t → args[j]? = some v → Value.okWide Tryd.prog W .any base t v)
    (hW : DataW.Whole enc Tryd.prog Tryd.f3.params.toList Rows.outboxChecksSpec.vars false W args.toList ds gs before)
    (hsz : (DataW.weightsEach Tryd.prog (Tryd.f3.params.toList ++ (OpenSpec.ofChange Rows.outboxChecksSpec).bare.plain.varTypes Tryd.prog) (ds ++ gs)).all (· ≤ reachBytes) = true)
    (hL : laidMetH Tryd.prog Rows.outboxChecksRow.laid W) :
    Calls Tryd.prog 3 args W fun e W' => ∃ v, e = .returned v ∧ Rows.outboxChecksSpec.post enc Tryd.prog Tryd.f3 false true false false W args v W' := by
  have hW' := hW
  obtain ⟨p, q, hA0, hV, rfl, hfz, hnd⟩ := hW
  have hA : DataW.TrodAll enc Tryd.prog W 0 (fun _ => true) true Tryd.f3.params.toList args.toList ds p := hA0
  rw [Tryd.params3] at hA hval hsz
  obtain ⟨v0, vs0, d0, ds0, p0, q0, hargs, rfl, rfl, h0, r0⟩ := trodAll_cons hA
  obtain ⟨rfl, rfl, rfl⟩ := trodAll_nil r0
  obtain rfl : args = #[v0] := by cases args; simp_all
  obtain ⟨rfl, rfl⟩ := trodVars_none hV
  obtain ⟨a0, len0, cap0, rfl⟩ := okWide_slice Tryd.underlying22 (hval 0 22 v0 rfl rfl)
  have k0 := h0
  have lt0 : ∀ x ∈ p0, x.block < W.heap.size := by obtain ⟨m, hm⟩ := k0; exact DataW.trod_lt m _ _ _ hm
  obtain ⟨fuel, hf⟩ := h0
  obtain ⟨ss, A3, c3, e0, hb3, sa⟩ := shns_f (v := .slice a0 len0 cap0) hf (fun mm hmm => of_decide_eq_true (List.all_eq_true.1 hsz mm (DataW.weights_mem_each (j := 0) (t := 22) rfl rfl _ hmm)))
  simp only [Value.slice.injEq] at e0
  obtain ⟨rfl, rfl, rfl⟩ := e0
  clear hA0
  refine (checks_walk11 ss a0 ss.length cap0 rfl hb3 W (table hL) sa).mono fun e W' ⟨he, bel⟩ => ?_
  subst he
  exact ⟨_, rfl, _, _, _, [], _, [], hW', trodAll_mk1 (shut_bool Tryd.underlying4 _), (trodAll_cons_mk (Below.trod laidOut (by kernel_rfl) (of_decide_eq_true (by kernel_rfl)) k0 bel lt0) trodAll_mk0), rfl, bel.frame _, fun h => by cases h⟩


theorem laid_met (os : Os) : laidMet Tryd.prog Rows.outboxChecksRow.laid (({ World.holding Tryd.prog os ⟨#[], #[], []⟩ with heap := ((((World.holding Tryd.prog os ⟨#[], #[], []⟩).heap.modify 1 fun | .cells _ t frozen => .cells (vW K).toArray t frozen | o => o).modify 0 fun | .cells _ t frozen => .cells (vW st0.list).toArray t frozen | o => o).modify 2 fun | .cells _ t frozen => .cells (vW K).toArray t frozen | o => o) } : World).forCall (fun _ _ => 0) ⟨#[], #[.slice none 0 0], []⟩).memory :=
  laidMet_of_run' 8 (by kernel_rfl) (by kernel_rfl)
theorem reads (os : Os) {H : Type} (enc : TypeId × Value → H) : ∃ places, DataW.whole enc Tryd.prog (({ World.holding Tryd.prog os ⟨#[], #[], []⟩ with heap := ((((World.holding Tryd.prog os ⟨#[], #[], []⟩).heap.modify 1 fun | .cells _ t frozen => .cells (vW K).toArray t frozen | o => o).modify 0 fun | .cells _ t frozen => .cells (vW st0.list).toArray t frozen | o => o).modify 2 fun | .cells _ t frozen => .cells (vW K).toArray t frozen | o => o) } : World).forCall (fun _ _ => 0) ⟨#[], #[.slice none 0 0], []⟩).memory Tryd.f3.params.toList Rows.outboxChecksSpec.vars false (#[.slice none 0 0] : Array Value).toList 8 = some ([.nil], [], places) :=
  ⟨[], by kernel_rfl⟩

set_option maxRecDepth 100000 in
theorem lifted (os : Os) (started : os.Started) (H : Type) (enc : TypeId × Value → H) (F : Stop.Interp) :
    ReturnsInHanded {} Tryd.checked os 3 .any ((OpenSpec.ofChange Rows.outboxChecksSpec).preRow enc Tryd.prog Tryd.f3 Rows.outboxChecksRow.domain false Rows.outboxChecksRow.laid) (((OpenSpec.ofChange Rows.outboxChecksSpec).at F).post enc Tryd.prog Tryd.f3 false true false false) := by
  obtain ⟨places, hx⟩ := reads os enc
  refine returnsInHanded_of_row (C := Tryd.checked) (s := OpenSpec.ofChange Rows.outboxChecksSpec) own started (by kernel_rfl) Tryd.func3
    (witness_row_at (enc := enc) (C := Tryd.checked) false ({ World.holding Tryd.prog os ⟨#[], #[], []⟩ with heap := ((((World.holding Tryd.prog os ⟨#[], #[], []⟩).heap.modify 1 fun | .cells _ t frozen => .cells (vW K).toArray t frozen | o => o).modify 0 fun | .cells _ t frozen => .cells (vW st0.list).toArray t frozen | o => o).modify 2 fun | .cells _ t frozen => .cells (vW K).toArray t frozen | o => o) } : World) #[.slice none 0 0] rfl (by kernel_rfl) (by kernel_rfl) (by kernel_rfl)
      (OpenSpec.preRow_of_cond 8 hx (by kernel_rfl) (fun k hk => by cases hk) (by kernel_rfl) (laid_met os))) ?_
  intro W base args ds gs before hval hW _ hc hsz hL _ _
  exact contract H enc W base args ds gs before hval hW hsz hL

theorem said : Rows.OutboxChecksSaid :=
  OpenClaim.holds_of_cond 3 Tryd.f3 rfl rfl rfl rfl rfl rfl rfl ⟨rfl, rfl, rfl, rfl, rfl⟩ rfl rfl rfl rfl rfl (by kernel_rfl) Tryd.func3 (by kernel_rfl)
    (of_decide_eq_true (by kernel_rfl)) (by unfold Func.isWrapper; first | (rw [if_pos (by decide +kernel)]; kernel_rfl) | (rw [if_neg (by decide +kernel)]; exact ⟨rfl, rfl⟩))
    (fun os started H enc _ F => by rw [OpenClaim.pre_eq_preRow]; exact lifted os started H enc F)

theorem plain (f : FuncId) (fn : Func) (hf : Tryd.pinned.checked.prog.funcNamed "causeway/causewaylaw11.OutboxChecks" = some f) (hfn : Tryd.pinned.checked.prog.funcs[f]? = some fn) :
    true = Tryd.pinned.checked.prog.looks [] ∧ ∀ (j : Nat) t, fn.params[j]? = some t → Tryd.pinned.checked.prog.wantsStandIn t = false := by
  obtain rfl : f = 3 := Option.some.inj ((show Tryd.prog.funcNamed "causeway/causewaylaw11.OutboxChecks" = some 3 by kernel_rfl).symm.trans hf) |>.symm
  obtain rfl : fn = Tryd.f3 := (Option.some.inj (Tryd.func3.symm.trans hfn)).symm
  refine ⟨by kernel_rfl, fun j t ht => ?_⟩
  rw [Tryd.params3] at ht
  have ht' : t = 22 := by have := Array.mem_of_getElem? ht; simp at this; first | omega | exact this | exact this.symm | (rcases this with h | h | h <;> simp [h])
  rcases ht' with rfl
  exact (show Tryd.prog.wantsStandIn 22 = false by kernel_rfl)

/-- THE CARD. -/
theorem card : Rows.OutboxChecksCardSaid :=
  Claim7.holds_tied_plain_at .later [] _ _ _ _ said (fun _ h => by cases h) (by kernel_rfl) (fun _ h => by cases h) outboxChecks_row_tie rfl ⟨rfl, rfl⟩ (by kernel_rfl) rfl plain (by kernel_rfl)

end Go.Proofs.YtehjadgmleoobaaDoor.ochecks
