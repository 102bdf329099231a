/-
  The law OutboxBooks: row and card, where what comes in is of no great bulk.
-/
import Derived.Test.YtdicgenhfmhklaaGreatDoorTEq
import Derived.Test.YtdicgenhfmhklaaGreatDoorRows
import Derived.ProofKit
import Derived.OpenShut
import Derived.ShutString
import Derived.ChangeOld
import Derived.SizedLaws
import Derived.Deep.DeepHandedRow
import Derived.Lib.LaidTab
import Derived.Test.YtdicgenhfmhklaaGreatDoorTRSum
import Derived.Stop.LaidErr
import Derived.Test.YtdicgenhfmhklaaGreatDoorTAwk
import Derived.ChangeMaps5
import Derived.Deep.Matrix
import Derived.Deep.SlicePairs
import Derived.Test.YtdicgenhfmhklaaGreatDoorBkS
import Derived.JoinedCond
import Derived.Test.YtdicgenhfmhklaaGreatDoorCards
import Derived.Test.YtdicgenhfmhklaaGreatDoorTie

namespace Go.Proofs.YtdicgenhfmhklaaGreatDoor
open Go Go.RowKit Go.ChangeShapes Go.WideShapes Go.ChangeAt
open Sha

theorem own : ownKnob Tryz.prog.godebug = none := by kernel_rfl
theorem laidOut : laidOutB Tryz.prog = true := by kernel_rfl
theorem gTab : Tryz.prog.globalNamed "causeway/digest.cubeRoots" = some 2 := by kernel_rfl
theorem gTabType : (Tryz.prog.globals[2]?).map (·.type) = some 151 := by kernel_rfl
theorem cellsTab : Tryz.prog.cellsOf 151 = 64 := by kernel_rfl
theorem cellsU32 : Tryz.prog.cellsOf 134 = 1 := by kernel_rfl
theorem cellsU8 : Tryz.prog.cellsOf 5 = 1 := by kernel_rfl
theorem bytesU8 : Tryz.prog.bytesOf 5 = 1 := by kernel_rfl

theorem tab_of {W : World} (h : Lib.TabIs Tryz.prog W "causeway/digest.cubeRoots" .u32 (K.map u)) : Tab W 2 := fun i hi => by
  have := h.cell gTab i (by simpa [K_length] using hi)
  rw [this]
  rw [List.getD_eq_getElem?_getD, List.getElem?_map, List.getElem?_eq_getElem (by rw [K_length]; exact hi)]
  simp [show i < K.length by rw [K_length]; exact hi]

/-- A slice of bytes that came in. -/
theorem bytes_in {H : Type} {enc : TypeId × Value → H} {W : World} {base : Nat} {held : Bool} {fuel : Nat} {a : Option Addr} {len cap : Nat} {x : DataW H × List MemPlace} {ts : List TypeId} {ds : List (DataW H)} {j : Nat}
    (h : DataW.trod enc Tryz.prog W base (fun _ => true) held fuel 54 (Value.slice a len cap).cells.toList = some x)
    (hsz : (DataW.weightsEach Tryz.prog ts ds).all (· ≤ reachBytes) = true) (ht : ts[j]? = some 54) (hd : ds[j]? = some x.1) :
    ∃ d : List (BitVec 8), d.length = len ∧ len ≤ reachBytes ∧ cap ≤ reachBytes ∧ SlAtT W (.slice a len cap) d := by
  rcases open_ints Tryz.underlying54 Tryz.underlying5 cellsU8 h with ⟨hcs, _⟩ | ⟨y, l, c', zs, hcs, _, hl, hm, hz, hx, hcell, hwz⟩
  · simp [Value.cells] at hcs
    obtain ⟨rfl, rfl, rfl⟩ := hcs
    exact ⟨[], rfl, Nat.zero_le _, Nat.zero_le _, .inl ⟨rfl, _, _, rfl⟩⟩
  · simp [Value.cells] at hcs
    obtain ⟨rfl, rfl, rfl⟩ := hcs
    simp only [if_true] at hz
    have hreach := sized_slice hsz (j := j) (t := 54) (e := 5) ht (by rw [hd, hx]) Tryz.underlying54
    rw [bytesU8] at hreach
    simp only [lits, List.length_map, List.length_take, List.length_drop, Nat.mul_one] at hreach
    have hr2 : cap ≤ reachBytes := by omega
    refine ⟨(zs.take len).map (BitVec.ofInt 8), by simp; omega, by omega, hr2, ?_⟩
    by_cases h0 : len = 0
    · subst h0; exact .inl ⟨by simp, _, _, rfl⟩
    · obtain ⟨b, off, spot⟩ := y
      have hc := hcell 0 (by omega)
      have hspot : spot = none := by simpa [Addr.add] using World.cell?_spot hc
      subst hspot
      refine .inr ⟨b, off, cap, by simp; omega, by simp; omega, fun i v hv => ?_⟩
      have hi : i < len := by have := (List.getElem?_eq_some_iff.1 hv).1; simp [vB_length] at this; omega
      have h1 := hcell i (by omega)
      rw [Addr.add_mid] at h1
      rw [h1]
      have hw := hwz (zs.getD i 0) (by rw [List.getD_eq_getElem?_getD, List.getElem?_eq_getElem (by omega)]; exact List.getElem_mem _)
      have hb := bounds_u8 hw
      rw [vB_get _ i (by simp; omega)] at hv
      rw [← hv]
      have e : ((zs.take len).map (BitVec.ofInt 8)).getD i 0 = BitVec.ofInt 8 (zs.getD i 0) := by
        simp [List.getElem?_take_of_lt hi, List.getElem?_eq_getElem (show i < zs.length by omega)]
      rw [e]
      unfold c
      rw [show ((BitVec.ofInt 8 (zs.getD i 0)).toNat : Int) = zs.getD i 0 from by rw [BitVec.toNat_ofInt]; omega]

end Go.Proofs.YtdicgenhfmhklaaGreatDoor

namespace Go.Proofs.YtdicgenhfmhklaaGreatDoor
open Go Go.RowKit
open Sha

theorem gCon : Tryz.prog.globalNamed "causeway/causewayref01.constants" = some 1 := by kernel_rfl
theorem gConType : (Tryz.prog.globals[1]?).map (·.type) = some 151 := by kernel_rfl
theorem gBeg : Tryz.prog.globalNamed "causeway/causewayref01.beginning" = some 0 := by kernel_rfl
theorem gBegType : (Tryz.prog.globals[0]?).map (·.type) = some 137 := by kernel_rfl
theorem cellsArr8 : Tryz.prog.cellsOf 137 = 8 := by kernel_rfl

theorem tab_con {W : World} (h : Lib.TabIs Tryz.prog W "causeway/causewayref01.constants" .u32 (K.map u)) : Tab W 1 := fun i hi => by
  have := h.cell gCon i (by simpa [K_length] using hi)
  rw [this]
  rw [List.getD_eq_getElem?_getD, List.getElem?_map, List.getElem?_eq_getElem (by rw [K_length]; exact hi)]
  simp [show i < K.length by rw [K_length]; exact hi]

theorem given_of {W : World} (h : laidMet Tryz.prog [("causeway/causewayref01.constants", Lib.tabData .u32 (K.map u)), ("causeway/causewayref01.beginning", Lib.tabData .u32 (st0.list.map u)), ("causeway/digest.cubeRoots", Lib.tabData .u32 (K.map u))] W) : Given W := by
  have h1 := h.tail
  have h2 := h1.tail
  refine ⟨tab_con (Lib.tabIs_of_head gCon gConType Tryz.underlying151 Tryz.underlying134 cellsU32 cellsTab h), ?_, tab_of (Lib.tabIs_of_head gTab gTabType Tryz.underlying151 Tryz.underlying134 cellsU32 cellsTab h2)⟩
  have t := Lib.tabIs_of_head gBeg gBegType Tryz.underlying137 Tryz.underlying134 cellsU32 cellsArr8 h1
  intro j v hv
  have hj : j < st0.list.length := by have := (List.getElem?_eq_some_iff.1 hv).1; rwa [vW_length] at this
  have := t.cell gBeg j (by simpa using hj)
  rw [Nat.zero_add, this, ← hv, vW_get _ _ hj]
  rw [List.getD_eq_getElem?_getD, List.getElem?_map, List.getElem?_eq_getElem hj]
  simp [hj]

end Go.Proofs.YtdicgenhfmhklaaGreatDoor

namespace Go.Proofs.YtdicgenhfmhklaaGreatDoor
open Go Go.RowKit Go.ChangeShapes Go.WideShapes Go.ChangeAt
open Sha

theorem cellsDig : Tryz.prog.cellsOf 44 = 32 := by kernel_rfl
theorem bytesDig : Tryz.prog.bytesOf 44 = 32 := by kernel_rfl
theorem cellsI : Tryz.prog.cellsOf 3 = 1 := by kernel_rfl
theorem cellsS : Tryz.prog.cellsOf 54 = 1 := by kernel_rfl
theorem cellsDs : Tryz.prog.cellsOf 64 = 1 := by kernel_rfl
theorem mapM_each {α β : Type} {f : α → Option β} : ∀ (L : List α) (ys : List β), L.mapM f = some ys → ∀ i ∈ L, ∃ y, f i = some y
  | [], _, _, i, hi => by cases hi
  | a :: L, ys, h, i, hi => by
    rw [List.mapM_cons] at h
    simp only [bind, Option.bind_eq_some_iff, pure, Option.some.injEq] at h
    obtain ⟨y, hy, zs, hz, _⟩ := h
    rcases List.mem_cons.1 hi with rfl | hi
    · exact ⟨y, hy⟩
    · exact mapM_each L zs hz i hi

theorem weights_all {H : Type} {P : Program} {e : TypeId} : ∀ (l : List (DataW H)) (d : DataW H), d ∈ l → ∀ n ∈ d.weights P e, n ∈ DataW.weightsAll P e l
  | [], _, h, _, _ => by cases h
  | x :: r, d, h, n, hn => by
    simp only [DataW.weightsAll, List.mem_append]
    rcases List.mem_cons.1 h with rfl | h
    · exact .inl hn
    · exact .inr (weights_all r d h n hn)

/-- A slice of bytes by its cells. -/
theorem bytes_of {W : World} {A : Option Addr} {L C : Nat} {Z : List Int} (hL : L ≤ C) (hZ : Z.length = C) (hw : ∀ n ∈ Z, (Lit.int .u8 n).wf = true) (h0 : A = none → C = 0) (hc : ∀ a', A = some a' → ∀ c, c < C → W.cell? (a'.add c) = some (.int .u8 (Z.getD c 0))) :
    ((Z.take L).map (BitVec.ofInt 8)).length = L ∧ SlAtT W (.slice A L C) ((Z.take L).map (BitVec.ofInt 8)) := by
  have hl : ((Z.take L).map (BitVec.ofInt 8)).length = L := by simp; omega
  refine ⟨hl, ?_⟩
  by_cases hz : L = 0
  · subst hz; exact .inl ⟨by simp, _, _, rfl⟩
  · cases A with
    | none => have := h0 rfl; omega
    | some y =>
      obtain ⟨b, off, spot⟩ := y
      have hcell := hc _ rfl
      have h1 := hcell 0 (by omega)
      have hspot : spot = none := by simpa [Addr.add] using World.cell?_spot h1
      subst hspot
      refine .inr ⟨b, off, C, by rw [hl], by rw [hl]; exact hL, fun i v hv => ?_⟩
      have hi : i < L := by have := (List.getElem?_eq_some_iff.1 hv).1; rw [vB_length, hl] at this; exact this
      have h2 := hcell i (by omega)
      rw [Addr.add_mid] at h2
      rw [h2]
      have hw := hw (Z.getD i 0) (by rw [List.getD_eq_getElem?_getD, List.getElem?_eq_getElem (by omega)]; exact List.getElem_mem _)
      have hb := bounds_u8 hw
      rw [vB_get _ i (by rw [hl]; exact hi)] at hv
      rw [← hv]
      have e : ((Z.take L).map (BitVec.ofInt 8)).getD i 0 = BitVec.ofInt 8 (Z.getD i 0) := by
        simp [List.getElem?_take_of_lt hi, List.getElem?_eq_getElem (show i < Z.length by omega)]
      rw [e]
      unfold c
      rw [show ((BitVec.ofInt 8 (Z.getD i 0)).toNat : Int) = Z.getD i 0 from by rw [BitVec.toNat_ofInt]; omega]

theorem range_getD {α : Type} (n i : Nat) (f : Nat → α) (x : α) (h : i < n) : ((List.range n).map f).getD i x = f i := by
  simp [h]


section
variable {H : Type} {enc : TypeId × Value → H} {W : World} {base : Nat} {held : Bool} {n : Nat}
/-- A number. -/
theorem int_f {v : Value} {y : DataW H × List MemPlace} (g : DataW.trod enc Tryz.prog W base (fun _ => true) held n 3 [v] = some y) : ∃ z, v = .int .i64 z ∧ -9223372036854775808 ≤ z ∧ z ≤ 9223372036854775807 := by
  obtain ⟨z, e, _, wz⟩ := DataW.trod_int Tryz.underlying3 g
  simp only [List.cons.injEq, and_true] at e
  exact ⟨z, e, bounds_i64 wz⟩
/-- Bytes. -/
theorem bytes_f {v : Value} {y : DataW H × List MemPlace} (g : DataW.trod enc Tryz.prog W base (fun _ => true) held n 54 [v] = some y) : ∃ (d : List (BitVec 8)) (A : Option Addr) (cap : Nat), v = .slice A d.length cap ∧ SlAtT W (.slice A d.length cap) d ∧ (A = none → cap = 0) ∧ ((∀ m ∈ y.1.weights Tryz.prog 54, m ≤ reachBytes) → d.length ≤ 140737488351232) := by
  have hrb : reachBytes = 140737488351232 := rfl
  rcases open_ints Tryz.underlying54 Tryz.underlying5 cellsU8 g with ⟨hcs, hy⟩ | ⟨a', L, C, Z, hcs, _, hl, hm, hz, hy, hcell, hwz⟩
  · simp only [List.cons.injEq, and_true] at hcs
    exact ⟨[], none, 0, hcs, .inl ⟨rfl, _, _, rfl⟩, fun _ => rfl, fun _ => Nat.zero_le _⟩
  · simp only [List.cons.injEq, and_true] at hcs
    simp only [if_true] at hz
    obtain ⟨hlen, hsl⟩ := bytes_of (W := W) (A := some a') hl hz hwz (fun h => by cases h) (fun a'' ha c hc => by cases ha; exact hcell c (by rw [hz]; exact hc))
    refine ⟨(Z.take L).map (BitVec.ofInt 8), some a', C, by rw [hlen]; exact hcs, by rw [hlen]; exact hsl, (fun h => by cases h), fun hw => ?_⟩
    have := hw (((Z.take L).length + (Z.drop L).length) * 1) (by
        rw [hy]
        simp only [DataW.weights, Tryz.underlying54, lits, List.length_map, bytesU8]
        exact List.mem_cons_self)
    simp only [List.length_take, List.length_drop, Nat.mul_one] at this
    rw [hlen]; omega
/-- A digest. -/
theorem dig_f {cs : List Value} {y : DataW H × List MemPlace} (g : DataW.trod enc Tryz.prog W base (fun _ => true) held n 44 cs = some y) : ∃ l : List (BitVec 8), l.length = 32 ∧ cs = vB l := by
  cases n with
  | zero => simp [DataW.trod] at g
  | succ m =>
    rw [DataW.trod_step] at g
    unfold DataW.trodStep at g
    simp only [Tryz.underlying44] at g
    split at g
    · rename_i h2
      rw [cellsDig] at h2
      simp only [Option.map_eq_some_iff] at g
      obtain ⟨ys, hy, _⟩ := g
      have each := mapM_each _ _ hy
      have key : ∀ i (h : i < cs.length), ∃ z, cs[i] = .int .u8 z ∧ 0 ≤ z ∧ z ≤ 255 := fun i h => by
        obtain ⟨y, hy⟩ := each i (List.mem_range.2 (by omega))
        rw [cellsU8, Nat.mul_one] at hy
        obtain ⟨z, hz, _, wz⟩ := DataW.trod_int Tryz.underlying5 hy
        have hb := bounds_u8 wz
        refine ⟨z, ?_, hb.1, hb.2⟩
        rw [List.drop_eq_getElem_cons h] at hz
        simp only [List.take_succ_cons, List.take_zero, List.cons.injEq, and_true] at hz
        exact hz
      refine ⟨cs.map (fun v => BitVec.ofInt 8 (intOf v)), by simp; omega, ?_⟩
      unfold vB
      rw [List.map_map]
      refine (List.ext_getElem (by simp) fun i h1 h2 => ?_)
      obtain ⟨z, hz, hz0, hz1⟩ := key i h1
      rw [List.getElem_map, hz]
      simp only [Function.comp_apply, intOf]
      unfold c
      rw [BitVec.toNat_ofInt]
      congr 1
      omega
    · cases g
theorem flat_get (ds : List (List (BitVec 8))) (h : ∀ d ∈ ds, d.length = 32) (j : Nat) (v : Value) (hv : (ds.flatMap vB)[j]? = some v) : j / 32 < ds.length ∧ (vB (ds.getD (j / 32) []))[j % 32]? = some v := by
  induction ds generalizing j with
  | nil => simp at hv
  | cons d r ih =>
    have hd : (vB d).length = 32 := by rw [vB_length]; exact h d List.mem_cons_self
    rw [List.flatMap_cons] at hv
    by_cases hj : j < 32
    · rw [List.getElem?_append_left (by omega)] at hv
      rw [Nat.div_eq_of_lt hj, Nat.mod_eq_of_lt hj]
      exact ⟨by simp, by simpa using hv⟩
    · rw [List.getElem?_append_right (by omega), hd] at hv
      obtain ⟨h1, h2⟩ := ih (fun x hx => h x (List.mem_cons_of_mem _ hx)) (j - 32) hv
      have e1 : j / 32 = (j - 32) / 32 + 1 := by omega
      have e2 : j % 32 = (j - 32) % 32 := by omega
      rw [e1, e2]
      exact ⟨by simp; omega, by simpa using h2⟩
/-- A list of digests. -/
theorem digs_f {v : Value} {y : DataW H × List MemPlace} (g : DataW.trod enc Tryz.prog W base (fun _ => true) held n 64 [v] = some y) : ∃ (ds : List (List (BitVec 8))) (A : Option Addr) (cap : Nat), v = .slice A ds.length cap ∧ PAt W (.slice A ds.length cap) ds ∧ (A = none → cap = 0) ∧ ((∀ m ∈ y.1.weights Tryz.prog 64, m ≤ reachBytes) → ds.length * 32 ≤ 140737488351232) := by
  have hrb : reachBytes = 140737488351232 := rfl
  rcases Deep.open_slice Tryz.underlying64 g with ⟨hcs, _⟩ | ⟨ad, l, c', m, k, D, Pl, hcs, _, hl, hm, hmm, hx, hr⟩
  · simp only [List.cons.injEq, and_true] at hcs
    exact ⟨[], none, 0, hcs, ⟨(fun d hd => by cases hd), none, 0, rfl, Nat.le_refl _, .inl rfl⟩, fun _ => rfl, fun _ => by simp⟩
  · simp only [List.cons.injEq, and_true] at hcs
    simp only [if_true] at hmm
    subst hmm
    have each : ∀ i, i < l → ∃ d : List (BitVec 8), d.length = 32 ∧ ∀ q u, (vB d)[q]? = some u → W.cell? (ad.add (i * 32 + q)) = some u := by
      intro i hi
      obtain ⟨cs', h1, h2⟩ := hr i (by omega)
      rw [cellsDig] at h1
      obtain ⟨_, hlen, hcell⟩ := World.cells?_some h1
      obtain ⟨d, hd, e⟩ := dig_f h2
      refine ⟨d, hd, fun q u hq => ?_⟩
      have hq32 : q < 32 := by have := (List.getElem?_eq_some_iff.1 hq).1; rw [vB_length, hd] at this; exact this
      have e2 := hcell q hq32
      rw [Deep.add_add] at e2
      rw [e2, e]; exact hq
    obtain ⟨f, hf⟩ := Deep.choose_lt each
    have hlen : ((List.range l).map f).length = l := by simp
    have h32 : ∀ d ∈ (List.range l).map f, d.length = 32 := fun d hd => by
      obtain ⟨i, hi, rfl⟩ := List.mem_map.1 hd
      exact (hf i (List.mem_range.1 hi)).1
    refine ⟨(List.range l).map f, some ad, m, by rw [hlen]; exact hcs, ⟨h32, some ad, m, by rw [hlen], by rw [hlen]; exact hl, ?_⟩, (fun h => by cases h), fun hw => ?_⟩
    · by_cases h0 : l = 0
      · subst h0; exact .inl rfl
      · obtain ⟨b, off, spot⟩ := ad
        have h1 := (hf 0 (by omega)).2 0 _ (vB_get _ 0 (by rw [(hf 0 (by omega)).1]; decide))
        have hspot : spot = none := by simpa [Addr.add] using World.cell?_spot h1
        subst hspot
        refine .inr ⟨b, off, rfl, fun j u hu => ?_⟩
        obtain ⟨k1, k2⟩ := flat_get _ h32 j u hu
        rw [hlen] at k1
        rw [range_getD _ _ _ _ k1] at k2
        have := (hf (j / 32) k1).2 (j % 32) u k2
        rw [Addr.add_mid, show j / 32 * 32 + j % 32 = j by omega] at this
        exact this
    · have := hw ((((List.range l).map D).length + ((List.range (m - l)).map fun j => D (l + j)).length) * 32) (by
        rw [hx]
        simp only [DataW.weights, Tryz.underlying64, bytesDig]
        exact List.mem_cons_self)
      simp only [List.length_map, List.length_range] at this
      rw [hlen]; omega
end

end Go.Proofs.YtdicgenhfmhklaaGreatDoor

namespace Go.Proofs.YtdicgenhfmhklaaGreatDoor
open Go Go.RowKit
open Sha

theorem bkp_build : Tryz.prog.built 30 [] = some (bkp (.slice none 0 0) (.slice none 0 0)).toArray := by kernel_rfl
section
variable {ops : Array Oper} {rest : List Oper} {op : Oper} {a : Act} {w : World} {Q : Exit → Act → World → Prop}
theorem wpList_buildPk (hgd : op.guard = none) (ho : op.op = .build 30 #[]) (h : wpList Tryz.prog ops Q rest (a.put op.dst (.agg (bkp (.slice none 0 0) (.slice none 0 0)).toArray)) w) : wpList Tryz.prog ops Q (op :: rest) a w :=
  wpList_plain hgd fun _ hK => by
    have hr := run_build (P := Tryz.prog) w 30 #[] _ bkp_build
    unfold Oper.wp execOp
    simp only [ho, List.map_toArray, List.map_nil, Sem.run_bind, hr, Result.andThen_ok, Sem.run_pure, Oper.upon_value]
    exact hK _ _ h
end
theorem Bk.base11 {w0 w1 w : World} {B : Nat} {v : Value} {ts : List (List (BitVec 8))} (h : Bk w1 w B v ts) (k : Below w0.heap.size w0 w1) : Bk w0 w B v ts :=
  ⟨h.row, h.own, Nat.le_trans k.size h.b0, fun g hg => Nat.le_trans k.size (h.v0 g hg), k.trans (h.be.mono k.size)⟩
set_option maxRecDepth 100000 in
set_option maxHeartbeats 8000000 in
theorem books_walk (xa xb : List Sv11) (A0 : Option Addr) (n0 c0 : Nat) (A1 : Option Addr) (n1 c1 : Nat) (hn0 : n0 = xa.length) (hn1 : n1 = xb.length) (hb0 : n0 ≤ 200000) (hb1 : n1 ≤ 200000) (w : World) (hG : Given w) (hT : Tab w 2) (ha : StA w A0 xa) (hb : StA w A1 xb) :
    Calls Tryz.prog 3 #[.slice A0 n0 c0, .slice A1 n1 c1] w fun e w' => e = .returned (.bool true) ∧ Below w.heap.size w w' := by
  have HGv : Hid (Given w) := hG
  have HTb : Hid (Tab w 2) := hT
  have HA : Hid (StA w A0 xa) := ha
  have HB : Hid (StA w A1 xb) := hb
  have HN0 : Hid (n0 = xa.length) := hn0
  have HN1 : Hid (n1 = xb.length) := hn1
  have HNW : Hid (∀ X, Calls Tryz.prog 4 #[] X fun e w' => e = .returned (.pointer (some ⟨X.heap.size, 0, none⟩)) ∧ Bk X w' X.heap.size (.slice none 0 0) []) := fun X => new_any X
  have HKN : Hid (∀ X, Calls Tryz.prog 5 #[] X fun e w' => e = .returned (.bool true) ∧ Below X.heap.size X w') := fun X => obk_any X
  clear hG hT ha hb hn0 hn1
  go_enter Tryz.func3, Tryz.ntmps3
  go_upto_region 2 with (go_at_call 4; refine Calls.mono (HNW.out w) ?_; rintro e X1 ⟨rfl, q⟩; have HP1 : Hid (Bk w X1 w.heap.size (.slice none 0 0) []) := q; clear q)
  go_upto_region 3 with (go_at_call 4; refine Calls.mono (HNW.out X1) ?_; rintro e X2 ⟨rfl, q⟩; have HQ2 : Hid (Bk w X2 X1.heap.size (.slice none 0 0) []) := q.base11 HP1.out.be; have HP2 : Hid (Bk w X2 w.heap.size (.slice none 0 0) []) := HP1.out.keep q.be; have HNE : Hid (w.heap.size ≠ X1.heap.size) := Nat.ne_of_lt HP1.out.row.lt; clear q)
  obtain ⟨Bp, hBp⟩ : ∃ Bp, Bp = w.heap.size := ⟨_, rfl⟩
  obtain ⟨Bq, hBq⟩ : ∃ Bq, Bq = X1.heap.size := ⟨_, rfl⟩
  have KP2 : Hid (Bk w X2 Bp (.slice none 0 0) []) := by rw [hBp]; exact HP2.out
  have KQ2 : Hid (Bk w X2 Bq (.slice none 0 0) []) := by rw [hBq]; exact HQ2.out
  have KNE : Hid (Bp ≠ Bq) := by rw [hBp, hBq]; exact HNE.out
  rw [← hBp, ← hBq]
  clear HP1 HP2 HQ2 HNE hBp hBq
  go_upto_region 5 with (go_at_call 5; refine Calls.mono (HKN.out X2) ?_; rintro e X3 ⟨rfl, q⟩; have B3 : Hid (Below X2.heap.size X2 X3) := q; clear q)
  go_upto_region 6 with (first
    | (refine wpList_buildPk rfl rfl ?_; simp only [Act.put, List.setIfInBounds_toArray, List.set_cons_zero, List.set_cons_succ])
    | (refine wpList_boxG 30 rfl (.tmp 28) rfl (bkp (.slice none 0 0) (.slice none 0 0)) rfl ?_; intro X4 q1 q2 q3; have HTB0 : Hid (Tb w X4 X3.heap.size Bp Bq 0 0 0 none 0 0 none 0 0) := Tb.start ((KP2.out.keep B3.out).keep q2) ((KQ2.out.keep B3.out).keep q2) q1 (KP2.out.keep B3.out).be.size KNE.out; clear q1 q2 q3; simp only [Act.put, List.setIfInBounds_toArray, List.set_cons_zero, List.set_cons_succ]))
  obtain ⟨B, hBB⟩ : ∃ B, B = X3.heap.size := ⟨_, rfl⟩
  have HTB : Hid (Tb w X4 B Bp Bq 0 0 0 none 0 0 none 0 0) := by rw [hBB]; exact HTB0.out
  rw [← hBB]
  clear hBB HTB0 KP2 KQ2 KNE
  go_upto_region 9 with fail
  go_loopw [8, 9, 10, 11] (fun va vb vo vi wr => ∃ (t : Nat) (Aa : Option Addr) (na ca : Nat) (Ab : Option Addr) (nb cb : Nat), (t ≤ n0 ∨ t ≤ n1) ∧ va = .slice Aa na ca ∧ vb = .slice Ab nb cb ∧ vo = .bool true ∧ vi = .int .i64 (t : Int) ∧ Tb w wr B Bp Bq t t (4 * t) Aa na ca Ab nb cb) (fun _ _ _ vi _ => 200001 - (intOf vi).toNat)
  case atStart => exact ⟨0, none, 0, 0, none, 0, 0, .inl (Nat.zero_le _), rfl, rfl, rfl, rfl, HTB.out⟩
  case round =>
    obtain ⟨t, Aa, na, ca, Ab, nb, cb, ht, rfl, rfl, rfl, rfl, hT0⟩ := hrel
    have HTt : Hid (Tb w wr B Bp Bq t t (4 * t) Aa na ca Ab nb cb) := hT0
    have htb : t ≤ 200000 := by omega
    clear hT0 ht HTB
    by_cases h1 : t < n0
    · have h1i : (t : Int) < (n0 : Int) := by omega
      obtain ⟨yp, hy⟩ : ∃ x, xa[t]? = some x := ⟨_, List.getElem?_eq_getElem (by rw [← HN0.out]; exact h1)⟩
      obtain ⟨hyo, b0, o0, rfl, hrg⟩ := HA.out t yp hy
      obtain ⟨XA, hX⟩ : ∃ M, M = yp.cells := ⟨_, rfl⟩
      obtain ⟨q0, hq⟩ : ∃ q, q = o0 + t * 30 := ⟨_, rfl⟩
      rw [← hX, ← hq] at hrg
      have HQp : Hid (o0 + t * 30 = q0) := hq.symm
      have HRp : Hid (∀ W, Below w.heap.size w W → W.rangeAt b0 q0 XA) := fun W hW => range_be hrg hW
      have HIp : Hid ((Tryz.prog.info? 42).map (·.size) = some XA.length) := by rw [hX, Sv11.len hyo]; exact info_st30
      have HOp : Hid yp.Ok := hyo
      have HXp : Hid (XA = yp.cells) := hX
      clear hy hyo hrg hX hq
      by_cases h2 : t < n1
      · have h2i : (t : Int) < (n1 : Int) := by omega
        obtain ⟨yq, hy⟩ : ∃ x, xb[t]? = some x := ⟨_, List.getElem?_eq_getElem (by rw [← HN1.out]; exact h2)⟩
        obtain ⟨hyo, b1, o1, rfl, hrg⟩ := HB.out t yq hy
        obtain ⟨XB, hX⟩ : ∃ M, M = yq.cells := ⟨_, rfl⟩
        obtain ⟨q1, hq⟩ : ∃ q, q = o1 + t * 30 := ⟨_, rfl⟩
        rw [← hX, ← hq] at hrg
        have HQq : Hid (o1 + t * 30 = q1) := hq.symm
        have HRq : Hid (∀ W, Below w.heap.size w W → W.rangeAt b1 q1 XB) := fun W hW => range_be hrg hW
        have HIq : Hid ((Tryz.prog.info? 42).map (·.size) = some XB.length) := by rw [hX, Sv11.len hyo]; exact info_st30
        have HOq : Hid yq.Ok := hyo
        have HXq : Hid (XB = yq.cells) := hX
        clear hy hyo hrg hX hq
        go_upto_region 15 with (first
          | (refine wpList_ixF 22 42 (.tmp 50) (.tmp 51) rfl b0 o0 n0 c0 t 30 q0 HQp.out rfl rfl h1 Tryz.underlying22 info_st30 rfl ?_; simp only [Act.put, List.setIfInBounds_toArray, List.set_cons_zero, List.set_cons_succ])
          | (refine wpList_load_w rfl 42 (.tmp 52) rfl b0 q0 rfl XA _ (HRp.out wr HTt.out.be) Tryz.underlying42 rfl HIp.out ?_; simp only [Act.put, List.setIfInBounds_toArray, List.set_cons_zero, List.set_cons_succ])
          | (go_at_call 6; refine Calls.mono ((HTt.out).step HGv.out HTb.out (by omega) (by omega) yp HOp.out XA HXp.out) ?_; rintro e Y1 ⟨Ap, np, cp, rfl, q⟩; have HT1 : Hid (Tb w Y1 B Bp Bq (t + 1) t (4 * t + 2) Ap np cp Ab nb cb) := q; clear q))
        go_wp2_with (first
          | (refine wpList_ixF 22 42 (.tmp 67) (.tmp 68) rfl b1 o1 n1 c1 t 30 q1 HQq.out rfl rfl h2 Tryz.underlying22 info_st30 rfl ?_; simp only [Act.put, List.setIfInBounds_toArray, List.set_cons_zero, List.set_cons_succ])
          | (refine wpList_load_w rfl 42 (.tmp 69) rfl b1 q1 rfl XB _ (HRq.out Y1 HT1.out.be) Tryz.underlying42 rfl HIq.out ?_; simp only [Act.put, List.setIfInBounds_toArray, List.set_cons_zero, List.set_cons_succ])
          | (go_at_call 6; refine Calls.mono ((HT1.out.swap).step HGv.out HTb.out (by omega) (by omega) yq HOq.out XB HXq.out) ?_; rintro e Y2 ⟨Aq, nq, cq, rfl, q⟩; have HT2 : Hid (Tb w Y2 B Bp Bq (t + 1) (t + 1) (4 * t + 2 + 2) Ap np cp Aq nq cq) := q.swap; clear q))
        exact ⟨⟨t + 1, Ap, np, cp, Aq, nq, cq, .inl h1, rfl, rfl, rfl, by go_num, HT2.out.mono (Nat.le_refl _) (Nat.le_refl _) (by omega)⟩, by simp [intOf]; omega⟩
      · have h2i : ¬ ((t : Int) < (n1 : Int)) := by omega
        go_wp2_with (first
          | (refine wpList_ixF 22 42 (.tmp 50) (.tmp 51) rfl b0 o0 n0 c0 t 30 q0 HQp.out rfl rfl h1 Tryz.underlying22 info_st30 rfl ?_; simp only [Act.put, List.setIfInBounds_toArray, List.set_cons_zero, List.set_cons_succ])
          | (refine wpList_load_w rfl 42 (.tmp 52) rfl b0 q0 rfl XA _ (HRp.out wr HTt.out.be) Tryz.underlying42 rfl HIp.out ?_; simp only [Act.put, List.setIfInBounds_toArray, List.set_cons_zero, List.set_cons_succ])
          | (go_at_call 6; refine Calls.mono ((HTt.out).step HGv.out HTb.out (by omega) (by omega) yp HOp.out XA HXp.out) ?_; rintro e Y1 ⟨Ap, np, cp, rfl, q⟩; have HT1 : Hid (Tb w Y1 B Bp Bq (t + 1) t (4 * t + 2) Ap np cp Ab nb cb) := q; clear q))
        exact ⟨⟨t + 1, Ap, np, cp, Ab, nb, cb, .inl h1, rfl, rfl, rfl, by go_num, HT1.out.mono (Nat.le_refl _) (Nat.le_succ _) (by omega)⟩, by simp [intOf]; omega⟩
    · have h1i : ¬ ((t : Int) < (n0 : Int)) := by omega
      by_cases h2 : t < n1
      · have h2i : (t : Int) < (n1 : Int) := by omega
        obtain ⟨yq, hy⟩ : ∃ x, xb[t]? = some x := ⟨_, List.getElem?_eq_getElem (by rw [← HN1.out]; exact h2)⟩
        obtain ⟨hyo, b1, o1, rfl, hrg⟩ := HB.out t yq hy
        obtain ⟨XB, hX⟩ : ∃ M, M = yq.cells := ⟨_, rfl⟩
        obtain ⟨q1, hq⟩ : ∃ q, q = o1 + t * 30 := ⟨_, rfl⟩
        rw [← hX, ← hq] at hrg
        have HQq : Hid (o1 + t * 30 = q1) := hq.symm
        have HRq : Hid (∀ W, Below w.heap.size w W → W.rangeAt b1 q1 XB) := fun W hW => range_be hrg hW
        have HIq : Hid ((Tryz.prog.info? 42).map (·.size) = some XB.length) := by rw [hX, Sv11.len hyo]; exact info_st30
        have HOq : Hid yq.Ok := hyo
        have HXq : Hid (XB = yq.cells) := hX
        clear hy hyo hrg hX hq
        go_wp2_with (first
          | (refine wpList_ixF 22 42 (.tmp 67) (.tmp 68) rfl b1 o1 n1 c1 t 30 q1 HQq.out rfl rfl h2 Tryz.underlying22 info_st30 rfl ?_; simp only [Act.put, List.setIfInBounds_toArray, List.set_cons_zero, List.set_cons_succ])
          | (refine wpList_load_w rfl 42 (.tmp 69) rfl b1 q1 rfl XB _ (HRq.out wr HTt.out.be) Tryz.underlying42 rfl HIq.out ?_; simp only [Act.put, List.setIfInBounds_toArray, List.set_cons_zero, List.set_cons_succ])
          | (go_at_call 6; refine Calls.mono ((HTt.out.swap).step HGv.out HTb.out (by omega) (by omega) yq HOq.out XB HXq.out) ?_; rintro e Y1 ⟨Aq, nq, cq, rfl, q⟩; have HT1 : Hid (Tb w Y1 B Bp Bq t (t + 1) (4 * t + 2) Aa na ca Aq nq cq) := q.swap; clear q))
        exact ⟨⟨t + 1, Aa, na, ca, Aq, nq, cq, .inr h2, rfl, rfl, rfl, by go_num, HT1.out.mono (Nat.le_succ _) (Nat.le_refl _) (by omega)⟩, by simp [intOf]; omega⟩
      · have h2i : ¬ ((t : Int) < (n1 : Int)) := by omega
        obtain ⟨vp, vq, vl, vw, us, ws, la, lb, ds, k1, k2, k3, k4, k5, k6, k7, k8, k9, k10, k11⟩ := HTt.out
        obtain ⟨dd, E, h32, hP, hD⟩ := root_both la (by omega) k2.ok (na : Int)
        have HDl : Hid (Dl dd) := h32
        have HCL : Hid ((vB dd).length = (vB (List.replicate 32 0#8)).length) := by show _ = _; rw [vB_length, h32]; rfl
        have HCI : Hid ((Tryz.prog.info? 44).map (·.size) = some (vB dd).length) := info_dg11 dd h32
        have HCO : Hid ((vB dd).toArray.all (·.oneCell') = true) := vB_all11 dd
        have HBE : Hid (Below w.heap.size w wr) := k1.be
        have HRP : Hid (Calls Tryz.prog 7 #[.pointer (some ⟨Bp, 0, none⟩), .int .i64 (na : Int)] wr fun e w' => e = .returned (.tuple #[.agg (vB dd).toArray, .int .i64 E]) ∧ Below wr.heap.size wr w') := hP w Bp vp wr (HTb.out.below k1.be HTb.out.lt) k1
        have HRD : Hid (∀ W, Below wr.heap.size wr W → Calls Tryz.prog 8 #[.slice Aa na ca, .int .i64 (na : Int)] W fun e w' => e = .returned (.tuple #[.agg (vB dd).toArray, .int .i64 E]) ∧ Below W.heap.size W w') := fun W hW => hD W Aa na ca (HGv.out.low (k1.keep hW).be) (k2.be hW)
        obtain ⟨Aq, cq, eq⟩ : ∃ Aq cq, vq = .slice Aq nb cq := by
          obtain ⟨Aq, cq, e⟩ := k3.form
          rw [List.length_map, k4.len] at e
          exact ⟨Aq, cq, e⟩
        have HCQ : Hid (∀ W, Below wr.heap.size wr W → W.cell? ⟨Bq, 0, none⟩ = some (.slice Aq nb cq)) := fun W hW => by
          have := (k3.keep hW).row
          rw [eq] at this
          exact this.cell 0 _ rfl
        have HLN : Hid (∀ X, Calls Tryz.prog 9 #[.slice Aq nb cq] X fun e w' => e = .returned (.int .i64 (nb : Int)) ∧ w' = X) := fun X => len_any Aq nb cq X
        have HST : Hid (∀ W, Below wr.heap.size wr W → Calls Tryz.prog 10 #[.pointer (some ⟨B, 0, none⟩)] W fun e w' => e = .returned (.bool true) ∧ Below w.heap.size w w') := fun W hW => still11 w B vl vw us ws ds (by omega) k6 W (k5.below hW)
        clear k1 k2 k3 k4 k5 k6 k7 k8 k9 k10 k11 h32 hP hD eq
        go_upto_region 20 with (first
          | (go_at_call 7; refine Calls.mono HRP.out ?_; rintro e Y1 ⟨rfl, q⟩; have B_Y1 : Hid (Below wr.heap.size wr Y1) := q; clear q)
          | (refine wpList_allocDg rfl rfl ?_; intro Y2 q1 q2; have R_Y2 : Hid (Row Y2 Y1.heap.size (vB (List.replicate 32 0#8)) 44) := q1; have B_Y2 : Hid (Below Y1.heap.size Y1 Y2) := q2; clear q1 q2; simp only [Act.put, List.setIfInBounds_toArray, List.set_cons_zero, List.set_cons_succ])
          | (refine wpList_storeL rfl 44 (.tmp 12) (.tmp 81) rfl Y1.heap.size (vB dd) (vB (List.replicate 32 0#8)) 44 rfl rfl R_Y2.out HCL.out HCI.out HCO.out ?_; intro Y3 q1 q2; have R_Y3 : Hid (Row Y3 Y1.heap.size (vB dd) 44) := q2; have B_Y3 : Hid (Below wr.heap.size wr Y3) := B_Y1.out.trans ((by rw [q1]; exact below_setCells B_Y2.out (Nat.le_refl _) (vB dd) : Below Y1.heap.size Y1 Y3).mono B_Y1.out.size); clear q1 q2; simp only [Act.put]))
        go_upto_region 21 with (first
          | (go_at_call 8; refine Calls.mono (HRD.out Y3 B_Y3.out) ?_; rintro e Y4 ⟨rfl, q⟩; have B_Y4 : Hid (Below Y3.heap.size Y3 Y4) := q; clear q)
          | (refine wpList_allocDg rfl rfl ?_; intro Y5 q1 q2; have R_Y5 : Hid (Row Y5 Y4.heap.size (vB (List.replicate 32 0#8)) 44) := q1; have B_Y5 : Hid (Below Y4.heap.size Y4 Y5) := q2; clear q1 q2; simp only [Act.put, List.setIfInBounds_toArray, List.set_cons_zero, List.set_cons_succ])
          | (refine wpList_storeL rfl 44 (.tmp 14) (.tmp 88) rfl Y4.heap.size (vB dd) (vB (List.replicate 32 0#8)) 44 rfl rfl R_Y5.out HCL.out HCI.out HCO.out ?_; intro Y6 q1 q2; have R_Y6 : Hid (Row Y6 Y4.heap.size (vB dd) 44) := q2; have B_Y6 : Hid (Below Y3.heap.size Y3 Y6) := B_Y4.out.trans ((by rw [q1]; exact below_setCells B_Y5.out (Nat.le_refl _) (vB dd) : Below Y4.heap.size Y4 Y6).mono B_Y4.out.size); clear q1 q2; simp only [Act.put]))
        have R_6 : Hid (Row Y6 Y1.heap.size (vB dd) 44) := Row.below R_Y3.out B_Y6.out R_Y3.out.lt
        have B_6 : Hid (Below wr.heap.size wr Y6) := B_Y3.out.trans (B_Y6.out.mono B_Y3.out.size)
        have cq0 : Y6.cell? ⟨Bq, 0, none⟩ = some (.slice Aq nb cq) := HCQ.out Y6 B_6.out
        go_wp2_with (first
          | (refine wpList_load_w rfl 44 (.tmp 12) rfl Y1.heap.size 0 rfl (vB dd) _ R_6.out.all Tryz.underlying44 rfl HCI.out ?_; simp only [Act.put, List.setIfInBounds_toArray, List.set_cons_zero, List.set_cons_succ])
          | (refine wpList_load_w rfl 44 (.tmp 14) rfl Y4.heap.size 0 rfl (vB dd) _ R_Y6.out.all Tryz.underlying44 rfl HCI.out ?_; simp only [Act.put, List.setIfInBounds_toArray, List.set_cons_zero, List.set_cons_succ])
          | (refine wpList_eql_same rfl (.tmp 90) (.tmp 91) _ rfl dd HDl.out rfl rfl ?_; simp only [Act.put, List.setIfInBounds_toArray, List.set_cons_zero, List.set_cons_succ])
          | (go_at_call 9; refine Calls.mono (HLN.out _) ?_; rintro e X ⟨rfl, hX⟩; obtain rfl := hX.symm)
          | (go_at_call 10; refine Calls.mono (HST.out Y6 B_6.out) ?_; rintro e Y9 ⟨rfl, q⟩; have B_Y9 : Hid (Below w.heap.size w Y9) := q; clear q))
        go_ret
        exact ⟨rfl, B_Y9.out⟩
end Go.Proofs.YtdicgenhfmhklaaGreatDoor

namespace Go.Proofs.YtdicgenhfmhklaaGreatDoor.obooks
open Go Go.RowKit Go.ChangeShapes Go.WideShapes Go.ChangeAt
open Sha

theorem cellsI : Tryz.prog.cellsOf 3 = 1 := by kernel_rfl
theorem int_fb {H : Type} {enc : TypeId × Value → H} {W : World} {base : Nat} {held : Bool} {n : Nat} {v : Value} {y : DataW H × List MemPlace} (g : DataW.trod enc Tryz.prog W base (fun _ => true) held n 3 [v] = some y) : ∃ z, v = .int .i64 z ∧ -9223372036854775808 ≤ z ∧ z ≤ 9223372036854775807 := by
  obtain ⟨z, e, _, wz⟩ := DataW.trod_int Tryz.underlying3 g
  simp only [List.cons.injEq, and_true] at e
  exact ⟨z, e, bounds_i64 wz⟩
theorem bulk_one {H : Type} (d : DataW H) : 1 ≤ Rows.uptoBulk d := by
  cases d with
  | lit l => cases l <;> simp [Rows.uptoBulk]
  | nil => simp [Rows.uptoBulk]
  | ptr d => simp [Rows.uptoBulk]
  | slice elems spare => simp [Rows.uptoBulk]
  | agg parts => simp [Rows.uptoBulk]
  | iface t d => simp [Rows.uptoBulk]
  | map entries => simp [Rows.uptoBulk]
  | held h => simp [Rows.uptoBulk]
theorem bulk_len {H : Type} (l : List (DataW H)) : l.length ≤ Rows.uptoBulkAll l := by
  induction l with
  | nil => simp [Rows.uptoBulkAll]
  | cons x r ih => have := bulk_one x; simp only [Rows.uptoBulkAll, List.length_cons]; omega
theorem cellsU64 : Tryz.prog.cellsOf 36 = 1 := by kernel_rfl
theorem cellsWide : Tryz.prog.cellsOf 38 = 4 := by kernel_rfl
theorem cellsAdr : Tryz.prog.cellsOf 35 = 20 := by kernel_rfl
theorem parts_l (xs : List Value) (hl : xs.length = 4) (key : ∀ i (h : i < xs.length), ∃ z : Int, xs[i] = .int .u64 z ∧ 0 ≤ z ∧ z ≤ 18446744073709551615) : ∃ l : List Nat, l.length = 4 ∧ (∀ y ∈ l, y < 18446744073709551616) ∧ xs = vQ l := by
  refine ⟨xs.map (fun v => (intOf v).toNat), by simp [hl], fun y hy => ?_, ?_⟩
  · obtain ⟨v, hv, rfl⟩ := List.mem_map.1 hy
    obtain ⟨i, hi, rfl⟩ := List.mem_iff_getElem.1 hv
    obtain ⟨z, hz, z0, z1⟩ := key i hi
    rw [hz]
    simp only [intOf]
    omega
  · unfold vQ
    rw [List.map_map]
    refine List.ext_getElem (by simp) fun i h1 h2 => ?_
    obtain ⟨z, hz, z0, z1⟩ := key i h1
    rw [List.getElem_map, hz]
    simp only [Function.comp_apply, intOf]
    congr 1
    omega
set_option maxRecDepth 100000 in
section
variable {H : Type} {enc : TypeId × Value → H} {W : World} {base : Nat} {held : Bool} {fuel n : Nat} {cs : List Value} {x : DataW H × List MemPlace}
theorem wide_l {sp : Nat → Bool} (hl : cs.length = 4) (h : DataW.trod enc Tryz.prog W base sp held fuel 38 cs = some x) : ∃ l : List Nat, l.length = 4 ∧ (∀ y ∈ l, y < 18446744073709551616) ∧ cs = vQ l := by
  cases fuel with
  | zero => simp [DataW.trod] at h
  | succ m =>
    rw [DataW.trod_step] at h
    unfold DataW.trodStep at h
    simp only [Tryz.underlying38] at h
    rw [if_pos (by rw [cellsWide]; exact hl)] at h
    simp only [Option.map_eq_some_iff] at h
    obtain ⟨ys, hy, _⟩ := h
    have each := mapM_each _ _ hy
    refine parts_l cs hl (fun i h => ?_)
    obtain ⟨y, hy⟩ := each i (List.mem_range.2 (by omega))
    rw [cellsU64, Nat.mul_one] at hy
    obtain ⟨z, hz, _, wz⟩ := DataW.trod_int Tryz.underlying36 hy
    have hb := bounds_u64 wz
    refine ⟨z, ?_, hb.1, hb.2⟩
    rw [List.drop_eq_getElem_cons h, List.take_succ_cons, List.take_zero] at hz
    exact (List.cons.inj hz).1
theorem adr_f {cs : List Value} {y : DataW H × List MemPlace} (g : DataW.trod enc Tryz.prog W base (fun _ => true) held n 35 cs = some y) : ∃ l : List (BitVec 8), l.length = 20 ∧ cs = vB l := by
  cases n with
  | zero => simp [DataW.trod] at g
  | succ m =>
    rw [DataW.trod_step] at g
    unfold DataW.trodStep at g
    simp only [Tryz.underlying35] at g
    split at g
    · rename_i h2
      rw [cellsAdr] at h2
      simp only [Option.map_eq_some_iff] at g
      obtain ⟨ys, hy, _⟩ := g
      have each := mapM_each _ _ hy
      have key : ∀ i (h : i < cs.length), ∃ z, cs[i] = .int .u8 z ∧ 0 ≤ z ∧ z ≤ 255 := fun i h => by
        obtain ⟨y, hy⟩ := each i (List.mem_range.2 (by omega))
        rw [cellsU8, Nat.mul_one] at hy
        obtain ⟨z, hz, _, wz⟩ := DataW.trod_int Tryz.underlying5 hy
        have hb := bounds_u8 wz
        refine ⟨z, ?_, hb.1, hb.2⟩
        rw [List.drop_eq_getElem_cons h] at hz
        simp only [List.take_succ_cons, List.take_zero, List.cons.injEq, and_true] at hz
        exact hz
      refine ⟨cs.map (fun v => BitVec.ofInt 8 (intOf v)), by simp; omega, ?_⟩
      unfold vB
      rw [List.map_map]
      refine (List.ext_getElem (by simp) fun i h1 h2 => ?_)
      obtain ⟨z, hz, hz0, hz1⟩ := key i h1
      rw [List.getElem_map, hz]
      simp only [Function.comp_apply, intOf]
      unfold c
      rw [BitVec.toNat_ofInt]
      congr 1
      omega
    · cases g
theorem one_take11 (cs : List Value) (k : Nat) (h : k < cs.length) : (cs.drop k).take 1 = [cs.getD k undef] := by
  rw [List.drop_eq_getElem_cons h]
  simp only [List.take_succ_cons, List.take_zero, List.getD_eq_getElem?_getD, List.getElem?_eq_getElem h, Option.getD_some]
theorem cellsLf : Tryz.prog.cellsOf 40 = 27 := by kernel_rfl
theorem cut3 (cs : List Value) (a b c : Nat) (h : cs.length = a + b + c) : cs = cs.take a ++ ((cs.drop a).take b ++ (cs.drop (a + b)).take c) := by
  have e1 : (cs.drop (a + b)).take c = cs.drop (a + b) := List.take_of_length_le (by rw [List.length_drop]; omega)
  rw [e1, ← List.drop_drop, List.take_append_drop, List.take_append_drop]
theorem leaf_fb {cs : List Value} (hl : cs.length = 27) {y : DataW H × List MemPlace} (g : DataW.trod enc Tryz.prog W base (fun _ => true) held n 40 cs = some y) : ∃ s : Lv11, s.Ok ∧ 5 ≤ Rows.uptoBulk y.1 ∧ cs = s.cells := by
  obtain ⟨xs, k, hk, hxy, _, hxl, hff⟩ := DataW.trod_struct Tryz.underlying40 g
  change ∀ (i : Nat) (f : Field), _ → DataW.trod enc Tryz.prog W base (fun _ => true) held k f.type ((cs.drop f.offset).take (Tryz.prog.cellsOf f.type)) = xs[i]? at hff
  obtain ⟨y0, y1, y2, y3, y4, rfl⟩ : ∃ y0 y1 y2 y3 y4, xs = [y0, y1, y2, y3, y4] := by
    match xs, hxl with
    | [y0, y1, y2, y3, y4], _ => exact ⟨y0, y1, y2, y3, y4, rfl⟩
  have g0 := hff 0 _ rfl
  change DataW.trod enc Tryz.prog W base (fun _ => true) held k 3 ((cs.drop 0).take (Tryz.prog.cellsOf 3)) = some y0 at g0
  rw [cellsI, one_take11 cs 0 (by omega)] at g0
  obtain ⟨z0, e0, _, _⟩ := int_fb g0
  have g1 := hff 1 _ rfl
  change DataW.trod enc Tryz.prog W base (fun _ => true) held k 3 ((cs.drop 1).take (Tryz.prog.cellsOf 3)) = some y1 at g1
  rw [cellsI, one_take11 cs 1 (by omega)] at g1
  obtain ⟨z1, e1, _, _⟩ := int_fb g1
  have g2 := hff 2 _ rfl
  change DataW.trod enc Tryz.prog W base (fun _ => true) held k 3 ((cs.drop 2).take (Tryz.prog.cellsOf 3)) = some y2 at g2
  rw [cellsI, one_take11 cs 2 (by omega)] at g2
  obtain ⟨z2, e2, _, _⟩ := int_fb g2
  have g3 := hff 3 _ rfl
  change DataW.trod enc Tryz.prog W base (fun _ => true) held k 35 ((cs.drop 3).take (Tryz.prog.cellsOf 35)) = some y3 at g3
  rw [cellsAdr] at g3
  obtain ⟨rc, hrc, e3⟩ := adr_f g3
  have g4 := hff 4 _ rfl
  change DataW.trod enc Tryz.prog W base (fun _ => true) held k 38 ((cs.drop 23).take (Tryz.prog.cellsOf 38)) = some y4 at g4
  rw [cellsWide] at g4
  obtain ⟨am, ham, hq, e4⟩ := wide_l (by rw [List.length_take, List.length_drop, hl]; rfl) g4
  refine ⟨⟨z0, z1, z2, rc, am⟩, ⟨hrc, ham, hq⟩, (by rw [hxy]; have := bulk_len (List.map (fun x => x.1) [y0, y1, y2, y3, y4]); simp only [Rows.uptoBulk]; simp only [List.length_map, List.length_cons, List.length_nil] at this; omega), ?_⟩
  have hs : cs = [cs.getD 0 undef] ++ ([cs.getD 1 undef] ++ ([cs.getD 2 undef] ++ ((cs.drop 3).take 20 ++ (cs.drop 23).take 4))) := by
    have c1 := cut3 cs 3 20 4 hl
    have c2 : cs.take 3 = [cs.getD 0 undef] ++ ([cs.getD 1 undef] ++ [cs.getD 2 undef]) := by
      match cs, hl with
      | a :: b :: c :: r, _ => simp
    rw [c2] at c1
    simpa [List.append_assoc] using c1
  rw [hs, e0, e1, e2, e3, e4]
  rfl

theorem cellsSt : Tryz.prog.cellsOf 42 = 30 := by kernel_rfl
theorem step_fb {cs : List Value} (hl : cs.length = 30) {y : DataW H × List MemPlace} (g : DataW.trod enc Tryz.prog W base (fun _ => true) held n 42 cs = some y) : ∃ s : Sv11, s.Ok ∧ 9 ≤ Rows.uptoBulk y.1 ∧ cs = s.cells := by
  obtain ⟨xs, k, hk, hxy, _, hxl, hff⟩ := DataW.trod_struct Tryz.underlying42 g
  change ∀ (i : Nat) (f : Field), _ → DataW.trod enc Tryz.prog W base (fun _ => true) held k f.type ((cs.drop f.offset).take (Tryz.prog.cellsOf f.type)) = xs[i]? at hff
  obtain ⟨y0, y1, y2, y3, rfl⟩ : ∃ y0 y1 y2 y3, xs = [y0, y1, y2, y3] := by
    match xs, hxl with
    | [y0, y1, y2, y3], _ => exact ⟨y0, y1, y2, y3, rfl⟩
  have g0 := hff 0 _ rfl
  change DataW.trod enc Tryz.prog W base (fun _ => true) held k 3 ((cs.drop 0).take (Tryz.prog.cellsOf 3)) = some y0 at g0
  rw [cellsI, one_take11 cs 0 (by omega)] at g0
  obtain ⟨z0, e0, l0, u0⟩ := int_fb g0
  have g1 := hff 1 _ rfl
  change DataW.trod enc Tryz.prog W base (fun _ => true) held k 3 ((cs.drop 1).take (Tryz.prog.cellsOf 3)) = some y1 at g1
  rw [cellsI, one_take11 cs 1 (by omega)] at g1
  obtain ⟨z1, e1, _, _⟩ := int_fb g1
  have g2 := hff 2 _ rfl
  change DataW.trod enc Tryz.prog W base (fun _ => true) held k 3 ((cs.drop 2).take (Tryz.prog.cellsOf 3)) = some y2 at g2
  rw [cellsI, one_take11 cs 2 (by omega)] at g2
  obtain ⟨z2, e2, _, _⟩ := int_fb g2
  have g3 := hff 3 _ rfl
  change DataW.trod enc Tryz.prog W base (fun _ => true) held k 40 ((cs.drop 3).take (Tryz.prog.cellsOf 40)) = some y3 at g3
  rw [cellsLf] at g3
  obtain ⟨s, hs, hb, e3⟩ := leaf_fb (by rw [List.length_take, List.length_drop, hl]; rfl) g3
  refine ⟨⟨z0, z1, z2, s⟩, ⟨hs, l0, u0⟩, ?_, ?_⟩
  · rw [hxy]
    have b0 := bulk_one y0.1
    have b1 := bulk_one y1.1
    have b2 := bulk_one y2.1
    simp only [Rows.uptoBulk, Rows.uptoBulkAll, List.map_cons, List.map_nil]
    omega
  · have hs : cs = [cs.getD 0 undef] ++ ([cs.getD 1 undef] ++ ([cs.getD 2 undef] ++ (cs.drop 3).take 27)) := by
      have q : (cs.drop 3).take 27 = cs.drop 3 := List.take_of_length_le (by rw [List.length_drop]; omega)
      rw [q]
      match cs, hl with
      | a :: b :: c :: r, _ => simp
    rw [hs, e0, e1, e2, e3]
    rfl
theorem bulk_mul9 {H : Type} (l : List (DataW H)) (h : ∀ d ∈ l, 9 ≤ Rows.uptoBulk d) : l.length * 9 ≤ Rows.uptoBulkAll l := by
  induction l with
  | nil => simp [Rows.uptoBulkAll]
  | cons x r ih =>
    have h1 := h x List.mem_cons_self
    have h2 := ih (fun d hd => h d (List.mem_cons_of_mem _ hd))
    simp only [Rows.uptoBulkAll, List.length_cons]
    omega
theorem steps_f {v : Value} {y : DataW H × List MemPlace} (g : DataW.trod enc Tryz.prog W base (fun _ => true) held n 22 [v] = some y) : ∃ (ls : List Sv11) (A : Option Addr) (cap : Nat), v = .slice A ls.length cap ∧ ls.length * 9 ≤ Rows.uptoBulk y.1 ∧ StA W A ls := by
  rcases Deep.open_slice Tryz.underlying22 g with ⟨hcs, _⟩ | ⟨ad, l, c', m, k, D, Pl, hcs, _, hl, hm, hmm, hx, hr⟩
  · simp only [List.cons.injEq, and_true] at hcs
    exact ⟨[], none, 0, hcs, by simp, fun i r h => by simp at h⟩
  · simp only [List.cons.injEq, and_true] at hcs
    simp only [if_true] at hmm
    subst hmm
    have each : ∀ i, i < l → ∃ s : Sv11, (s.Ok ∧ 9 ≤ Rows.uptoBulk (D i)) ∧ ∀ q u, s.cells[q]? = some u → W.cell? (ad.add (i * 30 + q)) = some u := by
      intro i hi
      obtain ⟨cs', h1, h2⟩ := hr i (by omega)
      rw [cellsSt] at h1
      obtain ⟨_, hlen, hcell⟩ := World.cells?_some h1
      obtain ⟨s, hok, h5, e⟩ := step_fb (by simpa using hlen) h2
      refine ⟨s, ⟨hok, h5⟩, fun q u hq => ?_⟩
      have hq30 : q < 30 := by have := (List.getElem?_eq_some_iff.1 hq).1; rw [Sv11.len hok] at this; exact this
      have e2 := hcell q hq30
      rw [Deep.add_add] at e2
      rw [e2, e]; exact hq
    haveI : Inhabited Sv11 := ⟨⟨0, 0, 0, ⟨0, 0, 0, [], []⟩⟩⟩
    obtain ⟨f, hf⟩ := Deep.choose_lt each
    refine ⟨(List.range l).map f, some ad, m, by simp [hcs], ?_, fun i r hr => ?_⟩
    · rw [hx]
      have := bulk_mul9 ((List.range l).map D) (fun d hd => by obtain ⟨i, hi, rfl⟩ := List.mem_map.1 hd; exact (hf i (List.mem_range.1 hi)).1.2)
      simp only [Rows.uptoBulk, List.length_map, List.length_range] at this ⊢
      omega
    · simp only [List.getElem?_map, Option.map_eq_some_iff] at hr
      obtain ⟨i', hi', rfl⟩ := hr
      have hil : i < l := by have := (List.getElem?_eq_some_iff.1 hi').1; simpa using this
      obtain rfl : i = i' := by rw [List.getElem?_range hil] at hi'; exact Option.some.inj hi'
      obtain ⟨⟨q1, _⟩, q2⟩ := hf i hil
      obtain ⟨b, off, spot⟩ := ad
      obtain ⟨⟨q0, _⟩, q02⟩ := hf 0 (by omega)
      have h1 := q02 0 _ (List.getElem?_eq_getElem (by rw [Sv11.len q0]; decide))
      have hspot : spot = none := by simpa [Addr.add] using World.cell?_spot h1
      subst hspot
      refine ⟨q1, b, off, rfl, fun j u hu => ?_⟩
      have := q2 j u hu
      rw [Addr.add_mid, show off + (i * 30 + j) = off + i * 30 + j by omega] at this
      exact this
end
/-- What the row's list gives. -/
theorem table {W : World} (h : laidMetH Tryz.prog Rows.outboxBooksUptoRow.laid W) : Given W := by
  have e : Rows.outboxBooksUptoRow.laid = [("causeway/causewayref01.constants", Lib.tabData .u32 (K.map u)), ("causeway/causewayref01.beginning", Lib.tabData .u32 (st0.list.map u)), ("causeway/digest.cubeRoots", Lib.tabData .u32 (K.map u))] := by kernel_rfl
  rw [e] at h
  exact given_of h

set_option maxRecDepth 100000 in
theorem contract (H : Type) (enc : TypeId × Value → H) (W : World) (base : Nat) (args : Array Value) (ds gs : List (DataW H)) (before : List MemPlace)
    (hval : ∀ (j : Nat) t v, Tryz.f3.params[j]? = some t → args[j]? = some v → Value.okWide Tryz.prog W .any base t v)
    (hW : DataW.Whole enc Tryz.prog Tryz.f3.params.toList Rows.outboxBooksSpec.vars false W args.toList ds gs before) (hk : Rows.uptoSmall H (ds ++ gs) = true)
    (hL : laidMetH Tryz.prog Rows.outboxBooksUptoRow.laid W) :
    Calls Tryz.prog 3 args W fun e W' => ∃ v, e = .returned v ∧ Rows.outboxBooksSpec.post enc Tryz.prog Tryz.f3 false true false false W args v W' := by
  have hW' := hW
  obtain ⟨p, q, hA0, hV, rfl, hfz, hnd⟩ := hW
  have hA : DataW.TrodAll enc Tryz.prog W 0 (fun _ => true) true Tryz.f3.params.toList args.toList ds p := hA0
  rw [Tryz.params3] at hA hval
  obtain ⟨v0, vs0, d0, ds0, p0, q0, hargs, rfl, rfl, h0, r0⟩ := trodAll_cons hA
  obtain ⟨v1, vs1, d1, ds1, p1, q1, hargs1, rfl, rfl, h1, r1⟩ := trodAll_cons r0
  obtain ⟨rfl, rfl, rfl⟩ := trodAll_nil r1
  obtain rfl : args = #[v0, v1] := by cases args; simp_all
  obtain ⟨rfl, rfl⟩ := trodVars_none hV
  have hb : Rows.uptoBulk d0 + (Rows.uptoBulk d1 + 0) ≤ 1048576 := by
    have := of_decide_eq_true hk
    simpa only [List.append_nil, Rows.uptoBulkAll] using this
  have k0 := h0
  have k1 := h1
  have lt0 : ∀ x ∈ p0, x.block < W.heap.size := by obtain ⟨m, hm⟩ := k0; exact DataW.trod_lt m _ _ _ hm
  have lt1 : ∀ x ∈ p1, x.block < W.heap.size := by obtain ⟨m, hm⟩ := k1; exact DataW.trod_lt m _ _ _ hm
  obtain ⟨a0, len0, cap0, rfl⟩ := okWide_slice Tryz.underlying22 (hval 0 22 v0 rfl rfl)
  obtain ⟨a1, len1, cap1, rfl⟩ := okWide_slice Tryz.underlying22 (hval 1 22 v1 rfl rfl)
  obtain ⟨fuel0, hf0⟩ := h0
  obtain ⟨fuel1, hf1⟩ := h1
  obtain ⟨xa, A0, c0, e0, hn0, sa⟩ := steps_f hf0
  obtain ⟨xb, A1, c1, e1, hn1, sb⟩ := steps_f hf1
  simp only [Value.slice.injEq] at e0 e1
  obtain ⟨rfl, rfl, rfl⟩ := e0
  obtain ⟨rfl, rfl, rfl⟩ := e1
  simp only at hn0 hn1
  clear hA0
  refine (books_walk xa xb a0 xa.length cap0 a1 xb.length cap1 rfl rfl (by omega) (by omega) W (table hL) (table hL).cub sa sb).mono fun e W' ⟨he, bel⟩ => ?_
  subst he
  exact ⟨_, rfl, _, _, _, [], _, [], hW', trodAll_mk1 (shut_bool Tryz.underlying4 _), (trodAll_cons_mk (Below.trod laidOut (by kernel_rfl) (of_decide_eq_true (by kernel_rfl)) k0 bel lt0) (trodAll_cons_mk (Below.trod laidOut (by kernel_rfl) (of_decide_eq_true (by kernel_rfl)) k1 bel lt1) trodAll_mk0)), rfl, bel.frame _, fun h => by cases h⟩

theorem laid_met (os : Os) : laidMet Tryz.prog Rows.outboxBooksUptoRow.laid (({ World.holding Tryz.prog os ⟨#[], #[], []⟩ with heap := ((((World.holding Tryz.prog os ⟨#[], #[], []⟩).heap.modify 1 fun | .cells _ t frozen => .cells (vW K).toArray t frozen | o => o).modify 0 fun | .cells _ t frozen => .cells (vW st0.list).toArray t frozen | o => o).modify 2 fun | .cells _ t frozen => .cells (vW K).toArray t frozen | o => o) } : World).forCall (fun _ _ => 0) ⟨#[], #[.slice none 0 0, .slice none 0 0], []⟩).memory :=
  laidMet_of_run' 8 (by kernel_rfl) (by kernel_rfl)
theorem reads (os : Os) {H : Type} (enc : TypeId × Value → H) : ∃ places, DataW.whole enc Tryz.prog (({ World.holding Tryz.prog os ⟨#[], #[], []⟩ with heap := ((((World.holding Tryz.prog os ⟨#[], #[], []⟩).heap.modify 1 fun | .cells _ t frozen => .cells (vW K).toArray t frozen | o => o).modify 0 fun | .cells _ t frozen => .cells (vW st0.list).toArray t frozen | o => o).modify 2 fun | .cells _ t frozen => .cells (vW K).toArray t frozen | o => o) } : World).forCall (fun _ _ => 0) ⟨#[], #[.slice none 0 0, .slice none 0 0], []⟩).memory Tryz.f3.params.toList Rows.outboxBooksSpec.vars false (#[.slice none 0 0, .slice none 0 0] : Array Value).toList 8 = some ([.nil, .nil], [], places) :=
  ⟨[], by kernel_rfl⟩

set_option maxRecDepth 100000 in
theorem lifted (os : Os) (started : os.Started) (H : Type) (enc : TypeId × Value → H) (F : Stop.Interp) :
    ReturnsInHanded {} Tryz.checked os 3 .any ((Rows.OpenSpec.upto Rows.outboxBooksSpec).preRow enc Tryz.prog Tryz.f3 Rows.outboxBooksUptoRow.domain false Rows.outboxBooksUptoRow.laid) (((Rows.OpenSpec.upto Rows.outboxBooksSpec).at F).post enc Tryz.prog Tryz.f3 false true false false) := by
  obtain ⟨places, hx⟩ := reads os enc
  refine returnsInHanded_of_row (C := Tryz.checked) (s := Rows.OpenSpec.upto Rows.outboxBooksSpec) own started (by kernel_rfl) Tryz.func3
    (witness_row_at (enc := enc) (C := Tryz.checked) false ({ World.holding Tryz.prog os ⟨#[], #[], []⟩ with heap := ((((World.holding Tryz.prog os ⟨#[], #[], []⟩).heap.modify 1 fun | .cells _ t frozen => .cells (vW K).toArray t frozen | o => o).modify 0 fun | .cells _ t frozen => .cells (vW st0.list).toArray t frozen | o => o).modify 2 fun | .cells _ t frozen => .cells (vW K).toArray t frozen | o => o) } : World) #[.slice none 0 0, .slice none 0 0] rfl (by kernel_rfl) (by kernel_rfl) (by kernel_rfl)
      (OpenSpec.preRow_of_cond 8 hx (by kernel_rfl) (fun k hk => by cases hk; kernel_rfl) (by kernel_rfl) (laid_met os))) ?_
  intro W base args ds gs before hval hW _ hc hsz hL _ _
  exact contract H enc W base args ds gs before hval hW (hc _ rfl) hL

theorem said : Rows.OutboxBooksUptoSaid :=
  OpenClaim.holds_of_cond 3 Tryz.f3 rfl rfl rfl rfl rfl rfl rfl ⟨rfl, rfl, rfl, rfl, rfl⟩ rfl rfl rfl rfl rfl (by kernel_rfl) Tryz.func3 (by kernel_rfl)
    (of_decide_eq_true (by kernel_rfl)) (by unfold Func.isWrapper; first | (rw [if_pos (by decide +kernel)]; kernel_rfl) | (rw [if_neg (by decide +kernel)]; exact ⟨rfl, rfl⟩))
    (fun os started H enc _ F => by rw [OpenClaim.pre_eq_preRow]; exact lifted os started H enc F)

theorem plain (f : FuncId) (fn : Func) (hf : Tryz.pinned.checked.prog.funcNamed "causeway/causewaylaw11.OutboxBooks" = some f) (hfn : Tryz.pinned.checked.prog.funcs[f]? = some fn) :
    true = Tryz.pinned.checked.prog.looks [] ∧ ∀ (j : Nat) t, fn.params[j]? = some t → Tryz.pinned.checked.prog.wantsStandIn t = false := by
  obtain rfl : f = 3 := Option.some.inj ((show Tryz.prog.funcNamed "causeway/causewaylaw11.OutboxBooks" = some 3 by kernel_rfl).symm.trans hf) |>.symm
  obtain rfl : fn = Tryz.f3 := (Option.some.inj (Tryz.func3.symm.trans hfn)).symm
  refine ⟨by kernel_rfl, fun j t ht => ?_⟩
  rw [Tryz.params3] at ht
  have ht' : t = 22 := by have := Array.mem_of_getElem? ht; simp at this; first | omega | exact this | exact this.symm | (rcases this with h | h | h <;> simp [h])
  rcases ht' with rfl
  exact (show Tryz.prog.wantsStandIn 22 = false by kernel_rfl)

/-- THE CARD. -/
theorem card : Rows.OutboxBooksUptoCardSaid :=
  Claim7.holds_tied_plain_at .later [] _ _ _ _ said (fun _ h => by cases h) (by kernel_rfl) (fun _ h => by cases h) outboxBooksUpto_row_tie rfl ⟨rfl, rfl⟩ (by kernel_rfl) rfl plain (by kernel_rfl)

end Go.Proofs.YtdicgenhfmhklaaGreatDoor.obooks
