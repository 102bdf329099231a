/-
  The law LedgerGives: what came in.
-/
import Derived.Test.YtelioddogdcdoaaDoorXMem
import Derived.Test.YtelioddogdcdoaaDoorRows
import Derived.ProofKit
import Derived.OpenShut
import Derived.ShutString
import Derived.ChangeOld
import Derived.SizedLaws
import Derived.Deep.DeepHandedRow
import Derived.Lib.LaidTab
import Derived.Test.YtelioddogdcdoaaDoorLhO
import Derived.Test.YtelioddogdcdoaaDoorLhP
import Derived.Test.YtelioddogdcdoaaDoorLhQ
import Derived.ChangeMaps5
import Derived.Deep.Matrix
import Derived.Deep.SlicePairs

namespace Go.Proofs.YtelioddogdcdoaaDoor
open Go Go.RowKit Go.ChangeShapes Go.WideShapes Go.ChangeAt
open Sha

theorem own : ownKnob Tryd.prog.godebug = none := by kernel_rfl
theorem laidOut : laidOutB Tryd.prog = true := by kernel_rfl
theorem cellsU8 : Tryd.prog.cellsOf 5 = 1 := by kernel_rfl
theorem bytesU8 : Tryd.prog.bytesOf 5 = 1 := by kernel_rfl

/-- A slice of bytes that came in. -/
theorem bytes_in {H : Type} {enc : TypeId × Value → H} {W : World} {base : Nat} {held : Bool} {fuel : Nat} {a : Option Addr} {len cap : Nat} {x : DataW H × List MemPlace} {ts : List TypeId} {ds : List (DataW H)} {j : Nat}
    (h : DataW.trod enc Tryd.prog W base (fun _ => true) held fuel 52 (Value.slice a len cap).cells.toList = some x)
    (hsz : (DataW.weightsEach Tryd.prog ts ds).all (· ≤ reachBytes) = true) (ht : ts[j]? = some 52) (hd : ds[j]? = some x.1) :
    ∃ d : List (BitVec 8), d.length = len ∧ len ≤ reachBytes ∧ SlAt W (.slice a len cap) d ∧ (a = none → len = 0 ∧ cap = 0) := by
  rcases open_ints Tryd.underlying52 Tryd.underlying5 cellsU8 h with ⟨hcs, _⟩ | ⟨y, l, c', zs, hcs, _, hl, hm, hz, hx, hcell, hwz⟩
  · simp [Value.cells] at hcs
    obtain ⟨rfl, rfl, rfl⟩ := hcs
    exact ⟨[], rfl, Nat.zero_le _, .inl ⟨rfl, _, _, rfl⟩, fun _ => ⟨rfl, rfl⟩⟩
  · simp [Value.cells] at hcs
    obtain ⟨rfl, rfl, rfl⟩ := hcs
    simp only [if_true] at hz
    have hreach := sized_slice hsz (j := j) (t := 52) (e := 5) ht (by rw [hd, hx]) Tryd.underlying52
    rw [bytesU8] at hreach
    simp only [lits, List.length_map, List.length_take, List.length_drop, Nat.mul_one] at hreach
    have hr2 : cap ≤ reachBytes := by omega
    refine ⟨(zs.take len).map (BitVec.ofInt 8), by simp; omega, by omega, ?_, fun h => by cases h⟩
    by_cases h0 : len = 0
    · subst h0; exact .inl ⟨by simp, _, _, rfl⟩
    · obtain ⟨b, off, spot⟩ := y
      have hc := hcell 0 (by omega)
      have hspot : spot = none := by simpa [Addr.add] using World.cell?_spot hc
      subst hspot
      refine .inr ⟨b, off, cap, by simp; omega, by simp; omega, fun i v hv => ?_⟩
      have hi : i < len := by have := (List.getElem?_eq_some_iff.1 hv).1; simp [vB_length] at this; omega
      have h1 := hcell i (by omega)
      rw [Addr.add_mid] at h1
      rw [h1]
      have hw := hwz (zs.getD i 0) (by rw [List.getD_eq_getElem?_getD, List.getElem?_eq_getElem (by omega)]; exact List.getElem_mem _)
      have hb := bounds_u8 hw
      rw [vB_get _ i (by simp; omega)] at hv
      rw [← hv]
      have e : ((zs.take len).map (BitVec.ofInt 8)).getD i 0 = BitVec.ofInt 8 (zs.getD i 0) := by
        simp [List.getElem?_take_of_lt hi, List.getElem?_eq_getElem (show i < zs.length by omega)]
      rw [e]
      unfold c
      rw [show ((BitVec.ofInt 8 (zs.getD i 0)).toNat : Int) = zs.getD i 0 from by rw [BitVec.toNat_ofInt]; omega]

end Go.Proofs.YtelioddogdcdoaaDoor

namespace Go.Proofs.YtelioddogdcdoaaDoor
open Go Go.RowKit Go.ChangeShapes Go.WideShapes Go.ChangeAt
open Sha
open Wd

theorem cellsU64 : Tryd.prog.cellsOf 23 = 1 := by kernel_rfl
theorem cellsWide : Tryd.prog.cellsOf 25 = 4 := by kernel_rfl
theorem cellsAdr : Tryd.prog.cellsOf 33 = 20 := by kernel_rfl
theorem cellsAs : Tryd.prog.cellsOf 22 = 1 := by kernel_rfl
theorem mapM_each {α β : Type} {f : α → Option β} : ∀ (L : List α) (ys : List β), L.mapM f = some ys → ∀ i ∈ L, ∃ y, f i = some y
  | [], _, _, i, hi => by cases hi
  | a :: L, ys, h, i, hi => by
    rw [List.mapM_cons] at h
    simp only [bind, Option.bind_eq_some_iff, pure, Option.some.injEq] at h
    obtain ⟨y, hy, zs, hz, _⟩ := h
    rcases List.mem_cons.1 hi with rfl | hi
    · exact ⟨y, hy⟩
    · exact mapM_each L zs hz i hi

theorem parts_in (xs : List Value) (hl : xs.length = 4) (key : ∀ i (h : i < xs.length), ∃ z : Int, xs[i] = .int .u64 z ∧ 0 ≤ z ∧ z ≤ 18446744073709551615) : ∃ n, n < 2 ^ 256 ∧ xs = vQ (dgs n 4) := by
  obtain ⟨l, hll, hlt, hx⟩ : ∃ l : List Nat, l.length = 4 ∧ (∀ y ∈ l, y < 18446744073709551616) ∧ xs = vQ l := by
    refine ⟨xs.map (fun v => (intOf v).toNat), by simp [hl], fun y hy => ?_, ?_⟩
    · obtain ⟨v, hv, rfl⟩ := List.mem_map.1 hy
      obtain ⟨i, hi, rfl⟩ := List.mem_iff_getElem.1 hv
      obtain ⟨z, hz, z0, z1⟩ := key i hi
      rw [hz]
      simp only [intOf]
      omega
    · unfold vQ
      rw [List.map_map]
      refine List.ext_getElem (by simp) fun i h1 h2 => ?_
      obtain ⟨z, hz, z0, z1⟩ := key i h1
      rw [List.getElem_map, hz]
      simp only [Function.comp_apply, intOf]
      congr 1
      omega
  refine ⟨num l, ?_, ?_⟩
  · have := num_lt l hlt
    rw [hll] at this
    simpa using this
  · have := dgs_num l hlt
    rw [hll] at this
    rw [this]
    exact hx
set_option maxRecDepth 100000 in
section
variable {H : Type} {enc : TypeId × Value → H} {W : World} {base : Nat} {held : Bool} {fuel n : Nat} {cs : List Value} {x : DataW H × List MemPlace}
theorem wide_at {sp : Nat → Bool} (hl : cs.length = 4) (h : DataW.trod enc Tryd.prog W base sp held fuel 25 cs = some x) : ∃ n, n < 2 ^ 256 ∧ cs = vQ (dgs n 4) := by
  cases fuel with
  | zero => simp [DataW.trod] at h
  | succ m =>
    rw [DataW.trod_step] at h
    unfold DataW.trodStep at h
    simp only [Tryd.underlying25] at h
    rw [if_pos (by rw [cellsWide]; exact hl)] at h
    simp only [Option.map_eq_some_iff] at h
    obtain ⟨ys, hy, _⟩ := h
    have each := mapM_each _ _ hy
    refine parts_in cs hl (fun i h => ?_)
    obtain ⟨y, hy⟩ := each i (List.mem_range.2 (by omega))
    rw [cellsU64, Nat.mul_one] at hy
    obtain ⟨z, hz, _, wz⟩ := DataW.trod_int Tryd.underlying23 hy
    have hb := bounds_u64 wz
    refine ⟨z, ?_, hb.1, hb.2⟩
    rw [List.drop_eq_getElem_cons h, List.take_succ_cons, List.take_zero] at hz
    exact (List.cons.inj hz).1
theorem adr_f {cs : List Value} {y : DataW H × List MemPlace} (g : DataW.trod enc Tryd.prog W base (fun _ => true) held n 33 cs = some y) : ∃ l : List (BitVec 8), l.length = 20 ∧ cs = vB l := by
  cases n with
  | zero => simp [DataW.trod] at g
  | succ m =>
    rw [DataW.trod_step] at g
    unfold DataW.trodStep at g
    simp only [Tryd.underlying33] at g
    split at g
    · rename_i h2
      rw [cellsAdr] at h2
      simp only [Option.map_eq_some_iff] at g
      obtain ⟨ys, hy, _⟩ := g
      have each := mapM_each _ _ hy
      have key : ∀ i (h : i < cs.length), ∃ z, cs[i] = .int .u8 z ∧ 0 ≤ z ∧ z ≤ 255 := fun i h => by
        obtain ⟨y, hy⟩ := each i (List.mem_range.2 (by omega))
        rw [cellsU8, Nat.mul_one] at hy
        obtain ⟨z, hz, _, wz⟩ := DataW.trod_int Tryd.underlying5 hy
        have hb := bounds_u8 wz
        refine ⟨z, ?_, hb.1, hb.2⟩
        rw [List.drop_eq_getElem_cons h] at hz
        simp only [List.take_succ_cons, List.take_zero, List.cons.injEq, and_true] at hz
        exact hz
      refine ⟨cs.map (fun v => BitVec.ofInt 8 (intOf v)), by simp; omega, ?_⟩
      unfold vB
      rw [List.map_map]
      refine (List.ext_getElem (by simp) fun i h1 h2 => ?_)
      obtain ⟨z, hz, hz0, hz1⟩ := key i h1
      rw [List.getElem_map, hz]
      simp only [Function.comp_apply, intOf]
      unfold c
      rw [BitVec.toNat_ofInt]
      congr 1
      omega
    · cases g
/-- A list of addresses. -/
theorem adrs_f {v : Value} {y : DataW H × List MemPlace} (g : DataW.trod enc Tryd.prog W base (fun _ => true) held n 22 [v] = some y) : ∃ (A : Option Addr) (l cap : Nat), v = .slice A l cap ∧ (3 ≤ l → ∃ (b o : Nat) (x y z : List (BitVec 8)), A = some ⟨b, o, none⟩ ∧ x.length = 20 ∧ y.length = 20 ∧ z.length = 20 ∧ W.rangeAt b o (vB x) ∧ W.rangeAt b (o + 20) (vB y) ∧ W.rangeAt b (o + 40) (vB z)) := by
  rcases Deep.open_slice Tryd.underlying22 g with ⟨hcs, _⟩ | ⟨ad, l, c', m, k, D, Pl, hcs, _, hl, hm, hmm, hx, hr⟩
  · simp only [List.cons.injEq, and_true] at hcs
    exact ⟨none, 0, 0, hcs, fun h => by omega⟩
  · simp only [List.cons.injEq, and_true] at hcs
    simp only [if_true] at hmm
    subst hmm
    have each : ∀ i, i < l → ∃ d : List (BitVec 8), d.length = 20 ∧ ∀ q u, (vB d)[q]? = some u → W.cell? (ad.add (i * 20 + q)) = some u := by
      intro i hi
      obtain ⟨cs', h1, h2⟩ := hr i (by omega)
      rw [cellsAdr] at h1
      obtain ⟨_, hlen, hcell⟩ := World.cells?_some h1
      obtain ⟨d, hd, e⟩ := adr_f h2
      refine ⟨d, hd, fun q u hq => ?_⟩
      have hq20 : q < 20 := by have := (List.getElem?_eq_some_iff.1 hq).1; rw [vB_length, hd] at this; exact this
      have e2 := hcell q hq20
      rw [Deep.add_add] at e2
      rw [e2, e]; exact hq
    refine ⟨some ad, l, m, hcs, fun h3 => ?_⟩
    obtain ⟨x, hx1, hx2⟩ := each 0 (by omega)
    obtain ⟨y, hy1, hy2⟩ := each 1 (by omega)
    obtain ⟨z, hz1, hz2⟩ := each 2 (by omega)
    obtain ⟨b, off, spot⟩ := ad
    have h1 := hx2 0 _ (vB_get _ 0 (by rw [hx1]; decide))
    have hspot : spot = none := by simpa [Addr.add] using World.cell?_spot h1
    subst hspot
    refine ⟨b, off, x, y, z, rfl, hx1, hy1, hz1, fun j u hu => ?_, fun j u hu => ?_, fun j u hu => ?_⟩
    · have := hx2 j u hu
      rw [Addr.add_mid, show 0 * 20 + j = j by omega] at this
      exact this
    · have := hy2 j u hu
      rw [Addr.add_mid, show off + (1 * 20 + j) = off + 20 + j by omega] at this
      exact this
    · have := hz2 j u hu
      rw [Addr.add_mid, show off + (2 * 20 + j) = off + 40 + j by omega] at this
      exact this
end
/-- The law, whatever came in. -/
theorem gives_walk (cs : List Value) (hcl : cs.length = 10) (z0 : Int) (h1 : -9223372036854775808 ≤ z0) (h2 : z0 ≤ 9223372036854775807) (hc0 : cs[0]? = some (.int .i64 z0)) (A : Option Addr) (n cap : Nat) (hc1 : cs[1]? = some (.slice A n cap)) (a b : Nat) (ha : a < 2 ^ 256) (hb : b < 2 ^ 256) (hcA : (cs.drop 2).take 4 = wq a) (hcB : (cs.drop 6).take 4 = wq b) (w : World)
    (hL : 3 ≤ n → ∃ (b o : Nat) (x y z : List (BitVec 8)), A = some ⟨b, o, none⟩ ∧ x.length = 20 ∧ y.length = 20 ∧ z.length = 20 ∧ w.rangeAt b o (vB x) ∧ w.rangeAt b (o + 20) (vB y) ∧ w.rangeAt b (o + 40) (vB z)) :
    Calls Tryd.prog 3 #[.agg cs.toArray] w fun e w' => e = .returned (.bool true) ∧ Below w.heap.size w w' := by
  by_cases hn : n < 3
  · exact giv_few cs hcl z0 h1 h2 hc0 A n cap hn hc1 a b hcA hcB w
  · obtain ⟨g, o, x, y, z, rfl, hx, hy, hz, hX, hY, hZ⟩ := hL (by omega)
    by_cases hab : a < b
    · exact giv_short cs hcl z0 h1 h2 hc0 g o n cap (by omega) hc1 a b ha hb hcA hcB x y z hx hy hz hab w hX hY hZ
    · by_cases hb0 : b = 0
      · by_cases hxy : x = y
        · exact giv_zs cs hcl z0 h1 h2 hc0 g o n cap (by omega) hc1 a b ha hb hcA hcB x y z hx hy hz (by omega) hb0 hxy w hX hY hZ
        · exact giv_zd cs hcl z0 h1 h2 hc0 g o n cap (by omega) hc1 a b ha hb hcA hcB x y z hx hy hz (by omega) hb0 hxy w hX hY hZ
      · by_cases hxy : x = y
        · exact giv_bs cs hcl z0 h1 h2 hc0 g o n cap (by omega) hc1 a b ha hb hcA hcB x y z hx hy hz (by omega) hb0 hxy w hX hY hZ
        · exact giv_bd cs hcl z0 h1 h2 hc0 g o n cap (by omega) hc1 a b ha hb hcA hcB x y z hx hy hz (by omega) hb0 hxy w hX hY hZ

end Go.Proofs.YtelioddogdcdoaaDoor
