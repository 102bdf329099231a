/-
  The law OutboxAgrees: row and card.
-/
import Derived.Test.YtbfahgdienppoaaGreatDoorTEq
import Derived.Test.YtbfahgdienppoaaGreatDoorRows
import Derived.ProofKit
import Derived.OpenShut
import Derived.ShutString
import Derived.ChangeOld
import Derived.SizedLaws
import Derived.Deep.DeepHandedRow
import Derived.Lib.LaidTab
import Derived.Test.YtbfahgdienppoaaGreatDoorOcA
import Derived.ChangeMaps5
import Derived.Deep.Matrix
import Derived.Deep.SlicePairs
import Derived.Test.YtbfahgdienppoaaGreatDoorAgL
import Derived.Stop.LaidErr
import Derived.Test.YtbfahgdienppoaaGreatDoorCards
import Derived.Test.YtbfahgdienppoaaGreatDoorTie

namespace Go.Proofs.YtbfahgdienppoaaGreatDoor
open Go Go.RowKit Go.ChangeShapes Go.WideShapes Go.ChangeAt
open Sha

theorem own : ownKnob Tryz.prog.godebug = none := by kernel_rfl
theorem laidOut : laidOutB Tryz.prog = true := by kernel_rfl
theorem gTab : Tryz.prog.globalNamed "causeway/digest.cubeRoots" = some 2 := by kernel_rfl
theorem gTabType : (Tryz.prog.globals[2]?).map (·.type) = some 180 := by kernel_rfl
theorem cellsTab : Tryz.prog.cellsOf 180 = 64 := by kernel_rfl
theorem cellsU32 : Tryz.prog.cellsOf 152 = 1 := by kernel_rfl
theorem cellsU8 : Tryz.prog.cellsOf 5 = 1 := by kernel_rfl
theorem bytesU8 : Tryz.prog.bytesOf 5 = 1 := by kernel_rfl

theorem tab_of {W : World} (h : Lib.TabIs Tryz.prog W "causeway/digest.cubeRoots" .u32 (K.map u)) : Tab W 2 := fun i hi => by
  have := h.cell gTab i (by simpa [K_length] using hi)
  rw [this]
  rw [List.getD_eq_getElem?_getD, List.getElem?_map, List.getElem?_eq_getElem (by rw [K_length]; exact hi)]
  simp [show i < K.length by rw [K_length]; exact hi]

/-- A slice of bytes that came in. -/
theorem bytes_in {H : Type} {enc : TypeId × Value → H} {W : World} {base : Nat} {held : Bool} {fuel : Nat} {a : Option Addr} {len cap : Nat} {x : DataW H × List MemPlace} {ts : List TypeId} {ds : List (DataW H)} {j : Nat}
    (h : DataW.trod enc Tryz.prog W base (fun _ => true) held fuel 46 (Value.slice a len cap).cells.toList = some x)
    (hsz : (DataW.weightsEach Tryz.prog ts ds).all (· ≤ reachBytes) = true) (ht : ts[j]? = some 46) (hd : ds[j]? = some x.1) :
    ∃ d : List (BitVec 8), d.length = len ∧ len ≤ reachBytes ∧ cap ≤ reachBytes ∧ SlAtT W (.slice a len cap) d := by
  rcases open_ints Tryz.underlying46 Tryz.underlying5 cellsU8 h with ⟨hcs, _⟩ | ⟨y, l, c', zs, hcs, _, hl, hm, hz, hx, hcell, hwz⟩
  · simp [Value.cells] at hcs
    obtain ⟨rfl, rfl, rfl⟩ := hcs
    exact ⟨[], rfl, Nat.zero_le _, Nat.zero_le _, .inl ⟨rfl, _, _, rfl⟩⟩
  · simp [Value.cells] at hcs
    obtain ⟨rfl, rfl, rfl⟩ := hcs
    simp only [if_true] at hz
    have hreach := sized_slice hsz (j := j) (t := 46) (e := 5) ht (by rw [hd, hx]) Tryz.underlying46
    rw [bytesU8] at hreach
    simp only [lits, List.length_map, List.length_take, List.length_drop, Nat.mul_one] at hreach
    have hr2 : cap ≤ reachBytes := by omega
    refine ⟨(zs.take len).map (BitVec.ofInt 8), by simp; omega, by omega, hr2, ?_⟩
    by_cases h0 : len = 0
    · subst h0; exact .inl ⟨by simp, _, _, rfl⟩
    · obtain ⟨b, off, spot⟩ := y
      have hc := hcell 0 (by omega)
      have hspot : spot = none := by simpa [Addr.add] using World.cell?_spot hc
      subst hspot
      refine .inr ⟨b, off, cap, by simp; omega, by simp; omega, fun i v hv => ?_⟩
      have hi : i < len := by have := (List.getElem?_eq_some_iff.1 hv).1; simp [vB_length] at this; omega
      have h1 := hcell i (by omega)
      rw [Addr.add_mid] at h1
      rw [h1]
      have hw := hwz (zs.getD i 0) (by rw [List.getD_eq_getElem?_getD, List.getElem?_eq_getElem (by omega)]; exact List.getElem_mem _)
      have hb := bounds_u8 hw
      rw [vB_get _ i (by simp; omega)] at hv
      rw [← hv]
      have e : ((zs.take len).map (BitVec.ofInt 8)).getD i 0 = BitVec.ofInt 8 (zs.getD i 0) := by
        simp [List.getElem?_take_of_lt hi, List.getElem?_eq_getElem (show i < zs.length by omega)]
      rw [e]
      unfold c
      rw [show ((BitVec.ofInt 8 (zs.getD i 0)).toNat : Int) = zs.getD i 0 from by rw [BitVec.toNat_ofInt]; omega]

end Go.Proofs.YtbfahgdienppoaaGreatDoor

namespace Go.Proofs.YtbfahgdienppoaaGreatDoor
open Go Go.RowKit Go.ChangeShapes Go.WideShapes Go.ChangeAt
open Sha
theorem cellsU64 : Tryz.prog.cellsOf 35 = 1 := by kernel_rfl
theorem cellsWide : Tryz.prog.cellsOf 37 = 4 := by kernel_rfl
theorem cellsAdr : Tryz.prog.cellsOf 34 = 20 := by kernel_rfl
theorem mapM_each {α β : Type} {f : α → Option β} : ∀ (L : List α) (ys : List β), L.mapM f = some ys → ∀ i ∈ L, ∃ y, f i = some y
  | [], _, _, i, hi => by cases hi
  | a :: L, ys, h, i, hi => by
    rw [List.mapM_cons] at h
    simp only [bind, Option.bind_eq_some_iff, pure, Option.some.injEq] at h
    obtain ⟨y, hy, zs, hz, _⟩ := h
    rcases List.mem_cons.1 hi with rfl | hi
    · exact ⟨y, hy⟩
    · exact mapM_each L zs hz i hi

theorem parts_l (xs : List Value) (hl : xs.length = 4) (key : ∀ i (h : i < xs.length), ∃ z : Int, xs[i] = .int .u64 z ∧ 0 ≤ z ∧ z ≤ 18446744073709551615) : ∃ l : List Nat, l.length = 4 ∧ (∀ y ∈ l, y < 18446744073709551616) ∧ xs = vQ l := by
  refine ⟨xs.map (fun v => (intOf v).toNat), by simp [hl], fun y hy => ?_, ?_⟩
  · obtain ⟨v, hv, rfl⟩ := List.mem_map.1 hy
    obtain ⟨i, hi, rfl⟩ := List.mem_iff_getElem.1 hv
    obtain ⟨z, hz, z0, z1⟩ := key i hi
    rw [hz]
    simp only [intOf]
    omega
  · unfold vQ
    rw [List.map_map]
    refine List.ext_getElem (by simp) fun i h1 h2 => ?_
    obtain ⟨z, hz, z0, z1⟩ := key i h1
    rw [List.getElem_map, hz]
    simp only [Function.comp_apply, intOf]
    congr 1
    omega
set_option maxRecDepth 100000 in
section
variable {H : Type} {enc : TypeId × Value → H} {W : World} {base : Nat} {held : Bool} {fuel n : Nat} {cs : List Value} {x : DataW H × List MemPlace}
theorem wide_l {sp : Nat → Bool} (hl : cs.length = 4) (h : DataW.trod enc Tryz.prog W base sp held fuel 37 cs = some x) : ∃ l : List Nat, l.length = 4 ∧ (∀ y ∈ l, y < 18446744073709551616) ∧ cs = vQ l := by
  cases fuel with
  | zero => simp [DataW.trod] at h
  | succ m =>
    rw [DataW.trod_step] at h
    unfold DataW.trodStep at h
    simp only [Tryz.underlying37] at h
    rw [if_pos (by rw [cellsWide]; exact hl)] at h
    simp only [Option.map_eq_some_iff] at h
    obtain ⟨ys, hy, _⟩ := h
    have each := mapM_each _ _ hy
    refine parts_l cs hl (fun i h => ?_)
    obtain ⟨y, hy⟩ := each i (List.mem_range.2 (by omega))
    rw [cellsU64, Nat.mul_one] at hy
    obtain ⟨z, hz, _, wz⟩ := DataW.trod_int Tryz.underlying35 hy
    have hb := bounds_u64 wz
    refine ⟨z, ?_, hb.1, hb.2⟩
    rw [List.drop_eq_getElem_cons h, List.take_succ_cons, List.take_zero] at hz
    exact (List.cons.inj hz).1
theorem adr_f {cs : List Value} {y : DataW H × List MemPlace} (g : DataW.trod enc Tryz.prog W base (fun _ => true) held n 34 cs = some y) : ∃ l : List (BitVec 8), l.length = 20 ∧ cs = vB l := by
  cases n with
  | zero => simp [DataW.trod] at g
  | succ m =>
    rw [DataW.trod_step] at g
    unfold DataW.trodStep at g
    simp only [Tryz.underlying34] at g
    split at g
    · rename_i h2
      rw [cellsAdr] at h2
      simp only [Option.map_eq_some_iff] at g
      obtain ⟨ys, hy, _⟩ := g
      have each := mapM_each _ _ hy
      have key : ∀ i (h : i < cs.length), ∃ z, cs[i] = .int .u8 z ∧ 0 ≤ z ∧ z ≤ 255 := fun i h => by
        obtain ⟨y, hy⟩ := each i (List.mem_range.2 (by omega))
        rw [cellsU8, Nat.mul_one] at hy
        obtain ⟨z, hz, _, wz⟩ := DataW.trod_int Tryz.underlying5 hy
        have hb := bounds_u8 wz
        refine ⟨z, ?_, hb.1, hb.2⟩
        rw [List.drop_eq_getElem_cons h] at hz
        simp only [List.take_succ_cons, List.take_zero, List.cons.injEq, and_true] at hz
        exact hz
      refine ⟨cs.map (fun v => BitVec.ofInt 8 (intOf v)), by simp; omega, ?_⟩
      unfold vB
      rw [List.map_map]
      refine (List.ext_getElem (by simp) fun i h1 h2 => ?_)
      obtain ⟨z, hz, hz0, hz1⟩ := key i h1
      rw [List.getElem_map, hz]
      simp only [Function.comp_apply, intOf]
      unfold c
      rw [BitVec.toNat_ofInt]
      congr 1
      omega
    · cases g
theorem int_ff {v : Value} {y : DataW H × List MemPlace} (g : DataW.trod enc Tryz.prog W base (fun _ => true) held n 3 [v] = some y) : ∃ z, v = .int .i64 z ∧ -9223372036854775808 ≤ z ∧ z ≤ 9223372036854775807 := by
  obtain ⟨z, e, _, wz⟩ := DataW.trod_int Tryz.underlying3 g
  simp only [List.cons.injEq, and_true] at e
  exact ⟨z, e, bounds_i64 wz⟩
theorem one_take11 (cs : List Value) (k : Nat) (h : k < cs.length) : (cs.drop k).take 1 = [cs.getD k undef] := by
  rw [List.drop_eq_getElem_cons h]
  simp only [List.take_succ_cons, List.take_zero, List.getD_eq_getElem?_getD, List.getElem?_eq_getElem h, Option.getD_some]
theorem cellsRaw : Tryz.prog.cellsOf 42 = 26 := by kernel_rfl
theorem cellsInt : Tryz.prog.cellsOf 3 = 1 := by kernel_rfl
theorem raw_f {cs : List Value} (hl : cs.length = 26) {y : DataW H × List MemPlace} (g : DataW.trod enc Tryz.prog W base (fun _ => true) held n 42 cs = some y) : ∃ r : Rwv, r.Ok ∧ cs = rwc r := by
  obtain ⟨xs, k, hk, hxy, _, hxl, hff⟩ := DataW.trod_struct Tryz.underlying42 g
  change ∀ (i : Nat) (f : Field), _ → DataW.trod enc Tryz.prog W base (fun _ => true) held k f.type ((cs.drop f.offset).take (Tryz.prog.cellsOf f.type)) = xs[i]? at hff
  obtain ⟨y0, y1, y2, y3, rfl⟩ : ∃ y0 y1 y2 y3, xs = [y0, y1, y2, y3] := by
    match xs, hxl with
    | [y0, y1, y2, y3], _ => exact ⟨y0, y1, y2, y3, rfl⟩
  have g0 := hff 0 _ rfl
  change DataW.trod enc Tryz.prog W base (fun _ => true) held k 3 ((cs.drop 0).take (Tryz.prog.cellsOf 3)) = some y0 at g0
  rw [cellsInt, one_take11 cs 0 (by omega)] at g0
  obtain ⟨z0, e0, l0, u0⟩ := int_ff g0
  have g1 := hff 1 _ rfl
  change DataW.trod enc Tryz.prog W base (fun _ => true) held k 3 ((cs.drop 1).take (Tryz.prog.cellsOf 3)) = some y1 at g1
  rw [cellsInt, one_take11 cs 1 (by omega)] at g1
  obtain ⟨z1, e1, l1, u1⟩ := int_ff g1
  have g2 := hff 2 _ rfl
  change DataW.trod enc Tryz.prog W base (fun _ => true) held k 34 ((cs.drop 2).take (Tryz.prog.cellsOf 34)) = some y2 at g2
  rw [cellsAdr] at g2
  obtain ⟨rc, hrc, e2⟩ := adr_f g2
  have g3 := hff 3 _ rfl
  change DataW.trod enc Tryz.prog W base (fun _ => true) held k 37 ((cs.drop 22).take (Tryz.prog.cellsOf 37)) = some y3 at g3
  rw [cellsWide] at g3
  obtain ⟨am, ham, hq, e3⟩ := wide_l (by rw [List.length_take, List.length_drop, hl]; rfl) g3
  refine ⟨⟨z0, z1, rc, am⟩, ⟨l0, u0, l1, u1, hrc, ham, hq⟩, ?_⟩
  have hs : cs = [cs.getD 0 undef] ++ ([cs.getD 1 undef] ++ ((cs.drop 2).take 20 ++ (cs.drop 22).take 4)) := by
    apply List.ext_getElem?
    intro i
    rcases (show i < 1 ∨ (1 ≤ i ∧ i < 2) ∨ (2 ≤ i ∧ i < 22) ∨ (22 ≤ i ∧ i < 26) ∨ 26 ≤ i by omega) with h | ⟨h1, h2⟩ | ⟨h1, h2⟩ | ⟨h1, h2⟩ | h
    · obtain rfl : i = 0 := by omega
      simp [List.getElem?_eq_getElem (show 0 < cs.length by omega)]
    · obtain rfl : i = 1 := by omega
      simp [List.getElem?_eq_getElem (show 1 < cs.length by omega)]
    · rw [List.getElem?_append_right (by simp; omega), List.getElem?_append_right (by simp; omega), List.getElem?_append_left (by simp [hl]; omega)]
      simp only [List.length_singleton, List.getElem?_take, List.getElem?_drop]
      rw [if_pos (by omega), show 2 + (i - 1 - 1) = i by omega]
    · rw [List.getElem?_append_right (by simp; omega), List.getElem?_append_right (by simp; omega), List.getElem?_append_right (by simp [hl]; omega)]
      simp only [List.length_singleton, List.length_take, List.length_drop, hl, List.getElem?_take, List.getElem?_drop]
      rw [if_pos (by omega), show 22 + (i - 1 - 1 - min 20 (26 - 2)) = i by omega]
    · rw [List.getElem?_eq_none (by omega), List.getElem?_eq_none (by simp [hl]; omega)]
  rw [hs, e0, e1, e2, e3]
  rfl
/-- A list of them that came in. -/
theorem raws_f {v : Value} {y : DataW H × List MemPlace} (g : DataW.trod enc Tryz.prog W base (fun _ => true) held n 22 [v] = some y) : ∃ (rs : List Rwv) (A : Option Addr) (cap : Nat), v = .slice A rs.length cap ∧ rs.length ≤ cap ∧ Ra W A rs := by
  rcases Deep.open_slice Tryz.underlying22 g with ⟨hcs, _⟩ | ⟨ad, l, c', m, k, D, Pl, hcs, _, hl, hm, hmm, hx, hr⟩
  · simp only [List.cons.injEq, and_true] at hcs
    exact ⟨[], none, 0, hcs, Nat.le_refl _, fun i r h => by simp at h⟩
  · simp only [List.cons.injEq, and_true] at hcs
    simp only [if_true] at hmm
    subst hmm
    have each : ∀ i, i < l → ∃ r : Rwv, r.Ok ∧ ∀ q u, (rwc r)[q]? = some u → W.cell? (ad.add (i * 26 + q)) = some u := by
      intro i hi
      obtain ⟨cs', h1, h2⟩ := hr i (by omega)
      rw [cellsRaw] at h1
      obtain ⟨_, hlen, hcell⟩ := World.cells?_some h1
      obtain ⟨r, hok, e⟩ := raw_f (by simpa using hlen) h2
      refine ⟨r, hok, fun q u hq => ?_⟩
      have hq26 : q < 26 := by have := (List.getElem?_eq_some_iff.1 hq).1; rw [rwc_len hok] at this; exact this
      have e2 := hcell q hq26
      rw [Deep.add_add] at e2
      rw [e2, e]; exact hq
    obtain ⟨f, hf⟩ : ∃ f : Nat → Rwv, ∀ i, i < l → (f i).Ok ∧ ∀ q u, (rwc (f i))[q]? = some u → W.cell? (ad.add (i * 26 + q)) = some u := by
      refine ⟨fun i => if h : i < l then (each i h).choose else ⟨0, 0, [], []⟩, fun i hi => ?_⟩
      simp only [hi, dif_pos]
      exact (each i hi).choose_spec
    refine ⟨(List.range l).map f, some ad, m, by simp [hcs], by simp; omega, fun i r hr => ?_⟩
    simp only [List.getElem?_map, Option.map_eq_some_iff] at hr
    obtain ⟨i', hi', rfl⟩ := hr
    have hil : i < l := by have := (List.getElem?_eq_some_iff.1 hi').1; simpa using this
    obtain rfl : i = i' := by rw [List.getElem?_range hil] at hi'; exact Option.some.inj hi'
    obtain ⟨q1, q2⟩ := hf i hil
    obtain ⟨b, off, spot⟩ := ad
    have h1 := (hf 0 (by omega)).2 0 (.int .i64 (f 0).en) rfl
    have hspot : spot = none := by simpa [Addr.add] using World.cell?_spot h1
    subst hspot
    refine ⟨q1, b, off, rfl, fun j u hu => ?_⟩
    have := q2 j u hu
    rw [Addr.add_mid, show off + (i * 26 + j) = off + i * 26 + j by omega] at this
    exact this
end

end Go.Proofs.YtbfahgdienppoaaGreatDoor

namespace Go.Proofs.YtbfahgdienppoaaGreatDoor.oagr
open Go Go.RowKit Go.ChangeShapes Go.WideShapes Go.ChangeAt
open Sha

theorem gDb : Tryz.prog.globalNamed "math/bits.deBruijn64tab" = some 1 := by kernel_rfl
theorem gDbType : (Tryz.prog.globals[1]?).map (·.type) = some 169 := by kernel_rfl
theorem cells64 : Tryz.prog.cellsOf 169 = 64 := by kernel_rfl
/-- What the row's list gives. -/
theorem table {W : World} (h : laidMetH Tryz.prog Rows.outboxAgreesRow.laid W) : Tab W 2 ∧ TabAt 1 Lib.deBruijn64tab W := by
  have e : Rows.outboxAgreesRow.laid = [("math/bits.deBruijn32tab", Rows.laid_math_bits_deBruijn32tab), ("math/bits.deBruijn64tab", Lib.tabData .u8 (Lib.deBruijn64tab.map fun (x : Nat) => (x : Int))), ("causeway/digest.cubeRoots", Lib.tabData .u32 (K.map u))] := by kernel_rfl
  rw [e] at h
  have h' : laidMet Tryz.prog [("math/bits.deBruijn32tab", Rows.laid_math_bits_deBruijn32tab), ("math/bits.deBruijn64tab", Lib.tabData .u8 (Lib.deBruijn64tab.map fun (x : Nat) => (x : Int))), ("causeway/digest.cubeRoots", Lib.tabData .u32 (K.map u))] W := h
  have h1 := h'.tail
  have h2 := h1.tail
  refine ⟨tab_of (Lib.tabIs_of_head gTab gTabType Tryz.underlying180 Tryz.underlying152 cellsU32 cellsTab h2), fun j hj => ?_⟩
  have t := Lib.tabIs_of_head gDb gDbType Tryz.underlying169 Tryz.underlying5 cellsU8 cells64 h1
  have q := t.cell gDb j (by simpa using hj)
  rw [q, List.getD_eq_getElem?_getD, List.getElem?_map, List.getElem?_eq_getElem hj, List.getD_eq_getElem?_getD, List.getElem?_eq_getElem hj]
  rfl

theorem db_lt {W : World} (h : TabAt 1 Lib.deBruijn64tab W) : 1 < W.heap.size := World.block_lt_of_cell? W ⟨1, 0, none⟩ (h 0 (by decide))
set_option maxRecDepth 100000 in
theorem contract (H : Type) (enc : TypeId × Value → H) (W : World) (base : Nat) (args : Array Value) (ds gs : List (DataW H)) (before : List MemPlace)
    (hval : ∀ (j : Nat) t v, Tryz.f3.params[j]? = some t → args[j]? = some v → Value.okWide Tryz.prog W .any base t v)
    (hW : DataW.Whole enc Tryz.prog Tryz.f3.params.toList Rows.outboxAgreesSpec.vars false W args.toList ds gs before)
    (hsz : (DataW.weightsEach Tryz.prog (Tryz.f3.params.toList ++ (OpenSpec.ofChange Rows.outboxAgreesSpec).bare.plain.varTypes Tryz.prog) (ds ++ gs)).all (· ≤ reachBytes) = true)
    (hL : laidMetH Tryz.prog Rows.outboxAgreesRow.laid W) :
    Calls Tryz.prog 3 args W fun e W' => ∃ v, e = .returned v ∧ Rows.outboxAgreesSpec.post enc Tryz.prog Tryz.f3 false true false false W args v W' := by
  have hW' := hW
  obtain ⟨p, q, hA0, hV, rfl, hfz, hnd⟩ := hW
  have hA : DataW.TrodAll enc Tryz.prog W 0 (fun _ => true) true Tryz.f3.params.toList args.toList ds p := hA0
  rw [Tryz.params3] at hA hval hsz
  obtain ⟨v0, vs0, d0, ds0, p0, q0, hargs, rfl, rfl, h0, r0⟩ := trodAll_cons hA
  obtain ⟨v1, vs1, d1, ds1, p1, q1, rfl, rfl, rfl, h1, r1⟩ := trodAll_cons r0
  obtain ⟨rfl, rfl, rfl⟩ := trodAll_nil r1
  obtain rfl : args = #[v0, v1] := by cases args; simp_all
  obtain ⟨rfl, rfl⟩ := trodVars_none hV
  obtain ⟨a0, len0, cap0, rfl⟩ := okWide_slice Tryz.underlying22 (hval 0 22 v0 rfl rfl)
  have k0 := h0
  have lt0 : ∀ x ∈ p0, x.block < W.heap.size := by obtain ⟨m, hm⟩ := k0; exact DataW.trod_lt m _ _ _ hm
  obtain ⟨fuel, hf⟩ := h0
  obtain ⟨rs0, A0, c0, e0, hc0, ra0⟩ := raws_f (v := .slice a0 len0 cap0) hf
  simp only [Value.slice.injEq] at e0
  obtain ⟨rfl, rfl, rfl⟩ := e0
  have k1 := h1
  have lt1 : ∀ x ∈ p1, x.block < W.heap.size := by obtain ⟨m, hm⟩ := k1; exact DataW.trod_lt m _ _ _ hm
  obtain ⟨n1, rfl, rfl, rfl, wn1⟩ := open_int Tryz.underlying3 (hval 1 3 v1 rfl rfl) h1
  have hb1 := bounds_i64 wn1
  clear hA0
  refine (agrees_walk rs0 a0 rs0.length cap0 rfl hc0 n1 hb1.1 hb1.2 W (table hL).1 (table hL).2 (db_lt (table hL).2) ra0).mono fun e W' ⟨he, bel⟩ => ?_
  subst he
  exact ⟨_, rfl, _, _, _, [], _, [], hW', trodAll_mk1 (shut_bool Tryz.underlying4 _), (trodAll_cons_mk (Below.trod laidOut (by kernel_rfl) (of_decide_eq_true (by kernel_rfl)) k0 bel lt0) (trodAll_cons_mk (Below.trod laidOut (by kernel_rfl) (of_decide_eq_true (by kernel_rfl)) k1 bel lt1) trodAll_mk0)), rfl, bel.frame _, fun h => by cases h⟩


theorem laid_met (os : Os) : laidMet Tryz.prog Rows.outboxAgreesRow.laid (({ World.holding Tryz.prog os ⟨#[], #[], []⟩ with heap := ((((World.holding Tryz.prog os ⟨#[], #[], []⟩).heap.modify 0 fun | .cells _ t frozen => .cells #[.int .u8 0, .int .u8 1, .int .u8 28, .int .u8 2, .int .u8 29, .int .u8 14, .int .u8 24, .int .u8 3, .int .u8 30, .int .u8 22, .int .u8 20, .int .u8 15, .int .u8 25, .int .u8 17, .int .u8 4, .int .u8 8, .int .u8 31, .int .u8 27, .int .u8 13, .int .u8 23, .int .u8 21, .int .u8 19, .int .u8 16, .int .u8 7, .int .u8 26, .int .u8 12, .int .u8 18, .int .u8 6, .int .u8 11, .int .u8 5, .int .u8 10, .int .u8 9] t frozen | o => o).modify 1 fun | .cells _ t frozen => .cells #[.int .u8 0, .int .u8 1, .int .u8 56, .int .u8 2, .int .u8 57, .int .u8 49, .int .u8 28, .int .u8 3, .int .u8 61, .int .u8 58, .int .u8 42, .int .u8 50, .int .u8 38, .int .u8 29, .int .u8 17, .int .u8 4, .int .u8 62, .int .u8 47, .int .u8 59, .int .u8 36, .int .u8 45, .int .u8 43, .int .u8 51, .int .u8 22, .int .u8 53, .int .u8 39, .int .u8 33, .int .u8 30, .int .u8 24, .int .u8 18, .int .u8 12, .int .u8 5, .int .u8 63, .int .u8 55, .int .u8 48, .int .u8 27, .int .u8 60, .int .u8 41, .int .u8 37, .int .u8 16, .int .u8 46, .int .u8 35, .int .u8 44, .int .u8 21, .int .u8 52, .int .u8 32, .int .u8 23, .int .u8 11, .int .u8 54, .int .u8 26, .int .u8 40, .int .u8 15, .int .u8 34, .int .u8 20, .int .u8 31, .int .u8 10, .int .u8 25, .int .u8 14, .int .u8 19, .int .u8 9, .int .u8 13, .int .u8 8, .int .u8 7, .int .u8 6] t frozen | o => o).modify 2 fun | .cells _ t frozen => .cells (vW K).toArray t frozen | o => o) } : World).forCall (fun _ _ => 0) ⟨#[], #[.slice none 0 0, .int .i64 0], []⟩).memory :=
  laidMet_of_run' 8 (by kernel_rfl) (by kernel_rfl)
theorem reads (os : Os) {H : Type} (enc : TypeId × Value → H) : ∃ places, DataW.whole enc Tryz.prog (({ World.holding Tryz.prog os ⟨#[], #[], []⟩ with heap := ((((World.holding Tryz.prog os ⟨#[], #[], []⟩).heap.modify 0 fun | .cells _ t frozen => .cells #[.int .u8 0, .int .u8 1, .int .u8 28, .int .u8 2, .int .u8 29, .int .u8 14, .int .u8 24, .int .u8 3, .int .u8 30, .int .u8 22, .int .u8 20, .int .u8 15, .int .u8 25, .int .u8 17, .int .u8 4, .int .u8 8, .int .u8 31, .int .u8 27, .int .u8 13, .int .u8 23, .int .u8 21, .int .u8 19, .int .u8 16, .int .u8 7, .int .u8 26, .int .u8 12, .int .u8 18, .int .u8 6, .int .u8 11, .int .u8 5, .int .u8 10, .int .u8 9] t frozen | o => o).modify 1 fun | .cells _ t frozen => .cells #[.int .u8 0, .int .u8 1, .int .u8 56, .int .u8 2, .int .u8 57, .int .u8 49, .int .u8 28, .int .u8 3, .int .u8 61, .int .u8 58, .int .u8 42, .int .u8 50, .int .u8 38, .int .u8 29, .int .u8 17, .int .u8 4, .int .u8 62, .int .u8 47, .int .u8 59, .int .u8 36, .int .u8 45, .int .u8 43, .int .u8 51, .int .u8 22, .int .u8 53, .int .u8 39, .int .u8 33, .int .u8 30, .int .u8 24, .int .u8 18, .int .u8 12, .int .u8 5, .int .u8 63, .int .u8 55, .int .u8 48, .int .u8 27, .int .u8 60, .int .u8 41, .int .u8 37, .int .u8 16, .int .u8 46, .int .u8 35, .int .u8 44, .int .u8 21, .int .u8 52, .int .u8 32, .int .u8 23, .int .u8 11, .int .u8 54, .int .u8 26, .int .u8 40, .int .u8 15, .int .u8 34, .int .u8 20, .int .u8 31, .int .u8 10, .int .u8 25, .int .u8 14, .int .u8 19, .int .u8 9, .int .u8 13, .int .u8 8, .int .u8 7, .int .u8 6] t frozen | o => o).modify 2 fun | .cells _ t frozen => .cells (vW K).toArray t frozen | o => o) } : World).forCall (fun _ _ => 0) ⟨#[], #[.slice none 0 0, .int .i64 0], []⟩).memory Tryz.f3.params.toList Rows.outboxAgreesSpec.vars false (#[.slice none 0 0, .int .i64 0] : Array Value).toList 8 = some ([.nil, .lit (.int .i64 0)], [], places) :=
  ⟨[], by kernel_rfl⟩

set_option maxRecDepth 100000 in
theorem lifted (os : Os) (started : os.Started) (H : Type) (enc : TypeId × Value → H) (F : Stop.Interp) :
    ReturnsInHanded {} Tryz.checked os 3 .any ((OpenSpec.ofChange Rows.outboxAgreesSpec).preRow enc Tryz.prog Tryz.f3 Rows.outboxAgreesRow.domain false Rows.outboxAgreesRow.laid) (((OpenSpec.ofChange Rows.outboxAgreesSpec).at F).post enc Tryz.prog Tryz.f3 false true false false) := by
  obtain ⟨places, hx⟩ := reads os enc
  refine returnsInHanded_of_row (C := Tryz.checked) (s := OpenSpec.ofChange Rows.outboxAgreesSpec) own started (by kernel_rfl) Tryz.func3
    (witness_row_at (enc := enc) (C := Tryz.checked) false ({ World.holding Tryz.prog os ⟨#[], #[], []⟩ with heap := ((((World.holding Tryz.prog os ⟨#[], #[], []⟩).heap.modify 0 fun | .cells _ t frozen => .cells #[.int .u8 0, .int .u8 1, .int .u8 28, .int .u8 2, .int .u8 29, .int .u8 14, .int .u8 24, .int .u8 3, .int .u8 30, .int .u8 22, .int .u8 20, .int .u8 15, .int .u8 25, .int .u8 17, .int .u8 4, .int .u8 8, .int .u8 31, .int .u8 27, .int .u8 13, .int .u8 23, .int .u8 21, .int .u8 19, .int .u8 16, .int .u8 7, .int .u8 26, .int .u8 12, .int .u8 18, .int .u8 6, .int .u8 11, .int .u8 5, .int .u8 10, .int .u8 9] t frozen | o => o).modify 1 fun | .cells _ t frozen => .cells #[.int .u8 0, .int .u8 1, .int .u8 56, .int .u8 2, .int .u8 57, .int .u8 49, .int .u8 28, .int .u8 3, .int .u8 61, .int .u8 58, .int .u8 42, .int .u8 50, .int .u8 38, .int .u8 29, .int .u8 17, .int .u8 4, .int .u8 62, .int .u8 47, .int .u8 59, .int .u8 36, .int .u8 45, .int .u8 43, .int .u8 51, .int .u8 22, .int .u8 53, .int .u8 39, .int .u8 33, .int .u8 30, .int .u8 24, .int .u8 18, .int .u8 12, .int .u8 5, .int .u8 63, .int .u8 55, .int .u8 48, .int .u8 27, .int .u8 60, .int .u8 41, .int .u8 37, .int .u8 16, .int .u8 46, .int .u8 35, .int .u8 44, .int .u8 21, .int .u8 52, .int .u8 32, .int .u8 23, .int .u8 11, .int .u8 54, .int .u8 26, .int .u8 40, .int .u8 15, .int .u8 34, .int .u8 20, .int .u8 31, .int .u8 10, .int .u8 25, .int .u8 14, .int .u8 19, .int .u8 9, .int .u8 13, .int .u8 8, .int .u8 7, .int .u8 6] t frozen | o => o).modify 2 fun | .cells _ t frozen => .cells (vW K).toArray t frozen | o => o) } : World) #[.slice none 0 0, .int .i64 0] rfl (by kernel_rfl) (by kernel_rfl) (by kernel_rfl)
      (OpenSpec.preRow_of_cond 8 hx (by kernel_rfl) (fun k hk => by cases hk) (by kernel_rfl) (laid_met os))) ?_
  intro W base args ds gs before hval hW _ hc hsz hL _ _
  exact contract H enc W base args ds gs before hval hW hsz hL

theorem said : Rows.OutboxAgreesSaid :=
  OpenClaim.holds_of_cond 3 Tryz.f3 rfl rfl rfl rfl rfl rfl rfl ⟨rfl, rfl, rfl, rfl, rfl⟩ rfl rfl rfl rfl rfl (by kernel_rfl) Tryz.func3 (by kernel_rfl)
    (of_decide_eq_true (by kernel_rfl)) (by unfold Func.isWrapper; first | (rw [if_pos (by decide +kernel)]; kernel_rfl) | (rw [if_neg (by decide +kernel)]; exact ⟨rfl, rfl⟩))
    (fun os started H enc _ F => by rw [OpenClaim.pre_eq_preRow]; exact lifted os started H enc F)

theorem plain (f : FuncId) (fn : Func) (hf : Tryz.pinned.checked.prog.funcNamed "causeway/causewaylaw11.OutboxAgrees" = some f) (hfn : Tryz.pinned.checked.prog.funcs[f]? = some fn) :
    true = Tryz.pinned.checked.prog.looks [] ∧ ∀ (j : Nat) t, fn.params[j]? = some t → Tryz.pinned.checked.prog.wantsStandIn t = false := by
  obtain rfl : f = 3 := Option.some.inj ((show Tryz.prog.funcNamed "causeway/causewaylaw11.OutboxAgrees" = some 3 by kernel_rfl).symm.trans hf) |>.symm
  obtain rfl : fn = Tryz.f3 := (Option.some.inj (Tryz.func3.symm.trans hfn)).symm
  refine ⟨by kernel_rfl, fun j t ht => ?_⟩
  rw [Tryz.params3] at ht
  have ht' : t = 22 ∨ t = 3 := by have := Array.mem_of_getElem? ht; simp at this; first | omega | exact this | exact this.symm | (rcases this with h | h | h <;> simp [h])
  rcases ht' with rfl | rfl
  · exact (show Tryz.prog.wantsStandIn 22 = false by kernel_rfl)
  · exact (show Tryz.prog.wantsStandIn 3 = false by kernel_rfl)

/-- THE CARD. -/
theorem card : Rows.OutboxAgreesCardSaid :=
  Claim7.holds_tied_plain_at .later [] _ _ _ _ said (fun _ h => by cases h) (by kernel_rfl) (fun _ h => by cases h) outboxAgrees_row_tie rfl ⟨rfl, rfl⟩ (by kernel_rfl) rfl plain (by kernel_rfl)

end Go.Proofs.YtbfahgdienppoaaGreatDoor.oagr
