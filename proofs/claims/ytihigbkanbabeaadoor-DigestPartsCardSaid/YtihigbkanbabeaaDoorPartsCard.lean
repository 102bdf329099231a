/-
  The law DigestParts: row and card.
-/
import Derived.Test.YtihigbkanbabeaaDoorPLaw
import Derived.Test.YtihigbkanbabeaaDoorRTab
import Derived.Test.YtihigbkanbabeaaDoorCards
import Derived.Test.YtihigbkanbabeaaDoorTie
import Derived.Deep.Matrix
namespace Go.Proofs.YtihigbkanbabeaaDoor.parts
open Go Go.RowKit Go.ChangeShapes Go.WideShapes Go.ChangeAt
open Sha

/-- What the row's list gives. -/
theorem table {W : World} (h : laidMetH Tryd.prog Rows.digestPartsRow.laid W) : Given W := by
  have e : Rows.digestPartsRow.laid = [("causeway/causewayref01.constants", Lib.tabData .u32 (K.map u)), ("causeway/causewayref01.beginning", Lib.tabData .u32 (st0.list.map u)), ("causeway/digest.cubeRoots", Lib.tabData .u32 (K.map u))] := by kernel_rfl
  rw [e] at h
  exact given_of h

theorem weights_all {H : Type} {P : Program} {e : TypeId} : ∀ (l : List (DataW H)) (d : DataW H), d ∈ l → ∀ n ∈ d.weights P e, n ∈ DataW.weightsAll P e l
  | [], _, h, _, _ => by cases h
  | x :: r, d, h, n, hn => by
    simp only [DataW.weightsAll, List.mem_append]
    rcases List.mem_cons.1 h with rfl | h
    · exact .inl hn
    · exact .inr (weights_all r d h n hn)

theorem cellsSl : Tryd.prog.cellsOf 22 = 1 := by kernel_rfl
theorem bytesSl : Tryd.prog.bytesOf 22 = 24 := by kernel_rfl

/-- A slice of bytes by its cells. -/
theorem bytes_of {W : World} {A : Option Addr} {L C : Nat} {Z : List Int} (hL : L ≤ C) (hZ : Z.length = C) (hw : ∀ n ∈ Z, (Lit.int .u8 n).wf = true) (h0 : A = none → C = 0) (hc : ∀ a', A = some a' → ∀ c, c < C → W.cell? (a'.add c) = some (.int .u8 (Z.getD c 0))) :
    ((Z.take L).map (BitVec.ofInt 8)).length = L ∧ SlAt W (.slice A L C) ((Z.take L).map (BitVec.ofInt 8)) := by
  have hl : ((Z.take L).map (BitVec.ofInt 8)).length = L := by simp; omega
  refine ⟨hl, ?_⟩
  by_cases hz : L = 0
  · subst hz; exact .inl ⟨by simp, _, _, rfl⟩
  · cases A with
    | none => have := h0 rfl; omega
    | some y =>
      obtain ⟨b, off, spot⟩ := y
      have hcell := hc _ rfl
      have h1 := hcell 0 (by omega)
      have hspot : spot = none := by simpa [Addr.add] using World.cell?_spot h1
      subst hspot
      refine .inr ⟨b, off, C, by rw [hl], by rw [hl]; exact hL, fun i v hv => ?_⟩
      have hi : i < L := by have := (List.getElem?_eq_some_iff.1 hv).1; rw [vB_length, hl] at this; exact this
      have h2 := hcell i (by omega)
      rw [Addr.add_mid] at h2
      rw [h2]
      have hw := hw (Z.getD i 0) (by rw [List.getD_eq_getElem?_getD, List.getElem?_eq_getElem (by omega)]; exact List.getElem_mem _)
      have hb := bounds_u8 hw
      rw [vB_get _ i (by rw [hl]; exact hi)] at hv
      rw [← hv]
      have e : ((Z.take L).map (BitVec.ofInt 8)).getD i 0 = BitVec.ofInt 8 (Z.getD i 0) := by
        simp [List.getElem?_take_of_lt hi, List.getElem?_eq_getElem (show i < Z.length by omega)]
      rw [e]
      unfold c
      rw [show ((BitVec.ofInt 8 (Z.getD i 0)).toNat : Int) = Z.getD i 0 from by rw [BitVec.toNat_ofInt]; omega]

theorem range_getD {α : Type} (n i : Nat) (f : Nat → α) (x : α) (h : i < n) : ((List.range n).map f).getD i x = f i := by
  simp [h]

/-- A list of lists of bytes that came in. -/
theorem lists_in {H : Type} {enc : TypeId × Value → H} {W : World} {base : Nat} {held : Bool} {fuel : Nat} {a : Option Addr} {len cap : Nat} {x : DataW H × List MemPlace} {ts : List TypeId} {ds : List (DataW H)} {j : Nat}
    (h : DataW.trod enc Tryd.prog W base (fun _ => true) held fuel 30 (Value.slice a len cap).cells.toList = some x)
    (hsz : (DataW.weightsEach Tryd.prog ts ds).all (· ≤ reachBytes) = true) (ht : ts[j]? = some 30) (hd : ds[j]? = some x.1) :
    ∃ (ps : List (List (BitVec 8))) (vs : List Value), Ins W a len ps vs ∧ len * 24 ≤ 140737488351232 ∧ ∀ i, i < len → (ps.getD i []).length ≤ 140737488351232 := by
  have hrb : reachBytes = 140737488351232 := rfl
  rcases Deep.open_int_rows Tryd.underlying30 Tryd.underlying22 Tryd.underlying5 cellsSl cellsU8 h with ⟨hcs, _⟩ | ⟨y, l, c', A, L, C, Z, hcs, _, hl, hm, hx, hr⟩
  · simp [Value.cells] at hcs
    obtain ⟨rfl, rfl, rfl⟩ := hcs
    exact ⟨[], [], ⟨rfl, rfl, fun i hi => by omega, fun i hi => by omega, fun h => by omega⟩, by omega, fun i hi => by omega⟩
  · simp [Value.cells] at hcs
    obtain ⟨rfl, rfl, rfl⟩ := hcs
    have hds : ds[j]? = some (.slice ((List.range len).map fun r => Deep.intRow .u8 (A r) (L r) (Z r)) ((List.range (cap - len)).map fun j => Deep.intRow .u8 (A (len + j)) (L (len + j)) (Z (len + j)))) := by rw [hd, hx]
    have hreach := sized_slice hsz (j := j) (t := 30) (e := 22) ht hds Tryd.underlying30
    rw [bytesSl] at hreach
    simp only [List.length_map, List.length_range] at hreach
    have hin : ∀ i, i < len → L i ≤ reachBytes := fun i hi => by
      obtain ⟨_, r1, _, r3, _, r5, _⟩ := hr i (by omega)
      cases hA : A i with
      | none => have := r5 hA; omega
      | some ad =>
        have hmem := List.all_eq_true.1 hsz (((Z i).take (L i)).length + ((Z i).drop (L i)).length) (DataW.weights_mem_each ht hds _ (by
          simp only [DataW.weights, Tryd.underlying30, List.mem_cons, List.mem_append]
          refine .inr (.inl (weights_all _ (Deep.intRow .u8 (A i) (L i) (Z i)) (List.mem_map.2 ⟨i, List.mem_range.2 hi, rfl⟩) _ ?_))
          rw [hA]
          simp only [Deep.intRow, DataW.weights, Tryd.underlying22, lits, List.length_map, bytesU8, Nat.mul_one]
          exact List.mem_cons_self))
        simp only [List.length_take, List.length_drop] at hmem
        have := of_decide_eq_true hmem
        omega
    refine ⟨(List.range len).map fun r => ((Z r).take (L r)).map (BitVec.ofInt 8), (List.range len).map fun r => .slice (A r) (L r) (C r), ⟨by simp, by simp, fun i hi => ?_, fun i hi => ?_, fun hn => ?_⟩, by omega, fun i hi => ?_⟩
    · rw [range_getD _ _ _ _ hi, range_getD _ _ _ _ hi]
      obtain ⟨_, r1, _, r3, r4, r5, r6⟩ := hr i (by omega)
      exact (bytes_of r1 r3 r4 r5 (fun a' ha c hc => (r6 a' ha).2 c hc)).2
    · rw [range_getD _ _ _ _ hi, range_getD _ _ _ _ hi]
      obtain ⟨_, r1, _, r3, r4, r5, r6⟩ := hr i (by omega)
      exact ⟨A i, C i, by rw [(bytes_of r1 r3 r4 r5 (fun a' ha c hc => (r6 a' ha).2 c hc)).1], r5⟩
    · obtain ⟨b, off, spot⟩ := y
      have h1 := (hr 0 (by omega)).1
      have hspot : spot = none := by simpa [Addr.add] using World.cell?_spot h1
      subst hspot
      refine ⟨b, off, rfl, fun i v hv => ?_⟩
      have hi : i < len := by have := (List.getElem?_eq_some_iff.1 hv).1; simpa using this
      have h2 := (hr i (by omega)).1
      rw [Addr.add_mid] at h2
      rw [h2]
      simpa [hi] using hv
    · rw [range_getD _ _ _ _ hi]
      obtain ⟨_, r1, _, r3, r4, r5, r6⟩ := hr i (by omega)
      rw [(bytes_of r1 r3 r4 r5 (fun a' ha c hc => (r6 a' ha).2 c hc)).1]
      have := hin i hi
      omega

set_option maxRecDepth 100000 in
theorem contract (H : Type) (enc : TypeId × Value → H) (W : World) (base : Nat) (args : Array Value) (ds gs : List (DataW H)) (before : List MemPlace)
    (hval : ∀ (j : Nat) t v, Tryd.f4.params[j]? = some t → args[j]? = some v → Value.okWide Tryd.prog W .any base t v)
    (hW : DataW.Whole enc Tryd.prog Tryd.f4.params.toList Rows.digestPartsSpec.vars false W args.toList ds gs before)
    (hsz : (DataW.weightsEach Tryd.prog (Tryd.f4.params.toList ++ (OpenSpec.ofChange Rows.digestPartsSpec).bare.plain.varTypes Tryd.prog) (ds ++ gs)).all (· ≤ reachBytes) = true)
    (hL : laidMetH Tryd.prog Rows.digestPartsRow.laid W) :
    Calls Tryd.prog 4 args W fun e W' => ∃ v, e = .returned v ∧ Rows.digestPartsSpec.post enc Tryd.prog Tryd.f4 false true false false W args v W' := by
  have hW' := hW
  obtain ⟨p, q, hA0, hV, rfl, hfz, hnd⟩ := hW
  have hA : DataW.TrodAll enc Tryd.prog W 0 (fun _ => true) true Tryd.f4.params.toList args.toList ds p := hA0
  rw [Tryd.params4] at hA hval hsz
  obtain ⟨v0, vs0, d0, ds0, p0, q0, hargs, rfl, rfl, h0, r0⟩ := trodAll_cons hA
  obtain ⟨rfl, rfl, rfl⟩ := trodAll_nil r0
  obtain rfl : args = #[v0] := by cases args; simp_all
  obtain ⟨rfl, rfl⟩ := trodVars_none hV
  obtain ⟨a0, len0, cap0, rfl⟩ := okWide_slice Tryd.underlying30 (hval 0 30 v0 rfl rfl)
  have k0 := h0
  have lt0 : ∀ x ∈ p0, x.block < W.heap.size := by obtain ⟨m, hm⟩ := k0; exact DataW.trod_lt m _ _ _ hm
  obtain ⟨ps, vs, hI, hn, hp⟩ := (fun ⟨fuel, hf⟩ => lists_in (j := 0) hf hsz rfl rfl : (∃ _, _) → _) h0
  clear hA0
  refine (parts_walk a0 len0 cap0 ps vs W hI hn hp (table hL)).mono fun e W' ⟨he, bel⟩ => ?_
  subst he
  exact ⟨_, rfl, _, _, _, [], _, [], hW', trodAll_mk1 (shut_bool Tryd.underlying4 _), (trodAll_cons_mk (Below.trod laidOut (by kernel_rfl) (of_decide_eq_true (by kernel_rfl)) k0 bel lt0) trodAll_mk0), rfl, bel.frame _, fun h => by cases h⟩

theorem laid_met (os : Os) : laidMet Tryd.prog Rows.digestPartsRow.laid (({ World.holding Tryd.prog os ⟨#[], #[], []⟩ with heap := ((((World.holding Tryd.prog os ⟨#[], #[], []⟩).heap.modify 2 fun | .cells _ t frozen => .cells (vW K).toArray t frozen | o => o).modify 0 fun | .cells _ t frozen => .cells (vW st0.list).toArray t frozen | o => o).modify 1 fun | .cells _ t frozen => .cells (vW K).toArray t frozen | o => o) } : World).forCall (fun _ _ => 0) ⟨#[], #[.slice none 0 0], []⟩).memory :=
  laidMet_of_run' 8 (by kernel_rfl) (by kernel_rfl)
theorem reads (os : Os) {H : Type} (enc : TypeId × Value → H) : ∃ places, DataW.whole enc Tryd.prog (({ World.holding Tryd.prog os ⟨#[], #[], []⟩ with heap := ((((World.holding Tryd.prog os ⟨#[], #[], []⟩).heap.modify 2 fun | .cells _ t frozen => .cells (vW K).toArray t frozen | o => o).modify 0 fun | .cells _ t frozen => .cells (vW st0.list).toArray t frozen | o => o).modify 1 fun | .cells _ t frozen => .cells (vW K).toArray t frozen | o => o) } : World).forCall (fun _ _ => 0) ⟨#[], #[.slice none 0 0], []⟩).memory Tryd.f4.params.toList Rows.digestPartsSpec.vars false (#[.slice none 0 0] : Array Value).toList 8 = some ([.nil], [], places) :=
  ⟨[], by kernel_rfl⟩

set_option maxRecDepth 100000 in
theorem lifted (os : Os) (started : os.Started) (H : Type) (enc : TypeId × Value → H) (F : Stop.Interp) :
    ReturnsInHanded {} Tryd.checked os 4 .any ((OpenSpec.ofChange Rows.digestPartsSpec).preRow enc Tryd.prog Tryd.f4 Rows.digestPartsRow.domain false Rows.digestPartsRow.laid) (((OpenSpec.ofChange Rows.digestPartsSpec).at F).post enc Tryd.prog Tryd.f4 false true false false) := by
  obtain ⟨places, hx⟩ := reads os enc
  refine returnsInHanded_of_row (C := Tryd.checked) (s := OpenSpec.ofChange Rows.digestPartsSpec) own started (by kernel_rfl) Tryd.func4
    (witness_row_at (enc := enc) (C := Tryd.checked) false ({ World.holding Tryd.prog os ⟨#[], #[], []⟩ with heap := ((((World.holding Tryd.prog os ⟨#[], #[], []⟩).heap.modify 2 fun | .cells _ t frozen => .cells (vW K).toArray t frozen | o => o).modify 0 fun | .cells _ t frozen => .cells (vW st0.list).toArray t frozen | o => o).modify 1 fun | .cells _ t frozen => .cells (vW K).toArray t frozen | o => o) } : World) #[.slice none 0 0] rfl (by kernel_rfl) (by kernel_rfl) (by kernel_rfl)
      (OpenSpec.preRow_of_cond 8 hx (by kernel_rfl) (fun k hk => by cases hk) (by kernel_rfl) (laid_met os))) ?_
  intro W base args ds gs before hval hW _ hc hsz hL _ _
  exact contract H enc W base args ds gs before hval hW hsz hL

theorem said : Rows.DigestPartsSaid :=
  OpenClaim.holds_of_cond 4 Tryd.f4 rfl rfl rfl rfl rfl rfl rfl ⟨rfl, rfl, rfl, rfl, rfl⟩ rfl rfl rfl rfl rfl (by kernel_rfl) Tryd.func4 (by kernel_rfl)
    (of_decide_eq_true (by kernel_rfl)) (by unfold Func.isWrapper; first | (rw [if_pos (by decide +kernel)]; kernel_rfl) | (rw [if_neg (by decide +kernel)]; exact ⟨rfl, rfl⟩))
    (fun os started H enc _ F => by rw [OpenClaim.pre_eq_preRow]; exact lifted os started H enc F)

theorem plain (f : FuncId) (fn : Func) (hf : Tryd.pinned.checked.prog.funcNamed "causeway/causewaylaw01.DigestParts" = some f) (hfn : Tryd.pinned.checked.prog.funcs[f]? = some fn) :
    false = Tryd.pinned.checked.prog.looks [] ∧ ∀ (j : Nat) t, fn.params[j]? = some t → Tryd.pinned.checked.prog.wantsStandIn t = false := by
  obtain rfl : f = 4 := Option.some.inj ((show Tryd.prog.funcNamed "causeway/causewaylaw01.DigestParts" = some 4 by kernel_rfl).symm.trans hf) |>.symm
  obtain rfl : fn = Tryd.f4 := (Option.some.inj (Tryd.func4.symm.trans hfn)).symm
  refine ⟨by kernel_rfl, fun j t ht => ?_⟩
  rw [Tryd.params4] at ht
  have ht' : t = 30 := by have := Array.mem_of_getElem? ht; simp at this; first | omega | exact this | exact this.symm | (rcases this with h | h | h <;> simp [h])
  rcases ht' with rfl
  exact (show Tryd.prog.wantsStandIn 30 = false by kernel_rfl)

/-- THE CARD. -/
theorem card : Rows.DigestPartsCardSaid :=
  Claim7.holds_tied_plain_at .later [] _ _ _ _ said (fun _ h => by cases h) (by kernel_rfl) (fun _ h => by cases h) digestParts_row_tie rfl ⟨rfl, rfl⟩ (by kernel_rfl) rfl plain (by kernel_rfl)

end Go.Proofs.YtihigbkanbabeaaDoor.parts
