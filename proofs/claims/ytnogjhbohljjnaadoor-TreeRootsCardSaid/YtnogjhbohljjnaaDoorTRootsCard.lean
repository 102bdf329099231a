/-
  The law TreeRoots: row and card.
-/
import Derived.Test.YtnogjhbohljjnaaDoorTSome
import Derived.Test.YtnogjhbohljjnaaDoorTRow2
import Derived.Test.YtnogjhbohljjnaaDoorTRoots
import Derived.Test.YtnogjhbohljjnaaDoorCards
import Derived.Test.YtnogjhbohljjnaaDoorTie

namespace Go.Proofs.YtnogjhbohljjnaaDoor
open Go Go.RowKit Go.ChangeShapes Go.WideShapes Go.ChangeAt
open Sha

section
variable {H : Type} {enc : TypeId × Value → H} {W : World} {base : Nat} {held : Bool} {n : Nat}
theorem lists_f {v : Value} {y : DataW H × List MemPlace} (g : DataW.trod enc Tryd.prog W base (fun _ => true) held n 25 [v] = some y) :
    ∃ (ps : List (List (BitVec 8))) (A : Option Addr) (cap : Nat), v = .slice A ps.length cap ∧ ps.length ≤ cap ∧ Lv W A ps ∧ ((∀ m ∈ y.1.weights Tryd.prog 25, m ≤ reachBytes) → ∀ i, i < ps.length → (ps.getD i []).length ≤ 140737488351232) := by
  rcases Deep.open_slice Tryd.underlying25 g with ⟨hcs, _⟩ | ⟨ad, l, c', m, k, D, Pl, hcs, _, hl, hm, hmm, hx, hr⟩
  · simp only [List.cons.injEq, and_true] at hcs
    exact ⟨[], none, 0, hcs, Nat.le_refl _, .inl rfl, fun _ i hi => by simp at hi⟩
  · simp only [List.cons.injEq, and_true] at hcs
    simp only [if_true] at hmm
    subst hmm
    have each : ∀ i, i < l → ∃ q : List (BitVec 8) × Value, W.cell? (ad.add i) = some q.2 ∧ SlAt W q.2 q.1 ∧ Nl q.2 ∧ ((∀ m ∈ (D i).weights Tryd.prog 22, m ≤ reachBytes) → q.1.length ≤ 140737488351232) := by
      intro i hi
      obtain ⟨cs', h1, h2⟩ := hr i (by omega)
      rw [cellsS] at h1
      obtain ⟨_, hlen, hcell⟩ := World.cells?_some h1
      match cs', hlen with
      | [u], _ =>
        obtain ⟨d, A, cap, e, sl, nil, wt⟩ := bytes_f h2
        refine ⟨(d, u), ?_, by show SlAt W u d; rw [e]; exact sl, ?_, wt⟩
        · have := hcell 0 (by omega)
          rw [Deep.add_add] at this
          simpa using this
        · intro A' n' c2 he hA
          have he' : u = Value.slice A' n' c2 := he
          rw [e] at he'
          simp only [Value.slice.injEq] at he'
          rw [← he'.2.2]; exact nil (he'.1.trans hA)
    obtain ⟨f, hf⟩ := Deep.choose_lt each
    have hlen : ((List.range l).map fun i => (f i).1).length = l := by simp
    refine ⟨(List.range l).map fun i => (f i).1, some ad, m, by rw [hlen]; exact hcs, by rw [hlen]; exact hl, ?_, fun hw i hi => ?_⟩
    · by_cases h0 : l = 0
      · subst h0; exact .inl rfl
      · obtain ⟨b, off, spot⟩ := ad
        have hspot : spot = none := by simpa [Addr.add] using World.cell?_spot (hf 0 (by omega)).1
        subst hspot
        refine .inr ⟨b, off, rfl, (List.range l).map fun i => (f i).2, by simp, fun j u hu => ?_, fun i hi => ?_⟩
        · have hj : j < l := by have := (List.getElem?_eq_some_iff.1 hu).1; simpa using this
          have h1 := (hf j hj).1
          rw [Addr.add_mid] at h1
          rw [h1]
          simp [hj] at hu
          rw [hu]
        · rw [hlen] at hi
          rw [range_getD _ _ _ _ hi, range_getD _ _ _ _ hi]
          exact ⟨(hf i hi).2.1, (hf i hi).2.2.1⟩
    · rw [hlen] at hi
      rw [range_getD _ _ _ _ hi]
      refine (hf i hi).2.2.2 (fun mm hmm => hw mm ?_)
      rw [hx]
      simp only [DataW.weights, Tryd.underlying25, List.mem_cons, List.mem_append]
      exact .inr (.inl (weights_all _ (D i) (List.mem_map.2 ⟨i, List.mem_range.2 hi, rfl⟩) _ hmm))
end

end Go.Proofs.YtnogjhbohljjnaaDoor

namespace Go.Proofs.YtnogjhbohljjnaaDoor.rts
open Go Go.RowKit Go.ChangeShapes Go.WideShapes Go.ChangeAt
open Sha

/-- What the row's list gives. -/
theorem table {W : World} (h : laidMetH Tryd.prog Rows.treeRootsRow.laid W) : Given W := by
  have e : Rows.treeRootsRow.laid = [("causeway/causewayref01.constants", Lib.tabData .u32 (K.map u)), ("causeway/causewayref01.beginning", Lib.tabData .u32 (st0.list.map u)), ("causeway/digest.cubeRoots", Lib.tabData .u32 (K.map u))] := by kernel_rfl
  rw [e] at h
  exact given_of h
theorem cellsLs : Tryd.prog.cellsOf 25 = 1 := by kernel_rfl
theorem one_take (cs : List Value) (k : Nat) (h : k < cs.length) : (cs.drop k).take 1 = [cs.getD k undef] := by
  rw [List.drop_eq_getElem_cons h]
  simp only [List.take_succ_cons, List.take_zero, List.getD_eq_getElem?_getD, List.getElem?_eq_getElem h, Option.getD_some]
theorem drop_all (cs : List Value) (n k : Nat) (h : cs.length = n + k) : cs.drop n = (List.range k).map (fun j => cs.getD (n + j) undef) := by
  apply List.ext_getElem (by simp; omega)
  intro i h1 h2
  simp [List.getD_eq_getElem?_getD, show n + i < cs.length by simp at h1; omega]
theorem cellsST : Tryd.prog.cellsOf 27 = 66 := by kernel_rfl

set_option maxRecDepth 100000 in
theorem contract (H : Type) (enc : TypeId × Value → H) (W : World) (base : Nat) (args : Array Value) (ds gs : List (DataW H)) (before : List MemPlace)
    (hval : ∀ (j : Nat) t v, Tryd.f3.params[j]? = some t → args[j]? = some v → Value.okWide Tryd.prog W .any base t v)
    (hW : DataW.Whole enc Tryd.prog Tryd.f3.params.toList Rows.treeRootsSpec.vars false W args.toList ds gs before)
    (hsz : (DataW.weightsEach Tryd.prog (Tryd.f3.params.toList ++ (OpenSpec.ofChange Rows.treeRootsSpec).bare.plain.varTypes Tryd.prog) (ds ++ gs)).all (· ≤ reachBytes) = true)
    (hL : laidMetH Tryd.prog Rows.treeRootsRow.laid W) :
    Calls Tryd.prog 3 args W fun e W' => ∃ v, e = .returned v ∧ Rows.treeRootsSpec.post enc Tryd.prog Tryd.f3 false true false false W args v W' := by
  have hW' := hW
  obtain ⟨p, q, hA0, hV, rfl, hfz, hnd⟩ := hW
  have hA : DataW.TrodAll enc Tryd.prog W 0 (fun _ => true) true Tryd.f3.params.toList args.toList ds p := hA0
  rw [Tryd.params3] at hA hval hsz
  obtain ⟨v0, vs0, d0, ds0, p0, q0, hargs, rfl, rfl, h0, r0⟩ := trodAll_cons hA
  obtain ⟨rfl, rfl, rfl⟩ := trodAll_nil r0
  obtain rfl : args = #[v0] := by cases args; simp_all
  obtain ⟨rfl, rfl⟩ := trodVars_none hV
  obtain ⟨ca, rfl, hca⟩ := okWide_struct Tryd.underlying27 (hval 0 27 v0 rfl rfl)
  rw [cellsST] at hca
  have k0 := h0
  have lt0 : ∀ x ∈ p0, x.block < W.heap.size := by obtain ⟨m, hm⟩ := k0; exact DataW.trod_lt m _ _ _ hm
  obtain ⟨fuel, hf⟩ := h0
  obtain ⟨xs, k, hk, hxy, _, hxl, hff⟩ := DataW.trod_struct Tryd.underlying27 hf
  obtain ⟨cs, rfl⟩ : ∃ cs : List Value, ca = cs.toArray := ⟨ca.toList, by simp⟩
  have hcl : cs.length = 66 := by simpa using hca
  change ∀ (i : Nat) (f : Field), _ → DataW.trod enc Tryd.prog W 0 (fun _ => true) true k f.type ((cs.drop f.offset).take (Tryd.prog.cellsOf f.type)) = xs[i]? at hff
  obtain ⟨y0, y1, y2, y3, rfl⟩ : ∃ y0 y1 y2 y3, xs = [y0, y1, y2, y3] := by
    match xs, hxl with
    | [y0, y1, y2, y3], _ => exact ⟨y0, y1, y2, y3, rfl⟩
  have g0 := hff 0 _ rfl
  change DataW.trod enc Tryd.prog W 0 (fun _ => true) true k 22 ((cs.drop 0).take (Tryd.prog.cellsOf 22)) = some y0 at g0
  rw [cellsS, one_take cs 0 (by omega)] at g0
  obtain ⟨d0, A0, c0, e0, sl0, nil0, wt0⟩ := bytes_f g0
  have g1 := hff 1 _ rfl
  change DataW.trod enc Tryd.prog W 0 (fun _ => true) true k 24 ((cs.drop 1).take (Tryd.prog.cellsOf 24)) = some y1 at g1
  rw [cellsDig] at g1
  obtain ⟨l1, hl1, e1⟩ := dig_f g1
  have g2 := hff 2 _ rfl
  change DataW.trod enc Tryd.prog W 0 (fun _ => true) true k 24 ((cs.drop 33).take (Tryd.prog.cellsOf 24)) = some y2 at g2
  rw [cellsDig] at g2
  obtain ⟨l2, hl2, e2⟩ := dig_f g2
  have g3 := hff 3 _ rfl
  change DataW.trod enc Tryd.prog W 0 (fun _ => true) true k 25 ((cs.drop 65).take (Tryd.prog.cellsOf 25)) = some y3 at g3
  rw [cellsLs, one_take cs 65 (by omega)] at g3
  obtain ⟨ps3, A3, c3, e3, hc3, lv3, wt3⟩ := lists_f g3
  replace wt0 := wt0 (fun mm hmm => by
    refine of_decide_eq_true (List.all_eq_true.1 hsz mm (DataW.weights_mem_each (j := 0) (t := 27) rfl rfl _ ?_))
    simp only [Prod.mk.injEq] at hxy
    rw [hxy.1]
    simp only [List.map_cons, List.map_nil, DataW.weights, Tryd.underlying27, DataW.weightsEach, List.mem_append]
    exact .inl hmm)
  replace wt3 := wt3 (fun mm hmm => by
    refine of_decide_eq_true (List.all_eq_true.1 hsz mm (DataW.weights_mem_each (j := 0) (t := 27) rfl rfl _ ?_))
    simp only [Prod.mk.injEq] at hxy
    rw [hxy.1]
    simp only [List.map_cons, List.map_nil, DataW.weights, Tryd.underlying27, DataW.weightsEach, List.mem_append]
    exact .inr (.inr (.inr (.inl hmm))))
  clear hA0 hff
  have hcs : cs = words (.slice A0 d0.length c0) l1 l2 (.slice A3 ps3.length c3) := by
    unfold words
    rw [← e0, ← e3, ← e1, ← e2]
    have d0 : cs = [cs.getD 0 undef] ++ cs.drop 1 := by rw [← one_take cs 0 (by omega), List.drop_zero, List.take_append_drop]
    have d1 : cs.drop 1 = (cs.drop 1).take 32 ++ cs.drop 33 := by rw [← List.drop_drop (i := 32) (j := 1), List.take_append_drop]
    have d2 : cs.drop 33 = (cs.drop 33).take 32 ++ cs.drop 65 := by rw [← List.drop_drop (i := 32) (j := 33), List.take_append_drop]
    have d3 : cs.drop 65 = [cs.getD 65 undef] := by rw [drop_all cs 65 1 (by omega)]; rfl
    rw [← d3, ← d2, ← d1]; exact d0
  refine (roots_walk d0 l1 l2 ps3 hl1 hl2 wt0 wt3 A0 A3 c0 c3 nil0 hc3 cs hcs W (table hL) sl0 lv3).mono fun e W' ⟨he, bel⟩ => ?_
  subst he
  exact ⟨_, rfl, _, _, _, [], _, [], hW', trodAll_mk1 (shut_bool Tryd.underlying4 _), (trodAll_cons_mk (Below.trod laidOut (by kernel_rfl) (of_decide_eq_true (by kernel_rfl)) k0 bel lt0) trodAll_mk0), rfl, bel.frame _, fun h => by cases h⟩

/-- An input that fits. -/
def witCells : Array Value := ([Value.slice none 0 0] ++ List.replicate 32 (Value.int .u8 0) ++ List.replicate 32 (Value.int .u8 0) ++ [Value.slice none 0 0]).toArray
def witData {H : Type} : DataW H := .agg [.nil, .agg (List.replicate 32 (.lit (.int .u8 0))), .agg (List.replicate 32 (.lit (.int .u8 0))), .nil]

theorem laid_met (os : Os) : laidMet Tryd.prog Rows.treeRootsRow.laid (({ World.holding Tryd.prog os ⟨#[], #[], []⟩ with heap := ((((World.holding Tryd.prog os ⟨#[], #[], []⟩).heap.modify 4 fun | .cells _ t frozen => .cells (vW K).toArray t frozen | o => o).modify 0 fun | .cells _ t frozen => .cells (vW st0.list).toArray t frozen | o => o).modify 3 fun | .cells _ t frozen => .cells (vW K).toArray t frozen | o => o) } : World).forCall (fun _ _ => 0) ⟨#[], #[.agg witCells], []⟩).memory :=
  laidMet_of_run' 8 (by kernel_rfl) (by kernel_rfl)
theorem reads (os : Os) {H : Type} (enc : TypeId × Value → H) : ∃ places, DataW.whole enc Tryd.prog (({ World.holding Tryd.prog os ⟨#[], #[], []⟩ with heap := ((((World.holding Tryd.prog os ⟨#[], #[], []⟩).heap.modify 4 fun | .cells _ t frozen => .cells (vW K).toArray t frozen | o => o).modify 0 fun | .cells _ t frozen => .cells (vW st0.list).toArray t frozen | o => o).modify 3 fun | .cells _ t frozen => .cells (vW K).toArray t frozen | o => o) } : World).forCall (fun _ _ => 0) ⟨#[], #[.agg witCells], []⟩).memory Tryd.f3.params.toList Rows.treeRootsSpec.vars false (#[.agg witCells] : Array Value).toList 8 = some ([witData], [], places) :=
  ⟨[], by kernel_rfl⟩

set_option maxRecDepth 100000 in
theorem lifted (os : Os) (started : os.Started) (H : Type) (enc : TypeId × Value → H) (F : Stop.Interp) :
    ReturnsInHanded {} Tryd.checked os 3 .any ((OpenSpec.ofChange Rows.treeRootsSpec).preRow enc Tryd.prog Tryd.f3 Rows.treeRootsRow.domain false Rows.treeRootsRow.laid) (((OpenSpec.ofChange Rows.treeRootsSpec).at F).post enc Tryd.prog Tryd.f3 false true false false) := by
  obtain ⟨places, hx⟩ := reads os enc
  refine returnsInHanded_of_row (C := Tryd.checked) (s := OpenSpec.ofChange Rows.treeRootsSpec) own started (by kernel_rfl) Tryd.func3
    (witness_row_at (enc := enc) (C := Tryd.checked) false ({ World.holding Tryd.prog os ⟨#[], #[], []⟩ with heap := ((((World.holding Tryd.prog os ⟨#[], #[], []⟩).heap.modify 4 fun | .cells _ t frozen => .cells (vW K).toArray t frozen | o => o).modify 0 fun | .cells _ t frozen => .cells (vW st0.list).toArray t frozen | o => o).modify 3 fun | .cells _ t frozen => .cells (vW K).toArray t frozen | o => o) } : World) #[.agg witCells] rfl (by kernel_rfl) (by kernel_rfl) (by kernel_rfl)
      (OpenSpec.preRow_of_cond 8 hx (by kernel_rfl) (fun k hk => by cases hk) (by kernel_rfl) (laid_met os))) ?_
  intro W base args ds gs before hval hW _ hc hsz hL _ _
  exact contract H enc W base args ds gs before hval hW hsz hL

theorem said : Rows.TreeRootsSaid :=
  OpenClaim.holds_of_cond 3 Tryd.f3 rfl rfl rfl rfl rfl rfl rfl ⟨rfl, rfl, rfl, rfl, rfl⟩ rfl rfl rfl rfl rfl (by kernel_rfl) Tryd.func3 (by kernel_rfl)
    (of_decide_eq_true (by kernel_rfl)) (by unfold Func.isWrapper; first | (rw [if_pos (by decide +kernel)]; kernel_rfl) | (rw [if_neg (by decide +kernel)]; exact ⟨rfl, rfl⟩))
    (fun os started H enc _ F => by rw [OpenClaim.pre_eq_preRow]; exact lifted os started H enc F)

theorem plain (f : FuncId) (fn : Func) (hf : Tryd.pinned.checked.prog.funcNamed "causeway/causewaylaw04.TreeRoots" = some f) (hfn : Tryd.pinned.checked.prog.funcs[f]? = some fn) :
    false = Tryd.pinned.checked.prog.looks [] ∧ ∀ (j : Nat) t, fn.params[j]? = some t → Tryd.pinned.checked.prog.wantsStandIn t = false := by
  obtain rfl : f = 3 := Option.some.inj ((show Tryd.prog.funcNamed "causeway/causewaylaw04.TreeRoots" = some 3 by kernel_rfl).symm.trans hf) |>.symm
  obtain rfl : fn = Tryd.f3 := (Option.some.inj (Tryd.func3.symm.trans hfn)).symm
  refine ⟨by kernel_rfl, fun j t ht => ?_⟩
  rw [Tryd.params3] at ht
  have ht' : t = 27 := by have := Array.mem_of_getElem? ht; simp at this; first | omega | exact this | exact this.symm | (rcases this with h | h | h <;> simp [h])
  rcases ht' with rfl
  exact (show Tryd.prog.wantsStandIn 27 = false by kernel_rfl)

/-- THE CARD. -/
theorem card : Rows.TreeRootsCardSaid :=
  Claim7.holds_tied_plain_at .later [] _ _ _ _ said (fun _ h => by cases h) (by kernel_rfl) (fun _ h => by cases h) treeRoots_row_tie rfl ⟨rfl, rfl⟩ (by kernel_rfl) rfl plain (by kernel_rfl)

end Go.Proofs.YtnogjhbohljjnaaDoor.rts
