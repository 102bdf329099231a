/-
  The law TreeOnePast: row and card.
-/
import Derived.Test.YtnogjhbohljjnabDoorTPast0
import Derived.Test.YtnogjhbohljjnabDoorTRow2
import Derived.Test.YtnogjhbohljjnabDoorTPast
import Derived.Test.YtnogjhbohljjnabDoorCards
import Derived.Test.YtnogjhbohljjnabDoorTie

namespace Go.Proofs.YtnogjhbohljjnabDoor
open Go Go.RowKit Go.ChangeShapes Go.WideShapes Go.ChangeAt
open Sha
theorem cellsPast : Tryd.prog.cellsOf 53 = 67 := by kernel_rfl
theorem one_takeP (cs : List Value) (k : Nat) (h : k < cs.length) : (cs.drop k).take 1 = [cs.getD k undef] := by
  rw [List.drop_eq_getElem_cons h]
  simp only [List.take_succ_cons, List.take_zero, List.getD_eq_getElem?_getD, List.getElem?_eq_getElem h, Option.getD_some]
section
variable {H : Type} {enc : TypeId × Value → H} {W : World} {base : Nat} {held : Bool} {n : Nat}
theorem past_f {cs : List Value} {y : DataW H × List MemPlace} (g : DataW.trod enc Tryd.prog W base (fun _ => true) held n 53 cs = some y) :
    ∃ (was root : List (BitVec 8)) (m q : Int) (ds : List (List (BitVec 8))) (A : Option Addr) (cap : Nat), Dl was ∧ Dl root ∧ cs = past was root m q (.slice A ds.length cap) ∧ PAt W (.slice A ds.length cap) ds := by
  obtain ⟨xs, k, hk, hxy, hcl, hxl, hff⟩ := DataW.trod_struct Tryd.underlying53 g
  rw [cellsPast] at hcl
  obtain ⟨y0, y1, y2, y3, y4, rfl⟩ : ∃ y0 y1 y2 y3 y4, xs = [y0, y1, y2, y3, y4] := by
    match xs, hxl with
    | [y0, y1, y2, y3, y4], _ => exact ⟨y0, y1, y2, y3, y4, rfl⟩
  have g0 := hff 0 _ rfl
  change DataW.trod enc Tryd.prog W base (fun _ => true) held k 28 ((cs.drop 0).take (Tryd.prog.cellsOf 28)) = some y0 at g0
  rw [cellsDig] at g0
  obtain ⟨l0, hl0, e0⟩ := dig_f g0
  have g1 := hff 1 _ rfl
  change DataW.trod enc Tryd.prog W base (fun _ => true) held k 3 ((cs.drop 32).take (Tryd.prog.cellsOf 3)) = some y1 at g1
  rw [cellsI, one_takeP cs 32 (by omega)] at g1
  obtain ⟨z1, e1, _, _⟩ := int_f g1
  have g2 := hff 2 _ rfl
  change DataW.trod enc Tryd.prog W base (fun _ => true) held k 28 ((cs.drop 33).take (Tryd.prog.cellsOf 28)) = some y2 at g2
  rw [cellsDig] at g2
  obtain ⟨l2, hl2, e2⟩ := dig_f g2
  have g3 := hff 3 _ rfl
  change DataW.trod enc Tryd.prog W base (fun _ => true) held k 3 ((cs.drop 65).take (Tryd.prog.cellsOf 3)) = some y3 at g3
  rw [cellsI, one_takeP cs 65 (by omega)] at g3
  obtain ⟨z3, e3, _, _⟩ := int_f g3
  have g4 := hff 4 _ rfl
  change DataW.trod enc Tryd.prog W base (fun _ => true) held k 30 ((cs.drop 66).take (Tryd.prog.cellsOf 30)) = some y4 at g4
  rw [cellsDs, one_takeP cs 66 (by omega)] at g4
  obtain ⟨ds4, A4, c4, e4, pa4, _, _⟩ := digs_f g4
  refine ⟨l0, l2, z1, z3, ds4, A4, c4, hl0, hl2, ?_, pa4⟩
  unfold past
  rw [← e1, ← e3, ← e4, ← e2, ← (show cs.take 32 = vB l0 from e0)]
  have d1 : cs.drop 32 = [cs.getD 32 undef] ++ cs.drop 33 := by rw [← one_takeP cs 32 (by omega), ← List.drop_drop (i := 1) (j := 32), List.take_append_drop]
  have d2 : cs.drop 33 = (cs.drop 33).take 32 ++ cs.drop 65 := by rw [← List.drop_drop (i := 32) (j := 33), List.take_append_drop]
  have d3 : cs.drop 65 = [cs.getD 65 undef, cs.getD 66 undef] := by
    rw [List.drop_eq_getElem_cons (show 65 < cs.length by omega), List.drop_eq_getElem_cons (show 66 < cs.length by omega), List.drop_eq_nil_of_le (by omega)]
    simp [List.getD_eq_getElem?_getD, show 65 < cs.length by omega, show 66 < cs.length by omega]
  rw [← d3, ← d2, ← d1, List.take_append_drop]
end
end Go.Proofs.YtnogjhbohljjnabDoor

namespace Go.Proofs.YtnogjhbohljjnabDoor.pst
open Go Go.RowKit Go.ChangeShapes Go.WideShapes Go.ChangeAt
open Sha

/-- What the row's list gives. -/
theorem table {W : World} (h : laidMetH Tryd.prog Rows.treeOnePastRow.laid W) : Given W := by
  have e : Rows.treeOnePastRow.laid = [("causeway/causewayref01.constants", Lib.tabData .u32 (K.map u)), ("causeway/causewayref01.beginning", Lib.tabData .u32 (st0.list.map u)), ("causeway/digest.cubeRoots", Lib.tabData .u32 (K.map u))] := by kernel_rfl
  rw [e] at h
  exact given_of h
theorem one_take (cs : List Value) (k : Nat) (h : k < cs.length) : (cs.drop k).take 1 = [cs.getD k undef] := by
  rw [List.drop_eq_getElem_cons h]
  simp only [List.take_succ_cons, List.take_zero, List.getD_eq_getElem?_getD, List.getElem?_eq_getElem h, Option.getD_some]
theorem drop_all (cs : List Value) (n k : Nat) (h : cs.length = n + k) : cs.drop n = (List.range k).map (fun j => cs.getD (n + j) undef) := by
  apply List.ext_getElem (by simp; omega)
  intro i h1 h2
  simp [List.getD_eq_getElem?_getD, show n + i < cs.length by simp at h1; omega]
theorem cellsST : Tryd.prog.cellsOf 55 = 72 := by kernel_rfl

set_option maxRecDepth 100000 in
theorem contract (H : Type) (enc : TypeId × Value → H) (W : World) (base : Nat) (args : Array Value) (ds gs : List (DataW H)) (before : List MemPlace)
    (hval : ∀ (j : Nat) t v, Tryd.f5.params[j]? = some t → args[j]? = some v → Value.okWide Tryd.prog W .any base t v)
    (hW : DataW.Whole enc Tryd.prog Tryd.f5.params.toList Rows.treeOnePastSpec.vars false W args.toList ds gs before)
    (hsz : (DataW.weightsEach Tryd.prog (Tryd.f5.params.toList ++ (OpenSpec.ofChange Rows.treeOnePastSpec).bare.plain.varTypes Tryd.prog) (ds ++ gs)).all (· ≤ reachBytes) = true)
    (hL : laidMetH Tryd.prog Rows.treeOnePastRow.laid W) :
    Calls Tryd.prog 5 args W fun e W' => ∃ v, e = .returned v ∧ Rows.treeOnePastSpec.post enc Tryd.prog Tryd.f5 false true false false W args v W' := by
  have hW' := hW
  obtain ⟨p, q, hA0, hV, rfl, hfz, hnd⟩ := hW
  have hA : DataW.TrodAll enc Tryd.prog W 0 (fun _ => true) true Tryd.f5.params.toList args.toList ds p := hA0
  rw [Tryd.params5] at hA hval hsz
  obtain ⟨v0, vs0, d0, ds0, p0, q0, hargs, rfl, rfl, h0, r0⟩ := trodAll_cons hA
  obtain ⟨rfl, rfl, rfl⟩ := trodAll_nil r0
  obtain rfl : args = #[v0] := by cases args; simp_all
  obtain ⟨rfl, rfl⟩ := trodVars_none hV
  obtain ⟨ca, rfl, hca⟩ := okWide_struct Tryd.underlying55 (hval 0 55 v0 rfl rfl)
  rw [cellsST] at hca
  have k0 := h0
  have lt0 : ∀ x ∈ p0, x.block < W.heap.size := by obtain ⟨m, hm⟩ := k0; exact DataW.trod_lt m _ _ _ hm
  obtain ⟨fuel, hf⟩ := h0
  obtain ⟨xs, k, hk, hxy, _, hxl, hff⟩ := DataW.trod_struct Tryd.underlying55 hf
  obtain ⟨cs, rfl⟩ : ∃ cs : List Value, ca = cs.toArray := ⟨ca.toList, by simp⟩
  have hcl : cs.length = 72 := by simpa using hca
  change ∀ (i : Nat) (f : Field), _ → DataW.trod enc Tryd.prog W 0 (fun _ => true) true k f.type ((cs.drop f.offset).take (Tryd.prog.cellsOf f.type)) = xs[i]? at hff
  obtain ⟨y0, y1, y2, y3, y4, y5, rfl⟩ : ∃ y0 y1 y2 y3 y4 y5, xs = [y0, y1, y2, y3, y4, y5] := by
    match xs, hxl with
    | [y0, y1, y2, y3, y4, y5], _ => exact ⟨y0, y1, y2, y3, y4, y5, rfl⟩
  have g0 := hff 0 _ rfl
  change DataW.trod enc Tryd.prog W 0 (fun _ => true) true k 53 ((cs.drop 0).take (Tryd.prog.cellsOf 53)) = some y0 at g0
  rw [cellsPast] at g0
  obtain ⟨was0, root0, m0, n0, ds0, A0, c0, hw0, hr0, e0, pa0⟩ := past_f g0
  have g1 := hff 1 _ rfl
  change DataW.trod enc Tryd.prog W 0 (fun _ => true) true k 3 ((cs.drop 67).take (Tryd.prog.cellsOf 3)) = some y1 at g1
  rw [cellsI, one_take cs 67 (by omega)] at g1
  obtain ⟨z1, e1, bl1, bh1⟩ := int_f g1
  have g2 := hff 2 _ rfl
  change DataW.trod enc Tryd.prog W 0 (fun _ => true) true k 38 ((cs.drop 68).take (Tryd.prog.cellsOf 38)) = some y2 at g2
  rw [cellsS, one_take cs 68 (by omega)] at g2
  obtain ⟨d2, A2, c2, e2, sl2, nil2, wt2⟩ := bytes_f g2
  have g3 := hff 3 _ rfl
  change DataW.trod enc Tryd.prog W 0 (fun _ => true) true k 30 ((cs.drop 69).take (Tryd.prog.cellsOf 30)) = some y3 at g3
  rw [cellsDs, one_take cs 69 (by omega)] at g3
  obtain ⟨ds3, A3, c3, e3, pa3, nil3, wt3⟩ := digs_f g3
  have g4 := hff 4 _ rfl
  change DataW.trod enc Tryd.prog W 0 (fun _ => true) true k 38 ((cs.drop 70).take (Tryd.prog.cellsOf 38)) = some y4 at g4
  rw [cellsS, one_take cs 70 (by omega)] at g4
  obtain ⟨d4, A4, c4, e4, sl4, nil4, wt4⟩ := bytes_f g4
  have g5 := hff 5 _ rfl
  change DataW.trod enc Tryd.prog W 0 (fun _ => true) true k 30 ((cs.drop 71).take (Tryd.prog.cellsOf 30)) = some y5 at g5
  rw [cellsDs, one_take cs 71 (by omega)] at g5
  obtain ⟨ds5, A5, c5, e5, pa5, nil5, wt5⟩ := digs_f g5
  replace wt2 := wt2 (fun mm hmm => by
    refine of_decide_eq_true (List.all_eq_true.1 hsz mm (DataW.weights_mem_each (j := 0) (t := 55) rfl rfl _ ?_))
    simp only [Prod.mk.injEq] at hxy
    rw [hxy.1]
    simp only [List.map_cons, List.map_nil, DataW.weights, Tryd.underlying55, DataW.weightsEach, List.mem_append]
    exact .inr (.inr (.inl hmm)))
  replace wt3 := wt3 (fun mm hmm => by
    refine of_decide_eq_true (List.all_eq_true.1 hsz mm (DataW.weights_mem_each (j := 0) (t := 55) rfl rfl _ ?_))
    simp only [Prod.mk.injEq] at hxy
    rw [hxy.1]
    simp only [List.map_cons, List.map_nil, DataW.weights, Tryd.underlying55, DataW.weightsEach, List.mem_append]
    exact .inr (.inr (.inr (.inl hmm))))
  replace wt4 := wt4 (fun mm hmm => by
    refine of_decide_eq_true (List.all_eq_true.1 hsz mm (DataW.weights_mem_each (j := 0) (t := 55) rfl rfl _ ?_))
    simp only [Prod.mk.injEq] at hxy
    rw [hxy.1]
    simp only [List.map_cons, List.map_nil, DataW.weights, Tryd.underlying55, DataW.weightsEach, List.mem_append]
    exact .inr (.inr (.inr (.inr (.inl hmm)))))
  replace wt5 := wt5 (fun mm hmm => by
    refine of_decide_eq_true (List.all_eq_true.1 hsz mm (DataW.weights_mem_each (j := 0) (t := 55) rfl rfl _ ?_))
    simp only [Prod.mk.injEq] at hxy
    rw [hxy.1]
    simp only [List.map_cons, List.map_nil, DataW.weights, Tryd.underlying55, DataW.weightsEach, List.mem_append]
    exact .inr (.inr (.inr (.inr (.inr (.inl hmm))))))
  clear hA0 hff
  have hcs : cs = rewr (past was0 root0 m0 n0 (.slice A0 ds0.length c0)) z1 (.slice A2 d2.length c2) (.slice A3 ds3.length c3) (.slice A4 d4.length c4) (.slice A5 ds5.length c5) := by
    unfold rewr
    rw [← e1, ← e2, ← e3, ← e4, ← e5, ← (show cs.take 67 = _ from e0)]
    exact (List.take_append_drop 67 cs).symm.trans (by rw [drop_all cs 67 5 hcl]; rfl)
  refine (onePast_walk was0 root0 d2 d4 ds0 ds3 ds5 hw0 hr0 m0 n0 z1 wt2 wt4 A2 A4 A0 A3 A5 c2 c4 c0 c3 c5 nil2 nil4 _ cs rfl hcs W (table hL) sl2 sl4 pa0 pa3 pa5).mono fun e W' ⟨he, bel⟩ => ?_
  subst he
  exact ⟨_, rfl, _, _, _, [], _, [], hW', trodAll_mk1 (shut_bool Tryd.underlying4 _), (trodAll_cons_mk (Below.trod laidOut (by kernel_rfl) (of_decide_eq_true (by kernel_rfl)) k0 bel lt0) trodAll_mk0), rfl, bel.frame _, fun h => by cases h⟩

/-- An input that fits. -/
def witCells : Array Value := (List.replicate 32 (Value.int .u8 0) ++ [Value.int .i64 0] ++ List.replicate 32 (Value.int .u8 0) ++ [Value.int .i64 0] ++ [Value.slice none 0 0] ++ [Value.int .i64 0] ++ [Value.slice none 0 0] ++ [Value.slice none 0 0] ++ [Value.slice none 0 0] ++ [Value.slice none 0 0]).toArray
def witData {H : Type} : DataW H := .agg [.agg [.agg (List.replicate 32 (.lit (.int .u8 0))), .lit (.int .i64 0), .agg (List.replicate 32 (.lit (.int .u8 0))), .lit (.int .i64 0), .nil], .lit (.int .i64 0), .nil, .nil, .nil, .nil]

theorem laid_met (os : Os) : laidMet Tryd.prog Rows.treeOnePastRow.laid (({ World.holding Tryd.prog os ⟨#[], #[], []⟩ with heap := ((((World.holding Tryd.prog os ⟨#[], #[], []⟩).heap.modify 4 fun | .cells _ t frozen => .cells (vW K).toArray t frozen | o => o).modify 2 fun | .cells _ t frozen => .cells (vW st0.list).toArray t frozen | o => o).modify 3 fun | .cells _ t frozen => .cells (vW K).toArray t frozen | o => o) } : World).forCall (fun _ _ => 0) ⟨#[], #[.agg witCells], []⟩).memory :=
  laidMet_of_run' 8 (by kernel_rfl) (by kernel_rfl)
theorem reads (os : Os) {H : Type} (enc : TypeId × Value → H) : ∃ places, DataW.whole enc Tryd.prog (({ World.holding Tryd.prog os ⟨#[], #[], []⟩ with heap := ((((World.holding Tryd.prog os ⟨#[], #[], []⟩).heap.modify 4 fun | .cells _ t frozen => .cells (vW K).toArray t frozen | o => o).modify 2 fun | .cells _ t frozen => .cells (vW st0.list).toArray t frozen | o => o).modify 3 fun | .cells _ t frozen => .cells (vW K).toArray t frozen | o => o) } : World).forCall (fun _ _ => 0) ⟨#[], #[.agg witCells], []⟩).memory Tryd.f5.params.toList Rows.treeOnePastSpec.vars false (#[.agg witCells] : Array Value).toList 8 = some ([witData], [], places) :=
  ⟨[], by kernel_rfl⟩

set_option maxRecDepth 100000 in
theorem lifted (os : Os) (started : os.Started) (H : Type) (enc : TypeId × Value → H) (F : Stop.Interp) :
    ReturnsInHanded {} Tryd.checked os 5 .any ((OpenSpec.ofChange Rows.treeOnePastSpec).preRow enc Tryd.prog Tryd.f5 Rows.treeOnePastRow.domain false Rows.treeOnePastRow.laid) (((OpenSpec.ofChange Rows.treeOnePastSpec).at F).post enc Tryd.prog Tryd.f5 false true false false) := by
  obtain ⟨places, hx⟩ := reads os enc
  refine returnsInHanded_of_row (C := Tryd.checked) (s := OpenSpec.ofChange Rows.treeOnePastSpec) own started (by kernel_rfl) Tryd.func5
    (witness_row_at (enc := enc) (C := Tryd.checked) false ({ World.holding Tryd.prog os ⟨#[], #[], []⟩ with heap := ((((World.holding Tryd.prog os ⟨#[], #[], []⟩).heap.modify 4 fun | .cells _ t frozen => .cells (vW K).toArray t frozen | o => o).modify 2 fun | .cells _ t frozen => .cells (vW st0.list).toArray t frozen | o => o).modify 3 fun | .cells _ t frozen => .cells (vW K).toArray t frozen | o => o) } : World) #[.agg witCells] rfl (by kernel_rfl) (by kernel_rfl) (by kernel_rfl)
      (OpenSpec.preRow_of_cond 8 hx (by kernel_rfl) (fun k hk => by cases hk) (by kernel_rfl) (laid_met os))) ?_
  intro W base args ds gs before hval hW _ hc hsz hL _ _
  exact contract H enc W base args ds gs before hval hW hsz hL

theorem said : Rows.TreeOnePastSaid :=
  OpenClaim.holds_of_cond 5 Tryd.f5 rfl rfl rfl rfl rfl rfl rfl ⟨rfl, rfl, rfl, rfl, rfl⟩ rfl rfl rfl rfl rfl (by kernel_rfl) Tryd.func5 (by kernel_rfl)
    (of_decide_eq_true (by kernel_rfl)) (by unfold Func.isWrapper; first | (rw [if_pos (by decide +kernel)]; kernel_rfl) | (rw [if_neg (by decide +kernel)]; exact ⟨rfl, rfl⟩))
    (fun os started H enc _ F => by rw [OpenClaim.pre_eq_preRow]; exact lifted os started H enc F)

theorem plain (f : FuncId) (fn : Func) (hf : Tryd.pinned.checked.prog.funcNamed "causeway/causewaylaw04.TreeOnePast" = some f) (hfn : Tryd.pinned.checked.prog.funcs[f]? = some fn) :
    false = Tryd.pinned.checked.prog.looks [] ∧ ∀ (j : Nat) t, fn.params[j]? = some t → Tryd.pinned.checked.prog.wantsStandIn t = false := by
  obtain rfl : f = 5 := Option.some.inj ((show Tryd.prog.funcNamed "causeway/causewaylaw04.TreeOnePast" = some 5 by kernel_rfl).symm.trans hf) |>.symm
  obtain rfl : fn = Tryd.f5 := (Option.some.inj (Tryd.func5.symm.trans hfn)).symm
  refine ⟨by kernel_rfl, fun j t ht => ?_⟩
  rw [Tryd.params5] at ht
  have ht' : t = 55 := by have := Array.mem_of_getElem? ht; simp at this; first | omega | exact this | exact this.symm | (rcases this with h | h | h <;> simp [h])
  rcases ht' with rfl
  exact (show Tryd.prog.wantsStandIn 55 = false by kernel_rfl)

/-- THE CARD. -/
theorem card : Rows.TreeOnePastCardSaid :=
  Claim7.holds_tied_plain_at .later [] _ _ _ _ said (fun _ h => by cases h) (by kernel_rfl) (fun _ h => by cases h) treeOnePast_row_tie rfl ⟨rfl, rfl⟩ (by kernel_rfl) rfl plain (by kernel_rfl)

end Go.Proofs.YtnogjhbohljjnabDoor.pst
